/-
  What is known of two sums.
-/
import Derived.Test.YtkfkjdpkkagjgaaGreatKnA
import Derived.Test.YtkfkjdpkkagjgaaGreatGsJ
import Derived.Deep.Cut
namespace Go.Proofs.YtkfkjdpkkagjgaaGreat
set_option maxRecDepth 20000
open Go.RowKit
open Operand (tmp)
theorem zK {α : Type} : (∀ (l : List α) (i : Nat) (a : α), l.toArray.setIfInBounds i a = (l.set i a).toArray) ∧ (∀ (a b : α) (l : List α), (a :: l).set 0 b = b :: l) ∧ ∀ (a b : α) (l : List α) (n : Nat), (a :: l).set (n + 1) b = a :: l.set n b := ⟨zA, zB, zC⟩
theorem two_sz : Sz ((2 : Int) : Rat) 1 := ⟨show (2 : Nat) < 4294967296 ^ 1 by omega, show (1 : Nat) < 4294967296 ^ 1 by omega⟩
theorem room2 : Room 1 2 := by unfold Room; omega
set_option maxHeartbeats 25600000 in
theorem known10_c (w : World) : Calls Tryz.prog 20 #[] w fun e w' => e = .returned (.bool true) ∧ Below w.heap.size w w' := by
 go_enter Tryz.func20, Tryz.ntmps20
 go_wp2_with fail
 refine (rInt_c 1 _ (by omega)).mono ?_
 rintro e w1 ⟨z1, rfl, hz1, hb1⟩
 go_upto_region 2 with fail
 have HK1 : Hid (C3 (w1.alloc (.cells #[.bool z1.s, .slice z1.A z1.n z1.c, .slice z1.B z1.m z1.d] 26)) w1.heap.size (.bool z1.s) (.slice z1.A z1.n z1.c) (.slice z1.B z1.m z1.d) ∧ Below w.heap.size w (w1.alloc (.cells #[.bool z1.s, .slice z1.A z1.n z1.c, .slice z1.B z1.m z1.d] 26)) ∧ Rt (w1.alloc (.cells #[.bool z1.s, .slice z1.A z1.n z1.c, .slice z1.B z1.m z1.d] 26)) 0 z1 ((1 : Int) : Rat)) := ⟨C3.new w1 (.bool z1.s) (.slice z1.A z1.n z1.c) (.slice z1.B z1.m z1.d), hb1.alloc hb1.size _, (hz1.below ((Below.refl _ _).alloc (Nat.le_refl _) _)).lower (Nat.zero_le _)⟩
 clear hz1 hb1
 generalize w1.alloc (.cells #[.bool z1.s, .slice z1.A z1.n z1.c, .slice z1.B z1.m z1.d] 26) = W at *
 obtain ⟨X1, hX1⟩ : ∃ X1, X1 = w1.heap.size := ⟨_, rfl⟩
 rw [← hX1] at HK1
 rw [← hX1]
 clear hX1
 have HAL : Hid (∀ w', Below W.heap.size W w' → (w'.cell? ⟨X1, 0, none⟩ = some (.bool z1.s) ∧ w'.cell? ⟨X1, 1, none⟩ = some (.slice z1.A z1.n z1.c) ∧ w'.cell? ⟨X1, 2, none⟩ = some (.slice z1.B z1.m z1.d) ∧ w'.frozen? ⟨X1, 0, none⟩ = false ∧ w'.frozen? ⟨X1, 1, none⟩ = false ∧ w'.frozen? ⟨X1, 2, none⟩ = false)) := fun w' h => (HK1.out.1.below h).facts
 have HXL : Hid (X1 < W.heap.size) := HK1.out.1.lt
 have HZ1 := Lib.hid HK1.out.2.2
 obtain ⟨x0, x1, x2, _, _, _⟩ := HAL.out _ (Below.refl _ _)
 go_cut [2] from 7 (fun xv wx => ∃ (Y G : Nat) (za : Rv), xv = .pointer (some ⟨Y, 0, none⟩) ∧ Hid (KinAt W wx Y G z1 z1 za ((1 : Int) : Rat) ((1 : Int) : Rat) ((-3 : Int) : Rat)))
 case first =>
  refine wp_region_held_drew (S := fun w' => w'.cell? ⟨X1, 0, none⟩ = some (.bool z1.s) ∧ w'.cell? ⟨X1, 1, none⟩ = some (.slice z1.A z1.n z1.c) ∧ w'.cell? ⟨X1, 2, none⟩ = some (.slice z1.B z1.m z1.d)) (by kernel_rfl) ?_ (fun hHeld => ?_)
  ·
   (try dsimp only)
   go_keep
  refine wpAnyH_take (i := 0) (oi := { dst := some 7, op := Op.load 26 (tmp 1), type := 26, pos := "law.go:42", after := #[], guard := none }) (v := ?vq1x) rfl (by kernel_rfl) (by kernel_rfl) (by kernel_rfl) (fun _ _ _ => id) (Or.inl ⟨by rfl, ?hyq1x⟩) (by assumption) ?restq1x
  case hyq1x => intro w hSw; (try dsimp only at hSw); go_simp; all_goals (with_reducible rfl)
  try simp only [Act.put, zK]
  refine wpAnyH_take (i := 1) (oi := { dst := some 8, op := Op.build 50 #[(0, Operand.const (Value.int IntKind.i64 0)), (1, tmp 7)], type := 50, pos := "law.go:42", after := #[eD 0], guard := none }) (v := ?vq2x) rfl (by kernel_rfl) (by kernel_rfl) (by kernel_rfl) (fun _ _ _ => id) (Or.inl ⟨by rfl, ?hyq2x⟩) (by assumption) ?restq2x
  case hyq2x => intro w hSw; (try dsimp only at hSw); go_simp; all_goals (with_reducible rfl)
  try simp only [Act.put, zK]
  refine wpAnyH_take (i := 2) (oi := { dst := some 9, op := Op.load 26 (tmp 1), type := 26, pos := "law.go:42", after := #[], guard := none }) (v := ?vq3x) rfl (by kernel_rfl) (by kernel_rfl) (by kernel_rfl) (fun _ _ _ => id) (Or.inl ⟨by rfl, ?hyq3x⟩) (by assumption) ?restq3x
  case hyq3x => intro w hSw; (try dsimp only at hSw); go_simp; all_goals (with_reducible rfl)
  try simp only [Act.put, zK]
  refine wpAnyH_take (i := 3) (oi := { dst := some 10, op := Op.build 50 #[(0, Operand.const (Value.int IntKind.i64 1)), (1, tmp 9)], type := 50, pos := "law.go:42", after := #[eD 2], guard := none }) (v := ?vq4x) rfl (by kernel_rfl) (by kernel_rfl) (by kernel_rfl) (fun _ _ _ => id) (Or.inl ⟨by rfl, ?hyq4x⟩) (by assumption) ?restq4x
  case hyq4x => intro w hSw; (try dsimp only at hSw); go_simp; all_goals (with_reducible rfl)
  try simp only [Act.put, zK]
  refine wpAnyH_ready (rs := [4, 5, 7]) (by kernel_rfl) (by simp) ?_
  refine AllReadyH.cons (o := { dst := some 11, op := Op.buildSlice 23 2 #[(0, tmp 8), (1, tmp 10)], type := 23, pos := "law.go:42", after := #[eD 1, eD 3], guard := none }) rfl (fun K hK => ?_) (AllReadyH.cons (o := { dst := some 12, op := Op.call { callee := Callee.value (Operand.func 26), args := #[Operand.const (Value.int IntKind.i64 (-3))], argTypes := #[3] }, type := 26, pos := "law.go:42", after := #[], guard := none }) rfl (fun K hK => ?_) (AllReadyH.cons (o := { dst := some 2, op := Op.alloc 28, type := 0, pos := "law.go:42", after := #[], guard := none }) rfl (fun K hK => ?_) AllReadyH.nil))
  ·
   skip
   try go_simp
   try go_wp2_with fail
   refine hK.out _ _ ?_ fun hHeld => ?_
   · (try dsimp only); go_keep
   clear hK K
   try simp only [Act.put, zK]
   have B4 : Hid (Below W.heap.size W (W.alloc (.cells #[.int .i64 0, .bool z1.s, .slice z1.A z1.n z1.c, .slice z1.B z1.m z1.d, .int .i64 1, .bool z1.s, .slice z1.A z1.n z1.c, .slice z1.B z1.m z1.d] 50)).drew) := ((Below.refl _ _).alloc (Nat.le_refl _) _).drew
   have G4 : Hid ((W.alloc (.cells #[.int .i64 0, .bool z1.s, .slice z1.A z1.n z1.c, .slice z1.B z1.m z1.d, .int .i64 1, .bool z1.s, .slice z1.A z1.n z1.c, .slice z1.B z1.m z1.d] 50)).drew.heap[W.heap.size]? = some (.cells #[.int .i64 0, .bool z1.s, .slice z1.A z1.n z1.c, .slice z1.B z1.m z1.d, .int .i64 1, .bool z1.s, .slice z1.A z1.n z1.c, .slice z1.B z1.m z1.d] 50 (0, 0)) ∧ W.heap.size < (W.alloc (.cells #[.int .i64 0, .bool z1.s, .slice z1.A z1.n z1.c, .slice z1.B z1.m z1.d, .int .i64 1, .bool z1.s, .slice z1.A z1.n z1.c, .slice z1.B z1.m z1.d] 50)).drew.heap.size) := ⟨heap_alloc_new W _, by simp⟩
   generalize (W.alloc (.cells #[.int .i64 0, .bool z1.s, .slice z1.A z1.n z1.c, .slice z1.B z1.m z1.d, .int .i64 1, .bool z1.s, .slice z1.A z1.n z1.c, .slice z1.B z1.m z1.d] 50)).drew = w4 at *
   clear x0 x1 x2
   obtain ⟨x0, x1, x2, _, _, _⟩ := HAL.out _ B4.out
   refine wpAnyH_ready (rs := [5, 7]) (by kernel_rfl) (by simp) ?_
   refine AllReadyH.cons (o := { dst := some 12, op := Op.call { callee := Callee.value (Operand.func 26), args := #[Operand.const (Value.int IntKind.i64 (-3))], argTypes := #[3] }, type := 26, pos := "law.go:42", after := #[], guard := none }) rfl (fun K hK => ?_) (AllReadyH.cons (o := { dst := some 2, op := Op.alloc 28, type := 0, pos := "law.go:42", after := #[], guard := none }) rfl (fun K hK => ?_) AllReadyH.nil)
   ·
    skip
    try go_simp
    go_at_call 26
    refine (rInt_c (-3) _ (by omega)).mono ?_
    rintro e w5 ⟨za, rfl, hz, hb⟩
    have Z5 := Lib.hid (hz.lower (Nat.zero_le _))
    have B5 := Lib.hid hb
    clear hz hb
    clear x0 x1 x2
    obtain ⟨x0, x1, x2, _, _, _⟩ := HAL.out _ (B4.out.trans (B5.out.mono B4.out.size))
    try go_wp2_with fail
    refine hK.out _ _ ?_ fun hHeld => ?_
    · (try dsimp only); go_keep
    clear hK K
    try simp only [Act.put, zK]
    refine wpAnyH_take (i := 6) (oi := { dst := some 13, op := Op.build 28 #[(1, tmp 11), (2, tmp 12)], type := 28, pos := "law.go:42", after := #[eD 4, eD 5], guard := none }) (v := ?vq5x) rfl (by kernel_rfl) (by kernel_rfl) (by kernel_rfl) (fun _ _ _ => id) (Or.inl ⟨by rfl, ?hyq5x⟩) (by assumption) ?restq5x
    case hyq5x => intro w hSw; (try dsimp only at hSw); go_simp; all_goals (with_reducible rfl)
    try simp only [Act.put, zK]
    refine wpAnyH_ready (rs := [7]) (by kernel_rfl) (by simp) ?_
    refine AllReadyH.cons (o := { dst := some 2, op := Op.alloc 28, type := 0, pos := "law.go:42", after := #[], guard := none }) rfl (fun K hK => ?_) AllReadyH.nil
    try go_simp
    try go_wp2_with fail
    refine hK.out _ _ ?_ fun hHeld => ?_
    · (try dsimp only); go_keep
    clear hK K
    try simp only [Act.put, zK]
    have B7 : Hid (Below w5.heap.size w5 (w5.alloc (.cells #[.int .i64 0, .slice none 0 0, .bool false, .slice none 0 0, .slice none 0 0] 28))) := ((Below.refl _ _).alloc (Nat.le_refl _) _)
    have Y7 : Hid (C5 (w5.alloc (.cells #[.int .i64 0, .slice none 0 0, .bool false, .slice none 0 0, .slice none 0 0] 28)) w5.heap.size (.int .i64 0) (.slice none 0 0) (.bool false) (.slice none 0 0) (.slice none 0 0)) := C5.new w5 (.int .i64 0) (.slice none 0 0) (.bool false) (.slice none 0 0) (.slice none 0 0)
    generalize (w5.alloc (.cells #[.int .i64 0, .slice none 0 0, .bool false, .slice none 0 0, .slice none 0 0] 28)) = w7 at *
    clear x0 x1 x2
    obtain ⟨x0, x1, x2, _, _, _⟩ := HAL.out _ ((B4.out.trans (B5.out.mono B4.out.size)).trans (B7.out.mono (B4.out.trans (B5.out.mono B4.out.size)).size))
    have kY := Y7.out.below (Below.refl _ _)
    obtain ⟨y0, y1, y2, y3, y4⟩ := kY.facts
    obtain ⟨t0, t1, t2, t3, t4⟩ := kY.thaw
    clear kY
    have mA : ¬ X1 = w5.heap.size := by have := HXL.out; have := (B4.out.trans (B5.out.mono B4.out.size)).size; omega
    have mB : ¬ w5.heap.size = X1 := fun e => mA e.symm
    refine wpAnyH_ready (rs := [8]) (by kernel_rfl) (by simp) ?_
    refine AllReadyH.cons (o := { dst := none, op := Op.store 28 (tmp 2) (tmp 13), type := 0, pos := "law.go:42", after := #[eD 7, eD 6, eC 5, eP 0, eP 1, eP 2, eP 3, eP 4, eP 5, eP 6, eP 7], guard := none }) rfl (fun K hK => ?_) AllReadyH.nil
    try go_simp
    try go_wp2_with fail
    refine hK.out _ _ ?_ fun hHeld => ?_
    · (try dsimp only); go_keep
    clear hK K
    try simp only [Act.put, zK]
    refine wpAnyH_done (by kernel_rfl) ?_ _
    go_wp2_with fail
    go_meet
    exact ⟨_, _, za, rfl, Lib.hid (KinAt.put (Y7.out.below (Below.refl _ _)) ((B4.out.trans (B5.out.mono B4.out.size)).size) ((B4.out.trans (B5.out.mono B4.out.size)).trans (B7.out.mono (B4.out.trans (B5.out.mono B4.out.size)).size)) ⟨((B5.out.trans (B7.out.mono B5.out.size)).block _ G4.out.2).trans G4.out.1, (HZ1.out.below ((B4.out.trans (B5.out.mono B4.out.size)).trans (B7.out.mono (B4.out.trans (B5.out.mono B4.out.size)).size))), (HZ1.out.below ((B4.out.trans (B5.out.mono B4.out.size)).trans (B7.out.mono (B4.out.trans (B5.out.mono B4.out.size)).size))), (Z5.out.below B7.out)⟩)⟩
   ·
    skip
    try go_simp
    try go_wp2_with fail
    refine hK.out _ _ ?_ fun hHeld => ?_
    · (try dsimp only); go_keep
    clear hK K
    try simp only [Act.put, zK]
    have B7 : Hid (Below w4.heap.size w4 (w4.alloc (.cells #[.int .i64 0, .slice none 0 0, .bool false, .slice none 0 0, .slice none 0 0] 28))) := ((Below.refl _ _).alloc (Nat.le_refl _) _)
    have Y7 : Hid (C5 (w4.alloc (.cells #[.int .i64 0, .slice none 0 0, .bool false, .slice none 0 0, .slice none 0 0] 28)) w4.heap.size (.int .i64 0) (.slice none 0 0) (.bool false) (.slice none 0 0) (.slice none 0 0)) := C5.new w4 (.int .i64 0) (.slice none 0 0) (.bool false) (.slice none 0 0) (.slice none 0 0)
    generalize (w4.alloc (.cells #[.int .i64 0, .slice none 0 0, .bool false, .slice none 0 0, .slice none 0 0] 28)) = w7 at *
    clear x0 x1 x2
    obtain ⟨x0, x1, x2, _, _, _⟩ := HAL.out _ (B4.out.trans (B7.out.mono B4.out.size))
    refine wpAnyH_ready (rs := [5]) (by kernel_rfl) (by simp) ?_
    refine AllReadyH.cons (o := { dst := some 12, op := Op.call { callee := Callee.value (Operand.func 26), args := #[Operand.const (Value.int IntKind.i64 (-3))], argTypes := #[3] }, type := 26, pos := "law.go:42", after := #[], guard := none }) rfl (fun K hK => ?_) AllReadyH.nil
    try go_simp
    go_at_call 26
    refine (rInt_c (-3) _ (by omega)).mono ?_
    rintro e w5 ⟨za, rfl, hz, hb⟩
    have Z5 := Lib.hid (hz.lower (Nat.zero_le _))
    have B5 := Lib.hid hb
    clear hz hb
    clear x0 x1 x2
    obtain ⟨x0, x1, x2, _, _, _⟩ := HAL.out _ ((B4.out.trans (B7.out.mono B4.out.size)).trans (B5.out.mono (B4.out.trans (B7.out.mono B4.out.size)).size))
    have kY := Y7.out.below B5.out
    obtain ⟨y0, y1, y2, y3, y4⟩ := kY.facts
    obtain ⟨t0, t1, t2, t3, t4⟩ := kY.thaw
    clear kY
    have mA : ¬ X1 = w4.heap.size := by have := HXL.out; have := B4.out.size; omega
    have mB : ¬ w4.heap.size = X1 := fun e => mA e.symm
    try go_wp2_with fail
    refine hK.out _ _ ?_ fun hHeld => ?_
    · (try dsimp only); go_keep
    clear hK K
    try simp only [Act.put, zK]
    refine wpAnyH_take (i := 6) (oi := { dst := some 13, op := Op.build 28 #[(1, tmp 11), (2, tmp 12)], type := 28, pos := "law.go:42", after := #[eD 4, eD 5], guard := none }) (v := ?vq6x) rfl (by kernel_rfl) (by kernel_rfl) (by kernel_rfl) (fun _ _ _ => id) (Or.inl ⟨by rfl, ?hyq6x⟩) (by assumption) ?restq6x
    case hyq6x => intro w hSw; (try dsimp only at hSw); go_simp; all_goals (with_reducible rfl)
    try simp only [Act.put, zK]
    refine wpAnyH_ready (rs := [8]) (by kernel_rfl) (by simp) ?_
    refine AllReadyH.cons (o := { dst := none, op := Op.store 28 (tmp 2) (tmp 13), type := 0, pos := "law.go:42", after := #[eD 7, eD 6, eC 5, eP 0, eP 1, eP 2, eP 3, eP 4, eP 5, eP 6, eP 7], guard := none }) rfl (fun K hK => ?_) AllReadyH.nil
    try go_simp
    try go_wp2_with fail
    refine hK.out _ _ ?_ fun hHeld => ?_
    · (try dsimp only); go_keep
    clear hK K
    try simp only [Act.put, zK]
    refine wpAnyH_done (by kernel_rfl) ?_ _
    go_wp2_with fail
    go_meet
    exact ⟨_, _, za, rfl, Lib.hid (KinAt.put (Y7.out.below B5.out) (B4.out.size) ((B4.out.trans (B7.out.mono B4.out.size)).trans (B5.out.mono (B4.out.trans (B7.out.mono B4.out.size)).size)) ⟨((B7.out.trans (B5.out.mono B7.out.size)).block _ G4.out.2).trans G4.out.1, (HZ1.out.below ((B4.out.trans (B7.out.mono B4.out.size)).trans (B5.out.mono (B4.out.trans (B7.out.mono B4.out.size)).size))), (HZ1.out.below ((B4.out.trans (B7.out.mono B4.out.size)).trans (B5.out.mono (B4.out.trans (B7.out.mono B4.out.size)).size))), (Z5.out.below (Below.refl _ _))⟩)⟩
  ·
   skip
   try go_simp
   go_at_call 26
   refine (rInt_c (-3) _ (by omega)).mono ?_
   rintro e w5 ⟨za, rfl, hz, hb⟩
   have Z5 := Lib.hid (hz.lower (Nat.zero_le _))
   have B5 := Lib.hid ((bel1 W).trans hb)
   clear hz hb
   clear x0 x1 x2
   obtain ⟨x0, x1, x2, _, _, _⟩ := HAL.out _ B5.out
   try go_wp2_with fail
   refine hK.out _ _ ?_ fun hHeld => ?_
   · (try dsimp only); go_keep
   clear hK K
   try simp only [Act.put, zK]
   refine wpAnyH_ready (rs := [4, 7]) (by kernel_rfl) (by simp) ?_
   refine AllReadyH.cons (o := { dst := some 11, op := Op.buildSlice 23 2 #[(0, tmp 8), (1, tmp 10)], type := 23, pos := "law.go:42", after := #[eD 1, eD 3], guard := none }) rfl (fun K hK => ?_) (AllReadyH.cons (o := { dst := some 2, op := Op.alloc 28, type := 0, pos := "law.go:42", after := #[], guard := none }) rfl (fun K hK => ?_) AllReadyH.nil)
   ·
    skip
    try go_simp
    try go_wp2_with fail
    refine hK.out _ _ ?_ fun hHeld => ?_
    · (try dsimp only); go_keep
    clear hK K
    try simp only [Act.put, zK]
    have B4 : Hid (Below w5.heap.size w5 (w5.alloc (.cells #[.int .i64 0, .bool z1.s, .slice z1.A z1.n z1.c, .slice z1.B z1.m z1.d, .int .i64 1, .bool z1.s, .slice z1.A z1.n z1.c, .slice z1.B z1.m z1.d] 50))) := ((Below.refl _ _).alloc (Nat.le_refl _) _)
    have G4 : Hid ((w5.alloc (.cells #[.int .i64 0, .bool z1.s, .slice z1.A z1.n z1.c, .slice z1.B z1.m z1.d, .int .i64 1, .bool z1.s, .slice z1.A z1.n z1.c, .slice z1.B z1.m z1.d] 50)).heap[w5.heap.size]? = some (.cells #[.int .i64 0, .bool z1.s, .slice z1.A z1.n z1.c, .slice z1.B z1.m z1.d, .int .i64 1, .bool z1.s, .slice z1.A z1.n z1.c, .slice z1.B z1.m z1.d] 50 (0, 0)) ∧ w5.heap.size < (w5.alloc (.cells #[.int .i64 0, .bool z1.s, .slice z1.A z1.n z1.c, .slice z1.B z1.m z1.d, .int .i64 1, .bool z1.s, .slice z1.A z1.n z1.c, .slice z1.B z1.m z1.d] 50)).heap.size) := ⟨heap_alloc_new w5 _, by simp⟩
    generalize (w5.alloc (.cells #[.int .i64 0, .bool z1.s, .slice z1.A z1.n z1.c, .slice z1.B z1.m z1.d, .int .i64 1, .bool z1.s, .slice z1.A z1.n z1.c, .slice z1.B z1.m z1.d] 50)) = w4 at *
    clear x0 x1 x2
    obtain ⟨x0, x1, x2, _, _, _⟩ := HAL.out _ (B5.out.trans (B4.out.mono B5.out.size))
    refine wpAnyH_take (i := 6) (oi := { dst := some 13, op := Op.build 28 #[(1, tmp 11), (2, tmp 12)], type := 28, pos := "law.go:42", after := #[eD 4, eD 5], guard := none }) (v := ?vq7x) rfl (by kernel_rfl) (by kernel_rfl) (by kernel_rfl) (fun _ _ _ => id) (Or.inl ⟨by rfl, ?hyq7x⟩) (by assumption) ?restq7x
    case hyq7x => intro w hSw; (try dsimp only at hSw); go_simp; all_goals (with_reducible rfl)
    try simp only [Act.put, zK]
    refine wpAnyH_ready (rs := [7]) (by kernel_rfl) (by simp) ?_
    refine AllReadyH.cons (o := { dst := some 2, op := Op.alloc 28, type := 0, pos := "law.go:42", after := #[], guard := none }) rfl (fun K hK => ?_) AllReadyH.nil
    try go_simp
    try go_wp2_with fail
    refine hK.out _ _ ?_ fun hHeld => ?_
    · (try dsimp only); go_keep
    clear hK K
    try simp only [Act.put, zK]
    have B7 : Hid (Below w4.heap.size w4 (w4.alloc (.cells #[.int .i64 0, .slice none 0 0, .bool false, .slice none 0 0, .slice none 0 0] 28))) := ((Below.refl _ _).alloc (Nat.le_refl _) _)
    have Y7 : Hid (C5 (w4.alloc (.cells #[.int .i64 0, .slice none 0 0, .bool false, .slice none 0 0, .slice none 0 0] 28)) w4.heap.size (.int .i64 0) (.slice none 0 0) (.bool false) (.slice none 0 0) (.slice none 0 0)) := C5.new w4 (.int .i64 0) (.slice none 0 0) (.bool false) (.slice none 0 0) (.slice none 0 0)
    generalize (w4.alloc (.cells #[.int .i64 0, .slice none 0 0, .bool false, .slice none 0 0, .slice none 0 0] 28)) = w7 at *
    clear x0 x1 x2
    obtain ⟨x0, x1, x2, _, _, _⟩ := HAL.out _ ((B5.out.trans (B4.out.mono B5.out.size)).trans (B7.out.mono (B5.out.trans (B4.out.mono B5.out.size)).size))
    have kY := Y7.out.below (Below.refl _ _)
    obtain ⟨y0, y1, y2, y3, y4⟩ := kY.facts
    obtain ⟨t0, t1, t2, t3, t4⟩ := kY.thaw
    clear kY
    have mA : ¬ X1 = w4.heap.size := by have := HXL.out; have := (B5.out.trans (B4.out.mono B5.out.size)).size; omega
    have mB : ¬ w4.heap.size = X1 := fun e => mA e.symm
    refine wpAnyH_ready (rs := [8]) (by kernel_rfl) (by simp) ?_
    refine AllReadyH.cons (o := { dst := none, op := Op.store 28 (tmp 2) (tmp 13), type := 0, pos := "law.go:42", after := #[eD 7, eD 6, eC 5, eP 0, eP 1, eP 2, eP 3, eP 4, eP 5, eP 6, eP 7], guard := none }) rfl (fun K hK => ?_) AllReadyH.nil
    try go_simp
    try go_wp2_with fail
    refine hK.out _ _ ?_ fun hHeld => ?_
    · (try dsimp only); go_keep
    clear hK K
    try simp only [Act.put, zK]
    refine wpAnyH_done (by kernel_rfl) ?_ _
    go_wp2_with fail
    go_meet
    exact ⟨_, _, za, rfl, Lib.hid (KinAt.put (Y7.out.below (Below.refl _ _)) ((B5.out.trans (B4.out.mono B5.out.size)).size) ((B5.out.trans (B4.out.mono B5.out.size)).trans (B7.out.mono (B5.out.trans (B4.out.mono B5.out.size)).size)) ⟨(B7.out.block _ G4.out.2).trans G4.out.1, (HZ1.out.below ((B5.out.trans (B4.out.mono B5.out.size)).trans (B7.out.mono (B5.out.trans (B4.out.mono B5.out.size)).size))), (HZ1.out.below ((B5.out.trans (B4.out.mono B5.out.size)).trans (B7.out.mono (B5.out.trans (B4.out.mono B5.out.size)).size))), (Z5.out.below (B4.out.trans (B7.out.mono B4.out.size)))⟩)⟩
   ·
    skip
    try go_simp
    try go_wp2_with fail
    refine hK.out _ _ ?_ fun hHeld => ?_
    · (try dsimp only); go_keep
    clear hK K
    try simp only [Act.put, zK]
    have B7 : Hid (Below w5.heap.size w5 (w5.alloc (.cells #[.int .i64 0, .slice none 0 0, .bool false, .slice none 0 0, .slice none 0 0] 28))) := ((Below.refl _ _).alloc (Nat.le_refl _) _)
    have Y7 : Hid (C5 (w5.alloc (.cells #[.int .i64 0, .slice none 0 0, .bool false, .slice none 0 0, .slice none 0 0] 28)) w5.heap.size (.int .i64 0) (.slice none 0 0) (.bool false) (.slice none 0 0) (.slice none 0 0)) := C5.new w5 (.int .i64 0) (.slice none 0 0) (.bool false) (.slice none 0 0) (.slice none 0 0)
    generalize (w5.alloc (.cells #[.int .i64 0, .slice none 0 0, .bool false, .slice none 0 0, .slice none 0 0] 28)) = w7 at *
    clear x0 x1 x2
    obtain ⟨x0, x1, x2, _, _, _⟩ := HAL.out _ (B5.out.trans (B7.out.mono B5.out.size))
    refine wpAnyH_ready (rs := [4]) (by kernel_rfl) (by simp) ?_
    refine AllReadyH.cons (o := { dst := some 11, op := Op.buildSlice 23 2 #[(0, tmp 8), (1, tmp 10)], type := 23, pos := "law.go:42", after := #[eD 1, eD 3], guard := none }) rfl (fun K hK => ?_) AllReadyH.nil
    try go_simp
    try go_wp2_with fail
    refine hK.out _ _ ?_ fun hHeld => ?_
    · (try dsimp only); go_keep
    clear hK K
    try simp only [Act.put, zK]
    have B4 : Hid (Below w7.heap.size w7 (w7.alloc (.cells #[.int .i64 0, .bool z1.s, .slice z1.A z1.n z1.c, .slice z1.B z1.m z1.d, .int .i64 1, .bool z1.s, .slice z1.A z1.n z1.c, .slice z1.B z1.m z1.d] 50))) := ((Below.refl _ _).alloc (Nat.le_refl _) _)
    have G4 : Hid ((w7.alloc (.cells #[.int .i64 0, .bool z1.s, .slice z1.A z1.n z1.c, .slice z1.B z1.m z1.d, .int .i64 1, .bool z1.s, .slice z1.A z1.n z1.c, .slice z1.B z1.m z1.d] 50)).heap[w7.heap.size]? = some (.cells #[.int .i64 0, .bool z1.s, .slice z1.A z1.n z1.c, .slice z1.B z1.m z1.d, .int .i64 1, .bool z1.s, .slice z1.A z1.n z1.c, .slice z1.B z1.m z1.d] 50 (0, 0)) ∧ w7.heap.size < (w7.alloc (.cells #[.int .i64 0, .bool z1.s, .slice z1.A z1.n z1.c, .slice z1.B z1.m z1.d, .int .i64 1, .bool z1.s, .slice z1.A z1.n z1.c, .slice z1.B z1.m z1.d] 50)).heap.size) := ⟨heap_alloc_new w7 _, by simp⟩
    generalize (w7.alloc (.cells #[.int .i64 0, .bool z1.s, .slice z1.A z1.n z1.c, .slice z1.B z1.m z1.d, .int .i64 1, .bool z1.s, .slice z1.A z1.n z1.c, .slice z1.B z1.m z1.d] 50)) = w4 at *
    clear x0 x1 x2
    obtain ⟨x0, x1, x2, _, _, _⟩ := HAL.out _ ((B5.out.trans (B7.out.mono B5.out.size)).trans (B4.out.mono (B5.out.trans (B7.out.mono B5.out.size)).size))
    have kY := Y7.out.below B4.out
    obtain ⟨y0, y1, y2, y3, y4⟩ := kY.facts
    obtain ⟨t0, t1, t2, t3, t4⟩ := kY.thaw
    clear kY
    have mA : ¬ X1 = w5.heap.size := by have := HXL.out; have := B5.out.size; omega
    have mB : ¬ w5.heap.size = X1 := fun e => mA e.symm
    refine wpAnyH_take (i := 6) (oi := { dst := some 13, op := Op.build 28 #[(1, tmp 11), (2, tmp 12)], type := 28, pos := "law.go:42", after := #[eD 4, eD 5], guard := none }) (v := ?vq8x) rfl (by kernel_rfl) (by kernel_rfl) (by kernel_rfl) (fun _ _ _ => id) (Or.inl ⟨by rfl, ?hyq8x⟩) (by assumption) ?restq8x
    case hyq8x => intro w hSw; (try dsimp only at hSw); go_simp; all_goals (with_reducible rfl)
    try simp only [Act.put, zK]
    refine wpAnyH_ready (rs := [8]) (by kernel_rfl) (by simp) ?_
    refine AllReadyH.cons (o := { dst := none, op := Op.store 28 (tmp 2) (tmp 13), type := 0, pos := "law.go:42", after := #[eD 7, eD 6, eC 5, eP 0, eP 1, eP 2, eP 3, eP 4, eP 5, eP 6, eP 7], guard := none }) rfl (fun K hK => ?_) AllReadyH.nil
    try go_simp
    try go_wp2_with fail
    refine hK.out _ _ ?_ fun hHeld => ?_
    · (try dsimp only); go_keep
    clear hK K
    try simp only [Act.put, zK]
    refine wpAnyH_done (by kernel_rfl) ?_ _
    go_wp2_with fail
    go_meet
    exact ⟨_, _, za, rfl, Lib.hid (KinAt.put (Y7.out.below B4.out) (B5.out.size) ((B5.out.trans (B7.out.mono B5.out.size)).trans (B4.out.mono (B5.out.trans (B7.out.mono B5.out.size)).size)) ⟨((Below.refl _ _).block _ G4.out.2).trans G4.out.1, (HZ1.out.below ((B5.out.trans (B7.out.mono B5.out.size)).trans (B4.out.mono (B5.out.trans (B7.out.mono B5.out.size)).size))), (HZ1.out.below ((B5.out.trans (B7.out.mono B5.out.size)).trans (B4.out.mono (B5.out.trans (B7.out.mono B5.out.size)).size))), (Z5.out.below (B7.out.trans (B4.out.mono B7.out.size)))⟩)⟩
  ·
   skip
   try go_simp
   try go_wp2_with fail
   refine hK.out _ _ ?_ fun hHeld => ?_
   · (try dsimp only); go_keep
   clear hK K
   try simp only [Act.put, zK]
   have B7 : Hid (Below W.heap.size W (W.alloc (.cells #[.int .i64 0, .slice none 0 0, .bool false, .slice none 0 0, .slice none 0 0] 28)).drew) := ((Below.refl _ _).alloc (Nat.le_refl _) _).drew
   have Y7 : Hid (C5 (W.alloc (.cells #[.int .i64 0, .slice none 0 0, .bool false, .slice none 0 0, .slice none 0 0] 28)).drew W.heap.size (.int .i64 0) (.slice none 0 0) (.bool false) (.slice none 0 0) (.slice none 0 0)) := C5.new W (.int .i64 0) (.slice none 0 0) (.bool false) (.slice none 0 0) (.slice none 0 0)
   generalize (W.alloc (.cells #[.int .i64 0, .slice none 0 0, .bool false, .slice none 0 0, .slice none 0 0] 28)).drew = w7 at *
   clear x0 x1 x2
   obtain ⟨x0, x1, x2, _, _, _⟩ := HAL.out _ B7.out
   refine wpAnyH_ready (rs := [4, 5]) (by kernel_rfl) (by simp) ?_
   refine AllReadyH.cons (o := { dst := some 11, op := Op.buildSlice 23 2 #[(0, tmp 8), (1, tmp 10)], type := 23, pos := "law.go:42", after := #[eD 1, eD 3], guard := none }) rfl (fun K hK => ?_) (AllReadyH.cons (o := { dst := some 12, op := Op.call { callee := Callee.value (Operand.func 26), args := #[Operand.const (Value.int IntKind.i64 (-3))], argTypes := #[3] }, type := 26, pos := "law.go:42", after := #[], guard := none }) rfl (fun K hK => ?_) AllReadyH.nil)
   ·
    skip
    try go_simp
    try go_wp2_with fail
    refine hK.out _ _ ?_ fun hHeld => ?_
    · (try dsimp only); go_keep
    clear hK K
    try simp only [Act.put, zK]
    have B4 : Hid (Below w7.heap.size w7 (w7.alloc (.cells #[.int .i64 0, .bool z1.s, .slice z1.A z1.n z1.c, .slice z1.B z1.m z1.d, .int .i64 1, .bool z1.s, .slice z1.A z1.n z1.c, .slice z1.B z1.m z1.d] 50))) := ((Below.refl _ _).alloc (Nat.le_refl _) _)
    have G4 : Hid ((w7.alloc (.cells #[.int .i64 0, .bool z1.s, .slice z1.A z1.n z1.c, .slice z1.B z1.m z1.d, .int .i64 1, .bool z1.s, .slice z1.A z1.n z1.c, .slice z1.B z1.m z1.d] 50)).heap[w7.heap.size]? = some (.cells #[.int .i64 0, .bool z1.s, .slice z1.A z1.n z1.c, .slice z1.B z1.m z1.d, .int .i64 1, .bool z1.s, .slice z1.A z1.n z1.c, .slice z1.B z1.m z1.d] 50 (0, 0)) ∧ w7.heap.size < (w7.alloc (.cells #[.int .i64 0, .bool z1.s, .slice z1.A z1.n z1.c, .slice z1.B z1.m z1.d, .int .i64 1, .bool z1.s, .slice z1.A z1.n z1.c, .slice z1.B z1.m z1.d] 50)).heap.size) := ⟨heap_alloc_new w7 _, by simp⟩
    generalize (w7.alloc (.cells #[.int .i64 0, .bool z1.s, .slice z1.A z1.n z1.c, .slice z1.B z1.m z1.d, .int .i64 1, .bool z1.s, .slice z1.A z1.n z1.c, .slice z1.B z1.m z1.d] 50)) = w4 at *
    clear x0 x1 x2
    obtain ⟨x0, x1, x2, _, _, _⟩ := HAL.out _ (B7.out.trans (B4.out.mono B7.out.size))
    refine wpAnyH_ready (rs := [5]) (by kernel_rfl) (by simp) ?_
    refine AllReadyH.cons (o := { dst := some 12, op := Op.call { callee := Callee.value (Operand.func 26), args := #[Operand.const (Value.int IntKind.i64 (-3))], argTypes := #[3] }, type := 26, pos := "law.go:42", after := #[], guard := none }) rfl (fun K hK => ?_) AllReadyH.nil
    try go_simp
    go_at_call 26
    refine (rInt_c (-3) _ (by omega)).mono ?_
    rintro e w5 ⟨za, rfl, hz, hb⟩
    have Z5 := Lib.hid (hz.lower (Nat.zero_le _))
    have B5 := Lib.hid hb
    clear hz hb
    clear x0 x1 x2
    obtain ⟨x0, x1, x2, _, _, _⟩ := HAL.out _ ((B7.out.trans (B4.out.mono B7.out.size)).trans (B5.out.mono (B7.out.trans (B4.out.mono B7.out.size)).size))
    have kY := Y7.out.below (B4.out.trans (B5.out.mono B4.out.size))
    obtain ⟨y0, y1, y2, y3, y4⟩ := kY.facts
    obtain ⟨t0, t1, t2, t3, t4⟩ := kY.thaw
    clear kY
    have mA : ¬ X1 = W.heap.size := by have := HXL.out; omega
    have mB : ¬ W.heap.size = X1 := fun e => mA e.symm
    try go_wp2_with fail
    refine hK.out _ _ ?_ fun hHeld => ?_
    · (try dsimp only); go_keep
    clear hK K
    try simp only [Act.put, zK]
    refine wpAnyH_take (i := 6) (oi := { dst := some 13, op := Op.build 28 #[(1, tmp 11), (2, tmp 12)], type := 28, pos := "law.go:42", after := #[eD 4, eD 5], guard := none }) (v := ?vq9x) rfl (by kernel_rfl) (by kernel_rfl) (by kernel_rfl) (fun _ _ _ => id) (Or.inl ⟨by rfl, ?hyq9x⟩) (by assumption) ?restq9x
    case hyq9x => intro w hSw; (try dsimp only at hSw); go_simp; all_goals (with_reducible rfl)
    try simp only [Act.put, zK]
    refine wpAnyH_ready (rs := [8]) (by kernel_rfl) (by simp) ?_
    refine AllReadyH.cons (o := { dst := none, op := Op.store 28 (tmp 2) (tmp 13), type := 0, pos := "law.go:42", after := #[eD 7, eD 6, eC 5, eP 0, eP 1, eP 2, eP 3, eP 4, eP 5, eP 6, eP 7], guard := none }) rfl (fun K hK => ?_) AllReadyH.nil
    try go_simp
    try go_wp2_with fail
    refine hK.out _ _ ?_ fun hHeld => ?_
    · (try dsimp only); go_keep
    clear hK K
    try simp only [Act.put, zK]
    refine wpAnyH_done (by kernel_rfl) ?_ _
    go_wp2_with fail
    go_meet
    exact ⟨_, _, za, rfl, Lib.hid (KinAt.put (Y7.out.below (B4.out.trans (B5.out.mono B4.out.size))) (Nat.le_refl _) ((B7.out.trans (B4.out.mono B7.out.size)).trans (B5.out.mono (B7.out.trans (B4.out.mono B7.out.size)).size)) ⟨(B5.out.block _ G4.out.2).trans G4.out.1, (HZ1.out.below ((B7.out.trans (B4.out.mono B7.out.size)).trans (B5.out.mono (B7.out.trans (B4.out.mono B7.out.size)).size))), (HZ1.out.below ((B7.out.trans (B4.out.mono B7.out.size)).trans (B5.out.mono (B7.out.trans (B4.out.mono B7.out.size)).size))), (Z5.out.below (Below.refl _ _))⟩)⟩
   ·
    skip
    try go_simp
    go_at_call 26
    refine (rInt_c (-3) _ (by omega)).mono ?_
    rintro e w5 ⟨za, rfl, hz, hb⟩
    have Z5 := Lib.hid (hz.lower (Nat.zero_le _))
    have B5 := Lib.hid hb
    clear hz hb
    clear x0 x1 x2
    obtain ⟨x0, x1, x2, _, _, _⟩ := HAL.out _ (B7.out.trans (B5.out.mono B7.out.size))
    try go_wp2_with fail
    refine hK.out _ _ ?_ fun hHeld => ?_
    · (try dsimp only); go_keep
    clear hK K
    try simp only [Act.put, zK]
    refine wpAnyH_ready (rs := [4]) (by kernel_rfl) (by simp) ?_
    refine AllReadyH.cons (o := { dst := some 11, op := Op.buildSlice 23 2 #[(0, tmp 8), (1, tmp 10)], type := 23, pos := "law.go:42", after := #[eD 1, eD 3], guard := none }) rfl (fun K hK => ?_) AllReadyH.nil
    try go_simp
    try go_wp2_with fail
    refine hK.out _ _ ?_ fun hHeld => ?_
    · (try dsimp only); go_keep
    clear hK K
    try simp only [Act.put, zK]
    have B4 : Hid (Below w5.heap.size w5 (w5.alloc (.cells #[.int .i64 0, .bool z1.s, .slice z1.A z1.n z1.c, .slice z1.B z1.m z1.d, .int .i64 1, .bool z1.s, .slice z1.A z1.n z1.c, .slice z1.B z1.m z1.d] 50))) := ((Below.refl _ _).alloc (Nat.le_refl _) _)
    have G4 : Hid ((w5.alloc (.cells #[.int .i64 0, .bool z1.s, .slice z1.A z1.n z1.c, .slice z1.B z1.m z1.d, .int .i64 1, .bool z1.s, .slice z1.A z1.n z1.c, .slice z1.B z1.m z1.d] 50)).heap[w5.heap.size]? = some (.cells #[.int .i64 0, .bool z1.s, .slice z1.A z1.n z1.c, .slice z1.B z1.m z1.d, .int .i64 1, .bool z1.s, .slice z1.A z1.n z1.c, .slice z1.B z1.m z1.d] 50 (0, 0)) ∧ w5.heap.size < (w5.alloc (.cells #[.int .i64 0, .bool z1.s, .slice z1.A z1.n z1.c, .slice z1.B z1.m z1.d, .int .i64 1, .bool z1.s, .slice z1.A z1.n z1.c, .slice z1.B z1.m z1.d] 50)).heap.size) := ⟨heap_alloc_new w5 _, by simp⟩
    generalize (w5.alloc (.cells #[.int .i64 0, .bool z1.s, .slice z1.A z1.n z1.c, .slice z1.B z1.m z1.d, .int .i64 1, .bool z1.s, .slice z1.A z1.n z1.c, .slice z1.B z1.m z1.d] 50)) = w4 at *
    clear x0 x1 x2
    obtain ⟨x0, x1, x2, _, _, _⟩ := HAL.out _ ((B7.out.trans (B5.out.mono B7.out.size)).trans (B4.out.mono (B7.out.trans (B5.out.mono B7.out.size)).size))
    have kY := Y7.out.below (B5.out.trans (B4.out.mono B5.out.size))
    obtain ⟨y0, y1, y2, y3, y4⟩ := kY.facts
    obtain ⟨t0, t1, t2, t3, t4⟩ := kY.thaw
    clear kY
    have mA : ¬ X1 = W.heap.size := by have := HXL.out; omega
    have mB : ¬ W.heap.size = X1 := fun e => mA e.symm
    refine wpAnyH_take (i := 6) (oi := { dst := some 13, op := Op.build 28 #[(1, tmp 11), (2, tmp 12)], type := 28, pos := "law.go:42", after := #[eD 4, eD 5], guard := none }) (v := ?vq10x) rfl (by kernel_rfl) (by kernel_rfl) (by kernel_rfl) (fun _ _ _ => id) (Or.inl ⟨by rfl, ?hyq10x⟩) (by assumption) ?restq10x
    case hyq10x => intro w hSw; (try dsimp only at hSw); go_simp; all_goals (with_reducible rfl)
    try simp only [Act.put, zK]
    refine wpAnyH_ready (rs := [8]) (by kernel_rfl) (by simp) ?_
    refine AllReadyH.cons (o := { dst := none, op := Op.store 28 (tmp 2) (tmp 13), type := 0, pos := "law.go:42", after := #[eD 7, eD 6, eC 5, eP 0, eP 1, eP 2, eP 3, eP 4, eP 5, eP 6, eP 7], guard := none }) rfl (fun K hK => ?_) AllReadyH.nil
    try go_simp
    try go_wp2_with fail
    refine hK.out _ _ ?_ fun hHeld => ?_
    · (try dsimp only); go_keep
    clear hK K
    try simp only [Act.put, zK]
    refine wpAnyH_done (by kernel_rfl) ?_ _
    go_wp2_with fail
    go_meet
    exact ⟨_, _, za, rfl, Lib.hid (KinAt.put (Y7.out.below (B5.out.trans (B4.out.mono B5.out.size))) (Nat.le_refl _) ((B7.out.trans (B5.out.mono B7.out.size)).trans (B4.out.mono (B7.out.trans (B5.out.mono B7.out.size)).size)) ⟨((Below.refl _ _).block _ G4.out.2).trans G4.out.1, (HZ1.out.below ((B7.out.trans (B5.out.mono B7.out.size)).trans (B4.out.mono (B7.out.trans (B5.out.mono B7.out.size)).size))), (HZ1.out.below ((B7.out.trans (B5.out.mono B7.out.size)).trans (B4.out.mono (B7.out.trans (B5.out.mono B7.out.size)).size))), (Z5.out.below B4.out)⟩)⟩
 case rest =>
  obtain ⟨Ya, Ga, za, rfl, HKA⟩ := hcut
  generalize wc = W3 at *
  clear x0 x1 x2 HAL HXL HZ1
  go_upto_region 3 with fail
  have HK3 : Hid (C3 W3 X1 (.bool z1.s) (.slice z1.A z1.n z1.c) (.slice z1.B z1.m z1.d) ∧ Below w.heap.size w W3) := ⟨HK1.out.1.below HKA.out.below, HK1.out.2.1.trans (HKA.out.below.mono HK1.out.2.1.size)⟩
  have HZ1 := Lib.hid (HK1.out.2.2.below HKA.out.below)
  have HAL : Hid (∀ w', Below W3.heap.size W3 w' → (w'.cell? ⟨X1, 0, none⟩ = some (.bool z1.s) ∧ w'.cell? ⟨X1, 1, none⟩ = some (.slice z1.A z1.n z1.c) ∧ w'.cell? ⟨X1, 2, none⟩ = some (.slice z1.B z1.m z1.d) ∧ w'.frozen? ⟨X1, 0, none⟩ = false ∧ w'.frozen? ⟨X1, 1, none⟩ = false ∧ w'.frozen? ⟨X1, 2, none⟩ = false)) := fun w' h => (HK3.out.1.below h).facts
  have HXL : Hid (X1 < W3.heap.size) := HK3.out.1.lt
  obtain ⟨x0, x1, x2, _, _, _⟩ := HAL.out _ (Below.refl _ _)
  go_cut [3] from 14 (fun xv wx => ∃ (Y G : Nat) (z2 zb : Rv), xv = .pointer (some ⟨Y, 0, none⟩) ∧ Hid (KinAt W3 wx Y G z1 z2 zb ((1 : Int) : Rat) ((-1 : Int) : Rat) ((-1 : Int) : Rat)))
  case first =>
   refine wp_region_held_drew (S := fun w' => w'.cell? ⟨X1, 0, none⟩ = some (.bool z1.s) ∧ w'.cell? ⟨X1, 1, none⟩ = some (.slice z1.A z1.n z1.c) ∧ w'.cell? ⟨X1, 2, none⟩ = some (.slice z1.B z1.m z1.d)) (by kernel_rfl) ?_ (fun hHeld => ?_)
   ·
    (try dsimp only)
    go_keep
   refine wpAnyH_take (i := 0) (oi := { dst := some 14, op := Op.load 26 (tmp 1), type := 26, pos := "law.go:43", after := #[], guard := none }) (v := ?vq11x) rfl (by kernel_rfl) (by kernel_rfl) (by kernel_rfl) (fun _ _ _ => id) (Or.inl ⟨by rfl, ?hyq11x⟩) (by assumption) ?restq11x
   case hyq11x => intro w hSw; (try dsimp only at hSw); go_simp; all_goals (with_reducible rfl)
   try simp only [Act.put, zK]
   refine wpAnyH_take (i := 1) (oi := { dst := some 15, op := Op.build 50 #[(0, Operand.const (Value.int IntKind.i64 0)), (1, tmp 14)], type := 50, pos := "law.go:43", after := #[eD 0], guard := none }) (v := ?vq12x) rfl (by kernel_rfl) (by kernel_rfl) (by kernel_rfl) (fun _ _ _ => id) (Or.inl ⟨by rfl, ?hyq12x⟩) (by assumption) ?restq12x
   case hyq12x => intro w hSw; (try dsimp only at hSw); go_simp; all_goals (with_reducible rfl)
   try simp only [Act.put, zK]
   refine wpAnyH_ready (rs := [2, 7]) (by kernel_rfl) (by simp) ?_
   refine AllReadyH.cons (o := { dst := some 16, op := Op.call { callee := Callee.value (Operand.func 26), args := #[Operand.const (Value.int IntKind.i64 (-1))], argTypes := #[3] }, type := 26, pos := "law.go:43", after := #[], guard := none }) rfl (fun K hK => ?_) (AllReadyH.cons (o := { dst := some 3, op := Op.alloc 28, type := 0, pos := "law.go:43", after := #[], guard := none }) rfl (fun K hK => ?_) AllReadyH.nil)
   ·
    skip
    try go_simp
    go_at_call 26
    refine (rInt_c (-1) _ (by omega)).mono ?_
    rintro e w2 ⟨z2, rfl, hz, hb⟩
    have Z2 := Lib.hid (hz.lower (Nat.zero_le _))
    have B2 := Lib.hid ((bel1 W3).trans hb)
    clear hz hb
    clear x0 x1 x2
    obtain ⟨x0, x1, x2, _, _, _⟩ := HAL.out _ B2.out
    try go_wp2_with fail
    refine hK.out _ _ ?_ fun hHeld => ?_
    · (try dsimp only); go_keep
    clear hK K
    try simp only [Act.put, zK]
    refine wpAnyH_take (i := 3) (oi := { dst := some 17, op := Op.build 50 #[(0, Operand.const (Value.int IntKind.i64 1)), (1, tmp 16)], type := 50, pos := "law.go:43", after := #[eD 2], guard := none }) (v := ?vq13x) rfl (by kernel_rfl) (by kernel_rfl) (by kernel_rfl) (fun _ _ _ => id) (Or.inl ⟨by rfl, ?hyq13x⟩) (by assumption) ?restq13x
    case hyq13x => intro w hSw; (try dsimp only at hSw); go_simp; all_goals (with_reducible rfl)
    try simp only [Act.put, zK]
    refine wpAnyH_ready (rs := [4, 5, 7]) (by kernel_rfl) (by simp) ?_
    refine AllReadyH.cons (o := { dst := some 18, op := Op.buildSlice 23 2 #[(0, tmp 15), (1, tmp 17)], type := 23, pos := "law.go:43", after := #[eD 1, eD 3], guard := none }) rfl (fun K hK => ?_) (AllReadyH.cons (o := { dst := some 19, op := Op.call { callee := Callee.value (Operand.func 26), args := #[Operand.const (Value.int IntKind.i64 (-1))], argTypes := #[3] }, type := 26, pos := "law.go:43", after := #[eC 2], guard := none }) rfl (fun K hK => ?_) (AllReadyH.cons (o := { dst := some 3, op := Op.alloc 28, type := 0, pos := "law.go:43", after := #[], guard := none }) rfl (fun K hK => ?_) AllReadyH.nil))
    ·
     skip
     try go_simp
     try go_wp2_with fail
     refine hK.out _ _ ?_ fun hHeld => ?_
     · (try dsimp only); go_keep
     clear hK K
     try simp only [Act.put, zK]
     have B4 : Hid (Below w2.heap.size w2 (w2.alloc (.cells #[.int .i64 0, .bool z1.s, .slice z1.A z1.n z1.c, .slice z1.B z1.m z1.d, .int .i64 1, .bool z2.s, .slice z2.A z2.n z2.c, .slice z2.B z2.m z2.d] 50))) := ((Below.refl _ _).alloc (Nat.le_refl _) _)
     have G4 : Hid ((w2.alloc (.cells #[.int .i64 0, .bool z1.s, .slice z1.A z1.n z1.c, .slice z1.B z1.m z1.d, .int .i64 1, .bool z2.s, .slice z2.A z2.n z2.c, .slice z2.B z2.m z2.d] 50)).heap[w2.heap.size]? = some (.cells #[.int .i64 0, .bool z1.s, .slice z1.A z1.n z1.c, .slice z1.B z1.m z1.d, .int .i64 1, .bool z2.s, .slice z2.A z2.n z2.c, .slice z2.B z2.m z2.d] 50 (0, 0)) ∧ w2.heap.size < (w2.alloc (.cells #[.int .i64 0, .bool z1.s, .slice z1.A z1.n z1.c, .slice z1.B z1.m z1.d, .int .i64 1, .bool z2.s, .slice z2.A z2.n z2.c, .slice z2.B z2.m z2.d] 50)).heap.size) := ⟨heap_alloc_new w2 _, by simp⟩
     generalize (w2.alloc (.cells #[.int .i64 0, .bool z1.s, .slice z1.A z1.n z1.c, .slice z1.B z1.m z1.d, .int .i64 1, .bool z2.s, .slice z2.A z2.n z2.c, .slice z2.B z2.m z2.d] 50)) = w4 at *
     clear x0 x1 x2
     obtain ⟨x0, x1, x2, _, _, _⟩ := HAL.out _ (B2.out.trans (B4.out.mono B2.out.size))
     refine wpAnyH_ready (rs := [5, 7]) (by kernel_rfl) (by simp) ?_
     refine AllReadyH.cons (o := { dst := some 19, op := Op.call { callee := Callee.value (Operand.func 26), args := #[Operand.const (Value.int IntKind.i64 (-1))], argTypes := #[3] }, type := 26, pos := "law.go:43", after := #[eC 2], guard := none }) rfl (fun K hK => ?_) (AllReadyH.cons (o := { dst := some 3, op := Op.alloc 28, type := 0, pos := "law.go:43", after := #[], guard := none }) rfl (fun K hK => ?_) AllReadyH.nil)
     ·
      skip
      try go_simp
      go_at_call 26
      refine (rInt_c (-1) _ (by omega)).mono ?_
      rintro e w5 ⟨zb, rfl, hz, hb⟩
      have Z5 := Lib.hid (hz.lower (Nat.zero_le _))
      have B5 := Lib.hid hb
      clear hz hb
      clear x0 x1 x2
      obtain ⟨x0, x1, x2, _, _, _⟩ := HAL.out _ ((B2.out.trans (B4.out.mono B2.out.size)).trans (B5.out.mono (B2.out.trans (B4.out.mono B2.out.size)).size))
      try go_wp2_with fail
      refine hK.out _ _ ?_ fun hHeld => ?_
      · (try dsimp only); go_keep
      clear hK K
      try simp only [Act.put, zK]
      refine wpAnyH_take (i := 6) (oi := { dst := some 20, op := Op.build 28 #[(1, tmp 18), (2, tmp 19)], type := 28, pos := "law.go:43", after := #[eD 4, eD 5], guard := none }) (v := ?vq14x) rfl (by kernel_rfl) (by kernel_rfl) (by kernel_rfl) (fun _ _ _ => id) (Or.inl ⟨by rfl, ?hyq14x⟩) (by assumption) ?restq14x
      case hyq14x => intro w hSw; (try dsimp only at hSw); go_simp; all_goals (with_reducible rfl)
      try simp only [Act.put, zK]
      refine wpAnyH_ready (rs := [7]) (by kernel_rfl) (by simp) ?_
      refine AllReadyH.cons (o := { dst := some 3, op := Op.alloc 28, type := 0, pos := "law.go:43", after := #[], guard := none }) rfl (fun K hK => ?_) AllReadyH.nil
      try go_simp
      try go_wp2_with fail
      refine hK.out _ _ ?_ fun hHeld => ?_
      · (try dsimp only); go_keep
      clear hK K
      try simp only [Act.put, zK]
      have B7 : Hid (Below w5.heap.size w5 (w5.alloc (.cells #[.int .i64 0, .slice none 0 0, .bool false, .slice none 0 0, .slice none 0 0] 28))) := ((Below.refl _ _).alloc (Nat.le_refl _) _)
      have Y7 : Hid (C5 (w5.alloc (.cells #[.int .i64 0, .slice none 0 0, .bool false, .slice none 0 0, .slice none 0 0] 28)) w5.heap.size (.int .i64 0) (.slice none 0 0) (.bool false) (.slice none 0 0) (.slice none 0 0)) := C5.new w5 (.int .i64 0) (.slice none 0 0) (.bool false) (.slice none 0 0) (.slice none 0 0)
      generalize (w5.alloc (.cells #[.int .i64 0, .slice none 0 0, .bool false, .slice none 0 0, .slice none 0 0] 28)) = w7 at *
      clear x0 x1 x2
      obtain ⟨x0, x1, x2, _, _, _⟩ := HAL.out _ (((B2.out.trans (B4.out.mono B2.out.size)).trans (B5.out.mono (B2.out.trans (B4.out.mono B2.out.size)).size)).trans (B7.out.mono ((B2.out.trans (B4.out.mono B2.out.size)).trans (B5.out.mono (B2.out.trans (B4.out.mono B2.out.size)).size)).size))
      have kY := Y7.out.below (Below.refl _ _)
      obtain ⟨y0, y1, y2, y3, y4⟩ := kY.facts
      obtain ⟨t0, t1, t2, t3, t4⟩ := kY.thaw
      clear kY
      have mA : ¬ X1 = w5.heap.size := by have := HXL.out; have := ((B2.out.trans (B4.out.mono B2.out.size)).trans (B5.out.mono (B2.out.trans (B4.out.mono B2.out.size)).size)).size; omega
      have mB : ¬ w5.heap.size = X1 := fun e => mA e.symm
      refine wpAnyH_ready (rs := [8]) (by kernel_rfl) (by simp) ?_
      refine AllReadyH.cons (o := { dst := none, op := Op.store 28 (tmp 3) (tmp 20), type := 0, pos := "law.go:43", after := #[eD 7, eD 6, eC 5, eP 0, eP 1, eP 2, eP 3, eP 4, eP 5, eP 6, eP 7], guard := none }) rfl (fun K hK => ?_) AllReadyH.nil
      try go_simp
      try go_wp2_with fail
      refine hK.out _ _ ?_ fun hHeld => ?_
      · (try dsimp only); go_keep
      clear hK K
      try simp only [Act.put, zK]
      refine wpAnyH_done (by kernel_rfl) ?_ _
      go_wp2_with fail
      go_meet
      exact ⟨_, _, z2, zb, rfl, Lib.hid (KinAt.put (Y7.out.below (Below.refl _ _)) (((B2.out.trans (B4.out.mono B2.out.size)).trans (B5.out.mono (B2.out.trans (B4.out.mono B2.out.size)).size)).size) (((B2.out.trans (B4.out.mono B2.out.size)).trans (B5.out.mono (B2.out.trans (B4.out.mono B2.out.size)).size)).trans (B7.out.mono ((B2.out.trans (B4.out.mono B2.out.size)).trans (B5.out.mono (B2.out.trans (B4.out.mono B2.out.size)).size)).size)) ⟨((B5.out.trans (B7.out.mono B5.out.size)).block _ G4.out.2).trans G4.out.1, (HZ1.out.below (((B2.out.trans (B4.out.mono B2.out.size)).trans (B5.out.mono (B2.out.trans (B4.out.mono B2.out.size)).size)).trans (B7.out.mono ((B2.out.trans (B4.out.mono B2.out.size)).trans (B5.out.mono (B2.out.trans (B4.out.mono B2.out.size)).size)).size))), (Z2.out.below ((B4.out.trans (B5.out.mono B4.out.size)).trans (B7.out.mono (B4.out.trans (B5.out.mono B4.out.size)).size))), (Z5.out.below B7.out)⟩)⟩
     ·
      skip
      try go_simp
      try go_wp2_with fail
      refine hK.out _ _ ?_ fun hHeld => ?_
      · (try dsimp only); go_keep
      clear hK K
      try simp only [Act.put, zK]
      have B7 : Hid (Below w4.heap.size w4 (w4.alloc (.cells #[.int .i64 0, .slice none 0 0, .bool false, .slice none 0 0, .slice none 0 0] 28))) := ((Below.refl _ _).alloc (Nat.le_refl _) _)
      have Y7 : Hid (C5 (w4.alloc (.cells #[.int .i64 0, .slice none 0 0, .bool false, .slice none 0 0, .slice none 0 0] 28)) w4.heap.size (.int .i64 0) (.slice none 0 0) (.bool false) (.slice none 0 0) (.slice none 0 0)) := C5.new w4 (.int .i64 0) (.slice none 0 0) (.bool false) (.slice none 0 0) (.slice none 0 0)
      generalize (w4.alloc (.cells #[.int .i64 0, .slice none 0 0, .bool false, .slice none 0 0, .slice none 0 0] 28)) = w7 at *
      clear x0 x1 x2
      obtain ⟨x0, x1, x2, _, _, _⟩ := HAL.out _ ((B2.out.trans (B4.out.mono B2.out.size)).trans (B7.out.mono (B2.out.trans (B4.out.mono B2.out.size)).size))
      refine wpAnyH_ready (rs := [5]) (by kernel_rfl) (by simp) ?_
      refine AllReadyH.cons (o := { dst := some 19, op := Op.call { callee := Callee.value (Operand.func 26), args := #[Operand.const (Value.int IntKind.i64 (-1))], argTypes := #[3] }, type := 26, pos := "law.go:43", after := #[eC 2], guard := none }) rfl (fun K hK => ?_) AllReadyH.nil
      try go_simp
      go_at_call 26
      refine (rInt_c (-1) _ (by omega)).mono ?_
      rintro e w5 ⟨zb, rfl, hz, hb⟩
      have Z5 := Lib.hid (hz.lower (Nat.zero_le _))
      have B5 := Lib.hid hb
      clear hz hb
      clear x0 x1 x2
      obtain ⟨x0, x1, x2, _, _, _⟩ := HAL.out _ (((B2.out.trans (B4.out.mono B2.out.size)).trans (B7.out.mono (B2.out.trans (B4.out.mono B2.out.size)).size)).trans (B5.out.mono ((B2.out.trans (B4.out.mono B2.out.size)).trans (B7.out.mono (B2.out.trans (B4.out.mono B2.out.size)).size)).size))
      have kY := Y7.out.below B5.out
      obtain ⟨y0, y1, y2, y3, y4⟩ := kY.facts
      obtain ⟨t0, t1, t2, t3, t4⟩ := kY.thaw
      clear kY
      have mA : ¬ X1 = w4.heap.size := by have := HXL.out; have := (B2.out.trans (B4.out.mono B2.out.size)).size; omega
      have mB : ¬ w4.heap.size = X1 := fun e => mA e.symm
      try go_wp2_with fail
      refine hK.out _ _ ?_ fun hHeld => ?_
      · (try dsimp only); go_keep
      clear hK K
      try simp only [Act.put, zK]
      refine wpAnyH_take (i := 6) (oi := { dst := some 20, op := Op.build 28 #[(1, tmp 18), (2, tmp 19)], type := 28, pos := "law.go:43", after := #[eD 4, eD 5], guard := none }) (v := ?vq15x) rfl (by kernel_rfl) (by kernel_rfl) (by kernel_rfl) (fun _ _ _ => id) (Or.inl ⟨by rfl, ?hyq15x⟩) (by assumption) ?restq15x
      case hyq15x => intro w hSw; (try dsimp only at hSw); go_simp; all_goals (with_reducible rfl)
      try simp only [Act.put, zK]
      refine wpAnyH_ready (rs := [8]) (by kernel_rfl) (by simp) ?_
      refine AllReadyH.cons (o := { dst := none, op := Op.store 28 (tmp 3) (tmp 20), type := 0, pos := "law.go:43", after := #[eD 7, eD 6, eC 5, eP 0, eP 1, eP 2, eP 3, eP 4, eP 5, eP 6, eP 7], guard := none }) rfl (fun K hK => ?_) AllReadyH.nil
      try go_simp
      try go_wp2_with fail
      refine hK.out _ _ ?_ fun hHeld => ?_
      · (try dsimp only); go_keep
      clear hK K
      try simp only [Act.put, zK]
      refine wpAnyH_done (by kernel_rfl) ?_ _
      go_wp2_with fail
      go_meet
      exact ⟨_, _, z2, zb, rfl, Lib.hid (KinAt.put (Y7.out.below B5.out) ((B2.out.trans (B4.out.mono B2.out.size)).size) (((B2.out.trans (B4.out.mono B2.out.size)).trans (B7.out.mono (B2.out.trans (B4.out.mono B2.out.size)).size)).trans (B5.out.mono ((B2.out.trans (B4.out.mono B2.out.size)).trans (B7.out.mono (B2.out.trans (B4.out.mono B2.out.size)).size)).size)) ⟨((B7.out.trans (B5.out.mono B7.out.size)).block _ G4.out.2).trans G4.out.1, (HZ1.out.below (((B2.out.trans (B4.out.mono B2.out.size)).trans (B7.out.mono (B2.out.trans (B4.out.mono B2.out.size)).size)).trans (B5.out.mono ((B2.out.trans (B4.out.mono B2.out.size)).trans (B7.out.mono (B2.out.trans (B4.out.mono B2.out.size)).size)).size))), (Z2.out.below ((B4.out.trans (B7.out.mono B4.out.size)).trans (B5.out.mono (B4.out.trans (B7.out.mono B4.out.size)).size))), (Z5.out.below (Below.refl _ _))⟩)⟩
    ·
     skip
     try go_simp
     go_at_call 26
     refine (rInt_c (-1) _ (by omega)).mono ?_
     rintro e w5 ⟨zb, rfl, hz, hb⟩
     have Z5 := Lib.hid (hz.lower (Nat.zero_le _))
     have B5 := Lib.hid hb
     clear hz hb
     clear x0 x1 x2
     obtain ⟨x0, x1, x2, _, _, _⟩ := HAL.out _ (B2.out.trans (B5.out.mono B2.out.size))
     try go_wp2_with fail
     refine hK.out _ _ ?_ fun hHeld => ?_
     · (try dsimp only); go_keep
     clear hK K
     try simp only [Act.put, zK]
     refine wpAnyH_ready (rs := [4, 7]) (by kernel_rfl) (by simp) ?_
     refine AllReadyH.cons (o := { dst := some 18, op := Op.buildSlice 23 2 #[(0, tmp 15), (1, tmp 17)], type := 23, pos := "law.go:43", after := #[eD 1, eD 3], guard := none }) rfl (fun K hK => ?_) (AllReadyH.cons (o := { dst := some 3, op := Op.alloc 28, type := 0, pos := "law.go:43", after := #[], guard := none }) rfl (fun K hK => ?_) AllReadyH.nil)
     ·
      skip
      try go_simp
      try go_wp2_with fail
      refine hK.out _ _ ?_ fun hHeld => ?_
      · (try dsimp only); go_keep
      clear hK K
      try simp only [Act.put, zK]
      have B4 : Hid (Below w5.heap.size w5 (w5.alloc (.cells #[.int .i64 0, .bool z1.s, .slice z1.A z1.n z1.c, .slice z1.B z1.m z1.d, .int .i64 1, .bool z2.s, .slice z2.A z2.n z2.c, .slice z2.B z2.m z2.d] 50))) := ((Below.refl _ _).alloc (Nat.le_refl _) _)
      have G4 : Hid ((w5.alloc (.cells #[.int .i64 0, .bool z1.s, .slice z1.A z1.n z1.c, .slice z1.B z1.m z1.d, .int .i64 1, .bool z2.s, .slice z2.A z2.n z2.c, .slice z2.B z2.m z2.d] 50)).heap[w5.heap.size]? = some (.cells #[.int .i64 0, .bool z1.s, .slice z1.A z1.n z1.c, .slice z1.B z1.m z1.d, .int .i64 1, .bool z2.s, .slice z2.A z2.n z2.c, .slice z2.B z2.m z2.d] 50 (0, 0)) ∧ w5.heap.size < (w5.alloc (.cells #[.int .i64 0, .bool z1.s, .slice z1.A z1.n z1.c, .slice z1.B z1.m z1.d, .int .i64 1, .bool z2.s, .slice z2.A z2.n z2.c, .slice z2.B z2.m z2.d] 50)).heap.size) := ⟨heap_alloc_new w5 _, by simp⟩
      generalize (w5.alloc (.cells #[.int .i64 0, .bool z1.s, .slice z1.A z1.n z1.c, .slice z1.B z1.m z1.d, .int .i64 1, .bool z2.s, .slice z2.A z2.n z2.c, .slice z2.B z2.m z2.d] 50)) = w4 at *
      clear x0 x1 x2
      obtain ⟨x0, x1, x2, _, _, _⟩ := HAL.out _ ((B2.out.trans (B5.out.mono B2.out.size)).trans (B4.out.mono (B2.out.trans (B5.out.mono B2.out.size)).size))
      refine wpAnyH_take (i := 6) (oi := { dst := some 20, op := Op.build 28 #[(1, tmp 18), (2, tmp 19)], type := 28, pos := "law.go:43", after := #[eD 4, eD 5], guard := none }) (v := ?vq16x) rfl (by kernel_rfl) (by kernel_rfl) (by kernel_rfl) (fun _ _ _ => id) (Or.inl ⟨by rfl, ?hyq16x⟩) (by assumption) ?restq16x
      case hyq16x => intro w hSw; (try dsimp only at hSw); go_simp; all_goals (with_reducible rfl)
      try simp only [Act.put, zK]
      refine wpAnyH_ready (rs := [7]) (by kernel_rfl) (by simp) ?_
      refine AllReadyH.cons (o := { dst := some 3, op := Op.alloc 28, type := 0, pos := "law.go:43", after := #[], guard := none }) rfl (fun K hK => ?_) AllReadyH.nil
      try go_simp
      try go_wp2_with fail
      refine hK.out _ _ ?_ fun hHeld => ?_
      · (try dsimp only); go_keep
      clear hK K
      try simp only [Act.put, zK]
      have B7 : Hid (Below w4.heap.size w4 (w4.alloc (.cells #[.int .i64 0, .slice none 0 0, .bool false, .slice none 0 0, .slice none 0 0] 28))) := ((Below.refl _ _).alloc (Nat.le_refl _) _)
      have Y7 : Hid (C5 (w4.alloc (.cells #[.int .i64 0, .slice none 0 0, .bool false, .slice none 0 0, .slice none 0 0] 28)) w4.heap.size (.int .i64 0) (.slice none 0 0) (.bool false) (.slice none 0 0) (.slice none 0 0)) := C5.new w4 (.int .i64 0) (.slice none 0 0) (.bool false) (.slice none 0 0) (.slice none 0 0)
      generalize (w4.alloc (.cells #[.int .i64 0, .slice none 0 0, .bool false, .slice none 0 0, .slice none 0 0] 28)) = w7 at *
      clear x0 x1 x2
      obtain ⟨x0, x1, x2, _, _, _⟩ := HAL.out _ (((B2.out.trans (B5.out.mono B2.out.size)).trans (B4.out.mono (B2.out.trans (B5.out.mono B2.out.size)).size)).trans (B7.out.mono ((B2.out.trans (B5.out.mono B2.out.size)).trans (B4.out.mono (B2.out.trans (B5.out.mono B2.out.size)).size)).size))
      have kY := Y7.out.below (Below.refl _ _)
      obtain ⟨y0, y1, y2, y3, y4⟩ := kY.facts
      obtain ⟨t0, t1, t2, t3, t4⟩ := kY.thaw
      clear kY
      have mA : ¬ X1 = w4.heap.size := by have := HXL.out; have := ((B2.out.trans (B5.out.mono B2.out.size)).trans (B4.out.mono (B2.out.trans (B5.out.mono B2.out.size)).size)).size; omega
      have mB : ¬ w4.heap.size = X1 := fun e => mA e.symm
      refine wpAnyH_ready (rs := [8]) (by kernel_rfl) (by simp) ?_
      refine AllReadyH.cons (o := { dst := none, op := Op.store 28 (tmp 3) (tmp 20), type := 0, pos := "law.go:43", after := #[eD 7, eD 6, eC 5, eP 0, eP 1, eP 2, eP 3, eP 4, eP 5, eP 6, eP 7], guard := none }) rfl (fun K hK => ?_) AllReadyH.nil
      try go_simp
      try go_wp2_with fail
      refine hK.out _ _ ?_ fun hHeld => ?_
      · (try dsimp only); go_keep
      clear hK K
      try simp only [Act.put, zK]
      refine wpAnyH_done (by kernel_rfl) ?_ _
      go_wp2_with fail
      go_meet
      exact ⟨_, _, z2, zb, rfl, Lib.hid (KinAt.put (Y7.out.below (Below.refl _ _)) (((B2.out.trans (B5.out.mono B2.out.size)).trans (B4.out.mono (B2.out.trans (B5.out.mono B2.out.size)).size)).size) (((B2.out.trans (B5.out.mono B2.out.size)).trans (B4.out.mono (B2.out.trans (B5.out.mono B2.out.size)).size)).trans (B7.out.mono ((B2.out.trans (B5.out.mono B2.out.size)).trans (B4.out.mono (B2.out.trans (B5.out.mono B2.out.size)).size)).size)) ⟨(B7.out.block _ G4.out.2).trans G4.out.1, (HZ1.out.below (((B2.out.trans (B5.out.mono B2.out.size)).trans (B4.out.mono (B2.out.trans (B5.out.mono B2.out.size)).size)).trans (B7.out.mono ((B2.out.trans (B5.out.mono B2.out.size)).trans (B4.out.mono (B2.out.trans (B5.out.mono B2.out.size)).size)).size))), (Z2.out.below ((B5.out.trans (B4.out.mono B5.out.size)).trans (B7.out.mono (B5.out.trans (B4.out.mono B5.out.size)).size))), (Z5.out.below (B4.out.trans (B7.out.mono B4.out.size)))⟩)⟩
     ·
      skip
      try go_simp
      try go_wp2_with fail
      refine hK.out _ _ ?_ fun hHeld => ?_
      · (try dsimp only); go_keep
      clear hK K
      try simp only [Act.put, zK]
      have B7 : Hid (Below w5.heap.size w5 (w5.alloc (.cells #[.int .i64 0, .slice none 0 0, .bool false, .slice none 0 0, .slice none 0 0] 28))) := ((Below.refl _ _).alloc (Nat.le_refl _) _)
      have Y7 : Hid (C5 (w5.alloc (.cells #[.int .i64 0, .slice none 0 0, .bool false, .slice none 0 0, .slice none 0 0] 28)) w5.heap.size (.int .i64 0) (.slice none 0 0) (.bool false) (.slice none 0 0) (.slice none 0 0)) := C5.new w5 (.int .i64 0) (.slice none 0 0) (.bool false) (.slice none 0 0) (.slice none 0 0)
      generalize (w5.alloc (.cells #[.int .i64 0, .slice none 0 0, .bool false, .slice none 0 0, .slice none 0 0] 28)) = w7 at *
      clear x0 x1 x2
      obtain ⟨x0, x1, x2, _, _, _⟩ := HAL.out _ ((B2.out.trans (B5.out.mono B2.out.size)).trans (B7.out.mono (B2.out.trans (B5.out.mono B2.out.size)).size))
      refine wpAnyH_ready (rs := [4]) (by kernel_rfl) (by simp) ?_
      refine AllReadyH.cons (o := { dst := some 18, op := Op.buildSlice 23 2 #[(0, tmp 15), (1, tmp 17)], type := 23, pos := "law.go:43", after := #[eD 1, eD 3], guard := none }) rfl (fun K hK => ?_) AllReadyH.nil
      try go_simp
      try go_wp2_with fail
      refine hK.out _ _ ?_ fun hHeld => ?_
      · (try dsimp only); go_keep
      clear hK K
      try simp only [Act.put, zK]
      have B4 : Hid (Below w7.heap.size w7 (w7.alloc (.cells #[.int .i64 0, .bool z1.s, .slice z1.A z1.n z1.c, .slice z1.B z1.m z1.d, .int .i64 1, .bool z2.s, .slice z2.A z2.n z2.c, .slice z2.B z2.m z2.d] 50))) := ((Below.refl _ _).alloc (Nat.le_refl _) _)
      have G4 : Hid ((w7.alloc (.cells #[.int .i64 0, .bool z1.s, .slice z1.A z1.n z1.c, .slice z1.B z1.m z1.d, .int .i64 1, .bool z2.s, .slice z2.A z2.n z2.c, .slice z2.B z2.m z2.d] 50)).heap[w7.heap.size]? = some (.cells #[.int .i64 0, .bool z1.s, .slice z1.A z1.n z1.c, .slice z1.B z1.m z1.d, .int .i64 1, .bool z2.s, .slice z2.A z2.n z2.c, .slice z2.B z2.m z2.d] 50 (0, 0)) ∧ w7.heap.size < (w7.alloc (.cells #[.int .i64 0, .bool z1.s, .slice z1.A z1.n z1.c, .slice z1.B z1.m z1.d, .int .i64 1, .bool z2.s, .slice z2.A z2.n z2.c, .slice z2.B z2.m z2.d] 50)).heap.size) := ⟨heap_alloc_new w7 _, by simp⟩
      generalize (w7.alloc (.cells #[.int .i64 0, .bool z1.s, .slice z1.A z1.n z1.c, .slice z1.B z1.m z1.d, .int .i64 1, .bool z2.s, .slice z2.A z2.n z2.c, .slice z2.B z2.m z2.d] 50)) = w4 at *
      clear x0 x1 x2
      obtain ⟨x0, x1, x2, _, _, _⟩ := HAL.out _ (((B2.out.trans (B5.out.mono B2.out.size)).trans (B7.out.mono (B2.out.trans (B5.out.mono B2.out.size)).size)).trans (B4.out.mono ((B2.out.trans (B5.out.mono B2.out.size)).trans (B7.out.mono (B2.out.trans (B5.out.mono B2.out.size)).size)).size))
      have kY := Y7.out.below B4.out
      obtain ⟨y0, y1, y2, y3, y4⟩ := kY.facts
      obtain ⟨t0, t1, t2, t3, t4⟩ := kY.thaw
      clear kY
      have mA : ¬ X1 = w5.heap.size := by have := HXL.out; have := (B2.out.trans (B5.out.mono B2.out.size)).size; omega
      have mB : ¬ w5.heap.size = X1 := fun e => mA e.symm
      refine wpAnyH_take (i := 6) (oi := { dst := some 20, op := Op.build 28 #[(1, tmp 18), (2, tmp 19)], type := 28, pos := "law.go:43", after := #[eD 4, eD 5], guard := none }) (v := ?vq17x) rfl (by kernel_rfl) (by kernel_rfl) (by kernel_rfl) (fun _ _ _ => id) (Or.inl ⟨by rfl, ?hyq17x⟩) (by assumption) ?restq17x
      case hyq17x => intro w hSw; (try dsimp only at hSw); go_simp; all_goals (with_reducible rfl)
      try simp only [Act.put, zK]
      refine wpAnyH_ready (rs := [8]) (by kernel_rfl) (by simp) ?_
      refine AllReadyH.cons (o := { dst := none, op := Op.store 28 (tmp 3) (tmp 20), type := 0, pos := "law.go:43", after := #[eD 7, eD 6, eC 5, eP 0, eP 1, eP 2, eP 3, eP 4, eP 5, eP 6, eP 7], guard := none }) rfl (fun K hK => ?_) AllReadyH.nil
      try go_simp
      try go_wp2_with fail
      refine hK.out _ _ ?_ fun hHeld => ?_
      · (try dsimp only); go_keep
      clear hK K
      try simp only [Act.put, zK]
      refine wpAnyH_done (by kernel_rfl) ?_ _
      go_wp2_with fail
      go_meet
      exact ⟨_, _, z2, zb, rfl, Lib.hid (KinAt.put (Y7.out.below B4.out) ((B2.out.trans (B5.out.mono B2.out.size)).size) (((B2.out.trans (B5.out.mono B2.out.size)).trans (B7.out.mono (B2.out.trans (B5.out.mono B2.out.size)).size)).trans (B4.out.mono ((B2.out.trans (B5.out.mono B2.out.size)).trans (B7.out.mono (B2.out.trans (B5.out.mono B2.out.size)).size)).size)) ⟨((Below.refl _ _).block _ G4.out.2).trans G4.out.1, (HZ1.out.below (((B2.out.trans (B5.out.mono B2.out.size)).trans (B7.out.mono (B2.out.trans (B5.out.mono B2.out.size)).size)).trans (B4.out.mono ((B2.out.trans (B5.out.mono B2.out.size)).trans (B7.out.mono (B2.out.trans (B5.out.mono B2.out.size)).size)).size))), (Z2.out.below ((B5.out.trans (B7.out.mono B5.out.size)).trans (B4.out.mono (B5.out.trans (B7.out.mono B5.out.size)).size))), (Z5.out.below (B7.out.trans (B4.out.mono B7.out.size)))⟩)⟩
    ·
     skip
     try go_simp
     try go_wp2_with fail
     refine hK.out _ _ ?_ fun hHeld => ?_
     · (try dsimp only); go_keep
     clear hK K
     try simp only [Act.put, zK]
     have B7 : Hid (Below w2.heap.size w2 (w2.alloc (.cells #[.int .i64 0, .slice none 0 0, .bool false, .slice none 0 0, .slice none 0 0] 28))) := ((Below.refl _ _).alloc (Nat.le_refl _) _)
     have Y7 : Hid (C5 (w2.alloc (.cells #[.int .i64 0, .slice none 0 0, .bool false, .slice none 0 0, .slice none 0 0] 28)) w2.heap.size (.int .i64 0) (.slice none 0 0) (.bool false) (.slice none 0 0) (.slice none 0 0)) := C5.new w2 (.int .i64 0) (.slice none 0 0) (.bool false) (.slice none 0 0) (.slice none 0 0)
     generalize (w2.alloc (.cells #[.int .i64 0, .slice none 0 0, .bool false, .slice none 0 0, .slice none 0 0] 28)) = w7 at *
     clear x0 x1 x2
     obtain ⟨x0, x1, x2, _, _, _⟩ := HAL.out _ (B2.out.trans (B7.out.mono B2.out.size))
     refine wpAnyH_ready (rs := [4, 5]) (by kernel_rfl) (by simp) ?_
     refine AllReadyH.cons (o := { dst := some 18, op := Op.buildSlice 23 2 #[(0, tmp 15), (1, tmp 17)], type := 23, pos := "law.go:43", after := #[eD 1, eD 3], guard := none }) rfl (fun K hK => ?_) (AllReadyH.cons (o := { dst := some 19, op := Op.call { callee := Callee.value (Operand.func 26), args := #[Operand.const (Value.int IntKind.i64 (-1))], argTypes := #[3] }, type := 26, pos := "law.go:43", after := #[eC 2], guard := none }) rfl (fun K hK => ?_) AllReadyH.nil)
     ·
      skip
      try go_simp
      try go_wp2_with fail
      refine hK.out _ _ ?_ fun hHeld => ?_
      · (try dsimp only); go_keep
      clear hK K
      try simp only [Act.put, zK]
      have B4 : Hid (Below w7.heap.size w7 (w7.alloc (.cells #[.int .i64 0, .bool z1.s, .slice z1.A z1.n z1.c, .slice z1.B z1.m z1.d, .int .i64 1, .bool z2.s, .slice z2.A z2.n z2.c, .slice z2.B z2.m z2.d] 50))) := ((Below.refl _ _).alloc (Nat.le_refl _) _)
      have G4 : Hid ((w7.alloc (.cells #[.int .i64 0, .bool z1.s, .slice z1.A z1.n z1.c, .slice z1.B z1.m z1.d, .int .i64 1, .bool z2.s, .slice z2.A z2.n z2.c, .slice z2.B z2.m z2.d] 50)).heap[w7.heap.size]? = some (.cells #[.int .i64 0, .bool z1.s, .slice z1.A z1.n z1.c, .slice z1.B z1.m z1.d, .int .i64 1, .bool z2.s, .slice z2.A z2.n z2.c, .slice z2.B z2.m z2.d] 50 (0, 0)) ∧ w7.heap.size < (w7.alloc (.cells #[.int .i64 0, .bool z1.s, .slice z1.A z1.n z1.c, .slice z1.B z1.m z1.d, .int .i64 1, .bool z2.s, .slice z2.A z2.n z2.c, .slice z2.B z2.m z2.d] 50)).heap.size) := ⟨heap_alloc_new w7 _, by simp⟩
      generalize (w7.alloc (.cells #[.int .i64 0, .bool z1.s, .slice z1.A z1.n z1.c, .slice z1.B z1.m z1.d, .int .i64 1, .bool z2.s, .slice z2.A z2.n z2.c, .slice z2.B z2.m z2.d] 50)) = w4 at *
      clear x0 x1 x2
      obtain ⟨x0, x1, x2, _, _, _⟩ := HAL.out _ ((B2.out.trans (B7.out.mono B2.out.size)).trans (B4.out.mono (B2.out.trans (B7.out.mono B2.out.size)).size))
      refine wpAnyH_ready (rs := [5]) (by kernel_rfl) (by simp) ?_
      refine AllReadyH.cons (o := { dst := some 19, op := Op.call { callee := Callee.value (Operand.func 26), args := #[Operand.const (Value.int IntKind.i64 (-1))], argTypes := #[3] }, type := 26, pos := "law.go:43", after := #[eC 2], guard := none }) rfl (fun K hK => ?_) AllReadyH.nil
      try go_simp
      go_at_call 26
      refine (rInt_c (-1) _ (by omega)).mono ?_
      rintro e w5 ⟨zb, rfl, hz, hb⟩
      have Z5 := Lib.hid (hz.lower (Nat.zero_le _))
      have B5 := Lib.hid hb
      clear hz hb
      clear x0 x1 x2
      obtain ⟨x0, x1, x2, _, _, _⟩ := HAL.out _ (((B2.out.trans (B7.out.mono B2.out.size)).trans (B4.out.mono (B2.out.trans (B7.out.mono B2.out.size)).size)).trans (B5.out.mono ((B2.out.trans (B7.out.mono B2.out.size)).trans (B4.out.mono (B2.out.trans (B7.out.mono B2.out.size)).size)).size))
      have kY := Y7.out.below (B4.out.trans (B5.out.mono B4.out.size))
      obtain ⟨y0, y1, y2, y3, y4⟩ := kY.facts
      obtain ⟨t0, t1, t2, t3, t4⟩ := kY.thaw
      clear kY
      have mA : ¬ X1 = w2.heap.size := by have := HXL.out; have := B2.out.size; omega
      have mB : ¬ w2.heap.size = X1 := fun e => mA e.symm
      try go_wp2_with fail
      refine hK.out _ _ ?_ fun hHeld => ?_
      · (try dsimp only); go_keep
      clear hK K
      try simp only [Act.put, zK]
      refine wpAnyH_take (i := 6) (oi := { dst := some 20, op := Op.build 28 #[(1, tmp 18), (2, tmp 19)], type := 28, pos := "law.go:43", after := #[eD 4, eD 5], guard := none }) (v := ?vq18x) rfl (by kernel_rfl) (by kernel_rfl) (by kernel_rfl) (fun _ _ _ => id) (Or.inl ⟨by rfl, ?hyq18x⟩) (by assumption) ?restq18x
      case hyq18x => intro w hSw; (try dsimp only at hSw); go_simp; all_goals (with_reducible rfl)
      try simp only [Act.put, zK]
      refine wpAnyH_ready (rs := [8]) (by kernel_rfl) (by simp) ?_
      refine AllReadyH.cons (o := { dst := none, op := Op.store 28 (tmp 3) (tmp 20), type := 0, pos := "law.go:43", after := #[eD 7, eD 6, eC 5, eP 0, eP 1, eP 2, eP 3, eP 4, eP 5, eP 6, eP 7], guard := none }) rfl (fun K hK => ?_) AllReadyH.nil
      try go_simp
      try go_wp2_with fail
      refine hK.out _ _ ?_ fun hHeld => ?_
      · (try dsimp only); go_keep
      clear hK K
      try simp only [Act.put, zK]
      refine wpAnyH_done (by kernel_rfl) ?_ _
      go_wp2_with fail
      go_meet
      exact ⟨_, _, z2, zb, rfl, Lib.hid (KinAt.put (Y7.out.below (B4.out.trans (B5.out.mono B4.out.size))) (B2.out.size) (((B2.out.trans (B7.out.mono B2.out.size)).trans (B4.out.mono (B2.out.trans (B7.out.mono B2.out.size)).size)).trans (B5.out.mono ((B2.out.trans (B7.out.mono B2.out.size)).trans (B4.out.mono (B2.out.trans (B7.out.mono B2.out.size)).size)).size)) ⟨(B5.out.block _ G4.out.2).trans G4.out.1, (HZ1.out.below (((B2.out.trans (B7.out.mono B2.out.size)).trans (B4.out.mono (B2.out.trans (B7.out.mono B2.out.size)).size)).trans (B5.out.mono ((B2.out.trans (B7.out.mono B2.out.size)).trans (B4.out.mono (B2.out.trans (B7.out.mono B2.out.size)).size)).size))), (Z2.out.below ((B7.out.trans (B4.out.mono B7.out.size)).trans (B5.out.mono (B7.out.trans (B4.out.mono B7.out.size)).size))), (Z5.out.below (Below.refl _ _))⟩)⟩
     ·
      skip
      try go_simp
      go_at_call 26
      refine (rInt_c (-1) _ (by omega)).mono ?_
      rintro e w5 ⟨zb, rfl, hz, hb⟩
      have Z5 := Lib.hid (hz.lower (Nat.zero_le _))
      have B5 := Lib.hid hb
      clear hz hb
      clear x0 x1 x2
      obtain ⟨x0, x1, x2, _, _, _⟩ := HAL.out _ ((B2.out.trans (B7.out.mono B2.out.size)).trans (B5.out.mono (B2.out.trans (B7.out.mono B2.out.size)).size))
      try go_wp2_with fail
      refine hK.out _ _ ?_ fun hHeld => ?_
      · (try dsimp only); go_keep
      clear hK K
      try simp only [Act.put, zK]
      refine wpAnyH_ready (rs := [4]) (by kernel_rfl) (by simp) ?_
      refine AllReadyH.cons (o := { dst := some 18, op := Op.buildSlice 23 2 #[(0, tmp 15), (1, tmp 17)], type := 23, pos := "law.go:43", after := #[eD 1, eD 3], guard := none }) rfl (fun K hK => ?_) AllReadyH.nil
      try go_simp
      try go_wp2_with fail
      refine hK.out _ _ ?_ fun hHeld => ?_
      · (try dsimp only); go_keep
      clear hK K
      try simp only [Act.put, zK]
      have B4 : Hid (Below w5.heap.size w5 (w5.alloc (.cells #[.int .i64 0, .bool z1.s, .slice z1.A z1.n z1.c, .slice z1.B z1.m z1.d, .int .i64 1, .bool z2.s, .slice z2.A z2.n z2.c, .slice z2.B z2.m z2.d] 50))) := ((Below.refl _ _).alloc (Nat.le_refl _) _)
      have G4 : Hid ((w5.alloc (.cells #[.int .i64 0, .bool z1.s, .slice z1.A z1.n z1.c, .slice z1.B z1.m z1.d, .int .i64 1, .bool z2.s, .slice z2.A z2.n z2.c, .slice z2.B z2.m z2.d] 50)).heap[w5.heap.size]? = some (.cells #[.int .i64 0, .bool z1.s, .slice z1.A z1.n z1.c, .slice z1.B z1.m z1.d, .int .i64 1, .bool z2.s, .slice z2.A z2.n z2.c, .slice z2.B z2.m z2.d] 50 (0, 0)) ∧ w5.heap.size < (w5.alloc (.cells #[.int .i64 0, .bool z1.s, .slice z1.A z1.n z1.c, .slice z1.B z1.m z1.d, .int .i64 1, .bool z2.s, .slice z2.A z2.n z2.c, .slice z2.B z2.m z2.d] 50)).heap.size) := ⟨heap_alloc_new w5 _, by simp⟩
      generalize (w5.alloc (.cells #[.int .i64 0, .bool z1.s, .slice z1.A z1.n z1.c, .slice z1.B z1.m z1.d, .int .i64 1, .bool z2.s, .slice z2.A z2.n z2.c, .slice z2.B z2.m z2.d] 50)) = w4 at *
      clear x0 x1 x2
      obtain ⟨x0, x1, x2, _, _, _⟩ := HAL.out _ (((B2.out.trans (B7.out.mono B2.out.size)).trans (B5.out.mono (B2.out.trans (B7.out.mono B2.out.size)).size)).trans (B4.out.mono ((B2.out.trans (B7.out.mono B2.out.size)).trans (B5.out.mono (B2.out.trans (B7.out.mono B2.out.size)).size)).size))
      have kY := Y7.out.below (B5.out.trans (B4.out.mono B5.out.size))
      obtain ⟨y0, y1, y2, y3, y4⟩ := kY.facts
      obtain ⟨t0, t1, t2, t3, t4⟩ := kY.thaw
      clear kY
      have mA : ¬ X1 = w2.heap.size := by have := HXL.out; have := B2.out.size; omega
      have mB : ¬ w2.heap.size = X1 := fun e => mA e.symm
      refine wpAnyH_take (i := 6) (oi := { dst := some 20, op := Op.build 28 #[(1, tmp 18), (2, tmp 19)], type := 28, pos := "law.go:43", after := #[eD 4, eD 5], guard := none }) (v := ?vq19x) rfl (by kernel_rfl) (by kernel_rfl) (by kernel_rfl) (fun _ _ _ => id) (Or.inl ⟨by rfl, ?hyq19x⟩) (by assumption) ?restq19x
      case hyq19x => intro w hSw; (try dsimp only at hSw); go_simp; all_goals (with_reducible rfl)
      try simp only [Act.put, zK]
      refine wpAnyH_ready (rs := [8]) (by kernel_rfl) (by simp) ?_
      refine AllReadyH.cons (o := { dst := none, op := Op.store 28 (tmp 3) (tmp 20), type := 0, pos := "law.go:43", after := #[eD 7, eD 6, eC 5, eP 0, eP 1, eP 2, eP 3, eP 4, eP 5, eP 6, eP 7], guard := none }) rfl (fun K hK => ?_) AllReadyH.nil
      try go_simp
      try go_wp2_with fail
      refine hK.out _ _ ?_ fun hHeld => ?_
      · (try dsimp only); go_keep
      clear hK K
      try simp only [Act.put, zK]
      refine wpAnyH_done (by kernel_rfl) ?_ _
      go_wp2_with fail
      go_meet
      exact ⟨_, _, z2, zb, rfl, Lib.hid (KinAt.put (Y7.out.below (B5.out.trans (B4.out.mono B5.out.size))) (B2.out.size) (((B2.out.trans (B7.out.mono B2.out.size)).trans (B5.out.mono (B2.out.trans (B7.out.mono B2.out.size)).size)).trans (B4.out.mono ((B2.out.trans (B7.out.mono B2.out.size)).trans (B5.out.mono (B2.out.trans (B7.out.mono B2.out.size)).size)).size)) ⟨((Below.refl _ _).block _ G4.out.2).trans G4.out.1, (HZ1.out.below (((B2.out.trans (B7.out.mono B2.out.size)).trans (B5.out.mono (B2.out.trans (B7.out.mono B2.out.size)).size)).trans (B4.out.mono ((B2.out.trans (B7.out.mono B2.out.size)).trans (B5.out.mono (B2.out.trans (B7.out.mono B2.out.size)).size)).size))), (Z2.out.below ((B7.out.trans (B5.out.mono B7.out.size)).trans (B4.out.mono (B7.out.trans (B5.out.mono B7.out.size)).size))), (Z5.out.below B4.out)⟩)⟩
   ·
    skip
    try go_simp
    try go_wp2_with fail
    refine hK.out _ _ ?_ fun hHeld => ?_
    · (try dsimp only); go_keep
    clear hK K
    try simp only [Act.put, zK]
    have B7 : Hid (Below W3.heap.size W3 (W3.alloc (.cells #[.int .i64 0, .slice none 0 0, .bool false, .slice none 0 0, .slice none 0 0] 28)).drew) := ((Below.refl _ _).alloc (Nat.le_refl _) _).drew
    have Y7 : Hid (C5 (W3.alloc (.cells #[.int .i64 0, .slice none 0 0, .bool false, .slice none 0 0, .slice none 0 0] 28)).drew W3.heap.size (.int .i64 0) (.slice none 0 0) (.bool false) (.slice none 0 0) (.slice none 0 0)) := C5.new W3 (.int .i64 0) (.slice none 0 0) (.bool false) (.slice none 0 0) (.slice none 0 0)
    generalize (W3.alloc (.cells #[.int .i64 0, .slice none 0 0, .bool false, .slice none 0 0, .slice none 0 0] 28)).drew = w7 at *
    clear x0 x1 x2
    obtain ⟨x0, x1, x2, _, _, _⟩ := HAL.out _ B7.out
    refine wpAnyH_ready (rs := [2]) (by kernel_rfl) (by simp) ?_
    refine AllReadyH.cons (o := { dst := some 16, op := Op.call { callee := Callee.value (Operand.func 26), args := #[Operand.const (Value.int IntKind.i64 (-1))], argTypes := #[3] }, type := 26, pos := "law.go:43", after := #[], guard := none }) rfl (fun K hK => ?_) AllReadyH.nil
    try go_simp
    go_at_call 26
    refine (rInt_c (-1) _ (by omega)).mono ?_
    rintro e w2 ⟨z2, rfl, hz, hb⟩
    have Z2 := Lib.hid (hz.lower (Nat.zero_le _))
    have B2 := Lib.hid hb
    clear hz hb
    clear x0 x1 x2
    obtain ⟨x0, x1, x2, _, _, _⟩ := HAL.out _ (B7.out.trans (B2.out.mono B7.out.size))
    try go_wp2_with fail
    refine hK.out _ _ ?_ fun hHeld => ?_
    · (try dsimp only); go_keep
    clear hK K
    try simp only [Act.put, zK]
    refine wpAnyH_take (i := 3) (oi := { dst := some 17, op := Op.build 50 #[(0, Operand.const (Value.int IntKind.i64 1)), (1, tmp 16)], type := 50, pos := "law.go:43", after := #[eD 2], guard := none }) (v := ?vq20x) rfl (by kernel_rfl) (by kernel_rfl) (by kernel_rfl) (fun _ _ _ => id) (Or.inl ⟨by rfl, ?hyq20x⟩) (by assumption) ?restq20x
    case hyq20x => intro w hSw; (try dsimp only at hSw); go_simp; all_goals (with_reducible rfl)
    try simp only [Act.put, zK]
    refine wpAnyH_ready (rs := [4, 5]) (by kernel_rfl) (by simp) ?_
    refine AllReadyH.cons (o := { dst := some 18, op := Op.buildSlice 23 2 #[(0, tmp 15), (1, tmp 17)], type := 23, pos := "law.go:43", after := #[eD 1, eD 3], guard := none }) rfl (fun K hK => ?_) (AllReadyH.cons (o := { dst := some 19, op := Op.call { callee := Callee.value (Operand.func 26), args := #[Operand.const (Value.int IntKind.i64 (-1))], argTypes := #[3] }, type := 26, pos := "law.go:43", after := #[eC 2], guard := none }) rfl (fun K hK => ?_) AllReadyH.nil)
    ·
     skip
     try go_simp
     try go_wp2_with fail
     refine hK.out _ _ ?_ fun hHeld => ?_
     · (try dsimp only); go_keep
     clear hK K
     try simp only [Act.put, zK]
     have B4 : Hid (Below w2.heap.size w2 (w2.alloc (.cells #[.int .i64 0, .bool z1.s, .slice z1.A z1.n z1.c, .slice z1.B z1.m z1.d, .int .i64 1, .bool z2.s, .slice z2.A z2.n z2.c, .slice z2.B z2.m z2.d] 50))) := ((Below.refl _ _).alloc (Nat.le_refl _) _)
     have G4 : Hid ((w2.alloc (.cells #[.int .i64 0, .bool z1.s, .slice z1.A z1.n z1.c, .slice z1.B z1.m z1.d, .int .i64 1, .bool z2.s, .slice z2.A z2.n z2.c, .slice z2.B z2.m z2.d] 50)).heap[w2.heap.size]? = some (.cells #[.int .i64 0, .bool z1.s, .slice z1.A z1.n z1.c, .slice z1.B z1.m z1.d, .int .i64 1, .bool z2.s, .slice z2.A z2.n z2.c, .slice z2.B z2.m z2.d] 50 (0, 0)) ∧ w2.heap.size < (w2.alloc (.cells #[.int .i64 0, .bool z1.s, .slice z1.A z1.n z1.c, .slice z1.B z1.m z1.d, .int .i64 1, .bool z2.s, .slice z2.A z2.n z2.c, .slice z2.B z2.m z2.d] 50)).heap.size) := ⟨heap_alloc_new w2 _, by simp⟩
     generalize (w2.alloc (.cells #[.int .i64 0, .bool z1.s, .slice z1.A z1.n z1.c, .slice z1.B z1.m z1.d, .int .i64 1, .bool z2.s, .slice z2.A z2.n z2.c, .slice z2.B z2.m z2.d] 50)) = w4 at *
     clear x0 x1 x2
     obtain ⟨x0, x1, x2, _, _, _⟩ := HAL.out _ ((B7.out.trans (B2.out.mono B7.out.size)).trans (B4.out.mono (B7.out.trans (B2.out.mono B7.out.size)).size))
     refine wpAnyH_ready (rs := [5]) (by kernel_rfl) (by simp) ?_
     refine AllReadyH.cons (o := { dst := some 19, op := Op.call { callee := Callee.value (Operand.func 26), args := #[Operand.const (Value.int IntKind.i64 (-1))], argTypes := #[3] }, type := 26, pos := "law.go:43", after := #[eC 2], guard := none }) rfl (fun K hK => ?_) AllReadyH.nil
     try go_simp
     go_at_call 26
     refine (rInt_c (-1) _ (by omega)).mono ?_
     rintro e w5 ⟨zb, rfl, hz, hb⟩
     have Z5 := Lib.hid (hz.lower (Nat.zero_le _))
     have B5 := Lib.hid hb
     clear hz hb
     clear x0 x1 x2
     obtain ⟨x0, x1, x2, _, _, _⟩ := HAL.out _ (((B7.out.trans (B2.out.mono B7.out.size)).trans (B4.out.mono (B7.out.trans (B2.out.mono B7.out.size)).size)).trans (B5.out.mono ((B7.out.trans (B2.out.mono B7.out.size)).trans (B4.out.mono (B7.out.trans (B2.out.mono B7.out.size)).size)).size))
     have kY := Y7.out.below ((B2.out.trans (B4.out.mono B2.out.size)).trans (B5.out.mono (B2.out.trans (B4.out.mono B2.out.size)).size))
     obtain ⟨y0, y1, y2, y3, y4⟩ := kY.facts
     obtain ⟨t0, t1, t2, t3, t4⟩ := kY.thaw
     clear kY
     have mA : ¬ X1 = W3.heap.size := by have := HXL.out; omega
     have mB : ¬ W3.heap.size = X1 := fun e => mA e.symm
     try go_wp2_with fail
     refine hK.out _ _ ?_ fun hHeld => ?_
     · (try dsimp only); go_keep
     clear hK K
     try simp only [Act.put, zK]
     refine wpAnyH_take (i := 6) (oi := { dst := some 20, op := Op.build 28 #[(1, tmp 18), (2, tmp 19)], type := 28, pos := "law.go:43", after := #[eD 4, eD 5], guard := none }) (v := ?vq21x) rfl (by kernel_rfl) (by kernel_rfl) (by kernel_rfl) (fun _ _ _ => id) (Or.inl ⟨by rfl, ?hyq21x⟩) (by assumption) ?restq21x
     case hyq21x => intro w hSw; (try dsimp only at hSw); go_simp; all_goals (with_reducible rfl)
     try simp only [Act.put, zK]
     refine wpAnyH_ready (rs := [8]) (by kernel_rfl) (by simp) ?_
     refine AllReadyH.cons (o := { dst := none, op := Op.store 28 (tmp 3) (tmp 20), type := 0, pos := "law.go:43", after := #[eD 7, eD 6, eC 5, eP 0, eP 1, eP 2, eP 3, eP 4, eP 5, eP 6, eP 7], guard := none }) rfl (fun K hK => ?_) AllReadyH.nil
     try go_simp
     try go_wp2_with fail
     refine hK.out _ _ ?_ fun hHeld => ?_
     · (try dsimp only); go_keep
     clear hK K
     try simp only [Act.put, zK]
     refine wpAnyH_done (by kernel_rfl) ?_ _
     go_wp2_with fail
     go_meet
     exact ⟨_, _, z2, zb, rfl, Lib.hid (KinAt.put (Y7.out.below ((B2.out.trans (B4.out.mono B2.out.size)).trans (B5.out.mono (B2.out.trans (B4.out.mono B2.out.size)).size))) (Nat.le_refl _) (((B7.out.trans (B2.out.mono B7.out.size)).trans (B4.out.mono (B7.out.trans (B2.out.mono B7.out.size)).size)).trans (B5.out.mono ((B7.out.trans (B2.out.mono B7.out.size)).trans (B4.out.mono (B7.out.trans (B2.out.mono B7.out.size)).size)).size)) ⟨(B5.out.block _ G4.out.2).trans G4.out.1, (HZ1.out.below (((B7.out.trans (B2.out.mono B7.out.size)).trans (B4.out.mono (B7.out.trans (B2.out.mono B7.out.size)).size)).trans (B5.out.mono ((B7.out.trans (B2.out.mono B7.out.size)).trans (B4.out.mono (B7.out.trans (B2.out.mono B7.out.size)).size)).size))), (Z2.out.below (B4.out.trans (B5.out.mono B4.out.size))), (Z5.out.below (Below.refl _ _))⟩)⟩
    ·
     skip
     try go_simp
     go_at_call 26
     refine (rInt_c (-1) _ (by omega)).mono ?_
     rintro e w5 ⟨zb, rfl, hz, hb⟩
     have Z5 := Lib.hid (hz.lower (Nat.zero_le _))
     have B5 := Lib.hid hb
     clear hz hb
     clear x0 x1 x2
     obtain ⟨x0, x1, x2, _, _, _⟩ := HAL.out _ ((B7.out.trans (B2.out.mono B7.out.size)).trans (B5.out.mono (B7.out.trans (B2.out.mono B7.out.size)).size))
     try go_wp2_with fail
     refine hK.out _ _ ?_ fun hHeld => ?_
     · (try dsimp only); go_keep
     clear hK K
     try simp only [Act.put, zK]
     refine wpAnyH_ready (rs := [4]) (by kernel_rfl) (by simp) ?_
     refine AllReadyH.cons (o := { dst := some 18, op := Op.buildSlice 23 2 #[(0, tmp 15), (1, tmp 17)], type := 23, pos := "law.go:43", after := #[eD 1, eD 3], guard := none }) rfl (fun K hK => ?_) AllReadyH.nil
     try go_simp
     try go_wp2_with fail
     refine hK.out _ _ ?_ fun hHeld => ?_
     · (try dsimp only); go_keep
     clear hK K
     try simp only [Act.put, zK]
     have B4 : Hid (Below w5.heap.size w5 (w5.alloc (.cells #[.int .i64 0, .bool z1.s, .slice z1.A z1.n z1.c, .slice z1.B z1.m z1.d, .int .i64 1, .bool z2.s, .slice z2.A z2.n z2.c, .slice z2.B z2.m z2.d] 50))) := ((Below.refl _ _).alloc (Nat.le_refl _) _)
     have G4 : Hid ((w5.alloc (.cells #[.int .i64 0, .bool z1.s, .slice z1.A z1.n z1.c, .slice z1.B z1.m z1.d, .int .i64 1, .bool z2.s, .slice z2.A z2.n z2.c, .slice z2.B z2.m z2.d] 50)).heap[w5.heap.size]? = some (.cells #[.int .i64 0, .bool z1.s, .slice z1.A z1.n z1.c, .slice z1.B z1.m z1.d, .int .i64 1, .bool z2.s, .slice z2.A z2.n z2.c, .slice z2.B z2.m z2.d] 50 (0, 0)) ∧ w5.heap.size < (w5.alloc (.cells #[.int .i64 0, .bool z1.s, .slice z1.A z1.n z1.c, .slice z1.B z1.m z1.d, .int .i64 1, .bool z2.s, .slice z2.A z2.n z2.c, .slice z2.B z2.m z2.d] 50)).heap.size) := ⟨heap_alloc_new w5 _, by simp⟩
     generalize (w5.alloc (.cells #[.int .i64 0, .bool z1.s, .slice z1.A z1.n z1.c, .slice z1.B z1.m z1.d, .int .i64 1, .bool z2.s, .slice z2.A z2.n z2.c, .slice z2.B z2.m z2.d] 50)) = w4 at *
     clear x0 x1 x2
     obtain ⟨x0, x1, x2, _, _, _⟩ := HAL.out _ (((B7.out.trans (B2.out.mono B7.out.size)).trans (B5.out.mono (B7.out.trans (B2.out.mono B7.out.size)).size)).trans (B4.out.mono ((B7.out.trans (B2.out.mono B7.out.size)).trans (B5.out.mono (B7.out.trans (B2.out.mono B7.out.size)).size)).size))
     have kY := Y7.out.below ((B2.out.trans (B5.out.mono B2.out.size)).trans (B4.out.mono (B2.out.trans (B5.out.mono B2.out.size)).size))
     obtain ⟨y0, y1, y2, y3, y4⟩ := kY.facts
     obtain ⟨t0, t1, t2, t3, t4⟩ := kY.thaw
     clear kY
     have mA : ¬ X1 = W3.heap.size := by have := HXL.out; omega
     have mB : ¬ W3.heap.size = X1 := fun e => mA e.symm
     refine wpAnyH_take (i := 6) (oi := { dst := some 20, op := Op.build 28 #[(1, tmp 18), (2, tmp 19)], type := 28, pos := "law.go:43", after := #[eD 4, eD 5], guard := none }) (v := ?vq22x) rfl (by kernel_rfl) (by kernel_rfl) (by kernel_rfl) (fun _ _ _ => id) (Or.inl ⟨by rfl, ?hyq22x⟩) (by assumption) ?restq22x
     case hyq22x => intro w hSw; (try dsimp only at hSw); go_simp; all_goals (with_reducible rfl)
     try simp only [Act.put, zK]
     refine wpAnyH_ready (rs := [8]) (by kernel_rfl) (by simp) ?_
     refine AllReadyH.cons (o := { dst := none, op := Op.store 28 (tmp 3) (tmp 20), type := 0, pos := "law.go:43", after := #[eD 7, eD 6, eC 5, eP 0, eP 1, eP 2, eP 3, eP 4, eP 5, eP 6, eP 7], guard := none }) rfl (fun K hK => ?_) AllReadyH.nil
     try go_simp
     try go_wp2_with fail
     refine hK.out _ _ ?_ fun hHeld => ?_
     · (try dsimp only); go_keep
     clear hK K
     try simp only [Act.put, zK]
     refine wpAnyH_done (by kernel_rfl) ?_ _
     go_wp2_with fail
     go_meet
     exact ⟨_, _, z2, zb, rfl, Lib.hid (KinAt.put (Y7.out.below ((B2.out.trans (B5.out.mono B2.out.size)).trans (B4.out.mono (B2.out.trans (B5.out.mono B2.out.size)).size))) (Nat.le_refl _) (((B7.out.trans (B2.out.mono B7.out.size)).trans (B5.out.mono (B7.out.trans (B2.out.mono B7.out.size)).size)).trans (B4.out.mono ((B7.out.trans (B2.out.mono B7.out.size)).trans (B5.out.mono (B7.out.trans (B2.out.mono B7.out.size)).size)).size)) ⟨((Below.refl _ _).block _ G4.out.2).trans G4.out.1, (HZ1.out.below (((B7.out.trans (B2.out.mono B7.out.size)).trans (B5.out.mono (B7.out.trans (B2.out.mono B7.out.size)).size)).trans (B4.out.mono ((B7.out.trans (B2.out.mono B7.out.size)).trans (B5.out.mono (B7.out.trans (B2.out.mono B7.out.size)).size)).size))), (Z2.out.below (B5.out.trans (B4.out.mono B5.out.size))), (Z5.out.below B4.out)⟩)⟩
  case rest =>
   obtain ⟨Yb, Gb, z2, zb, rfl, HKB⟩ := hcut
   generalize wc = W5 at *
   clear x0 x1 x2 HAL HXL HZ1
   have HA3 := Lib.hid (HKA.out.later HKB.out.below)
   have HB5 : Hid (Below w.heap.size w W5) := HK3.out.2.trans (HKB.out.below.mono HK3.out.2.size)
   have HKN5 : Hid (Kn2 W5 Ga Gb z1 za z2 zb) := ⟨HA3.out.two, HKB.out.two⟩
   have HC5 : Hid (C5 W5 Ya (.int .i64 0) (.slice (some ⟨Ga, 0, none⟩) 2 2) (.bool za.s) (.slice za.A za.n za.c) (.slice za.B za.m za.d) ∧ C5 W5 Yb (.int .i64 0) (.slice (some ⟨Gb, 0, none⟩) 2 2) (.bool zb.s) (.slice zb.A zb.n zb.c) (.slice zb.B zb.m zb.d)) := ⟨HA3.out.cell, HKB.out.cell⟩
   clear HKA HKB HA3 HK1 HK3
   obtain ⟨a0, a1, a2, a3, a4⟩ := HC5.out.1.facts
   obtain ⟨b0, b1, b2, b3, b4⟩ := HC5.out.2.facts
   go_wp2_with fail
   have Gt : Hid ((W5.alloc (.cells #[.int .i64 0, .slice (some ⟨Ga, 0, none⟩) 2 2, .bool za.s, .slice za.A za.n za.c, .slice za.B za.m za.d, .int .i64 0, .slice (some ⟨Gb, 0, none⟩) 2 2, .bool zb.s, .slice zb.A zb.n zb.c, .slice zb.B zb.m zb.d] 28)).heap[W5.heap.size]? = some (.cells #[.int .i64 0, .slice (some ⟨Ga, 0, none⟩) 2 2, .bool za.s, .slice za.A za.n za.c, .slice za.B za.m za.d, .int .i64 0, .slice (some ⟨Gb, 0, none⟩) 2 2, .bool zb.s, .slice zb.A zb.n zb.c, .slice zb.B zb.m zb.d] 28 (0, 0))) := heap_alloc_new W5 _
   have Bt : Hid (Below W5.heap.size W5 (W5.alloc (.cells #[.int .i64 0, .slice (some ⟨Ga, 0, none⟩) 2 2, .bool za.s, .slice za.A za.n za.c, .slice za.B za.m za.d, .int .i64 0, .slice (some ⟨Gb, 0, none⟩) 2 2, .bool zb.s, .slice zb.A zb.n zb.c, .slice zb.B zb.m zb.d] 28))) := (Below.refl _ _).alloc (Nat.le_refl _) _
   generalize W5.alloc (.cells #[.int .i64 0, .slice (some ⟨Ga, 0, none⟩) 2 2, .bool za.s, .slice za.A za.n za.c, .slice za.B za.m za.d, .int .i64 0, .slice (some ⟨Gb, 0, none⟩) 2 2, .bool zb.s, .slice zb.A zb.n zb.c, .slice zb.B zb.m zb.d] 28) = wt at *
   refine (Fixed_c 2 0 2 1 (some ⟨W5.heap.size, 0, none⟩) 2 2 [kinA Ga za, kinB Gb zb] _ rfl ((HKN5.out.below Bt.out).kns (kons_two (va := (kinA Ga za).v) (vb := (kinB Gb zb).v) Gt.out) (by simp)) (by omega) room2).mono ?_
   rintro e w6 hf
   obtain ⟨z, rfl, hz, hb⟩ := known_fix hf
   have HW6 : Hid (Below W5.heap.size W5 (w6.alloc (.cells #[.bool z.s, .slice z.A z.n z.c, .slice z.B z.m z.d] 26)) ∧ C3 (w6.alloc (.cells #[.bool z.s, .slice z.A z.n z.c, .slice z.B z.m z.d] 26)) w6.heap.size (.bool z.s) (.slice z.A z.n z.c) (.slice z.B z.m z.d) ∧ Rw (w6.alloc (.cells #[.bool z.s, .slice z.A z.n z.c, .slice z.B z.m z.d] 26)) z ((2 : Int) : Rat) 1000000000) := by
    have b1 := Bt.out.trans (hb.mono Bt.out.size)
    exact ⟨b1.alloc b1.size _, C3.new w6 (.bool z.s) (.slice z.A z.n z.c) (.slice z.B z.m z.d), hz.alloc _⟩
   clear a0 a1 a2 a3 a4 b0 b1 b2 b3 b4 hf hz hb Gt Bt
   go_upto_region 5 with fail
   generalize w6.alloc (.cells #[.bool z.s, .slice z.A z.n z.c, .slice z.B z.m z.d] 26) = W6 at *
   obtain ⟨X4, hX4⟩ : ∃ X4, X4 = w6.heap.size := ⟨_, rfl⟩
   rw [← hX4] at HW6
   rw [← hX4]
   clear hX4
   have HV := Lib.hid HW6.out.2.2
   have HKN : Hid (Kn2 W6 Ga Gb z1 za z2 zb) := HKN5.out.below HW6.out.1
   have HB6 : Hid (Below w.heap.size w W6) := HB5.out.trans (HW6.out.1.mono HB5.out.size)
   have HA5 : Hid (∀ w', Below W6.heap.size W6 w' → (w'.cell? ⟨X4, 0, none⟩ = some (.bool z.s) ∧ w'.cell? ⟨X4, 1, none⟩ = some (.slice z.A z.n z.c) ∧ w'.cell? ⟨X4, 2, none⟩ = some (.slice z.B z.m z.d)) ∧ (w'.cell? ⟨Ya, 0, none⟩ = some (.int .i64 0) ∧ w'.cell? ⟨Ya, 1, none⟩ = some (.slice (some ⟨Ga, 0, none⟩) 2 2) ∧ w'.cell? ⟨Ya, 2, none⟩ = some (.bool za.s) ∧ w'.cell? ⟨Ya, 3, none⟩ = some (.slice za.A za.n za.c) ∧ w'.cell? ⟨Ya, 4, none⟩ = some (.slice za.B za.m za.d)) ∧ (w'.cell? ⟨Yb, 0, none⟩ = some (.int .i64 0) ∧ w'.cell? ⟨Yb, 1, none⟩ = some (.slice (some ⟨Gb, 0, none⟩) 2 2) ∧ w'.cell? ⟨Yb, 2, none⟩ = some (.bool zb.s) ∧ w'.cell? ⟨Yb, 3, none⟩ = some (.slice zb.A zb.n zb.c) ∧ w'.cell? ⟨Yb, 4, none⟩ = some (.slice zb.B zb.m zb.d))) := fun w' h => by
    obtain ⟨g0, g1, g2, _⟩ := (HW6.out.2.1.below h).facts
    exact ⟨⟨g0, g1, g2⟩, ((HC5.out.1.below HW6.out.1).below h).facts, ((HC5.out.2.below HW6.out.1).below h).facts⟩
   clear HC5 HKN5 HB5 HW6
   obtain ⟨⟨v0, v1, v2⟩, ⟨a0, a1, a2, a3, a4⟩, ⟨b0, b1, b2, b3, b4⟩⟩ := HA5.out _ (Below.refl _ _)
   refine wp_region_held_drew (S := fun w' => w'.cell? ⟨X4, 0, none⟩ = some (.bool z.s) ∧ w'.cell? ⟨X4, 1, none⟩ = some (.slice z.A z.n z.c) ∧ w'.cell? ⟨X4, 2, none⟩ = some (.slice z.B z.m z.d) ∧ w'.cell? ⟨Ya, 0, none⟩ = some (.int .i64 0) ∧ w'.cell? ⟨Ya, 1, none⟩ = some (.slice (some ⟨Ga, 0, none⟩) 2 2) ∧ w'.cell? ⟨Ya, 2, none⟩ = some (.bool za.s) ∧ w'.cell? ⟨Ya, 3, none⟩ = some (.slice za.A za.n za.c) ∧ w'.cell? ⟨Ya, 4, none⟩ = some (.slice za.B za.m za.d) ∧ w'.cell? ⟨Yb, 0, none⟩ = some (.int .i64 0) ∧ w'.cell? ⟨Yb, 1, none⟩ = some (.slice (some ⟨Gb, 0, none⟩) 2 2) ∧ w'.cell? ⟨Yb, 2, none⟩ = some (.bool zb.s) ∧ w'.cell? ⟨Yb, 3, none⟩ = some (.slice zb.A zb.n zb.c) ∧ w'.cell? ⟨Yb, 4, none⟩ = some (.slice zb.B zb.m zb.d)) (by kernel_rfl) ?_ (fun hHeld => ?_)
   ·
    (try dsimp only)
    go_keep
   refine wpAnyH_take (i := 0) (oi := { dst := some 28, op := Op.move (tmp 5), type := 4, pos := "law.go:45", after := #[], guard := none }) (v := ?vq23x) rfl (by kernel_rfl) (by kernel_rfl) (by kernel_rfl) (fun _ _ _ => id) (Or.inl ⟨by rfl, ?hyq23x⟩) (by assumption) ?restq23x
   case hyq23x => intro w hSw; (try dsimp only at hSw); go_simp; all_goals (with_reducible rfl)
   try simp only [Act.put, zK]
   refine wpAnyH_take (i := 1) (oi := { dst := some 29, op := Op.move (tmp 28), type := 4, pos := "law.go:45", after := #[eD 0], guard := none }) (v := ?vq24x) rfl (by kernel_rfl) (by kernel_rfl) (by kernel_rfl) (fun _ _ _ => id) (Or.inl ⟨by rfl, ?hyq24x⟩) (by assumption) ?restq24x
   case hyq24x => intro w hSw; (try dsimp only at hSw); go_simp; all_goals (with_reducible rfl)
   try simp only [Act.put, zK]
   refine wpAnyH_take (i := 2) (oi := { dst := some 30, op := Op.load 26 (tmp 4), type := 26, pos := "law.go:45", after := #[eG 1], guard := some (1, true) }) (v := ?vq25x) rfl (by kernel_rfl) (by kernel_rfl) (by kernel_rfl) (fun _ _ _ => id) (Or.inl ⟨by rfl, ?hyq25x⟩) (by assumption) ?restq25x
   case hyq25x => intro w hSw; (try dsimp only at hSw); go_simp; all_goals (with_reducible rfl)
   try simp only [Act.put, zK]
   refine wpAnyH_ready (rs := [3]) (by kernel_rfl) (by simp) ?_
   refine AllReadyH.cons (o := { dst := some 31, op := Op.call { callee := Callee.value (Operand.func 26), args := #[Operand.const (Value.int IntKind.i64 2)], argTypes := #[3] }, type := 26, pos := "law.go:45", after := #[eC 1, eG 1], guard := some (1, true) }) rfl (fun K hK => ?_) AllReadyH.nil
   try go_simp
   go_at_call 26
   refine (rInt_c 2 _ (by omega)).mono ?_
   rintro e wi ⟨zi, rfl, hz, hb⟩
   have Zi := Lib.hid (hz.lower (Nat.zero_le _))
   have Bi := Lib.hid ((bel1 W6).trans hb)
   clear hz hb
   clear v0 v1 v2 a0 a1 a2 a3 a4 b0 b1 b2 b3 b4
   obtain ⟨⟨v0, v1, v2⟩, ⟨a0, a1, a2, a3, a4⟩, ⟨b0, b1, b2, b3, b4⟩⟩ := HA5.out _ Bi.out
   try go_wp2_with fail
   refine hK.out _ _ ?_ fun hHeld => ?_
   · (try dsimp only); go_keep
   clear hK K
   try simp only [Act.put, zK]
   refine wpAnyH_ready (rs := [4]) (by kernel_rfl) (by simp) ?_
   refine AllReadyH.cons (o := { dst := some 32, op := Op.call { callee := Callee.value (Operand.func 19), args := #[tmp 30, tmp 31], argTypes := #[26, 26] }, type := 4, pos := "law.go:45", after := #[eD 2, eD 3, eC 3, eG 1], guard := some (1, true) }) rfl (fun K hK => ?_) AllReadyH.nil
   try go_simp
   go_at_call 19
   refine (rSame_c z zi ((2 : Int) : Rat) ((2 : Int) : Rat) _ ((HV.out.below Bi.out).more (by omega)) ((Zi.out.rw two_sz).more (by omega))).mono ?_
   rw [decide_eq_true rfl]
   rintro e ws ⟨rfl, hb⟩
   have Bs := Lib.hid (Bi.out.trans (hb.mono Bi.out.size))
   clear hb
   clear v0 v1 v2 a0 a1 a2 a3 a4 b0 b1 b2 b3 b4
   obtain ⟨⟨v0, v1, v2⟩, ⟨a0, a1, a2, a3, a4⟩, ⟨b0, b1, b2, b3, b4⟩⟩ := HA5.out _ Bs.out
   try go_wp2_with fail
   refine hK.out _ _ ?_ fun hHeld => ?_
   · (try dsimp only); go_keep
   clear hK K
   try simp only [Act.put, zK]
   refine wpAnyH_take (i := 5) (oi := { dst := some 33, op := Op.pick (tmp 29) (tmp 32) (Operand.const (Value.bool false)), type := 4, pos := "law.go:45", after := #[eD 1, eD 4], guard := none }) (v := ?vq26x) rfl (by kernel_rfl) (by kernel_rfl) (by kernel_rfl) (fun _ _ _ => id) (Or.inl ⟨by rfl, ?hyq26x⟩) (by assumption) ?restq26x
   case hyq26x => intro w hSw; (try dsimp only at hSw); go_simp; all_goals (with_reducible rfl)
   try simp only [Act.put, zK]
   refine wpAnyH_take (i := 6) (oi := { dst := some 34, op := Op.move (tmp 33), type := 4, pos := "law.go:45", after := #[eD 5, eC 4], guard := none }) (v := ?vq27x) rfl (by kernel_rfl) (by kernel_rfl) (by kernel_rfl) (fun _ _ _ => id) (Or.inl ⟨by rfl, ?hyq27x⟩) (by assumption) ?restq27x
   case hyq27x => intro w hSw; (try dsimp only at hSw); go_simp; all_goals (with_reducible rfl)
   try simp only [Act.put, zK]
   refine wpAnyH_take (i := 7) (oi := { dst := some 35, op := Op.load 28 (tmp 2), type := 28, pos := "law.go:45", after := #[eG 6], guard := some (6, true) }) (v := ?vq28x) rfl (by kernel_rfl) (by kernel_rfl) (by kernel_rfl) (fun _ _ _ => id) (Or.inl ⟨by rfl, ?hyq28x⟩) (by assumption) ?restq28x
   case hyq28x => intro w hSw; (try dsimp only at hSw); go_simp; all_goals (with_reducible rfl)
   try simp only [Act.put, zK]
   refine wpAnyH_take (i := 8) (oi := { dst := some 36, op := Op.load 28 (tmp 3), type := 28, pos := "law.go:45", after := #[eG 6], guard := some (6, true) }) (v := ?vq29x) rfl (by kernel_rfl) (by kernel_rfl) (by kernel_rfl) (fun _ _ _ => id) (Or.inl ⟨by rfl, ?hyq29x⟩) (by assumption) ?restq29x
   case hyq29x => intro w hSw; (try dsimp only at hSw); go_simp; all_goals (with_reducible rfl)
   try simp only [Act.put, zK]
   refine wpAnyH_take (i := 9) (oi := { dst := some 37, op := Op.load 28 (tmp 2), type := 28, pos := "law.go:45", after := #[eG 6], guard := some (6, true) }) (v := ?vq30x) rfl (by kernel_rfl) (by kernel_rfl) (by kernel_rfl) (fun _ _ _ => id) (Or.inl ⟨by rfl, ?hyq30x⟩) (by assumption) ?restq30x
   case hyq30x => intro w hSw; (try dsimp only at hSw); go_simp; all_goals (with_reducible rfl)
   try simp only [Act.put, zK]
   refine wpAnyH_ready (rs := [10]) (by kernel_rfl) (by simp) ?_
   refine AllReadyH.cons (o := { dst := some 38, op := Op.buildSlice 22 3 #[(0, tmp 35), (1, tmp 36), (2, tmp 37)], type := 22, pos := "law.go:45", after := #[eD 7, eD 8, eD 9, eG 6], guard := some (6, true) }) rfl (fun K hK => ?_) AllReadyH.nil
   try go_simp
   try go_wp2_with fail
   refine hK.out _ _ ?_ fun hHeld => ?_
   · (try dsimp only); go_keep
   clear hK K
   try simp only [Act.put, zK]
   have Gt : Hid ((ws.alloc (.cells #[.int .i64 0, .slice (some ⟨Ga, 0, none⟩) 2 2, .bool za.s, .slice za.A za.n za.c, .slice za.B za.m za.d, .int .i64 0, .slice (some ⟨Gb, 0, none⟩) 2 2, .bool zb.s, .slice zb.A zb.n zb.c, .slice zb.B zb.m zb.d, .int .i64 0, .slice (some ⟨Ga, 0, none⟩) 2 2, .bool za.s, .slice za.A za.n za.c, .slice za.B za.m za.d] 28)).heap[ws.heap.size]? = some (.cells #[.int .i64 0, .slice (some ⟨Ga, 0, none⟩) 2 2, .bool za.s, .slice za.A za.n za.c, .slice za.B za.m za.d, .int .i64 0, .slice (some ⟨Gb, 0, none⟩) 2 2, .bool zb.s, .slice zb.A zb.n zb.c, .slice zb.B zb.m zb.d, .int .i64 0, .slice (some ⟨Ga, 0, none⟩) 2 2, .bool za.s, .slice za.A za.n za.c, .slice za.B za.m za.d] 28 (0, 0))) := heap_alloc_new ws _
   have Bt : Hid (Below W6.heap.size W6 (ws.alloc (.cells #[.int .i64 0, .slice (some ⟨Ga, 0, none⟩) 2 2, .bool za.s, .slice za.A za.n za.c, .slice za.B za.m za.d, .int .i64 0, .slice (some ⟨Gb, 0, none⟩) 2 2, .bool zb.s, .slice zb.A zb.n zb.c, .slice zb.B zb.m zb.d, .int .i64 0, .slice (some ⟨Ga, 0, none⟩) 2 2, .bool za.s, .slice za.A za.n za.c, .slice za.B za.m za.d] 28))) := Bs.out.alloc Bs.out.size _
   generalize (ws.alloc (.cells #[.int .i64 0, .slice (some ⟨Ga, 0, none⟩) 2 2, .bool za.s, .slice za.A za.n za.c, .slice za.B za.m za.d, .int .i64 0, .slice (some ⟨Gb, 0, none⟩) 2 2, .bool zb.s, .slice zb.A zb.n zb.c, .slice zb.B zb.m zb.d, .int .i64 0, .slice (some ⟨Ga, 0, none⟩) 2 2, .bool za.s, .slice za.A za.n za.c, .slice za.B za.m za.d] 28)) = wt at *
   clear v0 v1 v2 a0 a1 a2 a3 a4 b0 b1 b2 b3 b4
   obtain ⟨⟨v0, v1, v2⟩, ⟨a0, a1, a2, a3, a4⟩, ⟨b0, b1, b2, b3, b4⟩⟩ := HA5.out _ Bt.out
   refine wpAnyH_ready (rs := [11]) (by kernel_rfl) (by simp) ?_
   refine AllReadyH.cons (o := { dst := some 39, op := Op.call { callee := Callee.value (Operand.func 15), args := #[tmp 38, Operand.const (Value.int IntKind.i64 2)], argTypes := #[22, 3] }, type := 3, pos := "law.go:45", after := #[eD 10, eC 6, eG 6], guard := some (6, true) }) rfl (fun K hK => ?_) AllReadyH.nil
   try go_simp
   go_at_call 15
   refine (Rank_c 2 2 1 (some ⟨ws.heap.size, 0, none⟩) 3 3 [kinA Ga za, kinB Gb zb, kinA Ga za] _ rfl ((HKN.out.below Bt.out).kns (kons_three (va := (kinA Ga za).v) (vb := (kinB Gb zb).v) (vc := (kinA Ga za).v) Gt.out) (by simp)) (by omega) room2).mono ?_
   rintro e wr hr
   obtain ⟨rfl, hb⟩ := known_rk hr
   have Br := Lib.hid (Bt.out.trans (hb.mono Bt.out.size))
   clear hb hr
   clear v0 v1 v2 a0 a1 a2 a3 a4 b0 b1 b2 b3 b4
   obtain ⟨⟨v0, v1, v2⟩, ⟨a0, a1, a2, a3, a4⟩, ⟨b0, b1, b2, b3, b4⟩⟩ := HA5.out _ Br.out
   try go_wp2_with fail
   refine hK.out _ _ ?_ fun hHeld => ?_
   · (try dsimp only); go_keep
   clear hK K
   try simp only [Act.put, zK]
   refine wpAnyH_take (i := 12) (oi := { dst := some 40, op := Op.binOp BinOp.eql 3 (tmp 39) (Operand.const (Value.int IntKind.i64 2)) 3, type := 4, pos := "law.go:45", after := #[eD 11, eG 6], guard := some (6, true) }) (v := ?vq31x) rfl (by kernel_rfl) (by kernel_rfl) (by kernel_rfl) (fun _ _ _ => id) (Or.inl ⟨by rfl, ?hyq31x⟩) (by assumption) ?restq31x
   case hyq31x => intro w hSw; (try dsimp only at hSw); go_simp; all_goals (with_reducible rfl)
   try simp only [Act.put, zK]
   refine wpAnyH_take (i := 13) (oi := { dst := some 41, op := Op.pick (tmp 34) (tmp 40) (Operand.const (Value.bool false)), type := 4, pos := "law.go:45", after := #[eD 6, eD 12], guard := none }) (v := ?vq32x) rfl (by kernel_rfl) (by kernel_rfl) (by kernel_rfl) (fun _ _ _ => id) (Or.inl ⟨by rfl, ?hyq32x⟩) (by assumption) ?restq32x
   case hyq32x => intro w hSw; (try dsimp only at hSw); go_simp; all_goals (with_reducible rfl)
   try simp only [Act.put, zK]
   refine wpAnyH_take (i := 14) (oi := { dst := some 0, op := Op.assign (tmp 41), type := 4, pos := "law.go:45", after := #[eD 13, eC 11, eP 0, eP 1, eP 2, eP 3, eP 4, eP 5, eP 6, eP 7, eP 8, eP 9, eP 10, eP 11, eP 12, eP 13], guard := none }) (v := ?vq33x) rfl (by kernel_rfl) (by kernel_rfl) (by kernel_rfl) (fun _ _ _ => id) (Or.inl ⟨by rfl, ?hyq33x⟩) (by assumption) ?restq33x
   case hyq33x => intro w hSw; (try dsimp only at hSw); go_simp; all_goals (with_reducible rfl)
   try simp only [Act.put, List.setIfInBounds_toArray, List.set_cons_zero]
   refine wpAnyH_done (by kernel_rfl) ?_ _
   go_wp2_with fail
   go_ret
   exact ⟨rfl, HB6.out.trans (Br.out.mono HB6.out.size)⟩
end Go.Proofs.YtkfkjdpkkagjgaaGreat
