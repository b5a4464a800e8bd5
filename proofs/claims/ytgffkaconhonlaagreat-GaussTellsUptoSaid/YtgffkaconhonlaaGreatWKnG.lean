/-
  What is known of two sums.
-/
import Derived.Test.YtgffkaconhonlaaGreatWKnA
import Derived.Test.YtgffkaconhonlaaGreatWGsJ
import Derived.Deep.Cut
import Derived.Test.YtgffkaconhonlaaGreatWRgn
namespace Go.Proofs.YtgffkaconhonlaaGreat
set_option maxRecDepth 20000
open Go.RowKit
theorem two_sz : Sz ((2 : Int) : Rat) 1 := ⟨show (2 : Nat) < 4294967296 ^ 1 by omega, show (1 : Nat) < 4294967296 ^ 1 by omega⟩
theorem room2 : Room 1 2 := by unfold Room; omega
set_option maxHeartbeats 25600000 in
theorem known10_c (w : World) : Calls Tryz.prog 24 #[] w fun e w' => e = .returned (.bool true) ∧ Below w.heap.size w w' := by
 go_enter Tryz.func24, Tryz.ntmps24
 go_wp2_with fail
 refine (rInt_c 1 _ (by omega)).mono ?_
 rintro e w1 ⟨z1, rfl, hz1, hb1⟩
 go_upto_region 2 with fail
 have HK1 : Hid (C3 (w1.alloc (.cells #[.bool z1.s, .slice z1.A z1.n z1.c, .slice z1.B z1.m z1.d] 26)) w1.heap.size (.bool z1.s) (.slice z1.A z1.n z1.c) (.slice z1.B z1.m z1.d) ∧ Below w.heap.size w (w1.alloc (.cells #[.bool z1.s, .slice z1.A z1.n z1.c, .slice z1.B z1.m z1.d] 26)) ∧ Rt (w1.alloc (.cells #[.bool z1.s, .slice z1.A z1.n z1.c, .slice z1.B z1.m z1.d] 26)) 0 z1 ((1 : Int) : Rat)) := ⟨C3.new w1 (.bool z1.s) (.slice z1.A z1.n z1.c) (.slice z1.B z1.m z1.d), hb1.alloc hb1.size _, (hz1.below ((Below.refl _ _).alloc (Nat.le_refl _) _)).lower (Nat.zero_le _)⟩
 clear hz1 hb1
 generalize w1.alloc (.cells #[.bool z1.s, .slice z1.A z1.n z1.c, .slice z1.B z1.m z1.d] 26) = W at *
 obtain ⟨X1, hX1⟩ : ∃ X1, X1 = w1.heap.size := ⟨_, rfl⟩
 rw [← hX1] at HK1
 rw [← hX1]
 clear hX1
 have HAL : Hid (∀ w', Below W.heap.size W w' → (w'.cell? ⟨X1, 0, none⟩ = some (.bool z1.s) ∧ w'.cell? ⟨X1, 1, none⟩ = some (.slice z1.A z1.n z1.c) ∧ w'.cell? ⟨X1, 2, none⟩ = some (.slice z1.B z1.m z1.d) ∧ w'.frozen? ⟨X1, 0, none⟩ = false ∧ w'.frozen? ⟨X1, 1, none⟩ = false ∧ w'.frozen? ⟨X1, 2, none⟩ = false)) := fun w' h => (HK1.out.1.below h).facts
 have HXL : Hid (X1 < W.heap.size) := HK1.out.1.lt
 have HZ1 := Lib.hid HK1.out.2.2
 obtain ⟨x0, x1, x2, _, _, _⟩ := HAL.out _ (Below.refl _ _)
 go_cut [2] from 7 (fun xv wx => ∃ (Y G : Nat) (za : Rv), xv = .pointer (some ⟨Y, 0, none⟩) ∧ Hid (KinAt W wx Y G z1 z1 za ((1 : Int) : Rat) ((1 : Int) : Rat) ((-3 : Int) : Rat)))
 case first =>
  refine wp_region_held_drew (S := fun w' => w'.cell? ⟨X1, 0, none⟩ = some (.bool z1.s) ∧ w'.cell? ⟨X1, 1, none⟩ = some (.slice z1.A z1.n z1.c) ∧ w'.cell? ⟨X1, 2, none⟩ = some (.slice z1.B z1.m z1.d)) (by kernel_rfl) ?_ (fun hHeld => ?_)
  ·
   (try dsimp only)
   go_keep
  refine tk (i := 0) (h := ?_)
  try simp only [zR]
  refine tk (i := 1) (h := ?_)
  try simp only [zR]
  refine tk (i := 2) (h := ?_)
  try simp only [zR]
  refine tk (i := 3) (h := ?_)
  try simp only [zR]
  refine tr [4, 5, 7] ?_
  refine tc (h := fun K hK => ?_) (hs := tc (h := fun K hK => ?_) (hs := tc (h := fun K hK => ?_) (hs := tn)))
  ·
   skip
   try go_simp
   try go_wp2_with fail
   refine hK.out _ _ ?_ (fun hHeld => ?_)
   · (try dsimp only); go_keep
   clear hK K
   try simp only [zR]
   have B4 : Hid (Below W.heap.size W (W.alloc (.cells #[.int .i64 0, .bool z1.s, .slice z1.A z1.n z1.c, .slice z1.B z1.m z1.d, .int .i64 1, .bool z1.s, .slice z1.A z1.n z1.c, .slice z1.B z1.m z1.d] 47)).drew) := ((Below.refl _ _).alloc (Nat.le_refl _) _).drew
   have G4 : Hid ((W.alloc (.cells #[.int .i64 0, .bool z1.s, .slice z1.A z1.n z1.c, .slice z1.B z1.m z1.d, .int .i64 1, .bool z1.s, .slice z1.A z1.n z1.c, .slice z1.B z1.m z1.d] 47)).drew.heap[W.heap.size]? = some (.cells #[.int .i64 0, .bool z1.s, .slice z1.A z1.n z1.c, .slice z1.B z1.m z1.d, .int .i64 1, .bool z1.s, .slice z1.A z1.n z1.c, .slice z1.B z1.m z1.d] 47 (0, 0)) ∧ W.heap.size < (W.alloc (.cells #[.int .i64 0, .bool z1.s, .slice z1.A z1.n z1.c, .slice z1.B z1.m z1.d, .int .i64 1, .bool z1.s, .slice z1.A z1.n z1.c, .slice z1.B z1.m z1.d] 47)).drew.heap.size) := ⟨heap_alloc_new W _, by simp⟩
   generalize (W.alloc (.cells #[.int .i64 0, .bool z1.s, .slice z1.A z1.n z1.c, .slice z1.B z1.m z1.d, .int .i64 1, .bool z1.s, .slice z1.A z1.n z1.c, .slice z1.B z1.m z1.d] 47)).drew = w4 at *
   clear x0 x1 x2
   obtain ⟨x0, x1, x2, _, _, _⟩ := HAL.out _ B4.out
   refine tr [5, 7] ?_
   refine tc (h := fun K hK => ?_) (hs := tc (h := fun K hK => ?_) (hs := tn))
   ·
    skip
    try go_simp
    go_at_call 28
    refine (rInt_c (-3) _ (by omega)).mono ?_
    rintro e w5 ⟨za, rfl, hz, hb⟩
    have Z5 := Lib.hid (hz.lower (Nat.zero_le _))
    have B5 := Lib.hid hb
    clear hz hb
    clear x0 x1 x2
    obtain ⟨x0, x1, x2, _, _, _⟩ := HAL.out _ (B4.out.trans (B5.out.mono B4.out.size))
    try go_wp2_with fail
    refine hK.out _ _ ?_ (fun hHeld => ?_)
    · (try dsimp only); go_keep
    clear hK K
    try simp only [zR]
    refine tk (i := 6) (h := ?_)
    try simp only [zR]
    refine tr [7] ?_
    refine tc (h := fun K hK => ?_) (hs := tn)
    try go_simp
    try go_wp2_with fail
    refine hK.out _ _ ?_ (fun hHeld => ?_)
    · (try dsimp only); go_keep
    clear hK K
    try simp only [zR]
    have B7 : Hid (Below w5.heap.size w5 (w5.alloc (.cells #[.int .i64 0, .slice none 0 0, .bool false, .slice none 0 0, .slice none 0 0] 28))) := ((Below.refl _ _).alloc (Nat.le_refl _) _)
    have Y7 : Hid (C5 (w5.alloc (.cells #[.int .i64 0, .slice none 0 0, .bool false, .slice none 0 0, .slice none 0 0] 28)) w5.heap.size (.int .i64 0) (.slice none 0 0) (.bool false) (.slice none 0 0) (.slice none 0 0)) := C5.new w5 (.int .i64 0) (.slice none 0 0) (.bool false) (.slice none 0 0) (.slice none 0 0)
    generalize (w5.alloc (.cells #[.int .i64 0, .slice none 0 0, .bool false, .slice none 0 0, .slice none 0 0] 28)) = w7 at *
    clear x0 x1 x2
    obtain ⟨x0, x1, x2, _, _, _⟩ := HAL.out _ ((B4.out.trans (B5.out.mono B4.out.size)).trans (B7.out.mono (B4.out.trans (B5.out.mono B4.out.size)).size))
    have kY := Y7.out.below (Below.refl _ _)
    obtain ⟨y0, y1, y2, y3, y4⟩ := kY.facts
    obtain ⟨t0, t1, t2, t3, t4⟩ := kY.thaw
    clear kY
    have mA : ¬ X1 = w5.heap.size := by have := HXL.out; have := (B4.out.trans (B5.out.mono B4.out.size)).size; omega
    have mB : ¬ w5.heap.size = X1 := fun e => mA e.symm
    refine tr [8] ?_
    refine tc (h := fun K hK => ?_) (hs := tn)
    try go_simp
    try go_wp2_with fail
    refine hK.out _ _ ?_ (fun hHeld => ?_)
    · (try dsimp only); go_keep
    clear hK K
    try simp only [zR]
    refine wpAnyH_done (by kernel_rfl) ?_ _
    go_wp2_with fail
    go_meet
    exact ⟨_, _, za, rfl, Lib.hid (KinAt.put (Y7.out.below (Below.refl _ _)) ((B4.out.trans (B5.out.mono B4.out.size)).size) ((B4.out.trans (B5.out.mono B4.out.size)).trans (B7.out.mono (B4.out.trans (B5.out.mono B4.out.size)).size)) ⟨((B5.out.trans (B7.out.mono B5.out.size)).block _ G4.out.2).trans G4.out.1, (HZ1.out.below ((B4.out.trans (B5.out.mono B4.out.size)).trans (B7.out.mono (B4.out.trans (B5.out.mono B4.out.size)).size))), (HZ1.out.below ((B4.out.trans (B5.out.mono B4.out.size)).trans (B7.out.mono (B4.out.trans (B5.out.mono B4.out.size)).size))), (Z5.out.below B7.out)⟩)⟩
   ·
    skip
    try go_simp
    try go_wp2_with fail
    refine hK.out _ _ ?_ (fun hHeld => ?_)
    · (try dsimp only); go_keep
    clear hK K
    try simp only [zR]
    have B7 : Hid (Below w4.heap.size w4 (w4.alloc (.cells #[.int .i64 0, .slice none 0 0, .bool false, .slice none 0 0, .slice none 0 0] 28))) := ((Below.refl _ _).alloc (Nat.le_refl _) _)
    have Y7 : Hid (C5 (w4.alloc (.cells #[.int .i64 0, .slice none 0 0, .bool false, .slice none 0 0, .slice none 0 0] 28)) w4.heap.size (.int .i64 0) (.slice none 0 0) (.bool false) (.slice none 0 0) (.slice none 0 0)) := C5.new w4 (.int .i64 0) (.slice none 0 0) (.bool false) (.slice none 0 0) (.slice none 0 0)
    generalize (w4.alloc (.cells #[.int .i64 0, .slice none 0 0, .bool false, .slice none 0 0, .slice none 0 0] 28)) = w7 at *
    clear x0 x1 x2
    obtain ⟨x0, x1, x2, _, _, _⟩ := HAL.out _ (B4.out.trans (B7.out.mono B4.out.size))
    refine tr [5] ?_
    refine tc (h := fun K hK => ?_) (hs := tn)
    try go_simp
    go_at_call 28
    refine (rInt_c (-3) _ (by omega)).mono ?_
    rintro e w5 ⟨za, rfl, hz, hb⟩
    have Z5 := Lib.hid (hz.lower (Nat.zero_le _))
    have B5 := Lib.hid hb
    clear hz hb
    clear x0 x1 x2
    obtain ⟨x0, x1, x2, _, _, _⟩ := HAL.out _ ((B4.out.trans (B7.out.mono B4.out.size)).trans (B5.out.mono (B4.out.trans (B7.out.mono B4.out.size)).size))
    have kY := Y7.out.below B5.out
    obtain ⟨y0, y1, y2, y3, y4⟩ := kY.facts
    obtain ⟨t0, t1, t2, t3, t4⟩ := kY.thaw
    clear kY
    have mA : ¬ X1 = w4.heap.size := by have := HXL.out; have := B4.out.size; omega
    have mB : ¬ w4.heap.size = X1 := fun e => mA e.symm
    try go_wp2_with fail
    refine hK.out _ _ ?_ (fun hHeld => ?_)
    · (try dsimp only); go_keep
    clear hK K
    try simp only [zR]
    refine tk (i := 6) (h := ?_)
    try simp only [zR]
    refine tr [8] ?_
    refine tc (h := fun K hK => ?_) (hs := tn)
    try go_simp
    try go_wp2_with fail
    refine hK.out _ _ ?_ (fun hHeld => ?_)
    · (try dsimp only); go_keep
    clear hK K
    try simp only [zR]
    refine wpAnyH_done (by kernel_rfl) ?_ _
    go_wp2_with fail
    go_meet
    exact ⟨_, _, za, rfl, Lib.hid (KinAt.put (Y7.out.below B5.out) (B4.out.size) ((B4.out.trans (B7.out.mono B4.out.size)).trans (B5.out.mono (B4.out.trans (B7.out.mono B4.out.size)).size)) ⟨((B7.out.trans (B5.out.mono B7.out.size)).block _ G4.out.2).trans G4.out.1, (HZ1.out.below ((B4.out.trans (B7.out.mono B4.out.size)).trans (B5.out.mono (B4.out.trans (B7.out.mono B4.out.size)).size))), (HZ1.out.below ((B4.out.trans (B7.out.mono B4.out.size)).trans (B5.out.mono (B4.out.trans (B7.out.mono B4.out.size)).size))), (Z5.out.below (Below.refl _ _))⟩)⟩
  ·
   skip
   try go_simp
   go_at_call 28
   refine (rInt_c (-3) _ (by omega)).mono ?_
   rintro e w5 ⟨za, rfl, hz, hb⟩
   have Z5 := Lib.hid (hz.lower (Nat.zero_le _))
   have B5 := Lib.hid ((bel1 W).trans hb)
   clear hz hb
   clear x0 x1 x2
   obtain ⟨x0, x1, x2, _, _, _⟩ := HAL.out _ B5.out
   try go_wp2_with fail
   refine hK.out _ _ ?_ (fun hHeld => ?_)
   · (try dsimp only); go_keep
   clear hK K
   try simp only [zR]
   refine tr [4, 7] ?_
   refine tc (h := fun K hK => ?_) (hs := tc (h := fun K hK => ?_) (hs := tn))
   ·
    skip
    try go_simp
    try go_wp2_with fail
    refine hK.out _ _ ?_ (fun hHeld => ?_)
    · (try dsimp only); go_keep
    clear hK K
    try simp only [zR]
    have B4 : Hid (Below w5.heap.size w5 (w5.alloc (.cells #[.int .i64 0, .bool z1.s, .slice z1.A z1.n z1.c, .slice z1.B z1.m z1.d, .int .i64 1, .bool z1.s, .slice z1.A z1.n z1.c, .slice z1.B z1.m z1.d] 47))) := ((Below.refl _ _).alloc (Nat.le_refl _) _)
    have G4 : Hid ((w5.alloc (.cells #[.int .i64 0, .bool z1.s, .slice z1.A z1.n z1.c, .slice z1.B z1.m z1.d, .int .i64 1, .bool z1.s, .slice z1.A z1.n z1.c, .slice z1.B z1.m z1.d] 47)).heap[w5.heap.size]? = some (.cells #[.int .i64 0, .bool z1.s, .slice z1.A z1.n z1.c, .slice z1.B z1.m z1.d, .int .i64 1, .bool z1.s, .slice z1.A z1.n z1.c, .slice z1.B z1.m z1.d] 47 (0, 0)) ∧ w5.heap.size < (w5.alloc (.cells #[.int .i64 0, .bool z1.s, .slice z1.A z1.n z1.c, .slice z1.B z1.m z1.d, .int .i64 1, .bool z1.s, .slice z1.A z1.n z1.c, .slice z1.B z1.m z1.d] 47)).heap.size) := ⟨heap_alloc_new w5 _, by simp⟩
    generalize (w5.alloc (.cells #[.int .i64 0, .bool z1.s, .slice z1.A z1.n z1.c, .slice z1.B z1.m z1.d, .int .i64 1, .bool z1.s, .slice z1.A z1.n z1.c, .slice z1.B z1.m z1.d] 47)) = w4 at *
    clear x0 x1 x2
    obtain ⟨x0, x1, x2, _, _, _⟩ := HAL.out _ (B5.out.trans (B4.out.mono B5.out.size))
    refine tk (i := 6) (h := ?_)
    try simp only [zR]
    refine tr [7] ?_
    refine tc (h := fun K hK => ?_) (hs := tn)
    try go_simp
    try go_wp2_with fail
    refine hK.out _ _ ?_ (fun hHeld => ?_)
    · (try dsimp only); go_keep
    clear hK K
    try simp only [zR]
    have B7 : Hid (Below w4.heap.size w4 (w4.alloc (.cells #[.int .i64 0, .slice none 0 0, .bool false, .slice none 0 0, .slice none 0 0] 28))) := ((Below.refl _ _).alloc (Nat.le_refl _) _)
    have Y7 : Hid (C5 (w4.alloc (.cells #[.int .i64 0, .slice none 0 0, .bool false, .slice none 0 0, .slice none 0 0] 28)) w4.heap.size (.int .i64 0) (.slice none 0 0) (.bool false) (.slice none 0 0) (.slice none 0 0)) := C5.new w4 (.int .i64 0) (.slice none 0 0) (.bool false) (.slice none 0 0) (.slice none 0 0)
    generalize (w4.alloc (.cells #[.int .i64 0, .slice none 0 0, .bool false, .slice none 0 0, .slice none 0 0] 28)) = w7 at *
    clear x0 x1 x2
    obtain ⟨x0, x1, x2, _, _, _⟩ := HAL.out _ ((B5.out.trans (B4.out.mono B5.out.size)).trans (B7.out.mono (B5.out.trans (B4.out.mono B5.out.size)).size))
    have kY := Y7.out.below (Below.refl _ _)
    obtain ⟨y0, y1, y2, y3, y4⟩ := kY.facts
    obtain ⟨t0, t1, t2, t3, t4⟩ := kY.thaw
    clear kY
    have mA : ¬ X1 = w4.heap.size := by have := HXL.out; have := (B5.out.trans (B4.out.mono B5.out.size)).size; omega
    have mB : ¬ w4.heap.size = X1 := fun e => mA e.symm
    refine tr [8] ?_
    refine tc (h := fun K hK => ?_) (hs := tn)
    try go_simp
    try go_wp2_with fail
    refine hK.out _ _ ?_ (fun hHeld => ?_)
    · (try dsimp only); go_keep
    clear hK K
    try simp only [zR]
    refine wpAnyH_done (by kernel_rfl) ?_ _
    go_wp2_with fail
    go_meet
    exact ⟨_, _, za, rfl, Lib.hid (KinAt.put (Y7.out.below (Below.refl _ _)) ((B5.out.trans (B4.out.mono B5.out.size)).size) ((B5.out.trans (B4.out.mono B5.out.size)).trans (B7.out.mono (B5.out.trans (B4.out.mono B5.out.size)).size)) ⟨(B7.out.block _ G4.out.2).trans G4.out.1, (HZ1.out.below ((B5.out.trans (B4.out.mono B5.out.size)).trans (B7.out.mono (B5.out.trans (B4.out.mono B5.out.size)).size))), (HZ1.out.below ((B5.out.trans (B4.out.mono B5.out.size)).trans (B7.out.mono (B5.out.trans (B4.out.mono B5.out.size)).size))), (Z5.out.below (B4.out.trans (B7.out.mono B4.out.size)))⟩)⟩
   ·
    skip
    try go_simp
    try go_wp2_with fail
    refine hK.out _ _ ?_ (fun hHeld => ?_)
    · (try dsimp only); go_keep
    clear hK K
    try simp only [zR]
    have B7 : Hid (Below w5.heap.size w5 (w5.alloc (.cells #[.int .i64 0, .slice none 0 0, .bool false, .slice none 0 0, .slice none 0 0] 28))) := ((Below.refl _ _).alloc (Nat.le_refl _) _)
    have Y7 : Hid (C5 (w5.alloc (.cells #[.int .i64 0, .slice none 0 0, .bool false, .slice none 0 0, .slice none 0 0] 28)) w5.heap.size (.int .i64 0) (.slice none 0 0) (.bool false) (.slice none 0 0) (.slice none 0 0)) := C5.new w5 (.int .i64 0) (.slice none 0 0) (.bool false) (.slice none 0 0) (.slice none 0 0)
    generalize (w5.alloc (.cells #[.int .i64 0, .slice none 0 0, .bool false, .slice none 0 0, .slice none 0 0] 28)) = w7 at *
    clear x0 x1 x2
    obtain ⟨x0, x1, x2, _, _, _⟩ := HAL.out _ (B5.out.trans (B7.out.mono B5.out.size))
    refine tr [4] ?_
    refine tc (h := fun K hK => ?_) (hs := tn)
    try go_simp
    try go_wp2_with fail
    refine hK.out _ _ ?_ (fun hHeld => ?_)
    · (try dsimp only); go_keep
    clear hK K
    try simp only [zR]
    have B4 : Hid (Below w7.heap.size w7 (w7.alloc (.cells #[.int .i64 0, .bool z1.s, .slice z1.A z1.n z1.c, .slice z1.B z1.m z1.d, .int .i64 1, .bool z1.s, .slice z1.A z1.n z1.c, .slice z1.B z1.m z1.d] 47))) := ((Below.refl _ _).alloc (Nat.le_refl _) _)
    have G4 : Hid ((w7.alloc (.cells #[.int .i64 0, .bool z1.s, .slice z1.A z1.n z1.c, .slice z1.B z1.m z1.d, .int .i64 1, .bool z1.s, .slice z1.A z1.n z1.c, .slice z1.B z1.m z1.d] 47)).heap[w7.heap.size]? = some (.cells #[.int .i64 0, .bool z1.s, .slice z1.A z1.n z1.c, .slice z1.B z1.m z1.d, .int .i64 1, .bool z1.s, .slice z1.A z1.n z1.c, .slice z1.B z1.m z1.d] 47 (0, 0)) ∧ w7.heap.size < (w7.alloc (.cells #[.int .i64 0, .bool z1.s, .slice z1.A z1.n z1.c, .slice z1.B z1.m z1.d, .int .i64 1, .bool z1.s, .slice z1.A z1.n z1.c, .slice z1.B z1.m z1.d] 47)).heap.size) := ⟨heap_alloc_new w7 _, by simp⟩
    generalize (w7.alloc (.cells #[.int .i64 0, .bool z1.s, .slice z1.A z1.n z1.c, .slice z1.B z1.m z1.d, .int .i64 1, .bool z1.s, .slice z1.A z1.n z1.c, .slice z1.B z1.m z1.d] 47)) = w4 at *
    clear x0 x1 x2
    obtain ⟨x0, x1, x2, _, _, _⟩ := HAL.out _ ((B5.out.trans (B7.out.mono B5.out.size)).trans (B4.out.mono (B5.out.trans (B7.out.mono B5.out.size)).size))
    have kY := Y7.out.below B4.out
    obtain ⟨y0, y1, y2, y3, y4⟩ := kY.facts
    obtain ⟨t0, t1, t2, t3, t4⟩ := kY.thaw
    clear kY
    have mA : ¬ X1 = w5.heap.size := by have := HXL.out; have := B5.out.size; omega
    have mB : ¬ w5.heap.size = X1 := fun e => mA e.symm
    refine tk (i := 6) (h := ?_)
    try simp only [zR]
    refine tr [8] ?_
    refine tc (h := fun K hK => ?_) (hs := tn)
    try go_simp
    try go_wp2_with fail
    refine hK.out _ _ ?_ (fun hHeld => ?_)
    · (try dsimp only); go_keep
    clear hK K
    try simp only [zR]
    refine wpAnyH_done (by kernel_rfl) ?_ _
    go_wp2_with fail
    go_meet
    exact ⟨_, _, za, rfl, Lib.hid (KinAt.put (Y7.out.below B4.out) (B5.out.size) ((B5.out.trans (B7.out.mono B5.out.size)).trans (B4.out.mono (B5.out.trans (B7.out.mono B5.out.size)).size)) ⟨((Below.refl _ _).block _ G4.out.2).trans G4.out.1, (HZ1.out.below ((B5.out.trans (B7.out.mono B5.out.size)).trans (B4.out.mono (B5.out.trans (B7.out.mono B5.out.size)).size))), (HZ1.out.below ((B5.out.trans (B7.out.mono B5.out.size)).trans (B4.out.mono (B5.out.trans (B7.out.mono B5.out.size)).size))), (Z5.out.below (B7.out.trans (B4.out.mono B7.out.size)))⟩)⟩
  ·
   skip
   try go_simp
   try go_wp2_with fail
   refine hK.out _ _ ?_ (fun hHeld => ?_)
   · (try dsimp only); go_keep
   clear hK K
   try simp only [zR]
   have B7 : Hid (Below W.heap.size W (W.alloc (.cells #[.int .i64 0, .slice none 0 0, .bool false, .slice none 0 0, .slice none 0 0] 28)).drew) := ((Below.refl _ _).alloc (Nat.le_refl _) _).drew
   have Y7 : Hid (C5 (W.alloc (.cells #[.int .i64 0, .slice none 0 0, .bool false, .slice none 0 0, .slice none 0 0] 28)).drew W.heap.size (.int .i64 0) (.slice none 0 0) (.bool false) (.slice none 0 0) (.slice none 0 0)) := C5.new W (.int .i64 0) (.slice none 0 0) (.bool false) (.slice none 0 0) (.slice none 0 0)
   generalize (W.alloc (.cells #[.int .i64 0, .slice none 0 0, .bool false, .slice none 0 0, .slice none 0 0] 28)).drew = w7 at *
   clear x0 x1 x2
   obtain ⟨x0, x1, x2, _, _, _⟩ := HAL.out _ B7.out
   refine tr [4, 5] ?_
   refine tc (h := fun K hK => ?_) (hs := tc (h := fun K hK => ?_) (hs := tn))
   ·
    skip
    try go_simp
    try go_wp2_with fail
    refine hK.out _ _ ?_ (fun hHeld => ?_)
    · (try dsimp only); go_keep
    clear hK K
    try simp only [zR]
    have B4 : Hid (Below w7.heap.size w7 (w7.alloc (.cells #[.int .i64 0, .bool z1.s, .slice z1.A z1.n z1.c, .slice z1.B z1.m z1.d, .int .i64 1, .bool z1.s, .slice z1.A z1.n z1.c, .slice z1.B z1.m z1.d] 47))) := ((Below.refl _ _).alloc (Nat.le_refl _) _)
    have G4 : Hid ((w7.alloc (.cells #[.int .i64 0, .bool z1.s, .slice z1.A z1.n z1.c, .slice z1.B z1.m z1.d, .int .i64 1, .bool z1.s, .slice z1.A z1.n z1.c, .slice z1.B z1.m z1.d] 47)).heap[w7.heap.size]? = some (.cells #[.int .i64 0, .bool z1.s, .slice z1.A z1.n z1.c, .slice z1.B z1.m z1.d, .int .i64 1, .bool z1.s, .slice z1.A z1.n z1.c, .slice z1.B z1.m z1.d] 47 (0, 0)) ∧ w7.heap.size < (w7.alloc (.cells #[.int .i64 0, .bool z1.s, .slice z1.A z1.n z1.c, .slice z1.B z1.m z1.d, .int .i64 1, .bool z1.s, .slice z1.A z1.n z1.c, .slice z1.B z1.m z1.d] 47)).heap.size) := ⟨heap_alloc_new w7 _, by simp⟩
    generalize (w7.alloc (.cells #[.int .i64 0, .bool z1.s, .slice z1.A z1.n z1.c, .slice z1.B z1.m z1.d, .int .i64 1, .bool z1.s, .slice z1.A z1.n z1.c, .slice z1.B z1.m z1.d] 47)) = w4 at *
    clear x0 x1 x2
    obtain ⟨x0, x1, x2, _, _, _⟩ := HAL.out _ (B7.out.trans (B4.out.mono B7.out.size))
    refine tr [5] ?_
    refine tc (h := fun K hK => ?_) (hs := tn)
    try go_simp
    go_at_call 28
    refine (rInt_c (-3) _ (by omega)).mono ?_
    rintro e w5 ⟨za, rfl, hz, hb⟩
    have Z5 := Lib.hid (hz.lower (Nat.zero_le _))
    have B5 := Lib.hid hb
    clear hz hb
    clear x0 x1 x2
    obtain ⟨x0, x1, x2, _, _, _⟩ := HAL.out _ ((B7.out.trans (B4.out.mono B7.out.size)).trans (B5.out.mono (B7.out.trans (B4.out.mono B7.out.size)).size))
    have kY := Y7.out.below (B4.out.trans (B5.out.mono B4.out.size))
    obtain ⟨y0, y1, y2, y3, y4⟩ := kY.facts
    obtain ⟨t0, t1, t2, t3, t4⟩ := kY.thaw
    clear kY
    have mA : ¬ X1 = W.heap.size := by have := HXL.out; omega
    have mB : ¬ W.heap.size = X1 := fun e => mA e.symm
    try go_wp2_with fail
    refine hK.out _ _ ?_ (fun hHeld => ?_)
    · (try dsimp only); go_keep
    clear hK K
    try simp only [zR]
    refine tk (i := 6) (h := ?_)
    try simp only [zR]
    refine tr [8] ?_
    refine tc (h := fun K hK => ?_) (hs := tn)
    try go_simp
    try go_wp2_with fail
    refine hK.out _ _ ?_ (fun hHeld => ?_)
    · (try dsimp only); go_keep
    clear hK K
    try simp only [zR]
    refine wpAnyH_done (by kernel_rfl) ?_ _
    go_wp2_with fail
    go_meet
    exact ⟨_, _, za, rfl, Lib.hid (KinAt.put (Y7.out.below (B4.out.trans (B5.out.mono B4.out.size))) (Nat.le_refl _) ((B7.out.trans (B4.out.mono B7.out.size)).trans (B5.out.mono (B7.out.trans (B4.out.mono B7.out.size)).size)) ⟨(B5.out.block _ G4.out.2).trans G4.out.1, (HZ1.out.below ((B7.out.trans (B4.out.mono B7.out.size)).trans (B5.out.mono (B7.out.trans (B4.out.mono B7.out.size)).size))), (HZ1.out.below ((B7.out.trans (B4.out.mono B7.out.size)).trans (B5.out.mono (B7.out.trans (B4.out.mono B7.out.size)).size))), (Z5.out.below (Below.refl _ _))⟩)⟩
   ·
    skip
    try go_simp
    go_at_call 28
    refine (rInt_c (-3) _ (by omega)).mono ?_
    rintro e w5 ⟨za, rfl, hz, hb⟩
    have Z5 := Lib.hid (hz.lower (Nat.zero_le _))
    have B5 := Lib.hid hb
    clear hz hb
    clear x0 x1 x2
    obtain ⟨x0, x1, x2, _, _, _⟩ := HAL.out _ (B7.out.trans (B5.out.mono B7.out.size))
    try go_wp2_with fail
    refine hK.out _ _ ?_ (fun hHeld => ?_)
    · (try dsimp only); go_keep
    clear hK K
    try simp only [zR]
    refine tr [4] ?_
    refine tc (h := fun K hK => ?_) (hs := tn)
    try go_simp
    try go_wp2_with fail
    refine hK.out _ _ ?_ (fun hHeld => ?_)
    · (try dsimp only); go_keep
    clear hK K
    try simp only [zR]
    have B4 : Hid (Below w5.heap.size w5 (w5.alloc (.cells #[.int .i64 0, .bool z1.s, .slice z1.A z1.n z1.c, .slice z1.B z1.m z1.d, .int .i64 1, .bool z1.s, .slice z1.A z1.n z1.c, .slice z1.B z1.m z1.d] 47))) := ((Below.refl _ _).alloc (Nat.le_refl _) _)
    have G4 : Hid ((w5.alloc (.cells #[.int .i64 0, .bool z1.s, .slice z1.A z1.n z1.c, .slice z1.B z1.m z1.d, .int .i64 1, .bool z1.s, .slice z1.A z1.n z1.c, .slice z1.B z1.m z1.d] 47)).heap[w5.heap.size]? = some (.cells #[.int .i64 0, .bool z1.s, .slice z1.A z1.n z1.c, .slice z1.B z1.m z1.d, .int .i64 1, .bool z1.s, .slice z1.A z1.n z1.c, .slice z1.B z1.m z1.d] 47 (0, 0)) ∧ w5.heap.size < (w5.alloc (.cells #[.int .i64 0, .bool z1.s, .slice z1.A z1.n z1.c, .slice z1.B z1.m z1.d, .int .i64 1, .bool z1.s, .slice z1.A z1.n z1.c, .slice z1.B z1.m z1.d] 47)).heap.size) := ⟨heap_alloc_new w5 _, by simp⟩
    generalize (w5.alloc (.cells #[.int .i64 0, .bool z1.s, .slice z1.A z1.n z1.c, .slice z1.B z1.m z1.d, .int .i64 1, .bool z1.s, .slice z1.A z1.n z1.c, .slice z1.B z1.m z1.d] 47)) = w4 at *
    clear x0 x1 x2
    obtain ⟨x0, x1, x2, _, _, _⟩ := HAL.out _ ((B7.out.trans (B5.out.mono B7.out.size)).trans (B4.out.mono (B7.out.trans (B5.out.mono B7.out.size)).size))
    have kY := Y7.out.below (B5.out.trans (B4.out.mono B5.out.size))
    obtain ⟨y0, y1, y2, y3, y4⟩ := kY.facts
    obtain ⟨t0, t1, t2, t3, t4⟩ := kY.thaw
    clear kY
    have mA : ¬ X1 = W.heap.size := by have := HXL.out; omega
    have mB : ¬ W.heap.size = X1 := fun e => mA e.symm
    refine tk (i := 6) (h := ?_)
    try simp only [zR]
    refine tr [8] ?_
    refine tc (h := fun K hK => ?_) (hs := tn)
    try go_simp
    try go_wp2_with fail
    refine hK.out _ _ ?_ (fun hHeld => ?_)
    · (try dsimp only); go_keep
    clear hK K
    try simp only [zR]
    refine wpAnyH_done (by kernel_rfl) ?_ _
    go_wp2_with fail
    go_meet
    exact ⟨_, _, za, rfl, Lib.hid (KinAt.put (Y7.out.below (B5.out.trans (B4.out.mono B5.out.size))) (Nat.le_refl _) ((B7.out.trans (B5.out.mono B7.out.size)).trans (B4.out.mono (B7.out.trans (B5.out.mono B7.out.size)).size)) ⟨((Below.refl _ _).block _ G4.out.2).trans G4.out.1, (HZ1.out.below ((B7.out.trans (B5.out.mono B7.out.size)).trans (B4.out.mono (B7.out.trans (B5.out.mono B7.out.size)).size))), (HZ1.out.below ((B7.out.trans (B5.out.mono B7.out.size)).trans (B4.out.mono (B7.out.trans (B5.out.mono B7.out.size)).size))), (Z5.out.below B4.out)⟩)⟩
 case rest =>
  obtain ⟨Ya, Ga, za, rfl, HKA⟩ := hcut
  generalize wc = W3 at *
  clear x0 x1 x2 HAL HXL HZ1
  go_upto_region 3 with fail
  have HK3 : Hid (C3 W3 X1 (.bool z1.s) (.slice z1.A z1.n z1.c) (.slice z1.B z1.m z1.d) ∧ Below w.heap.size w W3) := ⟨HK1.out.1.below HKA.out.below, HK1.out.2.1.trans (HKA.out.below.mono HK1.out.2.1.size)⟩
  have HZ1 := Lib.hid (HK1.out.2.2.below HKA.out.below)
  have HAL : Hid (∀ w', Below W3.heap.size W3 w' → (w'.cell? ⟨X1, 0, none⟩ = some (.bool z1.s) ∧ w'.cell? ⟨X1, 1, none⟩ = some (.slice z1.A z1.n z1.c) ∧ w'.cell? ⟨X1, 2, none⟩ = some (.slice z1.B z1.m z1.d) ∧ w'.frozen? ⟨X1, 0, none⟩ = false ∧ w'.frozen? ⟨X1, 1, none⟩ = false ∧ w'.frozen? ⟨X1, 2, none⟩ = false)) := fun w' h => (HK3.out.1.below h).facts
  have HXL : Hid (X1 < W3.heap.size) := HK3.out.1.lt
  obtain ⟨x0, x1, x2, _, _, _⟩ := HAL.out _ (Below.refl _ _)
  go_cut [3] from 14 (fun xv wx => ∃ (Y G : Nat) (z2 zb : Rv), xv = .pointer (some ⟨Y, 0, none⟩) ∧ Hid (KinAt W3 wx Y G z1 z2 zb ((1 : Int) : Rat) ((-1 : Int) : Rat) ((-1 : Int) : Rat)))
  case first =>
   refine wp_region_held_drew (S := fun w' => w'.cell? ⟨X1, 0, none⟩ = some (.bool z1.s) ∧ w'.cell? ⟨X1, 1, none⟩ = some (.slice z1.A z1.n z1.c) ∧ w'.cell? ⟨X1, 2, none⟩ = some (.slice z1.B z1.m z1.d)) (by kernel_rfl) ?_ (fun hHeld => ?_)
   ·
    (try dsimp only)
    go_keep
   refine tk (i := 0) (h := ?_)
   try simp only [zR]
   refine tk (i := 1) (h := ?_)
   try simp only [zR]
   refine tr [2, 7] ?_
   refine tc (h := fun K hK => ?_) (hs := tc (h := fun K hK => ?_) (hs := tn))
   ·
    skip
    try go_simp
    go_at_call 28
    refine (rInt_c (-1) _ (by omega)).mono ?_
    rintro e w2 ⟨z2, rfl, hz, hb⟩
    have Z2 := Lib.hid (hz.lower (Nat.zero_le _))
    have B2 := Lib.hid ((bel1 W3).trans hb)
    clear hz hb
    clear x0 x1 x2
    obtain ⟨x0, x1, x2, _, _, _⟩ := HAL.out _ B2.out
    try go_wp2_with fail
    refine hK.out _ _ ?_ (fun hHeld => ?_)
    · (try dsimp only); go_keep
    clear hK K
    try simp only [zR]
    refine tk (i := 3) (h := ?_)
    try simp only [zR]
    refine tr [4, 5, 7] ?_
    refine tc (h := fun K hK => ?_) (hs := tc (h := fun K hK => ?_) (hs := tc (h := fun K hK => ?_) (hs := tn)))
    ·
     skip
     try go_simp
     try go_wp2_with fail
     refine hK.out _ _ ?_ (fun hHeld => ?_)
     · (try dsimp only); go_keep
     clear hK K
     try simp only [zR]
     have B4 : Hid (Below w2.heap.size w2 (w2.alloc (.cells #[.int .i64 0, .bool z1.s, .slice z1.A z1.n z1.c, .slice z1.B z1.m z1.d, .int .i64 1, .bool z2.s, .slice z2.A z2.n z2.c, .slice z2.B z2.m z2.d] 47))) := ((Below.refl _ _).alloc (Nat.le_refl _) _)
     have G4 : Hid ((w2.alloc (.cells #[.int .i64 0, .bool z1.s, .slice z1.A z1.n z1.c, .slice z1.B z1.m z1.d, .int .i64 1, .bool z2.s, .slice z2.A z2.n z2.c, .slice z2.B z2.m z2.d] 47)).heap[w2.heap.size]? = some (.cells #[.int .i64 0, .bool z1.s, .slice z1.A z1.n z1.c, .slice z1.B z1.m z1.d, .int .i64 1, .bool z2.s, .slice z2.A z2.n z2.c, .slice z2.B z2.m z2.d] 47 (0, 0)) ∧ w2.heap.size < (w2.alloc (.cells #[.int .i64 0, .bool z1.s, .slice z1.A z1.n z1.c, .slice z1.B z1.m z1.d, .int .i64 1, .bool z2.s, .slice z2.A z2.n z2.c, .slice z2.B z2.m z2.d] 47)).heap.size) := ⟨heap_alloc_new w2 _, by simp⟩
     generalize (w2.alloc (.cells #[.int .i64 0, .bool z1.s, .slice z1.A z1.n z1.c, .slice z1.B z1.m z1.d, .int .i64 1, .bool z2.s, .slice z2.A z2.n z2.c, .slice z2.B z2.m z2.d] 47)) = w4 at *
     clear x0 x1 x2
     obtain ⟨x0, x1, x2, _, _, _⟩ := HAL.out _ (B2.out.trans (B4.out.mono B2.out.size))
     refine tr [5, 7] ?_
     refine tc (h := fun K hK => ?_) (hs := tc (h := fun K hK => ?_) (hs := tn))
     ·
      skip
      try go_simp
      go_at_call 28
      refine (rInt_c (-1) _ (by omega)).mono ?_
      rintro e w5 ⟨zb, rfl, hz, hb⟩
      have Z5 := Lib.hid (hz.lower (Nat.zero_le _))
      have B5 := Lib.hid hb
      clear hz hb
      clear x0 x1 x2
      obtain ⟨x0, x1, x2, _, _, _⟩ := HAL.out _ ((B2.out.trans (B4.out.mono B2.out.size)).trans (B5.out.mono (B2.out.trans (B4.out.mono B2.out.size)).size))
      try go_wp2_with fail
      refine hK.out _ _ ?_ (fun hHeld => ?_)
      · (try dsimp only); go_keep
      clear hK K
      try simp only [zR]
      refine tk (i := 6) (h := ?_)
      try simp only [zR]
      refine tr [7] ?_
      refine tc (h := fun K hK => ?_) (hs := tn)
      try go_simp
      try go_wp2_with fail
      refine hK.out _ _ ?_ (fun hHeld => ?_)
      · (try dsimp only); go_keep
      clear hK K
      try simp only [zR]
      have B7 : Hid (Below w5.heap.size w5 (w5.alloc (.cells #[.int .i64 0, .slice none 0 0, .bool false, .slice none 0 0, .slice none 0 0] 28))) := ((Below.refl _ _).alloc (Nat.le_refl _) _)
      have Y7 : Hid (C5 (w5.alloc (.cells #[.int .i64 0, .slice none 0 0, .bool false, .slice none 0 0, .slice none 0 0] 28)) w5.heap.size (.int .i64 0) (.slice none 0 0) (.bool false) (.slice none 0 0) (.slice none 0 0)) := C5.new w5 (.int .i64 0) (.slice none 0 0) (.bool false) (.slice none 0 0) (.slice none 0 0)
      generalize (w5.alloc (.cells #[.int .i64 0, .slice none 0 0, .bool false, .slice none 0 0, .slice none 0 0] 28)) = w7 at *
      clear x0 x1 x2
      obtain ⟨x0, x1, x2, _, _, _⟩ := HAL.out _ (((B2.out.trans (B4.out.mono B2.out.size)).trans (B5.out.mono (B2.out.trans (B4.out.mono B2.out.size)).size)).trans (B7.out.mono ((B2.out.trans (B4.out.mono B2.out.size)).trans (B5.out.mono (B2.out.trans (B4.out.mono B2.out.size)).size)).size))
      have kY := Y7.out.below (Below.refl _ _)
      obtain ⟨y0, y1, y2, y3, y4⟩ := kY.facts
      obtain ⟨t0, t1, t2, t3, t4⟩ := kY.thaw
      clear kY
      have mA : ¬ X1 = w5.heap.size := by have := HXL.out; have := ((B2.out.trans (B4.out.mono B2.out.size)).trans (B5.out.mono (B2.out.trans (B4.out.mono B2.out.size)).size)).size; omega
      have mB : ¬ w5.heap.size = X1 := fun e => mA e.symm
      refine tr [8] ?_
      refine tc (h := fun K hK => ?_) (hs := tn)
      try go_simp
      try go_wp2_with fail
      refine hK.out _ _ ?_ (fun hHeld => ?_)
      · (try dsimp only); go_keep
      clear hK K
      try simp only [zR]
      refine wpAnyH_done (by kernel_rfl) ?_ _
      go_wp2_with fail
      go_meet
      exact ⟨_, _, z2, zb, rfl, Lib.hid (KinAt.put (Y7.out.below (Below.refl _ _)) (((B2.out.trans (B4.out.mono B2.out.size)).trans (B5.out.mono (B2.out.trans (B4.out.mono B2.out.size)).size)).size) (((B2.out.trans (B4.out.mono B2.out.size)).trans (B5.out.mono (B2.out.trans (B4.out.mono B2.out.size)).size)).trans (B7.out.mono ((B2.out.trans (B4.out.mono B2.out.size)).trans (B5.out.mono (B2.out.trans (B4.out.mono B2.out.size)).size)).size)) ⟨((B5.out.trans (B7.out.mono B5.out.size)).block _ G4.out.2).trans G4.out.1, (HZ1.out.below (((B2.out.trans (B4.out.mono B2.out.size)).trans (B5.out.mono (B2.out.trans (B4.out.mono B2.out.size)).size)).trans (B7.out.mono ((B2.out.trans (B4.out.mono B2.out.size)).trans (B5.out.mono (B2.out.trans (B4.out.mono B2.out.size)).size)).size))), (Z2.out.below ((B4.out.trans (B5.out.mono B4.out.size)).trans (B7.out.mono (B4.out.trans (B5.out.mono B4.out.size)).size))), (Z5.out.below B7.out)⟩)⟩
     ·
      skip
      try go_simp
      try go_wp2_with fail
      refine hK.out _ _ ?_ (fun hHeld => ?_)
      · (try dsimp only); go_keep
      clear hK K
      try simp only [zR]
      have B7 : Hid (Below w4.heap.size w4 (w4.alloc (.cells #[.int .i64 0, .slice none 0 0, .bool false, .slice none 0 0, .slice none 0 0] 28))) := ((Below.refl _ _).alloc (Nat.le_refl _) _)
      have Y7 : Hid (C5 (w4.alloc (.cells #[.int .i64 0, .slice none 0 0, .bool false, .slice none 0 0, .slice none 0 0] 28)) w4.heap.size (.int .i64 0) (.slice none 0 0) (.bool false) (.slice none 0 0) (.slice none 0 0)) := C5.new w4 (.int .i64 0) (.slice none 0 0) (.bool false) (.slice none 0 0) (.slice none 0 0)
      generalize (w4.alloc (.cells #[.int .i64 0, .slice none 0 0, .bool false, .slice none 0 0, .slice none 0 0] 28)) = w7 at *
      clear x0 x1 x2
      obtain ⟨x0, x1, x2, _, _, _⟩ := HAL.out _ ((B2.out.trans (B4.out.mono B2.out.size)).trans (B7.out.mono (B2.out.trans (B4.out.mono B2.out.size)).size))
      refine tr [5] ?_
      refine tc (h := fun K hK => ?_) (hs := tn)
      try go_simp
      go_at_call 28
      refine (rInt_c (-1) _ (by omega)).mono ?_
      rintro e w5 ⟨zb, rfl, hz, hb⟩
      have Z5 := Lib.hid (hz.lower (Nat.zero_le _))
      have B5 := Lib.hid hb
      clear hz hb
      clear x0 x1 x2
      obtain ⟨x0, x1, x2, _, _, _⟩ := HAL.out _ (((B2.out.trans (B4.out.mono B2.out.size)).trans (B7.out.mono (B2.out.trans (B4.out.mono B2.out.size)).size)).trans (B5.out.mono ((B2.out.trans (B4.out.mono B2.out.size)).trans (B7.out.mono (B2.out.trans (B4.out.mono B2.out.size)).size)).size))
      have kY := Y7.out.below B5.out
      obtain ⟨y0, y1, y2, y3, y4⟩ := kY.facts
      obtain ⟨t0, t1, t2, t3, t4⟩ := kY.thaw
      clear kY
      have mA : ¬ X1 = w4.heap.size := by have := HXL.out; have := (B2.out.trans (B4.out.mono B2.out.size)).size; omega
      have mB : ¬ w4.heap.size = X1 := fun e => mA e.symm
      try go_wp2_with fail
      refine hK.out _ _ ?_ (fun hHeld => ?_)
      · (try dsimp only); go_keep
      clear hK K
      try simp only [zR]
      refine tk (i := 6) (h := ?_)
      try simp only [zR]
      refine tr [8] ?_
      refine tc (h := fun K hK => ?_) (hs := tn)
      try go_simp
      try go_wp2_with fail
      refine hK.out _ _ ?_ (fun hHeld => ?_)
      · (try dsimp only); go_keep
      clear hK K
      try simp only [zR]
      refine wpAnyH_done (by kernel_rfl) ?_ _
      go_wp2_with fail
      go_meet
      exact ⟨_, _, z2, zb, rfl, Lib.hid (KinAt.put (Y7.out.below B5.out) ((B2.out.trans (B4.out.mono B2.out.size)).size) (((B2.out.trans (B4.out.mono B2.out.size)).trans (B7.out.mono (B2.out.trans (B4.out.mono B2.out.size)).size)).trans (B5.out.mono ((B2.out.trans (B4.out.mono B2.out.size)).trans (B7.out.mono (B2.out.trans (B4.out.mono B2.out.size)).size)).size)) ⟨((B7.out.trans (B5.out.mono B7.out.size)).block _ G4.out.2).trans G4.out.1, (HZ1.out.below (((B2.out.trans (B4.out.mono B2.out.size)).trans (B7.out.mono (B2.out.trans (B4.out.mono B2.out.size)).size)).trans (B5.out.mono ((B2.out.trans (B4.out.mono B2.out.size)).trans (B7.out.mono (B2.out.trans (B4.out.mono B2.out.size)).size)).size))), (Z2.out.below ((B4.out.trans (B7.out.mono B4.out.size)).trans (B5.out.mono (B4.out.trans (B7.out.mono B4.out.size)).size))), (Z5.out.below (Below.refl _ _))⟩)⟩
    ·
     skip
     try go_simp
     go_at_call 28
     refine (rInt_c (-1) _ (by omega)).mono ?_
     rintro e w5 ⟨zb, rfl, hz, hb⟩
     have Z5 := Lib.hid (hz.lower (Nat.zero_le _))
     have B5 := Lib.hid hb
     clear hz hb
     clear x0 x1 x2
     obtain ⟨x0, x1, x2, _, _, _⟩ := HAL.out _ (B2.out.trans (B5.out.mono B2.out.size))
     try go_wp2_with fail
     refine hK.out _ _ ?_ (fun hHeld => ?_)
     · (try dsimp only); go_keep
     clear hK K
     try simp only [zR]
     refine tr [4, 7] ?_
     refine tc (h := fun K hK => ?_) (hs := tc (h := fun K hK => ?_) (hs := tn))
     ·
      skip
      try go_simp
      try go_wp2_with fail
      refine hK.out _ _ ?_ (fun hHeld => ?_)
      · (try dsimp only); go_keep
      clear hK K
      try simp only [zR]
      have B4 : Hid (Below w5.heap.size w5 (w5.alloc (.cells #[.int .i64 0, .bool z1.s, .slice z1.A z1.n z1.c, .slice z1.B z1.m z1.d, .int .i64 1, .bool z2.s, .slice z2.A z2.n z2.c, .slice z2.B z2.m z2.d] 47))) := ((Below.refl _ _).alloc (Nat.le_refl _) _)
      have G4 : Hid ((w5.alloc (.cells #[.int .i64 0, .bool z1.s, .slice z1.A z1.n z1.c, .slice z1.B z1.m z1.d, .int .i64 1, .bool z2.s, .slice z2.A z2.n z2.c, .slice z2.B z2.m z2.d] 47)).heap[w5.heap.size]? = some (.cells #[.int .i64 0, .bool z1.s, .slice z1.A z1.n z1.c, .slice z1.B z1.m z1.d, .int .i64 1, .bool z2.s, .slice z2.A z2.n z2.c, .slice z2.B z2.m z2.d] 47 (0, 0)) ∧ w5.heap.size < (w5.alloc (.cells #[.int .i64 0, .bool z1.s, .slice z1.A z1.n z1.c, .slice z1.B z1.m z1.d, .int .i64 1, .bool z2.s, .slice z2.A z2.n z2.c, .slice z2.B z2.m z2.d] 47)).heap.size) := ⟨heap_alloc_new w5 _, by simp⟩
      generalize (w5.alloc (.cells #[.int .i64 0, .bool z1.s, .slice z1.A z1.n z1.c, .slice z1.B z1.m z1.d, .int .i64 1, .bool z2.s, .slice z2.A z2.n z2.c, .slice z2.B z2.m z2.d] 47)) = w4 at *
      clear x0 x1 x2
      obtain ⟨x0, x1, x2, _, _, _⟩ := HAL.out _ ((B2.out.trans (B5.out.mono B2.out.size)).trans (B4.out.mono (B2.out.trans (B5.out.mono B2.out.size)).size))
      refine tk (i := 6) (h := ?_)
      try simp only [zR]
      refine tr [7] ?_
      refine tc (h := fun K hK => ?_) (hs := tn)
      try go_simp
      try go_wp2_with fail
      refine hK.out _ _ ?_ (fun hHeld => ?_)
      · (try dsimp only); go_keep
      clear hK K
      try simp only [zR]
      have B7 : Hid (Below w4.heap.size w4 (w4.alloc (.cells #[.int .i64 0, .slice none 0 0, .bool false, .slice none 0 0, .slice none 0 0] 28))) := ((Below.refl _ _).alloc (Nat.le_refl _) _)
      have Y7 : Hid (C5 (w4.alloc (.cells #[.int .i64 0, .slice none 0 0, .bool false, .slice none 0 0, .slice none 0 0] 28)) w4.heap.size (.int .i64 0) (.slice none 0 0) (.bool false) (.slice none 0 0) (.slice none 0 0)) := C5.new w4 (.int .i64 0) (.slice none 0 0) (.bool false) (.slice none 0 0) (.slice none 0 0)
      generalize (w4.alloc (.cells #[.int .i64 0, .slice none 0 0, .bool false, .slice none 0 0, .slice none 0 0] 28)) = w7 at *
      clear x0 x1 x2
      obtain ⟨x0, x1, x2, _, _, _⟩ := HAL.out _ (((B2.out.trans (B5.out.mono B2.out.size)).trans (B4.out.mono (B2.out.trans (B5.out.mono B2.out.size)).size)).trans (B7.out.mono ((B2.out.trans (B5.out.mono B2.out.size)).trans (B4.out.mono (B2.out.trans (B5.out.mono B2.out.size)).size)).size))
      have kY := Y7.out.below (Below.refl _ _)
      obtain ⟨y0, y1, y2, y3, y4⟩ := kY.facts
      obtain ⟨t0, t1, t2, t3, t4⟩ := kY.thaw
      clear kY
      have mA : ¬ X1 = w4.heap.size := by have := HXL.out; have := ((B2.out.trans (B5.out.mono B2.out.size)).trans (B4.out.mono (B2.out.trans (B5.out.mono B2.out.size)).size)).size; omega
      have mB : ¬ w4.heap.size = X1 := fun e => mA e.symm
      refine tr [8] ?_
      refine tc (h := fun K hK => ?_) (hs := tn)
      try go_simp
      try go_wp2_with fail
      refine hK.out _ _ ?_ (fun hHeld => ?_)
      · (try dsimp only); go_keep
      clear hK K
      try simp only [zR]
      refine wpAnyH_done (by kernel_rfl) ?_ _
      go_wp2_with fail
      go_meet
      exact ⟨_, _, z2, zb, rfl, Lib.hid (KinAt.put (Y7.out.below (Below.refl _ _)) (((B2.out.trans (B5.out.mono B2.out.size)).trans (B4.out.mono (B2.out.trans (B5.out.mono B2.out.size)).size)).size) (((B2.out.trans (B5.out.mono B2.out.size)).trans (B4.out.mono (B2.out.trans (B5.out.mono B2.out.size)).size)).trans (B7.out.mono ((B2.out.trans (B5.out.mono B2.out.size)).trans (B4.out.mono (B2.out.trans (B5.out.mono B2.out.size)).size)).size)) ⟨(B7.out.block _ G4.out.2).trans G4.out.1, (HZ1.out.below (((B2.out.trans (B5.out.mono B2.out.size)).trans (B4.out.mono (B2.out.trans (B5.out.mono B2.out.size)).size)).trans (B7.out.mono ((B2.out.trans (B5.out.mono B2.out.size)).trans (B4.out.mono (B2.out.trans (B5.out.mono B2.out.size)).size)).size))), (Z2.out.below ((B5.out.trans (B4.out.mono B5.out.size)).trans (B7.out.mono (B5.out.trans (B4.out.mono B5.out.size)).size))), (Z5.out.below (B4.out.trans (B7.out.mono B4.out.size)))⟩)⟩
     ·
      skip
      try go_simp
      try go_wp2_with fail
      refine hK.out _ _ ?_ (fun hHeld => ?_)
      · (try dsimp only); go_keep
      clear hK K
      try simp only [zR]
      have B7 : Hid (Below w5.heap.size w5 (w5.alloc (.cells #[.int .i64 0, .slice none 0 0, .bool false, .slice none 0 0, .slice none 0 0] 28))) := ((Below.refl _ _).alloc (Nat.le_refl _) _)
      have Y7 : Hid (C5 (w5.alloc (.cells #[.int .i64 0, .slice none 0 0, .bool false, .slice none 0 0, .slice none 0 0] 28)) w5.heap.size (.int .i64 0) (.slice none 0 0) (.bool false) (.slice none 0 0) (.slice none 0 0)) := C5.new w5 (.int .i64 0) (.slice none 0 0) (.bool false) (.slice none 0 0) (.slice none 0 0)
      generalize (w5.alloc (.cells #[.int .i64 0, .slice none 0 0, .bool false, .slice none 0 0, .slice none 0 0] 28)) = w7 at *
      clear x0 x1 x2
      obtain ⟨x0, x1, x2, _, _, _⟩ := HAL.out _ ((B2.out.trans (B5.out.mono B2.out.size)).trans (B7.out.mono (B2.out.trans (B5.out.mono B2.out.size)).size))
      refine tr [4] ?_
      refine tc (h := fun K hK => ?_) (hs := tn)
      try go_simp
      try go_wp2_with fail
      refine hK.out _ _ ?_ (fun hHeld => ?_)
      · (try dsimp only); go_keep
      clear hK K
      try simp only [zR]
      have B4 : Hid (Below w7.heap.size w7 (w7.alloc (.cells #[.int .i64 0, .bool z1.s, .slice z1.A z1.n z1.c, .slice z1.B z1.m z1.d, .int .i64 1, .bool z2.s, .slice z2.A z2.n z2.c, .slice z2.B z2.m z2.d] 47))) := ((Below.refl _ _).alloc (Nat.le_refl _) _)
      have G4 : Hid ((w7.alloc (.cells #[.int .i64 0, .bool z1.s, .slice z1.A z1.n z1.c, .slice z1.B z1.m z1.d, .int .i64 1, .bool z2.s, .slice z2.A z2.n z2.c, .slice z2.B z2.m z2.d] 47)).heap[w7.heap.size]? = some (.cells #[.int .i64 0, .bool z1.s, .slice z1.A z1.n z1.c, .slice z1.B z1.m z1.d, .int .i64 1, .bool z2.s, .slice z2.A z2.n z2.c, .slice z2.B z2.m z2.d] 47 (0, 0)) ∧ w7.heap.size < (w7.alloc (.cells #[.int .i64 0, .bool z1.s, .slice z1.A z1.n z1.c, .slice z1.B z1.m z1.d, .int .i64 1, .bool z2.s, .slice z2.A z2.n z2.c, .slice z2.B z2.m z2.d] 47)).heap.size) := ⟨heap_alloc_new w7 _, by simp⟩
      generalize (w7.alloc (.cells #[.int .i64 0, .bool z1.s, .slice z1.A z1.n z1.c, .slice z1.B z1.m z1.d, .int .i64 1, .bool z2.s, .slice z2.A z2.n z2.c, .slice z2.B z2.m z2.d] 47)) = w4 at *
      clear x0 x1 x2
      obtain ⟨x0, x1, x2, _, _, _⟩ := HAL.out _ (((B2.out.trans (B5.out.mono B2.out.size)).trans (B7.out.mono (B2.out.trans (B5.out.mono B2.out.size)).size)).trans (B4.out.mono ((B2.out.trans (B5.out.mono B2.out.size)).trans (B7.out.mono (B2.out.trans (B5.out.mono B2.out.size)).size)).size))
      have kY := Y7.out.below B4.out
      obtain ⟨y0, y1, y2, y3, y4⟩ := kY.facts
      obtain ⟨t0, t1, t2, t3, t4⟩ := kY.thaw
      clear kY
      have mA : ¬ X1 = w5.heap.size := by have := HXL.out; have := (B2.out.trans (B5.out.mono B2.out.size)).size; omega
      have mB : ¬ w5.heap.size = X1 := fun e => mA e.symm
      refine tk (i := 6) (h := ?_)
      try simp only [zR]
      refine tr [8] ?_
      refine tc (h := fun K hK => ?_) (hs := tn)
      try go_simp
      try go_wp2_with fail
      refine hK.out _ _ ?_ (fun hHeld => ?_)
      · (try dsimp only); go_keep
      clear hK K
      try simp only [zR]
      refine wpAnyH_done (by kernel_rfl) ?_ _
      go_wp2_with fail
      go_meet
      exact ⟨_, _, z2, zb, rfl, Lib.hid (KinAt.put (Y7.out.below B4.out) ((B2.out.trans (B5.out.mono B2.out.size)).size) (((B2.out.trans (B5.out.mono B2.out.size)).trans (B7.out.mono (B2.out.trans (B5.out.mono B2.out.size)).size)).trans (B4.out.mono ((B2.out.trans (B5.out.mono B2.out.size)).trans (B7.out.mono (B2.out.trans (B5.out.mono B2.out.size)).size)).size)) ⟨((Below.refl _ _).block _ G4.out.2).trans G4.out.1, (HZ1.out.below (((B2.out.trans (B5.out.mono B2.out.size)).trans (B7.out.mono (B2.out.trans (B5.out.mono B2.out.size)).size)).trans (B4.out.mono ((B2.out.trans (B5.out.mono B2.out.size)).trans (B7.out.mono (B2.out.trans (B5.out.mono B2.out.size)).size)).size))), (Z2.out.below ((B5.out.trans (B7.out.mono B5.out.size)).trans (B4.out.mono (B5.out.trans (B7.out.mono B5.out.size)).size))), (Z5.out.below (B7.out.trans (B4.out.mono B7.out.size)))⟩)⟩
    ·
     skip
     try go_simp
     try go_wp2_with fail
     refine hK.out _ _ ?_ (fun hHeld => ?_)
     · (try dsimp only); go_keep
     clear hK K
     try simp only [zR]
     have B7 : Hid (Below w2.heap.size w2 (w2.alloc (.cells #[.int .i64 0, .slice none 0 0, .bool false, .slice none 0 0, .slice none 0 0] 28))) := ((Below.refl _ _).alloc (Nat.le_refl _) _)
     have Y7 : Hid (C5 (w2.alloc (.cells #[.int .i64 0, .slice none 0 0, .bool false, .slice none 0 0, .slice none 0 0] 28)) w2.heap.size (.int .i64 0) (.slice none 0 0) (.bool false) (.slice none 0 0) (.slice none 0 0)) := C5.new w2 (.int .i64 0) (.slice none 0 0) (.bool false) (.slice none 0 0) (.slice none 0 0)
     generalize (w2.alloc (.cells #[.int .i64 0, .slice none 0 0, .bool false, .slice none 0 0, .slice none 0 0] 28)) = w7 at *
     clear x0 x1 x2
     obtain ⟨x0, x1, x2, _, _, _⟩ := HAL.out _ (B2.out.trans (B7.out.mono B2.out.size))
     refine tr [4, 5] ?_
     refine tc (h := fun K hK => ?_) (hs := tc (h := fun K hK => ?_) (hs := tn))
     ·
      skip
      try go_simp
      try go_wp2_with fail
      refine hK.out _ _ ?_ (fun hHeld => ?_)
      · (try dsimp only); go_keep
      clear hK K
      try simp only [zR]
      have B4 : Hid (Below w7.heap.size w7 (w7.alloc (.cells #[.int .i64 0, .bool z1.s, .slice z1.A z1.n z1.c, .slice z1.B z1.m z1.d, .int .i64 1, .bool z2.s, .slice z2.A z2.n z2.c, .slice z2.B z2.m z2.d] 47))) := ((Below.refl _ _).alloc (Nat.le_refl _) _)
      have G4 : Hid ((w7.alloc (.cells #[.int .i64 0, .bool z1.s, .slice z1.A z1.n z1.c, .slice z1.B z1.m z1.d, .int .i64 1, .bool z2.s, .slice z2.A z2.n z2.c, .slice z2.B z2.m z2.d] 47)).heap[w7.heap.size]? = some (.cells #[.int .i64 0, .bool z1.s, .slice z1.A z1.n z1.c, .slice z1.B z1.m z1.d, .int .i64 1, .bool z2.s, .slice z2.A z2.n z2.c, .slice z2.B z2.m z2.d] 47 (0, 0)) ∧ w7.heap.size < (w7.alloc (.cells #[.int .i64 0, .bool z1.s, .slice z1.A z1.n z1.c, .slice z1.B z1.m z1.d, .int .i64 1, .bool z2.s, .slice z2.A z2.n z2.c, .slice z2.B z2.m z2.d] 47)).heap.size) := ⟨heap_alloc_new w7 _, by simp⟩
      generalize (w7.alloc (.cells #[.int .i64 0, .bool z1.s, .slice z1.A z1.n z1.c, .slice z1.B z1.m z1.d, .int .i64 1, .bool z2.s, .slice z2.A z2.n z2.c, .slice z2.B z2.m z2.d] 47)) = w4 at *
      clear x0 x1 x2
      obtain ⟨x0, x1, x2, _, _, _⟩ := HAL.out _ ((B2.out.trans (B7.out.mono B2.out.size)).trans (B4.out.mono (B2.out.trans (B7.out.mono B2.out.size)).size))
      refine tr [5] ?_
      refine tc (h := fun K hK => ?_) (hs := tn)
      try go_simp
      go_at_call 28
      refine (rInt_c (-1) _ (by omega)).mono ?_
      rintro e w5 ⟨zb, rfl, hz, hb⟩
      have Z5 := Lib.hid (hz.lower (Nat.zero_le _))
      have B5 := Lib.hid hb
      clear hz hb
      clear x0 x1 x2
      obtain ⟨x0, x1, x2, _, _, _⟩ := HAL.out _ (((B2.out.trans (B7.out.mono B2.out.size)).trans (B4.out.mono (B2.out.trans (B7.out.mono B2.out.size)).size)).trans (B5.out.mono ((B2.out.trans (B7.out.mono B2.out.size)).trans (B4.out.mono (B2.out.trans (B7.out.mono B2.out.size)).size)).size))
      have kY := Y7.out.below (B4.out.trans (B5.out.mono B4.out.size))
      obtain ⟨y0, y1, y2, y3, y4⟩ := kY.facts
      obtain ⟨t0, t1, t2, t3, t4⟩ := kY.thaw
      clear kY
      have mA : ¬ X1 = w2.heap.size := by have := HXL.out; have := B2.out.size; omega
      have mB : ¬ w2.heap.size = X1 := fun e => mA e.symm
      try go_wp2_with fail
      refine hK.out _ _ ?_ (fun hHeld => ?_)
      · (try dsimp only); go_keep
      clear hK K
      try simp only [zR]
      refine tk (i := 6) (h := ?_)
      try simp only [zR]
      refine tr [8] ?_
      refine tc (h := fun K hK => ?_) (hs := tn)
      try go_simp
      try go_wp2_with fail
      refine hK.out _ _ ?_ (fun hHeld => ?_)
      · (try dsimp only); go_keep
      clear hK K
      try simp only [zR]
      refine wpAnyH_done (by kernel_rfl) ?_ _
      go_wp2_with fail
      go_meet
      exact ⟨_, _, z2, zb, rfl, Lib.hid (KinAt.put (Y7.out.below (B4.out.trans (B5.out.mono B4.out.size))) (B2.out.size) (((B2.out.trans (B7.out.mono B2.out.size)).trans (B4.out.mono (B2.out.trans (B7.out.mono B2.out.size)).size)).trans (B5.out.mono ((B2.out.trans (B7.out.mono B2.out.size)).trans (B4.out.mono (B2.out.trans (B7.out.mono B2.out.size)).size)).size)) ⟨(B5.out.block _ G4.out.2).trans G4.out.1, (HZ1.out.below (((B2.out.trans (B7.out.mono B2.out.size)).trans (B4.out.mono (B2.out.trans (B7.out.mono B2.out.size)).size)).trans (B5.out.mono ((B2.out.trans (B7.out.mono B2.out.size)).trans (B4.out.mono (B2.out.trans (B7.out.mono B2.out.size)).size)).size))), (Z2.out.below ((B7.out.trans (B4.out.mono B7.out.size)).trans (B5.out.mono (B7.out.trans (B4.out.mono B7.out.size)).size))), (Z5.out.below (Below.refl _ _))⟩)⟩
     ·
      skip
      try go_simp
      go_at_call 28
      refine (rInt_c (-1) _ (by omega)).mono ?_
      rintro e w5 ⟨zb, rfl, hz, hb⟩
      have Z5 := Lib.hid (hz.lower (Nat.zero_le _))
      have B5 := Lib.hid hb
      clear hz hb
      clear x0 x1 x2
      obtain ⟨x0, x1, x2, _, _, _⟩ := HAL.out _ ((B2.out.trans (B7.out.mono B2.out.size)).trans (B5.out.mono (B2.out.trans (B7.out.mono B2.out.size)).size))
      try go_wp2_with fail
      refine hK.out _ _ ?_ (fun hHeld => ?_)
      · (try dsimp only); go_keep
      clear hK K
      try simp only [zR]
      refine tr [4] ?_
      refine tc (h := fun K hK => ?_) (hs := tn)
      try go_simp
      try go_wp2_with fail
      refine hK.out _ _ ?_ (fun hHeld => ?_)
      · (try dsimp only); go_keep
      clear hK K
      try simp only [zR]
      have B4 : Hid (Below w5.heap.size w5 (w5.alloc (.cells #[.int .i64 0, .bool z1.s, .slice z1.A z1.n z1.c, .slice z1.B z1.m z1.d, .int .i64 1, .bool z2.s, .slice z2.A z2.n z2.c, .slice z2.B z2.m z2.d] 47))) := ((Below.refl _ _).alloc (Nat.le_refl _) _)
      have G4 : Hid ((w5.alloc (.cells #[.int .i64 0, .bool z1.s, .slice z1.A z1.n z1.c, .slice z1.B z1.m z1.d, .int .i64 1, .bool z2.s, .slice z2.A z2.n z2.c, .slice z2.B z2.m z2.d] 47)).heap[w5.heap.size]? = some (.cells #[.int .i64 0, .bool z1.s, .slice z1.A z1.n z1.c, .slice z1.B z1.m z1.d, .int .i64 1, .bool z2.s, .slice z2.A z2.n z2.c, .slice z2.B z2.m z2.d] 47 (0, 0)) ∧ w5.heap.size < (w5.alloc (.cells #[.int .i64 0, .bool z1.s, .slice z1.A z1.n z1.c, .slice z1.B z1.m z1.d, .int .i64 1, .bool z2.s, .slice z2.A z2.n z2.c, .slice z2.B z2.m z2.d] 47)).heap.size) := ⟨heap_alloc_new w5 _, by simp⟩
      generalize (w5.alloc (.cells #[.int .i64 0, .bool z1.s, .slice z1.A z1.n z1.c, .slice z1.B z1.m z1.d, .int .i64 1, .bool z2.s, .slice z2.A z2.n z2.c, .slice z2.B z2.m z2.d] 47)) = w4 at *
      clear x0 x1 x2
      obtain ⟨x0, x1, x2, _, _, _⟩ := HAL.out _ (((B2.out.trans (B7.out.mono B2.out.size)).trans (B5.out.mono (B2.out.trans (B7.out.mono B2.out.size)).size)).trans (B4.out.mono ((B2.out.trans (B7.out.mono B2.out.size)).trans (B5.out.mono (B2.out.trans (B7.out.mono B2.out.size)).size)).size))
      have kY := Y7.out.below (B5.out.trans (B4.out.mono B5.out.size))
      obtain ⟨y0, y1, y2, y3, y4⟩ := kY.facts
      obtain ⟨t0, t1, t2, t3, t4⟩ := kY.thaw
      clear kY
      have mA : ¬ X1 = w2.heap.size := by have := HXL.out; have := B2.out.size; omega
      have mB : ¬ w2.heap.size = X1 := fun e => mA e.symm
      refine tk (i := 6) (h := ?_)
      try simp only [zR]
      refine tr [8] ?_
      refine tc (h := fun K hK => ?_) (hs := tn)
      try go_simp
      try go_wp2_with fail
      refine hK.out _ _ ?_ (fun hHeld => ?_)
      · (try dsimp only); go_keep
      clear hK K
      try simp only [zR]
      refine wpAnyH_done (by kernel_rfl) ?_ _
      go_wp2_with fail
      go_meet
      exact ⟨_, _, z2, zb, rfl, Lib.hid (KinAt.put (Y7.out.below (B5.out.trans (B4.out.mono B5.out.size))) (B2.out.size) (((B2.out.trans (B7.out.mono B2.out.size)).trans (B5.out.mono (B2.out.trans (B7.out.mono B2.out.size)).size)).trans (B4.out.mono ((B2.out.trans (B7.out.mono B2.out.size)).trans (B5.out.mono (B2.out.trans (B7.out.mono B2.out.size)).size)).size)) ⟨((Below.refl _ _).block _ G4.out.2).trans G4.out.1, (HZ1.out.below (((B2.out.trans (B7.out.mono B2.out.size)).trans (B5.out.mono (B2.out.trans (B7.out.mono B2.out.size)).size)).trans (B4.out.mono ((B2.out.trans (B7.out.mono B2.out.size)).trans (B5.out.mono (B2.out.trans (B7.out.mono B2.out.size)).size)).size))), (Z2.out.below ((B7.out.trans (B5.out.mono B7.out.size)).trans (B4.out.mono (B7.out.trans (B5.out.mono B7.out.size)).size))), (Z5.out.below B4.out)⟩)⟩
   ·
    skip
    try go_simp
    try go_wp2_with fail
    refine hK.out _ _ ?_ (fun hHeld => ?_)
    · (try dsimp only); go_keep
    clear hK K
    try simp only [zR]
    have B7 : Hid (Below W3.heap.size W3 (W3.alloc (.cells #[.int .i64 0, .slice none 0 0, .bool false, .slice none 0 0, .slice none 0 0] 28)).drew) := ((Below.refl _ _).alloc (Nat.le_refl _) _).drew
    have Y7 : Hid (C5 (W3.alloc (.cells #[.int .i64 0, .slice none 0 0, .bool false, .slice none 0 0, .slice none 0 0] 28)).drew W3.heap.size (.int .i64 0) (.slice none 0 0) (.bool false) (.slice none 0 0) (.slice none 0 0)) := C5.new W3 (.int .i64 0) (.slice none 0 0) (.bool false) (.slice none 0 0) (.slice none 0 0)
    generalize (W3.alloc (.cells #[.int .i64 0, .slice none 0 0, .bool false, .slice none 0 0, .slice none 0 0] 28)).drew = w7 at *
    clear x0 x1 x2
    obtain ⟨x0, x1, x2, _, _, _⟩ := HAL.out _ B7.out
    refine tr [2] ?_
    refine tc (h := fun K hK => ?_) (hs := tn)
    try go_simp
    go_at_call 28
    refine (rInt_c (-1) _ (by omega)).mono ?_
    rintro e w2 ⟨z2, rfl, hz, hb⟩
    have Z2 := Lib.hid (hz.lower (Nat.zero_le _))
    have B2 := Lib.hid hb
    clear hz hb
    clear x0 x1 x2
    obtain ⟨x0, x1, x2, _, _, _⟩ := HAL.out _ (B7.out.trans (B2.out.mono B7.out.size))
    try go_wp2_with fail
    refine hK.out _ _ ?_ (fun hHeld => ?_)
    · (try dsimp only); go_keep
    clear hK K
    try simp only [zR]
    refine tk (i := 3) (h := ?_)
    try simp only [zR]
    refine tr [4, 5] ?_
    refine tc (h := fun K hK => ?_) (hs := tc (h := fun K hK => ?_) (hs := tn))
    ·
     skip
     try go_simp
     try go_wp2_with fail
     refine hK.out _ _ ?_ (fun hHeld => ?_)
     · (try dsimp only); go_keep
     clear hK K
     try simp only [zR]
     have B4 : Hid (Below w2.heap.size w2 (w2.alloc (.cells #[.int .i64 0, .bool z1.s, .slice z1.A z1.n z1.c, .slice z1.B z1.m z1.d, .int .i64 1, .bool z2.s, .slice z2.A z2.n z2.c, .slice z2.B z2.m z2.d] 47))) := ((Below.refl _ _).alloc (Nat.le_refl _) _)
     have G4 : Hid ((w2.alloc (.cells #[.int .i64 0, .bool z1.s, .slice z1.A z1.n z1.c, .slice z1.B z1.m z1.d, .int .i64 1, .bool z2.s, .slice z2.A z2.n z2.c, .slice z2.B z2.m z2.d] 47)).heap[w2.heap.size]? = some (.cells #[.int .i64 0, .bool z1.s, .slice z1.A z1.n z1.c, .slice z1.B z1.m z1.d, .int .i64 1, .bool z2.s, .slice z2.A z2.n z2.c, .slice z2.B z2.m z2.d] 47 (0, 0)) ∧ w2.heap.size < (w2.alloc (.cells #[.int .i64 0, .bool z1.s, .slice z1.A z1.n z1.c, .slice z1.B z1.m z1.d, .int .i64 1, .bool z2.s, .slice z2.A z2.n z2.c, .slice z2.B z2.m z2.d] 47)).heap.size) := ⟨heap_alloc_new w2 _, by simp⟩
     generalize (w2.alloc (.cells #[.int .i64 0, .bool z1.s, .slice z1.A z1.n z1.c, .slice z1.B z1.m z1.d, .int .i64 1, .bool z2.s, .slice z2.A z2.n z2.c, .slice z2.B z2.m z2.d] 47)) = w4 at *
     clear x0 x1 x2
     obtain ⟨x0, x1, x2, _, _, _⟩ := HAL.out _ ((B7.out.trans (B2.out.mono B7.out.size)).trans (B4.out.mono (B7.out.trans (B2.out.mono B7.out.size)).size))
     refine tr [5] ?_
     refine tc (h := fun K hK => ?_) (hs := tn)
     try go_simp
     go_at_call 28
     refine (rInt_c (-1) _ (by omega)).mono ?_
     rintro e w5 ⟨zb, rfl, hz, hb⟩
     have Z5 := Lib.hid (hz.lower (Nat.zero_le _))
     have B5 := Lib.hid hb
     clear hz hb
     clear x0 x1 x2
     obtain ⟨x0, x1, x2, _, _, _⟩ := HAL.out _ (((B7.out.trans (B2.out.mono B7.out.size)).trans (B4.out.mono (B7.out.trans (B2.out.mono B7.out.size)).size)).trans (B5.out.mono ((B7.out.trans (B2.out.mono B7.out.size)).trans (B4.out.mono (B7.out.trans (B2.out.mono B7.out.size)).size)).size))
     have kY := Y7.out.below ((B2.out.trans (B4.out.mono B2.out.size)).trans (B5.out.mono (B2.out.trans (B4.out.mono B2.out.size)).size))
     obtain ⟨y0, y1, y2, y3, y4⟩ := kY.facts
     obtain ⟨t0, t1, t2, t3, t4⟩ := kY.thaw
     clear kY
     have mA : ¬ X1 = W3.heap.size := by have := HXL.out; omega
     have mB : ¬ W3.heap.size = X1 := fun e => mA e.symm
     try go_wp2_with fail
     refine hK.out _ _ ?_ (fun hHeld => ?_)
     · (try dsimp only); go_keep
     clear hK K
     try simp only [zR]
     refine tk (i := 6) (h := ?_)
     try simp only [zR]
     refine tr [8] ?_
     refine tc (h := fun K hK => ?_) (hs := tn)
     try go_simp
     try go_wp2_with fail
     refine hK.out _ _ ?_ (fun hHeld => ?_)
     · (try dsimp only); go_keep
     clear hK K
     try simp only [zR]
     refine wpAnyH_done (by kernel_rfl) ?_ _
     go_wp2_with fail
     go_meet
     exact ⟨_, _, z2, zb, rfl, Lib.hid (KinAt.put (Y7.out.below ((B2.out.trans (B4.out.mono B2.out.size)).trans (B5.out.mono (B2.out.trans (B4.out.mono B2.out.size)).size))) (Nat.le_refl _) (((B7.out.trans (B2.out.mono B7.out.size)).trans (B4.out.mono (B7.out.trans (B2.out.mono B7.out.size)).size)).trans (B5.out.mono ((B7.out.trans (B2.out.mono B7.out.size)).trans (B4.out.mono (B7.out.trans (B2.out.mono B7.out.size)).size)).size)) ⟨(B5.out.block _ G4.out.2).trans G4.out.1, (HZ1.out.below (((B7.out.trans (B2.out.mono B7.out.size)).trans (B4.out.mono (B7.out.trans (B2.out.mono B7.out.size)).size)).trans (B5.out.mono ((B7.out.trans (B2.out.mono B7.out.size)).trans (B4.out.mono (B7.out.trans (B2.out.mono B7.out.size)).size)).size))), (Z2.out.below (B4.out.trans (B5.out.mono B4.out.size))), (Z5.out.below (Below.refl _ _))⟩)⟩
    ·
     skip
     try go_simp
     go_at_call 28
     refine (rInt_c (-1) _ (by omega)).mono ?_
     rintro e w5 ⟨zb, rfl, hz, hb⟩
     have Z5 := Lib.hid (hz.lower (Nat.zero_le _))
     have B5 := Lib.hid hb
     clear hz hb
     clear x0 x1 x2
     obtain ⟨x0, x1, x2, _, _, _⟩ := HAL.out _ ((B7.out.trans (B2.out.mono B7.out.size)).trans (B5.out.mono (B7.out.trans (B2.out.mono B7.out.size)).size))
     try go_wp2_with fail
     refine hK.out _ _ ?_ (fun hHeld => ?_)
     · (try dsimp only); go_keep
     clear hK K
     try simp only [zR]
     refine tr [4] ?_
     refine tc (h := fun K hK => ?_) (hs := tn)
     try go_simp
     try go_wp2_with fail
     refine hK.out _ _ ?_ (fun hHeld => ?_)
     · (try dsimp only); go_keep
     clear hK K
     try simp only [zR]
     have B4 : Hid (Below w5.heap.size w5 (w5.alloc (.cells #[.int .i64 0, .bool z1.s, .slice z1.A z1.n z1.c, .slice z1.B z1.m z1.d, .int .i64 1, .bool z2.s, .slice z2.A z2.n z2.c, .slice z2.B z2.m z2.d] 47))) := ((Below.refl _ _).alloc (Nat.le_refl _) _)
     have G4 : Hid ((w5.alloc (.cells #[.int .i64 0, .bool z1.s, .slice z1.A z1.n z1.c, .slice z1.B z1.m z1.d, .int .i64 1, .bool z2.s, .slice z2.A z2.n z2.c, .slice z2.B z2.m z2.d] 47)).heap[w5.heap.size]? = some (.cells #[.int .i64 0, .bool z1.s, .slice z1.A z1.n z1.c, .slice z1.B z1.m z1.d, .int .i64 1, .bool z2.s, .slice z2.A z2.n z2.c, .slice z2.B z2.m z2.d] 47 (0, 0)) ∧ w5.heap.size < (w5.alloc (.cells #[.int .i64 0, .bool z1.s, .slice z1.A z1.n z1.c, .slice z1.B z1.m z1.d, .int .i64 1, .bool z2.s, .slice z2.A z2.n z2.c, .slice z2.B z2.m z2.d] 47)).heap.size) := ⟨heap_alloc_new w5 _, by simp⟩
     generalize (w5.alloc (.cells #[.int .i64 0, .bool z1.s, .slice z1.A z1.n z1.c, .slice z1.B z1.m z1.d, .int .i64 1, .bool z2.s, .slice z2.A z2.n z2.c, .slice z2.B z2.m z2.d] 47)) = w4 at *
     clear x0 x1 x2
     obtain ⟨x0, x1, x2, _, _, _⟩ := HAL.out _ (((B7.out.trans (B2.out.mono B7.out.size)).trans (B5.out.mono (B7.out.trans (B2.out.mono B7.out.size)).size)).trans (B4.out.mono ((B7.out.trans (B2.out.mono B7.out.size)).trans (B5.out.mono (B7.out.trans (B2.out.mono B7.out.size)).size)).size))
     have kY := Y7.out.below ((B2.out.trans (B5.out.mono B2.out.size)).trans (B4.out.mono (B2.out.trans (B5.out.mono B2.out.size)).size))
     obtain ⟨y0, y1, y2, y3, y4⟩ := kY.facts
     obtain ⟨t0, t1, t2, t3, t4⟩ := kY.thaw
     clear kY
     have mA : ¬ X1 = W3.heap.size := by have := HXL.out; omega
     have mB : ¬ W3.heap.size = X1 := fun e => mA e.symm
     refine tk (i := 6) (h := ?_)
     try simp only [zR]
     refine tr [8] ?_
     refine tc (h := fun K hK => ?_) (hs := tn)
     try go_simp
     try go_wp2_with fail
     refine hK.out _ _ ?_ (fun hHeld => ?_)
     · (try dsimp only); go_keep
     clear hK K
     try simp only [zR]
     refine wpAnyH_done (by kernel_rfl) ?_ _
     go_wp2_with fail
     go_meet
     exact ⟨_, _, z2, zb, rfl, Lib.hid (KinAt.put (Y7.out.below ((B2.out.trans (B5.out.mono B2.out.size)).trans (B4.out.mono (B2.out.trans (B5.out.mono B2.out.size)).size))) (Nat.le_refl _) (((B7.out.trans (B2.out.mono B7.out.size)).trans (B5.out.mono (B7.out.trans (B2.out.mono B7.out.size)).size)).trans (B4.out.mono ((B7.out.trans (B2.out.mono B7.out.size)).trans (B5.out.mono (B7.out.trans (B2.out.mono B7.out.size)).size)).size)) ⟨((Below.refl _ _).block _ G4.out.2).trans G4.out.1, (HZ1.out.below (((B7.out.trans (B2.out.mono B7.out.size)).trans (B5.out.mono (B7.out.trans (B2.out.mono B7.out.size)).size)).trans (B4.out.mono ((B7.out.trans (B2.out.mono B7.out.size)).trans (B5.out.mono (B7.out.trans (B2.out.mono B7.out.size)).size)).size))), (Z2.out.below (B5.out.trans (B4.out.mono B5.out.size))), (Z5.out.below B4.out)⟩)⟩
  case rest =>
   obtain ⟨Yb, Gb, z2, zb, rfl, HKB⟩ := hcut
   generalize wc = W5 at *
   clear x0 x1 x2 HAL HXL HZ1
   have HA3 := Lib.hid (HKA.out.later HKB.out.below)
   have HB5 : Hid (Below w.heap.size w W5) := HK3.out.2.trans (HKB.out.below.mono HK3.out.2.size)
   have HKN5 : Hid (Kn2 W5 Ga Gb z1 za z2 zb) := ⟨HA3.out.two, HKB.out.two⟩
   have HC5 : Hid (C5 W5 Ya (.int .i64 0) (.slice (some ⟨Ga, 0, none⟩) 2 2) (.bool za.s) (.slice za.A za.n za.c) (.slice za.B za.m za.d) ∧ C5 W5 Yb (.int .i64 0) (.slice (some ⟨Gb, 0, none⟩) 2 2) (.bool zb.s) (.slice zb.A zb.n zb.c) (.slice zb.B zb.m zb.d)) := ⟨HA3.out.cell, HKB.out.cell⟩
   clear HKA HKB HA3 HK1 HK3
   obtain ⟨a0, a1, a2, a3, a4⟩ := HC5.out.1.facts
   obtain ⟨b0, b1, b2, b3, b4⟩ := HC5.out.2.facts
   go_wp2_with fail
   have Gt : Hid ((W5.alloc (.cells #[.int .i64 0, .slice (some ⟨Ga, 0, none⟩) 2 2, .bool za.s, .slice za.A za.n za.c, .slice za.B za.m za.d, .int .i64 0, .slice (some ⟨Gb, 0, none⟩) 2 2, .bool zb.s, .slice zb.A zb.n zb.c, .slice zb.B zb.m zb.d] 28)).heap[W5.heap.size]? = some (.cells #[.int .i64 0, .slice (some ⟨Ga, 0, none⟩) 2 2, .bool za.s, .slice za.A za.n za.c, .slice za.B za.m za.d, .int .i64 0, .slice (some ⟨Gb, 0, none⟩) 2 2, .bool zb.s, .slice zb.A zb.n zb.c, .slice zb.B zb.m zb.d] 28 (0, 0))) := heap_alloc_new W5 _
   have Bt : Hid (Below W5.heap.size W5 (W5.alloc (.cells #[.int .i64 0, .slice (some ⟨Ga, 0, none⟩) 2 2, .bool za.s, .slice za.A za.n za.c, .slice za.B za.m za.d, .int .i64 0, .slice (some ⟨Gb, 0, none⟩) 2 2, .bool zb.s, .slice zb.A zb.n zb.c, .slice zb.B zb.m zb.d] 28))) := (Below.refl _ _).alloc (Nat.le_refl _) _
   generalize W5.alloc (.cells #[.int .i64 0, .slice (some ⟨Ga, 0, none⟩) 2 2, .bool za.s, .slice za.A za.n za.c, .slice za.B za.m za.d, .int .i64 0, .slice (some ⟨Gb, 0, none⟩) 2 2, .bool zb.s, .slice zb.A zb.n zb.c, .slice zb.B zb.m zb.d] 28) = wt at *
   refine (Fixed_c 2 0 2 1 (some ⟨W5.heap.size, 0, none⟩) 2 2 [kinA Ga za, kinB Gb zb] _ rfl ((HKN5.out.below Bt.out).kns (kons_two (va := (kinA Ga za).v) (vb := (kinB Gb zb).v) Gt.out) (by simp)) (by omega) room2).mono ?_
   rintro e w6 hf
   obtain ⟨z, rfl, hz, hb⟩ := known_fix hf
   have HW6 : Hid (Below W5.heap.size W5 (w6.alloc (.cells #[.bool z.s, .slice z.A z.n z.c, .slice z.B z.m z.d] 26)) ∧ C3 (w6.alloc (.cells #[.bool z.s, .slice z.A z.n z.c, .slice z.B z.m z.d] 26)) w6.heap.size (.bool z.s) (.slice z.A z.n z.c) (.slice z.B z.m z.d) ∧ Rw (w6.alloc (.cells #[.bool z.s, .slice z.A z.n z.c, .slice z.B z.m z.d] 26)) z ((2 : Int) : Rat) 1000000000) := by
    have b1 := Bt.out.trans (hb.mono Bt.out.size)
    exact ⟨b1.alloc b1.size _, C3.new w6 (.bool z.s) (.slice z.A z.n z.c) (.slice z.B z.m z.d), hz.alloc _⟩
   clear a0 a1 a2 a3 a4 b0 b1 b2 b3 b4 hf hz hb Gt Bt
   go_upto_region 5 with fail
   generalize w6.alloc (.cells #[.bool z.s, .slice z.A z.n z.c, .slice z.B z.m z.d] 26) = W6 at *
   obtain ⟨X4, hX4⟩ : ∃ X4, X4 = w6.heap.size := ⟨_, rfl⟩
   rw [← hX4] at HW6
   rw [← hX4]
   clear hX4
   have HV := Lib.hid HW6.out.2.2
   have HKN : Hid (Kn2 W6 Ga Gb z1 za z2 zb) := HKN5.out.below HW6.out.1
   have HB6 : Hid (Below w.heap.size w W6) := HB5.out.trans (HW6.out.1.mono HB5.out.size)
   have HA5 : Hid (∀ w', Below W6.heap.size W6 w' → (w'.cell? ⟨X4, 0, none⟩ = some (.bool z.s) ∧ w'.cell? ⟨X4, 1, none⟩ = some (.slice z.A z.n z.c) ∧ w'.cell? ⟨X4, 2, none⟩ = some (.slice z.B z.m z.d)) ∧ (w'.cell? ⟨Ya, 0, none⟩ = some (.int .i64 0) ∧ w'.cell? ⟨Ya, 1, none⟩ = some (.slice (some ⟨Ga, 0, none⟩) 2 2) ∧ w'.cell? ⟨Ya, 2, none⟩ = some (.bool za.s) ∧ w'.cell? ⟨Ya, 3, none⟩ = some (.slice za.A za.n za.c) ∧ w'.cell? ⟨Ya, 4, none⟩ = some (.slice za.B za.m za.d)) ∧ (w'.cell? ⟨Yb, 0, none⟩ = some (.int .i64 0) ∧ w'.cell? ⟨Yb, 1, none⟩ = some (.slice (some ⟨Gb, 0, none⟩) 2 2) ∧ w'.cell? ⟨Yb, 2, none⟩ = some (.bool zb.s) ∧ w'.cell? ⟨Yb, 3, none⟩ = some (.slice zb.A zb.n zb.c) ∧ w'.cell? ⟨Yb, 4, none⟩ = some (.slice zb.B zb.m zb.d))) := fun w' h => by
    obtain ⟨g0, g1, g2, _⟩ := (HW6.out.2.1.below h).facts
    exact ⟨⟨g0, g1, g2⟩, ((HC5.out.1.below HW6.out.1).below h).facts, ((HC5.out.2.below HW6.out.1).below h).facts⟩
   clear HC5 HKN5 HB5 HW6
   obtain ⟨⟨v0, v1, v2⟩, ⟨a0, a1, a2, a3, a4⟩, ⟨b0, b1, b2, b3, b4⟩⟩ := HA5.out _ (Below.refl _ _)
   refine wp_region_held_drew (S := fun w' => w'.cell? ⟨X4, 0, none⟩ = some (.bool z.s) ∧ w'.cell? ⟨X4, 1, none⟩ = some (.slice z.A z.n z.c) ∧ w'.cell? ⟨X4, 2, none⟩ = some (.slice z.B z.m z.d) ∧ w'.cell? ⟨Ya, 0, none⟩ = some (.int .i64 0) ∧ w'.cell? ⟨Ya, 1, none⟩ = some (.slice (some ⟨Ga, 0, none⟩) 2 2) ∧ w'.cell? ⟨Ya, 2, none⟩ = some (.bool za.s) ∧ w'.cell? ⟨Ya, 3, none⟩ = some (.slice za.A za.n za.c) ∧ w'.cell? ⟨Ya, 4, none⟩ = some (.slice za.B za.m za.d) ∧ w'.cell? ⟨Yb, 0, none⟩ = some (.int .i64 0) ∧ w'.cell? ⟨Yb, 1, none⟩ = some (.slice (some ⟨Gb, 0, none⟩) 2 2) ∧ w'.cell? ⟨Yb, 2, none⟩ = some (.bool zb.s) ∧ w'.cell? ⟨Yb, 3, none⟩ = some (.slice zb.A zb.n zb.c) ∧ w'.cell? ⟨Yb, 4, none⟩ = some (.slice zb.B zb.m zb.d)) (by kernel_rfl) ?_ (fun hHeld => ?_)
   ·
    (try dsimp only)
    go_keep
   refine tk (i := 0) (h := ?_)
   try simp only [zR]
   refine tk (i := 1) (h := ?_)
   try simp only [zR]
   refine tk (i := 2) (h := ?_)
   try simp only [zR]
   refine tr [3] ?_
   refine tc (h := fun K hK => ?_) (hs := tn)
   try go_simp
   go_at_call 28
   refine (rInt_c 2 _ (by omega)).mono ?_
   rintro e wi ⟨zi, rfl, hz, hb⟩
   have Zi := Lib.hid (hz.lower (Nat.zero_le _))
   have Bi := Lib.hid ((bel1 W6).trans hb)
   clear hz hb
   clear v0 v1 v2 a0 a1 a2 a3 a4 b0 b1 b2 b3 b4
   obtain ⟨⟨v0, v1, v2⟩, ⟨a0, a1, a2, a3, a4⟩, ⟨b0, b1, b2, b3, b4⟩⟩ := HA5.out _ Bi.out
   try go_wp2_with fail
   refine hK.out _ _ ?_ (fun hHeld => ?_)
   · (try dsimp only); go_keep
   clear hK K
   try simp only [zR]
   refine tr [4] ?_
   refine tc (h := fun K hK => ?_) (hs := tn)
   try go_simp
   go_at_call 23
   refine (rSame_c z zi ((2 : Int) : Rat) ((2 : Int) : Rat) _ ((HV.out.below Bi.out).more (by omega)) ((Zi.out.rw two_sz).more (by omega))).mono ?_
   rw [decide_eq_true rfl]
   rintro e ws ⟨rfl, hb⟩
   have Bs := Lib.hid (Bi.out.trans (hb.mono Bi.out.size))
   clear hb
   clear v0 v1 v2 a0 a1 a2 a3 a4 b0 b1 b2 b3 b4
   obtain ⟨⟨v0, v1, v2⟩, ⟨a0, a1, a2, a3, a4⟩, ⟨b0, b1, b2, b3, b4⟩⟩ := HA5.out _ Bs.out
   try go_wp2_with fail
   refine hK.out _ _ ?_ (fun hHeld => ?_)
   · (try dsimp only); go_keep
   clear hK K
   try simp only [zR]
   refine tk (i := 5) (h := ?_)
   try simp only [zR]
   refine tk (i := 6) (h := ?_)
   try simp only [zR]
   refine tk (i := 7) (h := ?_)
   try simp only [zR]
   refine tk (i := 8) (h := ?_)
   try simp only [zR]
   refine tk (i := 9) (h := ?_)
   try simp only [zR]
   refine tr [10] ?_
   refine tc (h := fun K hK => ?_) (hs := tn)
   try go_simp
   try go_wp2_with fail
   refine hK.out _ _ ?_ (fun hHeld => ?_)
   · (try dsimp only); go_keep
   clear hK K
   try simp only [zR]
   have Gt : Hid ((ws.alloc (.cells #[.int .i64 0, .slice (some ⟨Ga, 0, none⟩) 2 2, .bool za.s, .slice za.A za.n za.c, .slice za.B za.m za.d, .int .i64 0, .slice (some ⟨Gb, 0, none⟩) 2 2, .bool zb.s, .slice zb.A zb.n zb.c, .slice zb.B zb.m zb.d, .int .i64 0, .slice (some ⟨Ga, 0, none⟩) 2 2, .bool za.s, .slice za.A za.n za.c, .slice za.B za.m za.d] 28)).heap[ws.heap.size]? = some (.cells #[.int .i64 0, .slice (some ⟨Ga, 0, none⟩) 2 2, .bool za.s, .slice za.A za.n za.c, .slice za.B za.m za.d, .int .i64 0, .slice (some ⟨Gb, 0, none⟩) 2 2, .bool zb.s, .slice zb.A zb.n zb.c, .slice zb.B zb.m zb.d, .int .i64 0, .slice (some ⟨Ga, 0, none⟩) 2 2, .bool za.s, .slice za.A za.n za.c, .slice za.B za.m za.d] 28 (0, 0))) := heap_alloc_new ws _
   have Bt : Hid (Below W6.heap.size W6 (ws.alloc (.cells #[.int .i64 0, .slice (some ⟨Ga, 0, none⟩) 2 2, .bool za.s, .slice za.A za.n za.c, .slice za.B za.m za.d, .int .i64 0, .slice (some ⟨Gb, 0, none⟩) 2 2, .bool zb.s, .slice zb.A zb.n zb.c, .slice zb.B zb.m zb.d, .int .i64 0, .slice (some ⟨Ga, 0, none⟩) 2 2, .bool za.s, .slice za.A za.n za.c, .slice za.B za.m za.d] 28))) := Bs.out.alloc Bs.out.size _
   generalize (ws.alloc (.cells #[.int .i64 0, .slice (some ⟨Ga, 0, none⟩) 2 2, .bool za.s, .slice za.A za.n za.c, .slice za.B za.m za.d, .int .i64 0, .slice (some ⟨Gb, 0, none⟩) 2 2, .bool zb.s, .slice zb.A zb.n zb.c, .slice zb.B zb.m zb.d, .int .i64 0, .slice (some ⟨Ga, 0, none⟩) 2 2, .bool za.s, .slice za.A za.n za.c, .slice za.B za.m za.d] 28)) = wt at *
   clear v0 v1 v2 a0 a1 a2 a3 a4 b0 b1 b2 b3 b4
   obtain ⟨⟨v0, v1, v2⟩, ⟨a0, a1, a2, a3, a4⟩, ⟨b0, b1, b2, b3, b4⟩⟩ := HA5.out _ Bt.out
   refine tr [11] ?_
   refine tc (h := fun K hK => ?_) (hs := tn)
   try go_simp
   go_at_call 19
   refine (Rank_c 2 2 1 (some ⟨ws.heap.size, 0, none⟩) 3 3 [kinA Ga za, kinB Gb zb, kinA Ga za] _ rfl ((HKN.out.below Bt.out).kns (kons_three (va := (kinA Ga za).v) (vb := (kinB Gb zb).v) (vc := (kinA Ga za).v) Gt.out) (by simp)) (by omega) room2).mono ?_
   rintro e wr hr
   obtain ⟨rfl, hb⟩ := known_rk hr
   have Br := Lib.hid (Bt.out.trans (hb.mono Bt.out.size))
   clear hb hr
   clear v0 v1 v2 a0 a1 a2 a3 a4 b0 b1 b2 b3 b4
   obtain ⟨⟨v0, v1, v2⟩, ⟨a0, a1, a2, a3, a4⟩, ⟨b0, b1, b2, b3, b4⟩⟩ := HA5.out _ Br.out
   try go_wp2_with fail
   refine hK.out _ _ ?_ (fun hHeld => ?_)
   · (try dsimp only); go_keep
   clear hK K
   try simp only [zR]
   refine tk (i := 12) (h := ?_)
   try simp only [zR]
   refine tk (i := 13) (h := ?_)
   try simp only [zR]
   refine tk (i := 14) (h := ?_)
   try simp only [Act.put, List.setIfInBounds_toArray, List.set_cons_zero]
   refine wpAnyH_done (by kernel_rfl) ?_ _
   go_wp2_with fail
   go_ret
   exact ⟨rfl, HB6.out.trans (Br.out.mono HB6.out.size)⟩
end Go.Proofs.YtgffkaconhonlaaGreat
