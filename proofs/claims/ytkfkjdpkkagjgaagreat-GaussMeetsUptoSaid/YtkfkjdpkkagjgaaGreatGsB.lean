/-
  A number that goes into two.
-/
import Derived.Test.YtkfkjdpkkagjgaaGreatGsA
import Derived.Deep.Cut
namespace Go.Proofs.YtkfkjdpkkagjgaaGreat
set_option maxRecDepth 20000
open Go.RowKit
set_option maxHeartbeats 6400000 in
theorem common_c (va vb : Rv) (a b : Rat) (p : Nat) (w : World) (ha : Rw w va a p) (hb : Rw w vb b p) (h0 : a ≠ 0) (h1 : Sz (b / a) p) (h2 : Sz (dd (b / a)) p) (hp : p ≤ 10000000000) :
  Calls Tryz.prog 100 #[.agg #[.bool va.s, .slice va.A va.n va.c, .slice va.B va.m va.d], .agg #[.bool vb.s, .slice vb.A vb.n vb.c, .slice vb.B vb.m vb.d]] w fun e w' => ∃ z : Rv, e = .returned (.agg #[.bool z.s, .slice z.A z.n z.c, .slice z.B z.m z.d]) ∧ Rt w' w.heap.size z (com a b) ∧ Below w.heap.size w w' := by
 go_enter Tryz.func100, Tryz.ntmps100
 go_wp2_with fail
 generalize hW : (((w.alloc (.cells #[.bool va.s, .slice va.A va.n va.c, .slice va.B va.m va.d] 26)).alloc (.cells #[.bool vb.s, .slice vb.A vb.n vb.c, .slice vb.B vb.m vb.d] 26)).alloc (.cells #[.bool false, .slice none 0 0, .slice none 0 0] 26)) = W
 obtain ⟨ka, kb, kz, HW, hsW⟩ := open2z w va vb W hW
 clear hW
 have HA := Lib.hid (ha.below HW)
 have HB := Lib.hid (hb.below HW)
 have HK := Lib.hid (And.intro ka (And.intro kz (And.intro HW hsW)))
 obtain ⟨a0, a1, a2, _, _, _⟩ := ka.facts
 obtain ⟨b0, b1, b2, _, _, _⟩ := kb.facts
 clear ha hb ka kb kz HW hsW
 try go_wp2_with fail
 refine (Div_c vb va b a _ (HB.out.more (by omega)) (HA.out.more (by omega)) h0).mono ?_
 rintro e w1 ⟨z, rfl, hz, hb1⟩
 have H1 := Lib.hid (And.intro hz hb1)
 have H0 := Lib.hid h0
 clear a0 a1 a2 b0 b1 b2 hz hb1 h0
 go_upto_region 2 with fail
 have HO := Lib.hid (OneAt.new (W := W) H1.out.2 H1.out.1 (Nat.le_refl _))
 have HXX : Hid (w.heap.size < w1.heap.size) := by show _ < _; have := H1.out.2.size; have := HK.out.2.2.2; omega
 clear H1 HB
 generalize w1.heap.size = X at *
 generalize w1.alloc (.cells #[.bool z.s, .slice z.A z.n z.c, .slice z.B z.m z.d] 26) = W2 at *
 have HALL : Hid (∀ w', Below W2.heap.size W2 w' → (w'.cell? ⟨w.heap.size, 0, none⟩ = some (.bool va.s) ∧ w'.cell? ⟨w.heap.size, 1, none⟩ = some (.slice va.A va.n va.c) ∧ w'.cell? ⟨w.heap.size, 2, none⟩ = some (.slice va.B va.m va.d) ∧ w'.frozen? ⟨w.heap.size, 0, none⟩ = false ∧ w'.frozen? ⟨w.heap.size, 1, none⟩ = false ∧ w'.frozen? ⟨w.heap.size, 2, none⟩ = false) ∧ (w'.cell? ⟨X, 0, none⟩ = some (.bool z.s) ∧ w'.cell? ⟨X, 1, none⟩ = some (.slice z.A z.n z.c) ∧ w'.cell? ⟨X, 2, none⟩ = some (.slice z.B z.m z.d) ∧ w'.frozen? ⟨X, 0, none⟩ = false ∧ w'.frozen? ⟨X, 1, none⟩ = false ∧ w'.frozen? ⟨X, 2, none⟩ = false)) := fun w' h => ⟨((HK.out.1.below HO.out.below).below h).facts, (HO.out.cell.below h).facts⟩
 have HLT : Hid (w.heap.size < W2.heap.size) := by show _ < _; have := HO.out.below.size; have := HK.out.2.2.2; omega
 have HXL : Hid (X < W2.heap.size) := HO.out.cell.lt
 have HRT : Hid (∀ w', Below W2.heap.size W2 w' → Rt w' W.heap.size z (b / a)) := fun w' h => HO.out.num.below h
 have HVA : Hid (∀ w', Below W2.heap.size W2 w' → Rw w' va a p) := fun w' h => (HA.out.below HO.out.below).below h
 obtain ⟨⟨a0, a1, a2, _, _, _⟩, ⟨_, _, x2, _, _, _⟩⟩ := HALL.out _ (Below.refl _ _)
 go_cut [7] from 15 (fun xv wx => ∃ (Y : Nat) (u : Rv), xv = .pointer (some ⟨Y, 0, none⟩) ∧ Hid (OneAt W2 wx Y u (com a b)))
 case first =>
  refine wp_region_held_drew (S := fun w' => w'.cell? ⟨w.heap.size, 0, none⟩ = some (.bool va.s) ∧ w'.cell? ⟨w.heap.size, 1, none⟩ = some (.slice va.A va.n va.c) ∧ w'.cell? ⟨w.heap.size, 2, none⟩ = some (.slice va.B va.m va.d) ∧ w'.cell? ⟨X, 2, none⟩ = some (.slice z.B z.m z.d)) (by kernel_rfl) ?_ (fun hHeld => ?_)
  ·
   (try dsimp only)
   go_keep
  refine wpAnyH_take (i := 0) (oi := { dst := some 16, op := Op.load 26 (Operand.tmp 2), type := 26, pos := "stairs.go:81", after := #[], guard := none }) (v := ?vq1x) rfl (by kernel_rfl) (by kernel_rfl) (by kernel_rfl) (fun _ _ _ h => h) (Or.inl ⟨by rfl, ?hyq1x⟩) (by assumption) ?restq1x
  case hyq1x => intro w hSw; (try dsimp only at hSw); go_simp; all_goals (with_reducible rfl)
  try simp only [Act.put, zA, zB, zC]
  refine wpAnyH_take (i := 1) (oi := { dst := some 17, op := Op.fieldAddr 26 (Operand.tmp 5) 2, type := 0, pos := "stairs.go:81", after := #[], guard := none }) (v := ?vq2x) rfl (by kernel_rfl) (by kernel_rfl) (by kernel_rfl) (fun _ _ _ h => h) (Or.inl ⟨by rfl, ?hyq2x⟩) (by assumption) ?restq2x
  case hyq2x => intro w hSw; (try dsimp only at hSw); go_simp; all_goals (with_reducible rfl)
  try simp only [Act.put, zA, zB, zC]
  refine wpAnyH_take (i := 2) (oi := { dst := some 18, op := Op.load 24 (Operand.tmp 17), type := 24, pos := "stairs.go:81", after := #[eD 1], guard := none }) (v := ?vq3x) rfl (by kernel_rfl) (by kernel_rfl) (by kernel_rfl) (fun _ _ _ h => h) (Or.inl ⟨by rfl, ?hyq3x⟩) (by assumption) ?restq3x
  case hyq3x => intro w hSw; (try dsimp only at hSw); go_simp; all_goals (with_reducible rfl)
  try simp only [Act.put, zA, zB, zC]
  refine wpAnyH_ready (rs := [3, 8]) (by kernel_rfl) (by simp) ?_
  refine AllReadyH.cons (o := { dst := some 19, op := Op.call { callee := Callee.value (Operand.func 85), args := #[Operand.tmp 18], argTypes := #[24] }, type := 26, pos := "stairs.go:81", after := #[eD 2], guard := none }) rfl (fun K hK => ?_) (AllReadyH.cons (o := { dst := some 7, op := Op.alloc 26, type := 0, pos := "stairs.go:81", after := #[], guard := none }) rfl (fun K hK => ?_) AllReadyH.nil)
  ·
   skip
   try go_simp
   go_at_call 85
   refine (whole_den z (b / a) _ p _ (HRT.out _ (bel1 W2)) h1 (by omega)).mono ?_
   rintro e w5 ⟨d5, rfl, hd5, hb⟩
   have HD5 := Lib.hid (hd5.rw h2)
   clear hd5
   have Hw5 := Lib.hid ((bel1 W2).trans hb)
   clear hb
   clear a0 a1 a2 x2
   obtain ⟨⟨a0, a1, a2, _, _, _⟩, ⟨_, _, x2, _, _, _⟩⟩ := HALL.out _ Hw5.out
   try go_wp2_with fail
   refine hK.out _ _ ?_ (fun hHeld => ?_)
   · (try dsimp only); go_keep
   clear hK K
   try simp only [Act.put, zA, zB, zC]
   refine wpAnyH_ready (rs := [4, 8]) (by kernel_rfl) (by simp) ?_
   refine AllReadyH.cons (o := { dst := some 20, op := Op.call { callee := Callee.value (Operand.func 33), args := #[Operand.tmp 16, Operand.tmp 19], argTypes := #[26, 26] }, type := 32, pos := "stairs.go:81", after := #[eD 0, eD 3, eC 3], guard := none }) rfl (fun K hK => ?_) (AllReadyH.cons (o := { dst := some 7, op := Op.alloc 26, type := 0, pos := "stairs.go:81", after := #[], guard := none }) rfl (fun K hK => ?_) AllReadyH.nil)
   ·
    skip
    try go_simp
    go_at_call 33
    refine (Div_c va d5 a (dd (b / a)) _ ((HVA.out _ Hw5.out).more (by omega)) (Rw.more (HD5.out) (by omega)) (dd_ne _)).mono ?_
    rintro e w6 ⟨u, rfl, hu, hb⟩
    have Hu := Lib.hid hu
    have HLw6 := Lib.hid (Hw5.out.size)
    clear hu
    have Hw6 := Lib.hid (Hw5.out.trans (hb.mono Hw5.out.size))
    clear hb
    clear a0 a1 a2 x2
    obtain ⟨⟨a0, a1, a2, _, _, _⟩, ⟨_, _, x2, _, _, _⟩⟩ := HALL.out _ Hw6.out
    have m0a : ¬ w.heap.size = w6.heap.size := by have := HLT.out; have := Hw6.out.size; omega
    have m0b : ¬ w6.heap.size = w.heap.size := fun e => m0a e.symm
    have m1a : ¬ X = w6.heap.size := by have := HXL.out; have := Hw6.out.size; omega
    have m1b : ¬ w6.heap.size = X := fun e => m1a e.symm
    try go_wp2_with fail
    refine hK.out _ _ ?_ (fun hHeld => ?_)
    · (try dsimp only); go_keep
    clear hK K
    try simp only [Act.put, zA, zB, zC]
    refine wpAnyH_take (i := 5) (oi := { dst := some 15, op := Op.move (Operand.tmp 20), type := 32, pos := "stairs.go:81", after := #[eD 4], guard := none }) (v := ?vq4x) rfl (by kernel_rfl) (by kernel_rfl) (by kernel_rfl) (fun _ _ _ h => h) (Or.inl ⟨by rfl, ?hyq4x⟩) (by assumption) ?restq4x
    case hyq4x => intro w hSw; (try dsimp only at hSw); go_simp; all_goals (with_reducible rfl)
    try simp only [Act.put, zA, zB, zC]
    refine wpAnyH_take (i := 6) (oi := { dst := some 21, op := Op.extract (Operand.tmp 15) 0, type := 26, pos := "stairs.go:81", after := #[eD 5], guard := none }) (v := ?vq5x) rfl (by kernel_rfl) (by kernel_rfl) (by kernel_rfl) (fun _ _ _ h => h) (Or.inl ⟨by rfl, ?hyq5x⟩) (by assumption) ?restq5x
    case hyq5x => intro w hSw; (try dsimp only at hSw); go_simp; all_goals (with_reducible rfl)
    try simp only [Act.put, zA, zB, zC]
    refine wpAnyH_take (i := 7) (oi := { dst := some 22, op := Op.extract (Operand.tmp 15) 1, type := 4, pos := "stairs.go:81", after := #[eD 5, { on := 9, ground := Ground.gcOnly Departure.lateStores }], guard := none }) (v := ?vq6x) rfl (by kernel_rfl) (by kernel_rfl) (by kernel_rfl) (fun _ _ _ h => h) (Or.inl ⟨by rfl, ?hyq6x⟩) (by assumption) ?restq6x
    case hyq6x => intro w hSw; (try dsimp only at hSw); go_simp; all_goals (with_reducible rfl)
    try simp only [Act.put, zA, zB, zC]
    refine wpAnyH_ready (rs := [8]) (by kernel_rfl) (by simp) ?_
    refine AllReadyH.cons (o := { dst := some 7, op := Op.alloc 26, type := 0, pos := "stairs.go:81", after := #[], guard := none }) rfl (fun K hK => ?_) AllReadyH.nil
    try go_simp
    try go_wp2_with fail
    refine hK.out _ _ ?_ (fun hHeld => ?_)
    · (try dsimp only); go_keep
    clear hK K
    try simp only [Act.put, zA, zB, zC]
    refine wpAnyH_ready (rs := [9]) (by kernel_rfl) (by simp) ?_
    refine AllReadyH.cons (o := { dst := none, op := Op.store 26 (Operand.tmp 7) (Operand.tmp 21), type := 0, pos := "stairs.go:81", after := #[eD 8, eD 6, eC 4, eP 0, eP 1, eP 2, eP 3, eP 4, eP 5, eP 6, { on := 7, ground := Ground.textOnly Departure.lateStores }, eP 8], guard := none }) rfl (fun K hK => ?_) AllReadyH.nil
    try go_simp
    try go_wp2_with fail
    refine hK.out _ _ ?_ (fun hHeld => ?_)
    · (try dsimp only); go_keep
    clear hK K
    try simp only [Act.put, zA, zB, zC]
    refine wpAnyH_take (i := 10) (oi := { dst := some 8, op := Op.assign (Operand.tmp 22), type := 4, pos := "stairs.go:81", after := #[eD 7, eC 9, eP 0, eP 1, eP 2, eP 3, eP 4, eP 5, eP 6, eP 7, eP 8, eP 9], guard := none }) (v := ?vq7x) rfl (by kernel_rfl) (by kernel_rfl) (by kernel_rfl) (fun _ _ _ h => h) (Or.inl ⟨by rfl, ?hyq7x⟩) (by assumption) ?restq7x
    case hyq7x => intro w hSw; (try dsimp only at hSw); go_simp; all_goals (with_reducible rfl)
    try simp only [Act.put, zA, zB, zC]
    refine wpAnyH_done (by kernel_rfl) ?_ _
    go_wp2_with fail
    go_meet
    exact ⟨_, u, rfl, Lib.hid (OneAt.new Hw6.out Hu.out HLw6.out)⟩
   ·
    skip
    try go_simp
    try go_wp2_with fail
    refine hK.out _ _ ?_ (fun hHeld => ?_)
    · (try dsimp only); go_keep
    clear hK K
    try simp only [Act.put, zA, zB, zC]
    refine wpAnyH_ready (rs := [4]) (by kernel_rfl) (by simp) ?_
    refine AllReadyH.cons (o := { dst := some 20, op := Op.call { callee := Callee.value (Operand.func 33), args := #[Operand.tmp 16, Operand.tmp 19], argTypes := #[26, 26] }, type := 32, pos := "stairs.go:81", after := #[eD 0, eD 3, eC 3], guard := none }) rfl (fun K hK => ?_) AllReadyH.nil
    try go_simp
    go_at_call 33
    refine (Div_c va d5 a (dd (b / a)) _ ((HVA.out _ (Hw5.out.alloc Hw5.out.size (.cells #[.bool false, .slice none 0 0, .slice none 0 0] 26))).more (by omega)) (Rw.more (HD5.out.alloc (.cells #[.bool false, .slice none 0 0, .slice none 0 0] 26)) (by omega)) (dd_ne _)).mono ?_
    rintro e w6 ⟨u, rfl, hu, hb⟩
    have Hu := Lib.hid hu
    have HLw6 := Lib.hid ((by simp : w5.heap.size < (w5.alloc (.cells #[.bool false, .slice none 0 0, .slice none 0 0] 26)).heap.size))
    clear hu
    have Hw6 := Lib.hid (one_al3 Hw5.out hb)
    have HXw6 := Lib.hid (And.intro Hw5.out.size hb.size)
    clear hb
    clear a0 a1 a2 x2
    obtain ⟨⟨a0, a1, a2, _, _, _⟩, ⟨_, _, x2, _, _, _⟩⟩ := HALL.out _ Hw6.out.1
    obtain ⟨q0, q1, q2, t0, t1, t2⟩ := Hw6.out.2.facts
    have m0a : ¬ w.heap.size = w5.heap.size := by have := HLT.out; have := HXw6.out.1; omega
    have m0b : ¬ w5.heap.size = w.heap.size := fun e => m0a e.symm
    have m1a : ¬ X = w5.heap.size := by have := HXL.out; have := HXw6.out.1; omega
    have m1b : ¬ w5.heap.size = X := fun e => m1a e.symm
    try go_wp2_with fail
    refine hK.out _ _ ?_ (fun hHeld => ?_)
    · (try dsimp only); go_keep
    clear hK K
    try simp only [Act.put, zA, zB, zC]
    refine wpAnyH_take (i := 5) (oi := { dst := some 15, op := Op.move (Operand.tmp 20), type := 32, pos := "stairs.go:81", after := #[eD 4], guard := none }) (v := ?vq8x) rfl (by kernel_rfl) (by kernel_rfl) (by kernel_rfl) (fun _ _ _ h => h) (Or.inl ⟨by rfl, ?hyq8x⟩) (by assumption) ?restq8x
    case hyq8x => intro w hSw; (try dsimp only at hSw); go_simp; all_goals (with_reducible rfl)
    try simp only [Act.put, zA, zB, zC]
    refine wpAnyH_take (i := 6) (oi := { dst := some 21, op := Op.extract (Operand.tmp 15) 0, type := 26, pos := "stairs.go:81", after := #[eD 5], guard := none }) (v := ?vq9x) rfl (by kernel_rfl) (by kernel_rfl) (by kernel_rfl) (fun _ _ _ h => h) (Or.inl ⟨by rfl, ?hyq9x⟩) (by assumption) ?restq9x
    case hyq9x => intro w hSw; (try dsimp only at hSw); go_simp; all_goals (with_reducible rfl)
    try simp only [Act.put, zA, zB, zC]
    refine wpAnyH_take (i := 7) (oi := { dst := some 22, op := Op.extract (Operand.tmp 15) 1, type := 4, pos := "stairs.go:81", after := #[eD 5, { on := 9, ground := Ground.gcOnly Departure.lateStores }], guard := none }) (v := ?vq10x) rfl (by kernel_rfl) (by kernel_rfl) (by kernel_rfl) (fun _ _ _ h => h) (Or.inl ⟨by rfl, ?hyq10x⟩) (by assumption) ?restq10x
    case hyq10x => intro w hSw; (try dsimp only at hSw); go_simp; all_goals (with_reducible rfl)
    try simp only [Act.put, zA, zB, zC]
    refine wpAnyH_ready (rs := [9]) (by kernel_rfl) (by simp) ?_
    refine AllReadyH.cons (o := { dst := none, op := Op.store 26 (Operand.tmp 7) (Operand.tmp 21), type := 0, pos := "stairs.go:81", after := #[eD 8, eD 6, eC 4, eP 0, eP 1, eP 2, eP 3, eP 4, eP 5, eP 6, { on := 7, ground := Ground.textOnly Departure.lateStores }, eP 8], guard := none }) rfl (fun K hK => ?_) AllReadyH.nil
    try go_simp
    try go_wp2_with fail
    refine hK.out _ _ ?_ (fun hHeld => ?_)
    · (try dsimp only); go_keep
    clear hK K
    try simp only [Act.put, zA, zB, zC]
    refine wpAnyH_take (i := 10) (oi := { dst := some 8, op := Op.assign (Operand.tmp 22), type := 4, pos := "stairs.go:81", after := #[eD 7, eC 9, eP 0, eP 1, eP 2, eP 3, eP 4, eP 5, eP 6, eP 7, eP 8, eP 9], guard := none }) (v := ?vq11x) rfl (by kernel_rfl) (by kernel_rfl) (by kernel_rfl) (fun _ _ _ h => h) (Or.inl ⟨by rfl, ?hyq11x⟩) (by assumption) ?restq11x
    case hyq11x => intro w hSw; (try dsimp only at hSw); go_simp; all_goals (with_reducible rfl)
    try simp only [Act.put, zA, zB, zC]
    refine wpAnyH_done (by kernel_rfl) ?_ _
    go_wp2_with fail
    go_meet
    exact ⟨_, u, rfl, Lib.hid (OneAt.put Hw6.out.2 HXw6.out.1 HLw6.out Hw6.out.1 Hu.out)⟩
  ·
   skip
   try go_simp
   try go_wp2_with fail
   refine hK.out _ _ ?_ (fun hHeld => ?_)
   · (try dsimp only); go_keep
   clear hK K
   try simp only [Act.put, zA, zB, zC]
   refine wpAnyH_ready (rs := [3]) (by kernel_rfl) (by simp) ?_
   refine AllReadyH.cons (o := { dst := some 19, op := Op.call { callee := Callee.value (Operand.func 85), args := #[Operand.tmp 18], argTypes := #[24] }, type := 26, pos := "stairs.go:81", after := #[eD 2], guard := none }) rfl (fun K hK => ?_) AllReadyH.nil
   try go_simp
   go_at_call 85
   refine (whole_den z (b / a) _ p _ (HRT.out _ (((Below.refl _ _).alloc (Nat.le_refl _) _).drew)) h1 (by omega)).mono ?_
   rintro e w5 ⟨d5, rfl, hd5, hb⟩
   have HD5 := Lib.hid (hd5.rw h2)
   clear hd5
   have Hw5 := Lib.hid (one_al hb)
   clear hb
   clear a0 a1 a2 x2
   obtain ⟨⟨a0, a1, a2, _, _, _⟩, ⟨_, _, x2, _, _, _⟩⟩ := HALL.out _ Hw5.out.1
   try go_wp2_with fail
   refine hK.out _ _ ?_ (fun hHeld => ?_)
   · (try dsimp only); go_keep
   clear hK K
   try simp only [Act.put, zA, zB, zC]
   refine wpAnyH_ready (rs := [4]) (by kernel_rfl) (by simp) ?_
   refine AllReadyH.cons (o := { dst := some 20, op := Op.call { callee := Callee.value (Operand.func 33), args := #[Operand.tmp 16, Operand.tmp 19], argTypes := #[26, 26] }, type := 32, pos := "stairs.go:81", after := #[eD 0, eD 3, eC 3], guard := none }) rfl (fun K hK => ?_) AllReadyH.nil
   try go_simp
   go_at_call 33
   refine (Div_c va d5 a (dd (b / a)) _ ((HVA.out _ Hw5.out.1).more (by omega)) (Rw.more (HD5.out) (by omega)) (dd_ne _)).mono ?_
   rintro e w6 ⟨u, rfl, hu, hb⟩
   have Hu := Lib.hid hu
   have HLw6 := Lib.hid (Hw5.out.2.2)
   clear hu
   have Hw6 := Lib.hid (one_al2 Hw5.out hb)
   clear hb
   clear a0 a1 a2 x2
   obtain ⟨⟨a0, a1, a2, _, _, _⟩, ⟨_, _, x2, _, _, _⟩⟩ := HALL.out _ Hw6.out.1
   obtain ⟨q0, q1, q2, t0, t1, t2⟩ := Hw6.out.2.facts
   have m0a : ¬ w.heap.size = W2.heap.size := by have := HLT.out; omega
   have m0b : ¬ W2.heap.size = w.heap.size := fun e => m0a e.symm
   have m1a : ¬ X = W2.heap.size := by have := HXL.out; omega
   have m1b : ¬ W2.heap.size = X := fun e => m1a e.symm
   try go_wp2_with fail
   refine hK.out _ _ ?_ (fun hHeld => ?_)
   · (try dsimp only); go_keep
   clear hK K
   try simp only [Act.put, zA, zB, zC]
   refine wpAnyH_take (i := 5) (oi := { dst := some 15, op := Op.move (Operand.tmp 20), type := 32, pos := "stairs.go:81", after := #[eD 4], guard := none }) (v := ?vq12x) rfl (by kernel_rfl) (by kernel_rfl) (by kernel_rfl) (fun _ _ _ h => h) (Or.inl ⟨by rfl, ?hyq12x⟩) (by assumption) ?restq12x
   case hyq12x => intro w hSw; (try dsimp only at hSw); go_simp; all_goals (with_reducible rfl)
   try simp only [Act.put, zA, zB, zC]
   refine wpAnyH_take (i := 6) (oi := { dst := some 21, op := Op.extract (Operand.tmp 15) 0, type := 26, pos := "stairs.go:81", after := #[eD 5], guard := none }) (v := ?vq13x) rfl (by kernel_rfl) (by kernel_rfl) (by kernel_rfl) (fun _ _ _ h => h) (Or.inl ⟨by rfl, ?hyq13x⟩) (by assumption) ?restq13x
   case hyq13x => intro w hSw; (try dsimp only at hSw); go_simp; all_goals (with_reducible rfl)
   try simp only [Act.put, zA, zB, zC]
   refine wpAnyH_take (i := 7) (oi := { dst := some 22, op := Op.extract (Operand.tmp 15) 1, type := 4, pos := "stairs.go:81", after := #[eD 5, { on := 9, ground := Ground.gcOnly Departure.lateStores }], guard := none }) (v := ?vq14x) rfl (by kernel_rfl) (by kernel_rfl) (by kernel_rfl) (fun _ _ _ h => h) (Or.inl ⟨by rfl, ?hyq14x⟩) (by assumption) ?restq14x
   case hyq14x => intro w hSw; (try dsimp only at hSw); go_simp; all_goals (with_reducible rfl)
   try simp only [Act.put, zA, zB, zC]
   refine wpAnyH_ready (rs := [9]) (by kernel_rfl) (by simp) ?_
   refine AllReadyH.cons (o := { dst := none, op := Op.store 26 (Operand.tmp 7) (Operand.tmp 21), type := 0, pos := "stairs.go:81", after := #[eD 8, eD 6, eC 4, eP 0, eP 1, eP 2, eP 3, eP 4, eP 5, eP 6, { on := 7, ground := Ground.textOnly Departure.lateStores }, eP 8], guard := none }) rfl (fun K hK => ?_) AllReadyH.nil
   try go_simp
   try go_wp2_with fail
   refine hK.out _ _ ?_ (fun hHeld => ?_)
   · (try dsimp only); go_keep
   clear hK K
   try simp only [Act.put, zA, zB, zC]
   refine wpAnyH_take (i := 10) (oi := { dst := some 8, op := Op.assign (Operand.tmp 22), type := 4, pos := "stairs.go:81", after := #[eD 7, eC 9, eP 0, eP 1, eP 2, eP 3, eP 4, eP 5, eP 6, eP 7, eP 8, eP 9], guard := none }) (v := ?vq15x) rfl (by kernel_rfl) (by kernel_rfl) (by kernel_rfl) (fun _ _ _ h => h) (Or.inl ⟨by rfl, ?hyq15x⟩) (by assumption) ?restq15x
   case hyq15x => intro w hSw; (try dsimp only at hSw); go_simp; all_goals (with_reducible rfl)
   try simp only [Act.put, zA, zB, zC]
   refine wpAnyH_done (by kernel_rfl) ?_ _
   go_wp2_with fail
   go_meet
   exact ⟨_, u, rfl, Lib.hid (OneAt.put (Hw6.out.2) (Nat.le_refl _) HLw6.out Hw6.out.1 Hu.out)⟩
 case rest =>
  obtain ⟨Y, u, rfl, HU⟩ := hcut
  have HN : Hid (W.heap.size ≤ W2.heap.size) := HO.out.below.size
  have hsz := HK.out.2.2.2
  have hne : ¬ Y = w.heap.size + 1 + 1 := by have := HU.out.lo; have := HN.out; omega
  have hne' : ¬ w.heap.size + 1 + 1 = Y := fun e => hne e.symm
  have kz2 := (HK.out.2.1.below HO.out.below).below HU.out.below
  obtain ⟨u0, u1, u2, _, _, _⟩ := HU.out.cell.facts
  obtain ⟨z0, z1, z2, t0, t1, t2⟩ := kz2.facts
  clear a0 a1 a2 x2
  go_wp2
  refine ret3 (fn := Tryz.f100) Tryz.results100 rfl rfl kz2 ?_
  refine ⟨u, rfl, (HU.out.num.put (by have := HN.out; omega) _ _ _).lower (by have := HN.out; omega), ?_⟩
  exact ((HK.out.2.2.1.trans (HO.out.below.mono (by omega))).trans (HU.out.below.mono (by have := HN.out; omega))).trans (put3_below (by omega) _ _ _)
end Go.Proofs.YtkfkjdpkkagjgaaGreat
