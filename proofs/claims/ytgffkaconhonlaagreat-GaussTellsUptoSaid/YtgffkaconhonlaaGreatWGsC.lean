/-
  One sum less so often another, as makes the first variable go.
-/
import Derived.Test.YtgffkaconhonlaaGreatWGsB
import Derived.Test.YtgffkaconhonlaaGreatWMAa
import Derived.Test.YtgffkaconhonlaaGreatWRgn
namespace Go.Proofs.YtgffkaconhonlaaGreat
set_option maxRecDepth 20000
open Go.RowKit
theorem rn_nn (r : Rat) : rn (!decide (r.num < 0)) r.num.natAbs 1 = nn r := by
 rw [rn_int]
 unfold nn
 congr 1
 by_cases h : r.num < 0
 · rw [decide_eq_true h]; show (r.num.natAbs : Int) = -r.num; omega
 · rw [decide_eq_false h]; show -(r.num.natAbs : Int) = -r.num; omega
theorem Ct.put {w : World} {lo b : Nat} {v : Cv} {L : List (Int × Rat)} {k : Rat} (h : Ct w lo v L k) (hb : b < lo) (x0 x1 x2 x3 x4 : Value) : Ct (put5 w b x0 x1 x2 x3 x4) lo v L k := by
 obtain ⟨h1, ⟨l, h2, h3⟩, h4⟩ := h
 exact ⟨h1, ⟨l, h2.but hb (by rw [put5_size]; exact Nat.le_refl _) (put5_but _ _ _ _ _ _ _), RdN.but hb (by rw [put5_size]; exact Nat.le_refl _) (put5_but _ _ _ _ _ _ _) h3⟩, h4.but hb (by rw [put5_size]; exact Nat.le_refl _) (put5_but _ _ _ _ _ _ _)⟩
theorem Cw.first {w : World} {va : Cv} {v : Int} {q k : Rat} {l : List (Int × Rat)} {p : Nat} (h : Cw w va ((v, q) :: l) k p) : 0 < va.n ∧ ∃ b o x, va.A = some ⟨b, o, none⟩ ∧ b < w.heap.size ∧ At4 w b o x ∧ x.v = v ∧ Rw w x.r q p := by
 obtain ⟨_, ⟨la, h2, h3⟩, _⟩ := h
 have hl := h3.len
 have hn : 0 < va.n := by rw [← h2.len, hl]; simp
 obtain ⟨b, off, e, _, hb, hc⟩ := h2.mem hn
 obtain ⟨x, y, hx, hy, hxv, hxr⟩ := h3.get 0 (by rw [hl]; simp)
 simp at hy
 subst hy
 have := hc 0 x hx
 rw [Nat.zero_mul, Nat.add_zero] at this
 exact ⟨hn, b, off, x, e, hb, this, hxv, hxr⟩
set_option maxHeartbeats 12800000 in
theorem less_c (va vb : Cv) (v : Int) (q s k kb : Rat) (l m : List (Int × Rat)) (p : Nat) (w : World) (ha : Cw w va ((v, q) :: l) k p) (hb : Cw w vb ((v, s) :: m) kb p) (hs : s ≠ 0)
  (h1 : Sz (q / s) p) (h2 : Sz (dd (q / s)) p) (h3 : Sz (nn (q / s)) p) (h4 : SzL p (scaleL (dd (q / s)) ((v, q) :: l))) (h5 : Sz (k * dd (q / s)) p) (h6 : SzL p (scaleL (nn (q / s)) ((v, s) :: m))) (h7 : Sz (kb * nn (q / s)) p) (hn : va.n ≤ 400) (hm : vb.n ≤ 400) (hp : p ≤ 10000000000) :
  Calls Tryz.prog 75 #[.agg #[.int .i64 va.s, .slice va.A va.n va.c, .bool va.K.s, .slice va.K.A va.K.n va.K.c, .slice va.K.B va.K.m va.K.d], .agg #[.int .i64 vb.s, .slice vb.A vb.n vb.c, .bool vb.K.s, .slice vb.K.A vb.K.n vb.K.c, .slice vb.K.B vb.K.m vb.K.d]] w fun e w' => ∃ z : Cv, e = .returned (.agg #[.int .i64 z.s, .slice z.A z.n z.c, .bool z.K.s, .slice z.K.A z.K.n z.K.c, .slice z.K.B z.K.m z.K.d]) ∧ z.s = va.s ∧ z.n ≤ va.n + vb.n ∧ Ct w' w.heap.size z (lsL (q / s) ((v, q) :: l) ((v, s) :: m)) (lsK (q / s) k kb) ∧ Below w.heap.size w w' := by
 obtain ⟨na, ba, oa, xa, eA, hba, hxa, _, hxar⟩ := ha.first
 obtain ⟨nb, bb, ob, xb, eB, hbb, hxb, _, hxbr⟩ := hb.first
 have n0 : (0 : Int) < (va.n : Int) := by omega
 have m0 : (0 : Int) < (vb.n : Int) := by omega
 have EA := Lib.hid eA
 have EB := Lib.hid eB
 clear eA eB
 go_enter Tryz.func75, Tryz.ntmps75
 go_wp2_with fail
 generalize hW : ((w.alloc (.cells #[.int .i64 va.s, .slice va.A va.n va.c, .bool va.K.s, .slice va.K.A va.K.n va.K.c, .slice va.K.B va.K.m va.K.d] 28)).alloc (.cells #[.int .i64 vb.s, .slice vb.A vb.n vb.c, .bool vb.K.s, .slice vb.K.A vb.K.n vb.K.c, .slice vb.K.B vb.K.m vb.K.d] 28)).alloc (.cells #[.int .i64 0, .slice none 0 0, .bool false, .slice none 0 0, .slice none 0 0] 28) = W
 obtain ⟨ka, kb', kz, HW, hsW⟩ := openK2z w va vb W hW
 clear hW
 have HXA : Hid (∀ w', Below W.heap.size W w' → Rw w' xa.r q p) := fun w' h => (hxar.below HW).below h
 have HXB : Hid (∀ w', Below W.heap.size W w' → Rw w' xb.r s p) := fun w' h => (hxbr.below HW).below h
 have HVW : Hid (Cw W va ((v, q) :: l) k p ∧ Cw W vb ((v, s) :: m) kb p) := ⟨ha.below HW, hb.below HW⟩
 have HK := Lib.hid (And.intro ka kb')
 have HKZ := Lib.hid kz
 have HALL : Hid (∀ w', Below W.heap.size W w' → (w'.cell? ⟨w.heap.size, 0, none⟩ = some (.int .i64 va.s) ∧ w'.cell? ⟨w.heap.size, 1, none⟩ = some (.slice (some ⟨ba, oa, none⟩) va.n va.c) ∧ w'.cell? ⟨w.heap.size, 2, none⟩ = some (.bool va.K.s) ∧ w'.cell? ⟨w.heap.size, 3, none⟩ = some (.slice va.K.A va.K.n va.K.c) ∧ w'.cell? ⟨w.heap.size, 4, none⟩ = some (.slice va.K.B va.K.m va.K.d)) ∧ (w'.cell? ⟨w.heap.size + 1, 0, none⟩ = some (.int .i64 vb.s) ∧ w'.cell? ⟨w.heap.size + 1, 1, none⟩ = some (.slice (some ⟨bb, ob, none⟩) vb.n vb.c) ∧ w'.cell? ⟨w.heap.size + 1, 2, none⟩ = some (.bool vb.K.s) ∧ w'.cell? ⟨w.heap.size + 1, 3, none⟩ = some (.slice vb.K.A vb.K.n vb.K.c) ∧ w'.cell? ⟨w.heap.size + 1, 4, none⟩ = some (.slice vb.K.B vb.K.m vb.K.d)) ∧ (w'.cell? ⟨ba, oa, none⟩ = some (.int .i64 xa.v) ∧ w'.cell? ⟨ba, oa + 1, none⟩ = some (.bool xa.r.s) ∧ w'.cell? ⟨ba, oa + 2, none⟩ = some (.slice xa.r.A xa.r.n xa.r.c) ∧ w'.cell? ⟨ba, oa + 3, none⟩ = some (.slice xa.r.B xa.r.m xa.r.d)) ∧ (w'.cell? ⟨bb, ob, none⟩ = some (.int .i64 xb.v) ∧ w'.cell? ⟨bb, ob + 1, none⟩ = some (.bool xb.r.s) ∧ w'.cell? ⟨bb, ob + 2, none⟩ = some (.slice xb.r.A xb.r.n xb.r.c) ∧ w'.cell? ⟨bb, ob + 3, none⟩ = some (.slice xb.r.B xb.r.m xb.r.d))) := fun w' h => by
  have g1 := (ka.below h).facts
  have g2 := (kb'.below h).facts
  rw [EA.out] at g1
  rw [EB.out] at g2
  have g3 := (hxa.keep (HW.block ba hba)).keep (h.block ba (Nat.lt_of_lt_of_le hba HW.size))
  have g4 := (hxb.keep (HW.block bb hbb)).keep (h.block bb (Nat.lt_of_lt_of_le hbb HW.size))
  exact ⟨g1, g2, ⟨g3.h0, g3.h1, g3.h2, g3.h3⟩, ⟨g4.h0, g4.h1, g4.h2, g4.h3⟩⟩
 have HLT : Hid (w.heap.size < W.heap.size ∧ w.heap.size + 1 < W.heap.size ∧ ba < W.heap.size ∧ bb < W.heap.size) := by show _ ∧ _; omega
 have HW := Lib.hid (And.intro HW hsW)
 clear ha hb ka kb' kz hxa hxb hxar hxbr hsW EA EB hba hbb
 obtain ⟨⟨_, a1, _, _, _⟩, ⟨_, b1, _, _, _⟩, ⟨_, x1, x2, x3⟩, ⟨_, y1, y2, y3⟩⟩ := HALL.out _ (Below.refl _ _)
 go_cut [5] from 7 (fun xv wx => ∃ (X : Nat) (z : Rv), xv = .pointer (some ⟨X, 0, none⟩) ∧ Hid (OneAt W wx X z (q / s)))
 case first =>
  refine wp_region_held_drew (S := fun w' => w'.cell? ⟨w.heap.size, 1, none⟩ = some (.slice (some ⟨ba, oa, none⟩) va.n va.c) ∧ w'.cell? ⟨w.heap.size + 1, 1, none⟩ = some (.slice (some ⟨bb, ob, none⟩) vb.n vb.c) ∧ w'.cell? ⟨ba, oa + 1, none⟩ = some (.bool xa.r.s) ∧ w'.cell? ⟨ba, oa + 2, none⟩ = some (.slice xa.r.A xa.r.n xa.r.c) ∧ w'.cell? ⟨ba, oa + 3, none⟩ = some (.slice xa.r.B xa.r.m xa.r.d) ∧ w'.cell? ⟨bb, ob + 1, none⟩ = some (.bool xb.r.s) ∧ w'.cell? ⟨bb, ob + 2, none⟩ = some (.slice xb.r.A xb.r.n xb.r.c) ∧ w'.cell? ⟨bb, ob + 3, none⟩ = some (.slice xb.r.B xb.r.m xb.r.d)) (by kernel_rfl) ?_ (fun hHeld => ?_)
  ·
   (try dsimp only)
   go_keep
  refine tk (i := 0) (h := ?_)
  try simp only [zR]
  refine tk (i := 1) (h := ?_)
  try simp only [zR]
  refine tk (i := 2) (h := ?_)
  try simp only [zR]
  refine tk (i := 3) (h := ?_)
  try simp only [zR]
  refine tk (i := 4) (h := ?_)
  try simp only [zR]
  refine tk (i := 5) (h := ?_)
  try simp only [zR]
  refine tk (i := 6) (h := ?_)
  try simp only [zR]
  refine tk (i := 7) (h := ?_)
  try simp only [zR]
  refine tk (i := 8) (h := ?_)
  try simp only [zR]
  refine tk (i := 9) (h := ?_)
  try simp only [zR]
  refine tr [10, 14] ?_
  refine tc (h := fun K hK => ?_) (hs := tc (h := fun K hK => ?_) (hs := tn))
  ·
   skip
   try go_simp
   go_at_call 42
   refine (Div_c xa.r xb.r q s _ ((HXA.out _ (bel1 W)).more (by omega)) ((HXB.out _ (bel1 W)).more (by omega)) hs).mono ?_
   rintro e w4 ⟨z, rfl, hz, hb⟩
   have Hz := Lib.hid hz
   have HLw4 := Lib.hid ((Nat.le_refl W.heap.size))
   clear hz
   have Hw4 := Lib.hid ((bel1 W).trans hb)
   clear hb
   clear a1 b1 x1 x2 x3 y1 y2 y3
   obtain ⟨⟨_, a1, _, _, _⟩, ⟨_, b1, _, _, _⟩, ⟨_, x1, x2, x3⟩, ⟨_, y1, y2, y3⟩⟩ := HALL.out _ Hw4.out
   have m0a : ¬ w.heap.size = w4.heap.size := by have := HLT.out.1; have := Hw4.out.size; omega
   have m0b : ¬ w4.heap.size = w.heap.size := fun e => m0a e.symm
   have m1a : ¬ (w.heap.size + 1) = w4.heap.size := by have := HLT.out.2.1; have := Hw4.out.size; omega
   have m1b : ¬ w4.heap.size = (w.heap.size + 1) := fun e => m1a e.symm
   have m2a : ¬ ba = w4.heap.size := by have := HLT.out.2.2.1; have := Hw4.out.size; omega
   have m2b : ¬ w4.heap.size = ba := fun e => m2a e.symm
   have m3a : ¬ bb = w4.heap.size := by have := HLT.out.2.2.2; have := Hw4.out.size; omega
   have m3b : ¬ w4.heap.size = bb := fun e => m3a e.symm
   try go_wp2_with fail
   refine hK.out _ _ ?_ (fun hHeld => ?_)
   · (try dsimp only); go_keep
   clear hK K
   try simp only [zR]
   refine tk (i := 11) (h := ?_)
   try simp only [zR]
   refine tk (i := 12) (h := ?_)
   try simp only [zR]
   refine tk (i := 13) (h := ?_)
   try simp only [zR]
   refine tr [14] ?_
   refine tc (h := fun K hK => ?_) (hs := tn)
   try go_simp
   try go_wp2_with fail
   refine hK.out _ _ ?_ (fun hHeld => ?_)
   · (try dsimp only); go_keep
   clear hK K
   try simp only [zR]
   refine tr [15] ?_
   refine tc (h := fun K hK => ?_) (hs := tn)
   try go_simp
   try go_wp2_with fail
   refine hK.out _ _ ?_ (fun hHeld => ?_)
   · (try dsimp only); go_keep
   clear hK K
   try simp only [zR]
   refine tk (i := 16) (h := ?_)
   try simp only [zR]
   refine wpAnyH_done (by kernel_rfl) ?_ _
   go_wp2_with fail
   go_meet
   exact ⟨_, z, rfl, Lib.hid (OneAt.new Hw4.out Hz.out HLw4.out)⟩
  ·
   skip
   try go_simp
   try go_wp2_with fail
   refine hK.out _ _ ?_ (fun hHeld => ?_)
   · (try dsimp only); go_keep
   clear hK K
   try simp only [zR]
   refine tr [10] ?_
   refine tc (h := fun K hK => ?_) (hs := tn)
   try go_simp
   go_at_call 42
   refine (Div_c xa.r xb.r q s _ ((HXA.out _ (((Below.refl _ _).alloc (Nat.le_refl _) _).drew)).more (by omega)) ((HXB.out _ (((Below.refl _ _).alloc (Nat.le_refl _) _).drew)).more (by omega)) hs).mono ?_
   rintro e w4 ⟨z, rfl, hz, hb⟩
   have Hz := Lib.hid hz
   have HLw4 := Lib.hid ((by simp : W.heap.size < (W.alloc (.cells #[.bool false, .slice none 0 0, .slice none 0 0] 26)).drew.heap.size))
   clear hz
   have Hw4 := Lib.hid (one_al hb)
   clear hb
   clear a1 b1 x1 x2 x3 y1 y2 y3
   obtain ⟨⟨_, a1, _, _, _⟩, ⟨_, b1, _, _, _⟩, ⟨_, x1, x2, x3⟩, ⟨_, y1, y2, y3⟩⟩ := HALL.out _ Hw4.out.1
   obtain ⟨q0, q1, q2, t0, t1, t2⟩ := Hw4.out.2.1.facts
   have m0a : ¬ w.heap.size = W.heap.size := by have := HLT.out.1; omega
   have m0b : ¬ W.heap.size = w.heap.size := fun e => m0a e.symm
   have m1a : ¬ (w.heap.size + 1) = W.heap.size := by have := HLT.out.2.1; omega
   have m1b : ¬ W.heap.size = (w.heap.size + 1) := fun e => m1a e.symm
   have m2a : ¬ ba = W.heap.size := by have := HLT.out.2.2.1; omega
   have m2b : ¬ W.heap.size = ba := fun e => m2a e.symm
   have m3a : ¬ bb = W.heap.size := by have := HLT.out.2.2.2; omega
   have m3b : ¬ W.heap.size = bb := fun e => m3a e.symm
   try go_wp2_with fail
   refine hK.out _ _ ?_ (fun hHeld => ?_)
   · (try dsimp only); go_keep
   clear hK K
   try simp only [zR]
   refine tk (i := 11) (h := ?_)
   try simp only [zR]
   refine tk (i := 12) (h := ?_)
   try simp only [zR]
   refine tk (i := 13) (h := ?_)
   try simp only [zR]
   refine tr [15] ?_
   refine tc (h := fun K hK => ?_) (hs := tn)
   try go_simp
   try go_wp2_with fail
   refine hK.out _ _ ?_ (fun hHeld => ?_)
   · (try dsimp only); go_keep
   clear hK K
   try simp only [zR]
   refine tk (i := 16) (h := ?_)
   try simp only [zR]
   refine wpAnyH_done (by kernel_rfl) ?_ _
   go_wp2_with fail
   go_meet
   exact ⟨_, z, rfl, Lib.hid (OneAt.put (Hw4.out.2.1) (Nat.le_refl _) HLw4.out Hw4.out.1 Hz.out)⟩
 case rest =>
  obtain ⟨X, z, rfl, HU⟩ := hcut
  clear a1 b1 x1 x2 x3 y1 y2 y3
  have HVA : Hid (∀ w', Below wc.heap.size wc w' → Cw w' va ((v, q) :: l) k p) := fun w' h => (HVW.out.1.below HU.out.below).below h
  have HVB : Hid (∀ w', Below wc.heap.size wc w' → Cw w' vb ((v, s) :: m) kb p) := fun w' h => (HVW.out.2.below HU.out.below).below h
  have HAL2 : Hid (∀ w', Below wc.heap.size wc w' → (w'.cell? ⟨w.heap.size, 0, none⟩ = some (.int .i64 va.s) ∧ w'.cell? ⟨w.heap.size, 1, none⟩ = some (.slice va.A va.n va.c) ∧ w'.cell? ⟨w.heap.size, 2, none⟩ = some (.bool va.K.s) ∧ w'.cell? ⟨w.heap.size, 3, none⟩ = some (.slice va.K.A va.K.n va.K.c) ∧ w'.cell? ⟨w.heap.size, 4, none⟩ = some (.slice va.K.B va.K.m va.K.d)) ∧ (w'.cell? ⟨w.heap.size + 1, 0, none⟩ = some (.int .i64 vb.s) ∧ w'.cell? ⟨w.heap.size + 1, 1, none⟩ = some (.slice vb.A vb.n vb.c) ∧ w'.cell? ⟨w.heap.size + 1, 2, none⟩ = some (.bool vb.K.s) ∧ w'.cell? ⟨w.heap.size + 1, 3, none⟩ = some (.slice vb.K.A vb.K.n vb.K.c) ∧ w'.cell? ⟨w.heap.size + 1, 4, none⟩ = some (.slice vb.K.B vb.K.m vb.K.d)) ∧ (w'.cell? ⟨X, 0, none⟩ = some (.bool z.s) ∧ w'.cell? ⟨X, 1, none⟩ = some (.slice z.A z.n z.c) ∧ w'.cell? ⟨X, 2, none⟩ = some (.slice z.B z.m z.d) ∧ w'.frozen? ⟨X, 0, none⟩ = false ∧ w'.frozen? ⟨X, 1, none⟩ = false ∧ w'.frozen? ⟨X, 2, none⟩ = false)) := fun w' h => ⟨((HK.out.1.below HU.out.below).below h).facts, ((HK.out.2.below HU.out.below).below h).facts, (HU.out.cell.below h).facts⟩
  obtain ⟨⟨a0, a1, a2, a3, a4⟩, ⟨b0, b1, b2, b3, b4⟩, ⟨x0, x1, x2, _, _, _⟩⟩ := HAL2.out _ (Below.refl _ _)
  have hne1 : ¬ w.heap.size + 1 + 1 = w.heap.size := by omega
  have hne2 : ¬ w.heap.size + 1 + 1 = X := by have := HU.out.lo; have := HW.out.2; omega
  have hne3 : ¬ X = w.heap.size + 1 + 1 := fun e => hne2 e.symm
  have hne4 : ¬ w.heap.size = w.heap.size + 1 + 1 := by omega
  go_upto_region 2 with fail
  refine wp_region_held_drew (S := fun w' => w'.cell? ⟨w.heap.size, 0, none⟩ = some (.int .i64 va.s) ∧ w'.cell? ⟨w.heap.size, 1, none⟩ = some (.slice va.A va.n va.c) ∧ w'.cell? ⟨w.heap.size, 2, none⟩ = some (.bool va.K.s) ∧ w'.cell? ⟨w.heap.size, 3, none⟩ = some (.slice va.K.A va.K.n va.K.c) ∧ w'.cell? ⟨w.heap.size, 4, none⟩ = some (.slice va.K.B va.K.m va.K.d) ∧ w'.cell? ⟨w.heap.size + 1, 0, none⟩ = some (.int .i64 vb.s) ∧ w'.cell? ⟨w.heap.size + 1, 1, none⟩ = some (.slice vb.A vb.n vb.c) ∧ w'.cell? ⟨w.heap.size + 1, 2, none⟩ = some (.bool vb.K.s) ∧ w'.cell? ⟨w.heap.size + 1, 3, none⟩ = some (.slice vb.K.A vb.K.n vb.K.c) ∧ w'.cell? ⟨w.heap.size + 1, 4, none⟩ = some (.slice vb.K.B vb.K.m vb.K.d) ∧ w'.cell? ⟨X, 0, none⟩ = some (.bool z.s) ∧ w'.cell? ⟨X, 1, none⟩ = some (.slice z.A z.n z.c) ∧ w'.cell? ⟨X, 2, none⟩ = some (.slice z.B z.m z.d)) (by kernel_rfl) ?_ (fun hHeld => ?_)
  ·
   (try dsimp only)
   go_keep
  refine tk (i := 0) (h := ?_)
  try simp only [zR]
  refine tk (i := 1) (h := ?_)
  try simp only [zR]
  refine tk (i := 2) (h := ?_)
  try simp only [zR]
  refine tk (i := 5) (h := ?_)
  try simp only [zR]
  refine tk (i := 6) (h := ?_)
  try simp only [zR]
  refine tk (i := 7) (h := ?_)
  try simp only [zR]
  refine tk (i := 8) (h := ?_)
  try simp only [zR]
  refine tk (i := 9) (h := ?_)
  try simp only [zR]
  refine tk (i := 10) (h := ?_)
  try simp only [zR]
  refine tr [3] ?_
  refine tc (h := fun K hK => ?_) (hs := tn)
  try go_simp
  go_at_call 101
  refine (whole_den z (q / s) _ p _ (HU.out.num.below (bel1 wc)) h1 (by omega)).mono ?_
  rintro e w5 ⟨d5, rfl, hd5, hb⟩
  have H5 := Lib.hid (And.intro ((bel1 wc).trans hb) (hd5.rw h2))
  clear hd5 hb
  clear a0 a1 a2 a3 a4 b0 b1 b2 b3 b4 x0 x1 x2
  obtain ⟨⟨a0, a1, a2, a3, a4⟩, ⟨b0, b1, b2, b3, b4⟩, ⟨x0, x1, x2, _, _, _⟩⟩ := HAL2.out _ H5.out.1
  try go_wp2_with fail
  refine hK.out _ _ ?_ (fun hHeld => ?_)
  · (try dsimp only); go_keep
  clear hK K
  try simp only [zR]
  refine tr [4] ?_
  refine tc (h := fun K hK => ?_) (hs := tn)
  try go_simp
  go_at_call 100
  refine (ScaleK_c va d5 ((v, q) :: l) k (dd (q / s)) _ ((HVA.out _ H5.out.1).more (by omega)) (H5.out.2.more (by omega)) (by omega)).mono ?_
  rintro e w6 ⟨zA, rfl, hA1, hA2, hA3, hb⟩
  have H6 := Lib.hid (And.intro (H5.out.1.trans (hb.mono H5.out.1.size)) (And.intro hA1 (And.intro hA2 hA3)))
  have HL6 : Hid (wc.heap.size ≤ w5.heap.size) := H5.out.1.size
  clear hA1 hA2 hA3 hb
  clear a0 a1 a2 a3 a4 b0 b1 b2 b3 b4 x0 x1 x2
  obtain ⟨⟨a0, a1, a2, a3, a4⟩, ⟨b0, b1, b2, b3, b4⟩, ⟨x0, x1, x2, _, _, _⟩⟩ := HAL2.out _ H6.out.1
  try go_wp2_with fail
  refine hK.out _ _ ?_ (fun hHeld => ?_)
  · (try dsimp only); go_keep
  clear hK K
  try simp only [zR]
  refine tr [11] ?_
  refine tc (h := fun K hK => ?_) (hs := tn)
  try go_simp
  go_at_call 102
  refine (one_c _).mono ?_
  rintro e w7 ⟨A1, n1, c1, rfl, hnc, hn2, hA, hb⟩
  have H7 := Lib.hid (And.intro (H6.out.1.trans (hb.mono H6.out.1.size)) (And.intro (H6.out.2.2.2.below hb) (And.intro hA (And.intro hnc hn2))))
  clear hA hb hnc hn2
  clear a0 a1 a2 a3 a4 b0 b1 b2 b3 b4 x0 x1 x2
  obtain ⟨⟨a0, a1, a2, a3, a4⟩, ⟨b0, b1, b2, b3, b4⟩, ⟨x0, x1, x2, _, _, _⟩⟩ := HAL2.out _ H7.out.1
  try go_wp2_with fail
  refine hK.out _ _ ?_ (fun hHeld => ?_)
  · (try dsimp only); go_keep
  clear hK K
  try simp only [zR]
  refine tr [12] ?_
  refine tc (h := fun K hK => ?_) (hs := tn)
  try go_simp
  go_at_call 76
  refine (Of_nums (!z.s) z.A A1 z.n n1 z.c c1 (q / s).num.natAbs 1 (lim (q / s).num.natAbs) (lim 1) (nn (q / s)) _ (val_lim _) val_lim1 (by have := ((HU.out.num.rw h1).numLe); omega) (by have := H7.out.2.2.2.2; omega) HU.out.num.numCap H7.out.2.2.2.1 (((HU.out.num.below H7.out.1).num).lower (Nat.zero_le _)) (H7.out.2.2.1.lower (Nat.zero_le _)) (by rw [HU.out.num.sign]; exact rn_nn _)).mono ?_
  rintro e w8 ⟨u, rfl, hu, hb⟩
  have H8 := Lib.hid (And.intro (H7.out.1.trans (hb.mono H7.out.1.size)) (And.intro (H7.out.2.1.below hb) (hu.rw h3)))
  clear hu hb
  clear a0 a1 a2 a3 a4 b0 b1 b2 b3 b4 x0 x1 x2
  obtain ⟨⟨a0, a1, a2, a3, a4⟩, ⟨b0, b1, b2, b3, b4⟩, ⟨x0, x1, x2, _, _, _⟩⟩ := HAL2.out _ H8.out.1
  try go_wp2_with fail
  refine hK.out _ _ ?_ (fun hHeld => ?_)
  · (try dsimp only); go_keep
  clear hK K
  try simp only [zR]
  refine tr [13] ?_
  refine tc (h := fun K hK => ?_) (hs := tn)
  try go_simp
  go_at_call 100
  refine (ScaleK_c vb u ((v, s) :: m) kb (nn (q / s)) _ ((HVB.out _ H8.out.1).more (by omega)) (H8.out.2.2.more (by omega)) (by omega)).mono ?_
  rintro e w9 ⟨zB, rfl, hB1, hB2, hB3, hb⟩
  have H9 := Lib.hid (And.intro (H8.out.1.trans (hb.mono H8.out.1.size)) (And.intro (H8.out.2.1.below hb) (And.intro hB2 hB3)))
  clear hB1 hB2 hB3 hb
  clear a0 a1 a2 a3 a4 b0 b1 b2 b3 b4 x0 x1 x2
  obtain ⟨⟨a0, a1, a2, a3, a4⟩, ⟨b0, b1, b2, b3, b4⟩, ⟨x0, x1, x2, _, _, _⟩⟩ := HAL2.out _ H9.out.1
  try go_wp2_with fail
  refine hK.out _ _ ?_ (fun hHeld => ?_)
  · (try dsimp only); go_keep
  clear hK K
  try simp only [zR]
  refine tr [14] ?_
  refine tc (h := fun K hK => ?_) (hs := tn)
  try go_simp
  go_at_call 99
  refine (AddK_c zA zB (scaleL (dd (q / s)) ((v, q) :: l)) (scaleL (nn (q / s)) ((v, s) :: m)) (k * dd (q / s)) (kb * nn (q / s)) _ ((H9.out.2.1.cw h4 h5).more (by omega)) ((H9.out.2.2.2.cw h6 h7).more (by omega)) (by have := H6.out.2.2.1; omega) (by have := H9.out.2.2.1; omega)).mono ?_
  rintro e wa ⟨zC, rfl, hC1, hC2, hC3, hb⟩
  have HA := Lib.hid (And.intro (H9.out.1.trans (hb.mono H9.out.1.size)) (And.intro hC1 (And.intro hC2 hC3)))
  have HLA : Hid (wc.heap.size ≤ w9.heap.size) := H9.out.1.size
  clear hC1 hC2 hC3 hb
  clear a0 a1 a2 a3 a4 b0 b1 b2 b3 b4 x0 x1 x2
  obtain ⟨⟨a0, a1, a2, a3, a4⟩, ⟨b0, b1, b2, b3, b4⟩, ⟨x0, x1, x2, _, _, _⟩⟩ := HAL2.out _ HA.out.1
  obtain ⟨z0, z1, z2, z3, z4⟩ := ((HKZ.out.below HU.out.below).below HA.out.1).facts
  obtain ⟨t0, t1, t2, t3, t4⟩ := ((HKZ.out.below HU.out.below).below HA.out.1).thaw
  try go_wp2_with fail
  refine hK.out _ _ ?_ (fun hHeld => ?_)
  · (try dsimp only); go_keep
  clear hK K
  try simp only [zR]
  refine tr [15] ?_
  refine tc (h := fun K hK => ?_) (hs := tn)
  try go_simp
  try go_wp2_with fail
  refine hK.out _ _ ?_ (fun hHeld => ?_)
  · (try dsimp only); go_keep
  clear hK K
  try simp only [zR]
  refine wpAnyH_done (by kernel_rfl) ?_ _
  clear hHeld a0 a1 a2 a3 a4 b0 b1 b2 b3 b4 x0 x1 x2
  have kz := (HKZ.out.below HU.out.below).below HA.out.1
  go_wp2
  refine ret5 (fn := Tryz.f75) Tryz.results75 rfl rfl kz ?_
  have s1 := HU.out.below.size
  have s2 := HLA.out
  have s3 := HLT.out.1
  have s4 := HW.out.2
  refine ⟨⟨zC.s, zC.A, zC.n, zC.c, zC.K⟩, rfl, HA.out.2.1.trans H6.out.2.1, by have h8 := HA.out.2.2.1; have h9 := H9.out.2.2.1; have h10 := H6.out.2.2.1; show zC.n ≤ _; omega, ?_, ((HW.out.1.trans (HU.out.below.mono (by omega))).trans (HA.out.1.mono (by omega))).trans (put5_below (by omega) _ _ _ _ _)⟩
  exact (HA.out.2.2.2.put (by omega) _ _ _ _ _).lower (by omega)
end Go.Proofs.YtgffkaconhonlaaGreat
