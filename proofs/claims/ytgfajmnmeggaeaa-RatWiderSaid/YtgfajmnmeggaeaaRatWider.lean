/-
  RatWider: the walk of the law over small rationals: a number whose parts are so often the same, and one with noughts behind its parts, is the same number.
-/
import Derived.Test.YtgfajmnmeggaeaaStepW
import Derived.Test.YtgfajmnmeggaeaaRegInv
import Derived.Test.YtgfajmnmeggaeaaRef1
import Derived.Test.YtgfajmnmeggaeaaRefD
import Derived.Deep.DeepCutAuto
namespace Go.Proofs.Ytgfajmnmeggaeaa
set_option maxRecDepth 20000
open Go.RowKit

theorem NewR.putC {w : World} {lo b : Nat} {X : Option Addr} {c m : Nat} {k : List Nat} (h : NewR lo w X c m k) {z : Rv} (kz : C3 w b (.bool z.s) (.slice z.A z.n z.c) (.slice z.B z.m z.d)) (x y t : Value) : NewR lo (put3 w b x y t) X c m k :=
  ⟨h.row.putC kz x y t, h.cap, fun hm => (h.own hm).grown (grown_set (grown_set (grown_set (World.grownBy.refl w _)))) fun ad e => by
    obtain ⟨b', off, e2, hne⟩ := h.row.apart kz hm
    rw [e2] at e
    injection e with e
    subst e
    intro hq
    injection hq with hq
    exact hne hq⟩
theorem NewR.blk {w : World} {lo : Nat} {X : Option Addr} {c m : Nat} {k : List Nat} (h : NewR lo w X c m k) : ∃ g, 0 < m → X = some ⟨g, 0, none⟩ ∧ lo ≤ g ∧ g < w.heap.size := by
  by_cases hm : 0 < m
  · obtain ⟨g, e, h1, h2⟩ := (h.own hm).form hm
    exact ⟨g, fun _ => ⟨e, h1, h2⟩⟩
  · exact ⟨0, fun h => absurd h hm⟩
theorem NewR.grown {w w' : World} {lo c m : Nat} {X : Option Addr} {k : List Nat} {row : Option Nat} (h : NewR lo w X c m k) (hg : w.grownBy w' row) (hne : 0 < m → ∀ ad, X = some ad → some ad.block ≠ row) : NewR lo w' X c m k := by
  by_cases h0 : 0 < m
  · have o := (h.own h0).grown hg (hne h0)
    exact ⟨o.row, o.capLe, fun _ => o⟩
  · exact ⟨⟨h.row.len, h.row.l32, fun hn => absurd hn h0⟩, h.cap, fun hn => absurd hn h0⟩
theorem C3.grown {w w' : World} {b : Nat} {x y z : Value} {row : Option Nat} (h : C3 w b x y z) (hg : w.grownBy w' row) (hne : ∀ g, row = some g → g ≠ b) : C3 w' b x y z :=
  (hg.block b h.lt (fun e => hne b e.symm rfl)).trans h
theorem below_row {B : Nat} {w w' w2 : World} {row : Option Nat} (h : Below B w w') (hg : w'.grownBy w2 row) (hX : ∀ g, row = some g → B ≤ g) (hB : B ≤ w.heap.size) : Below B w w2 :=
  h.trans ⟨hg.os, hg.tape, hg.output, hg.size, fun q hq => hg.block q (by have := h.size; omega) (fun e => by have := hX q e.symm; omega)⟩
theorem Row.lit2 (w : World) : Row (w.alloc (.cells #[.int .u32 0, .int .u32 0] 25)) 0 (some ⟨w.heap.size, 0, none⟩) 2 [0, 0] := by
  refine ⟨rfl, L32.cons (by omega) (L32.cons (by omega) L32.nil), fun _ => ⟨w.heap.size, 0, rfl, Nat.zero_le _, by simp, fun j hj => ?_⟩⟩
  have : j = 0 ∨ j = 1 := by omega
  rcases this with rfl | rfl <;> (rw [World.cell?_alloc_at _ _ _ _ rfl]; rfl)
theorem NewR.apart {w : World} {lo b g : Nat} {X : Option Addr} {c m : Nat} {k : List Nat} (h : NewR lo w X c m k) (h0 : 0 < m) (e : X = some ⟨g, 0, none⟩) {z : Rv} (kz : C3 w b (.bool z.s) (.slice z.A z.n z.c) (.slice z.B z.m z.d)) : g ≠ b := by
  obtain ⟨b', off, e2, hne⟩ := h.row.apart kz h0
  rw [e2] at e
  injection e with e
  injection e with e1 _
  rw [← e1]; exact hne
theorem val_noughts (a : List Nat) (k : Nat) : val (a ++ List.replicate k 0) = val a := by
  rw [val_append]
  have : val (List.replicate k 0) = 0 := by
    induction k with
    | zero => rfl
    | succ k ih => rw [List.replicate_succ]; show 0 + 4294967296 * val (List.replicate k 0) = 0; rw [ih]
  rw [this]; omega

structure RW6 (w0 : World) (bv : Nat) (v : Rv) (a : List Nat) (b : List Nat) (S : Nat → Prop) (t42 t43 t44 t45 t46 t47 t48 t49 t50 t51 t52 t53 t54 t55 t56 t9 : Value) (zb : Nat) (g47 : Nat) (g49 : Nat) (g53 : Nat) (b54 : Nat) (w : World) : Prop where
  hB : Below w0.heap.size w0 w
  h0 : S 0 → t42 = .pointer (some ⟨bv, 0, none⟩)
  h1 : S 1 → t43 = .bool v.s
  h2 : S 2 → ∃ A0, t44 = .slice A0 0 0
  h3 : S 3 → t45 = .pointer (some ⟨bv, 1, none⟩)
  h4 : S 4 → t46 = .slice v.A v.n v.c
  h5 : S 5 → ¬ S 7 → ∃ X c, t47 = .slice X v.n c ∧ NewR w0.heap.size w X c v.n a ∧ (v.n = 0 → c = 0) ∧ (0 < v.n → X = some ⟨g47, 0, none⟩ ∧ g47 < w.heap.size)
  h6 : S 6 → ¬ S 7 → ∃ A1 c, t48 = .slice A1 2 c ∧ Row w 0 A1 2 [0, 0]
  h7 : S 7 → ∃ X c, t49 = .slice X (v.n + 2) c ∧ NewR w0.heap.size w X c (v.n + 2) (a ++ [0, 0]) ∧ X = some ⟨g49, 0, none⟩ ∧ g49 < w.heap.size
  h8 : S 8 → ∃ A0, t50 = .slice A0 0 0
  h9 : S 9 → t51 = .pointer (some ⟨bv, 2, none⟩)
  h10 : S 10 → t52 = .slice v.B v.m v.d
  h11 : S 11 → ¬ S 13 → ∃ X c, t53 = .slice X v.m c ∧ NewR w0.heap.size w X c v.m b ∧ (v.m = 0 → c = 0) ∧ (0 < v.m → X = some ⟨g53, 0, none⟩ ∧ g53 < w.heap.size)
  h12 : S 12 → (∃ c, t54 = .slice (some ⟨b54, 0, none⟩) 1 c) ∧ b54 < w.heap.size ∧ (¬ S 13 → Row w 0 (some ⟨b54, 0, none⟩) 1 [0])
  h13 : S 13 → ∃ Y c, t55 = .slice Y (v.m + 1) c ∧ NewR w0.heap.size w Y c (v.m + 1) (b ++ [0])
  h14 : S 14 → t56 = .agg #[t43, t49, t55]
  h15 : S 15 → t9 = .pointer (some ⟨zb, 0, none⟩) ∧ w0.heap.size ≤ zb ∧ ∃ z : Rv, C3 w zb (.bool z.s) (.slice z.A z.n z.c) (.slice z.B z.m z.d)
  h16 : S 16 → C3 w zb t43 t49 t55
  hD1 : S 5 → S 12 → ¬ S 7 → 0 < v.n → g47 ≠ b54
  hD2 : S 7 → S 11 → 0 < v.m → g53 ≠ g49

set_option maxRecDepth 100000 in
set_option maxHeartbeats 25600000 in
theorem RatWider_small (v : Rv) (y : Nat) (r : Rat) (w : World) (hlen : v.n + v.m ≤ 8) (hy0 : Hid (y ≠ 0)) (hy : Hid (y < 4294967296)) (h_v : Rw w v r 8) :
    Calls Try.prog 3 #[.agg #[.bool v.s, .slice v.A v.n v.c, .slice v.B v.m v.d], .int .u32 (y : Int)] w fun e w' => e = .returned (.bool true) ∧ Below w.heap.size w w' := by
  go_enter Try.func3, Try.ntmps3
  go_wp2_with fail
  generalize hW : (w.alloc (.cells #[.bool v.s, .slice v.A v.n v.c, .slice v.B v.m v.d] 24)).alloc (.cells #[.bool v.s, .slice v.A v.n v.c, .slice v.B v.m v.d] 24) = W
  obtain ⟨k_v, HB, hsW, hbig⟩ := open1b w v W hW
  clear hW
  refine (big_any (pick v v v) (w.heap.size + 1) 1 _ (by omega) ?_ hbig).mono ?_
  · intro i hi
    have : i = 0 := by omega
    subst this
    simp only [pick]; omega
  rintro e w0 ⟨rfl, hb⟩
  rw [decide_eq_false (show ¬ 16 < tot (pick v v v) 1 by simp only [tot, pick]; omega)]
  replace HB := HB.trans (hb.mono (by omega))
  replace k_v := k_v.below hb
  clear hb hbig hsW
  replace h_v := h_v.below HB
  have hb0 : ((y : Int) == 0) = false := by rw [beq_eq_false_iff_ne]; have := hy0.out; omega
  have b1 := h_v.numLe
  have b2 := h_v.denLe
  have HM : ¬ (8 : Int) < v.n + v.m := by omega
  have hz0 : w.heap.size < w0.heap.size := k_v.lt
  obtain ⟨v_0, v_1, v_2, v_3, v_4, v_5⟩ := k_v.facts
  go_upto_region 4 with fail
  have r_t := Row.lit w0 y (y : Int) rfl hy.out
  have hB1 := below_alloc w0 (.cells #[.int .u32 (y : Int)] 25)
  have e_t : (w0.alloc (.cells #[.int .u32 (y : Int)] 25)).heap.size = w0.heap.size + 1 := by simp
  generalize w0.alloc (.cells #[.int .u32 (y : Int)] 25) = w1 at *
  clear v_0 v_1 v_2 v_3 v_4 v_5 HM hb0 b1 b2
  generalize hT : w0.heap.size = tb at *
  replace HB := HB.trans (hB1.mono (by have := HB.size; omega))
  replace k_v := k_v.at hB1 (by omega)
  replace h_v : Rw w1 v r 8 := by rw [← hT] at hB1; exact h_v.below hB1
  clear hB1 hT w0
  have hz1 : w.heap.size < w1.heap.size := k_v.lt
  obtain ⟨v_0, v_1, v_2, v_3, v_4, v_5⟩ := k_v.facts
  go_wp2_with fail

  have r_1 := Row.lit w1 1 1 rfl (by omega)
  rw [e_t] at r_1
  have hB2 := below_alloc w1 (.cells #[.int .u32 1] 25)
  have hU : (w1.alloc (.cells #[.int .u32 1] 25)).heap.size = tb + 1 + 1 := by simp [e_t]
  obtain ⟨w2, hw2⟩ : ∃ w2, w2 = w1.alloc (.cells #[.int .u32 1] 25) := ⟨_, rfl⟩
  rw [← hw2] at r_1 hB2 hU ⊢
  clear hw2 v_0 v_1 v_2 v_3 v_4 v_5
  replace r_t := r_t.below hB2
  replace k_v := k_v.below hB2
  replace h_v := h_v.below hB2
  replace HB := HB.trans (hB2.mono HB.size)
  clear hB2 hz1 e_t w1
  have hk : Hid (rn false y 1 ≠ 0) := rn_ne hy0.out (by omega)
  have h_k : Rw w2 ⟨false, some ⟨tb, 0, none⟩, 1, 1, some ⟨tb + 1, 0, none⟩, 1, 1⟩ (rn false y 1) 1 := ⟨Nat.le_refl _, Nat.le_refl _, Nat.le_refl _, Nat.le_refl _, [y], [1], r_t, r_1, by show rn false (y + 4294967296 * 0) (1 + 4294967296 * 0) = _; rw [Nat.mul_zero, Nat.add_zero, Nat.add_zero]⟩
  have z_v : Sz r 8 := h_v.sz (by omega)
  have z_k : Sz (rn false y 1) 1 := h_k.sz (by omega)
  obtain ⟨κ, hκ⟩ : ∃ κ, κ = rn false y 1 := ⟨_, rfl⟩
  rw [← hκ] at h_k hk z_k
  replace hκ := Lib.hid hκ
  clear r_1
  have z_vk := z_v.mul z_k
  refine (rMul_c v ⟨false, some ⟨tb, 0, none⟩, 1, 1, some ⟨tb + 1, 0, none⟩, 1, 1⟩ r κ _ (h_v.more (show 8 ≤ 124 by omega)) (h_k.more (show 1 ≤ 124 by omega))).mono ?_
  rintro e w3 ⟨z, rfl, ht_z, hb⟩
  replace HB := HB.trans (hb.mono HB.size)
  replace k_v := k_v.below hb
  replace h_v := h_v.below hb
  replace r_t := r_t.below hb
  have hz3 : tb < w3.heap.size := by have := hb.size; omega
  have hv3 : w.heap.size < w3.heap.size := k_v.lt
  have h_z := (ht_z.rw z_vk).more (show 8 + 1 ≤ 2000 by omega)
  clear hb ht_z h_k hU
  go_wp2_with fail
  have hA := below_alloc w3 (.cells #[.bool z.s, .slice z.A z.n z.c, .slice z.B z.m z.d] 24)
  have eA : (w3.alloc (.cells #[.bool z.s, .slice z.A z.n z.c, .slice z.B z.m z.d] 24)).heap.size = w3.heap.size + 1 := by simp
  have r_1 := Row.lit (w3.alloc (.cells #[.bool z.s, .slice z.A z.n z.c, .slice z.B z.m z.d] 24)) 1 1 rfl (by omega)
  rw [eA] at r_1
  have hA2 := below_alloc (w3.alloc (.cells #[.bool z.s, .slice z.A z.n z.c, .slice z.B z.m z.d] 24)) (.cells #[.int .u32 1] 25)
  have hA3 := hA.trans (hA2.mono hA.size)
  obtain ⟨W4, hW4⟩ : ∃ W4, W4 = (w3.alloc (.cells #[.bool z.s, .slice z.A z.n z.c, .slice z.B z.m z.d] 24)).alloc (.cells #[.int .u32 1] 25) := ⟨_, rfl⟩
  rw [← hW4] at r_1 hA3 ⊢
  clear hW4 hA hA2 eA
  replace HB := HB.trans (hA3.mono HB.size)
  replace k_v := k_v.below hA3
  replace h_v := h_v.below hA3
  replace h_z := h_z.below hA3
  replace r_t := r_t.below hA3
  have h_k : Rw W4 ⟨false, some ⟨tb, 0, none⟩, 1, 1, some ⟨w3.heap.size + 1, 0, none⟩, 1, 1⟩ (rn false y 1) 1 := ⟨Nat.le_refl _, Nat.le_refl _, Nat.le_refl _, Nat.le_refl _, [y], [1], r_t, r_1, by show rn false (y + 4294967296 * 0) (1 + 4294967296 * 0) = _; rw [Nat.mul_zero, Nat.add_zero, Nat.add_zero]⟩
  rw [← hκ.out] at h_k
  clear hA3 r_1 r_t
  refine (Div_c z ⟨false, some ⟨tb, 0, none⟩, 1, 1, some ⟨w3.heap.size + 1, 0, none⟩, 1, 1⟩ (r * κ) κ _ h_z (h_k.more (show 1 ≤ 2000 by omega)) hk.out).mono ?_
  rintro e w5 ⟨q, rfl, ht_q, hb⟩
  replace HB := HB.trans (hb.mono HB.size)
  replace k_v := k_v.below hb
  replace h_v := h_v.below hb
  rw [show r * κ / κ = r from Rat.mul_div_cancel hk.out] at ht_q
  clear h_z h_k hb z_vk
  go_upto_region 6 with fail
  have hb := below_alloc w5 (.cells #[.bool q.s, .slice q.A q.n q.c, .slice q.B q.m q.d] 24)
  have k_q := C3.new w5 (.bool q.s) (.slice q.A q.n q.c) (.slice q.B q.m q.d)
  replace HB := HB.trans (hb.mono HB.size)
  replace k_v := k_v.below hb
  replace h_v := h_v.below hb
  replace ht_q := ht_q.below hb
  clear hb hz3 hv3
  obtain ⟨w0, hw0⟩ : ∃ w0, w0 = w5.alloc (.cells #[.bool q.s, .slice q.A q.n q.c, .slice q.B q.m q.d] 24) := ⟨_, rfl⟩
  rw [← hw0] at HB k_v h_v ht_q k_q ⊢
  clear hw0
  obtain ⟨yb, hyb⟩ : ∃ yb, yb = w5.heap.size := ⟨_, rfl⟩
  rw [← hyb] at k_q ⊢
  obtain ⟨xb, hxb⟩ : ∃ xb, xb = w3.heap.size := ⟨_, rfl⟩
  rw [← hxb]
  clear hyb hxb
  have hv0 := Lib.hid h_v
  have k_v0 := Lib.hid k_v
  obtain ⟨q1, q2, q3, q4, a, b, ra, rb, hr⟩ := h_v
  refine region_inv (fun S a' w' => ∃ (t42 : Value) (t43 : Value) (t44 : Value) (t45 : Value) (t46 : Value) (t47 : Value) (t48 : Value) (t49 : Value) (t50 : Value) (t51 : Value) (t52 : Value) (t53 : Value) (t54 : Value) (t55 : Value) (t56 : Value) (t9 : Value) (zb : Nat) (g47 : Nat) (g49 : Nat) (g53 : Nat) (b54 : Nat), a' = { tmps := List.toArray ((Value.agg #[Value.bool v.s, Value.slice v.A v.n v.c, Value.slice v.B v.m v.d]) :: (Value.int IntKind.u32 ↑y) :: (Value.pointer (some { block := w.heap.size, off := 0 })) :: undef :: (Value.bool false) :: (Value.slice (some { block := tb, off := 0 }) 1 1) :: (Value.pointer (some { block := xb, off := 0 })) :: (Value.pointer (some { block := yb, off := 0 })) :: (Value.bool true) :: t9 :: (Value.agg #[Value.bool v.s, Value.slice v.A v.n v.c, Value.slice v.B v.m v.d]) :: (Value.slice (some { block := w.heap.size + 1, off := 0 }) 1 1) :: (Value.bool false) :: (Value.bool false) :: (Value.int IntKind.u32 ↑y) :: (Value.bool false) :: (Value.bool false) :: (Value.bool false) :: (Value.pointer (some { block := w.heap.size, off := 1 })) :: (Value.slice v.A v.n v.c) :: (Value.int IntKind.i64 ↑v.n) :: (Value.pointer (some { block := w.heap.size, off := 2 })) :: (Value.slice v.B v.m v.d) :: (Value.int IntKind.i64 ↑v.m) :: (Value.int IntKind.i64 (↑v.n + ↑v.m)) :: (Value.bool (decide ((8 : Int) < ↑v.n + ↑v.m))) :: (Value.bool (decide ((8 : Int) < ↑v.n + ↑v.m))) :: (Value.int IntKind.u32 ↑y) :: (Value.slice (some { block := tb, off := 0 }) 1 1) :: (Value.agg #[Value.bool v.s, Value.slice v.A v.n v.c, Value.slice v.B v.m v.d]) :: (Value.slice (some { block := tb, off := 0 }) 1 1) :: (Value.slice (some { block := tb + 1, off := 0 }) 1 1) :: (Value.agg #[Value.bool false, Value.slice (some { block := tb, off := 0 }) 1 1, Value.slice (some { block := tb + 1, off := 0 }) 1 1]) :: (Value.agg #[Value.bool z.s, Value.slice z.A z.n z.c, Value.slice z.B z.m z.d]) :: (Value.tuple #[Value.agg #[Value.bool q.s, Value.slice q.A q.n q.c, Value.slice q.B q.m q.d], Value.bool true]) :: (Value.agg #[Value.bool z.s, Value.slice z.A z.n z.c, Value.slice z.B z.m z.d]) :: (Value.slice (some { block := tb, off := 0 }) 1 1) :: (Value.slice (some { block := xb + 1, off := 0 }) 1 1) :: (Value.agg #[Value.bool false, Value.slice (some { block := tb, off := 0 }) 1 1, Value.slice (some { block := xb + 1, off := 0 }) 1 1]) :: (Value.tuple #[Value.agg #[Value.bool q.s, Value.slice q.A q.n q.c, Value.slice q.B q.m q.d], Value.bool true]) :: (Value.agg #[Value.bool q.s, Value.slice q.A q.n q.c, Value.slice q.B q.m q.d]) :: (Value.bool true) :: t42 :: t43 :: t44 :: t45 :: t46 :: t47 :: t48 :: t49 :: t50 :: t51 :: t52 :: t53 :: t54 :: t55 :: t56 :: undef :: undef :: undef :: undef :: undef :: undef :: undef :: undef :: undef :: undef :: undef :: undef :: undef :: undef :: undef :: undef :: undef :: undef :: undef :: undef :: undef :: undef :: []), defers := [] } ∧ RW6 w0 w.heap.size v a b S t42 t43 t44 t45 t46 t47 t48 t49 t50 t51 t52 t53 t54 t55 t56 t9 zb g47 g49 g53 b54 w') (by kernel_rfl) (by kernel_rfl) ?_ ?_ ?_
  · exact ⟨undef, undef, undef, undef, undef, undef, undef, undef, undef, undef, undef, undef, undef, undef, undef, undef, 0, 0, 0, 0, 0, rfl, { hB := (Below.refl _ _).drew, h0 := fun h => h.elim, h1 := fun h => h.elim, h2 := fun h => h.elim, h3 := fun h => h.elim, h4 := fun h => h.elim, h5 := fun h => h.elim, h6 := fun h => h.elim, h7 := fun h => h.elim, h8 := fun h => h.elim, h9 := fun h => h.elim, h10 := fun h => h.elim, h11 := fun h => h.elim, h12 := fun h => h.elim, h13 := fun h => h.elim, h14 := fun h => h.elim, h15 := fun h => h.elim, h16 := fun h => h.elim, hD1 := fun h => h.elim, hD2 := fun h => h.elim }⟩
  · rintro i o S a' w1 ho ⟨t42, t43, t44, t45, t46, t47, t48, t49, t50, t51, t52, t53, t54, t55, t56, t9, zb, g47, g49, g53, b54, rfl, hJ⟩ hni hcl hd K hK
    have hi : i < 17 := (Array.getElem?_eq_some_iff.1 ho).1
    have hi2 : i = 0 ∨ i = 1 ∨ i = 2 ∨ i = 3 ∨ i = 4 ∨ i = 5 ∨ i = 6 ∨ i = 7 ∨ i = 8 ∨ i = 9 ∨ i = 10 ∨ i = 11 ∨ i = 12 ∨ i = 13 ∨ i = 14 ∨ i = 15 ∨ i = 16 := by omega
    replace hK := Go.Lib.hid hK
    clear hi
    rcases hi2 with rfl | rfl | rfl | rfl | rfl | rfl | rfl | rfl | rfl | rfl | rfl | rfl | rfl | rfl | rfl | rfl | rfl
    · have ho2 : some _ = some o := ho
      obtain rfl := Option.some.inj ho2
      clear ho ho2
      go_simp
      refine hK.out _ _ ⟨_, _, _, _, _, _, _, _, _, _, _, _, _, _, _, _, zb, g47, g49, g53, b54, rfl, ?_⟩
      exact ⟨hJ.hB,
          fun _ => rfl,
          fun h => (hJ.h1 (h.resolve_left (by decide))),
          fun h => (hJ.h2 (h.resolve_left (by decide))),
          fun h => (hJ.h3 (h.resolve_left (by decide))),
          fun h => (hJ.h4 (h.resolve_left (by decide))),
          fun h => fun hh => (hJ.h5 (h.resolve_left (by decide))) (fun s => hh (.inr s)),
          fun h => fun hh => (hJ.h6 (h.resolve_left (by decide))) (fun s => hh (.inr s)),
          fun h => (hJ.h7 (h.resolve_left (by decide))),
          fun h => (hJ.h8 (h.resolve_left (by decide))),
          fun h => (hJ.h9 (h.resolve_left (by decide))),
          fun h => (hJ.h10 (h.resolve_left (by decide))),
          fun h => fun hh => (hJ.h11 (h.resolve_left (by decide))) (fun s => hh (.inr s)),
          fun h => let ⟨e, l, r⟩ := (hJ.h12 (h.resolve_left (by decide))); ⟨e, l, fun hh => r (fun s => hh (.inr s))⟩,
          fun h => (hJ.h13 (h.resolve_left (by decide))),
          fun h => (hJ.h14 (h.resolve_left (by decide))),
          fun h => (hJ.h15 (h.resolve_left (by decide))),
          fun h => (hJ.h16 (h.resolve_left (by decide))),
          fun h1 h2 h7 => hJ.hD1 (h1.resolve_left (by decide)) (h2.resolve_left (by decide)) (fun s => h7 (.inr s)),
          fun h1 h2 => hJ.hD2 (h1.resolve_left (by decide)) (h2.resolve_left (by decide))⟩
    · have n14 : ¬ S 14 := fun h => by
        have h2 : S 1 ∧ S 7 ∧ S 13 ∧ True := hcl 14 _ rfl h
        exact hni h2.1
      have n16 : ¬ S 16 := fun h => by
        have h2 : S 15 ∧ S 14 ∧ S 13 ∧ S 0 ∧ S 1 ∧ S 2 ∧ S 3 ∧ S 4 ∧ S 5 ∧ S 6 ∧ S 7 ∧ S 8 ∧ S 9 ∧ S 10 ∧ S 11 ∧ S 12 ∧ S 13 ∧ S 14 ∧ S 15 ∧ True := hcl 16 _ rfl h
        exact hni h2.2.2.2.2.1
      have ho2 : some _ = some o := ho
      obtain rfl := Option.some.inj ho2
      clear ho ho2
      have hd2 : S 0 ∧ True := hd
      obtain ⟨d0, _⟩ := hd2
      have e0 := hJ.h0 d0
      subst e0
      obtain ⟨v_0, v_1, v_2, v_3, v_4, v_5⟩ := (k_v.below hJ.hB).facts
      go_simp
      refine hK.out _ _ ⟨_, _, _, _, _, _, _, _, _, _, _, _, _, _, _, _, zb, g47, g49, g53, b54, rfl, ?_⟩
      exact ⟨hJ.hB,
          fun h => (hJ.h0 (h.resolve_left (by decide))),
          fun _ => rfl,
          fun h => (hJ.h2 (h.resolve_left (by decide))),
          fun h => (hJ.h3 (h.resolve_left (by decide))),
          fun h => (hJ.h4 (h.resolve_left (by decide))),
          fun h => fun hh => (hJ.h5 (h.resolve_left (by decide))) (fun s => hh (.inr s)),
          fun h => fun hh => (hJ.h6 (h.resolve_left (by decide))) (fun s => hh (.inr s)),
          fun h => (hJ.h7 (h.resolve_left (by decide))),
          fun h => (hJ.h8 (h.resolve_left (by decide))),
          fun h => (hJ.h9 (h.resolve_left (by decide))),
          fun h => (hJ.h10 (h.resolve_left (by decide))),
          fun h => fun hh => (hJ.h11 (h.resolve_left (by decide))) (fun s => hh (.inr s)),
          fun h => let ⟨e, l, r⟩ := (hJ.h12 (h.resolve_left (by decide))); ⟨e, l, fun hh => r (fun s => hh (.inr s))⟩,
          fun h => (hJ.h13 (h.resolve_left (by decide))),
          fun h => absurd (h.resolve_left (by decide)) n14,
          fun h => (hJ.h15 (h.resolve_left (by decide))),
          fun h => absurd (h.resolve_left (by decide)) n16,
          fun h1 h2 h7 => hJ.hD1 (h1.resolve_left (by decide)) (h2.resolve_left (by decide)) (fun s => h7 (.inr s)),
          fun h1 h2 => hJ.hD2 (h1.resolve_left (by decide)) (h2.resolve_left (by decide))⟩
    · have ho2 : some _ = some o := ho
      obtain rfl := Option.some.inj ho2
      clear ho ho2
      go_simp
      refine hK.out _ _ ⟨_, _, _, _, _, _, _, _, _, _, _, _, _, _, _, _, zb, g47, g49, g53, b54, rfl, ?_⟩
      exact ⟨hJ.hB.trans ((below_alloc w1 _).mono hJ.hB.size),
          fun h => (hJ.h0 (h.resolve_left (by decide))),
          fun h => (hJ.h1 (h.resolve_left (by decide))),
          fun _ => ⟨_, rfl⟩,
          fun h => (hJ.h3 (h.resolve_left (by decide))),
          fun h => (hJ.h4 (h.resolve_left (by decide))),
          fun h => fun hh => let ⟨X, c, e, n, k, f⟩ := (hJ.h5 (h.resolve_left (by decide))) (fun s => hh (.inr s)); ⟨X, c, e, n.below (below_alloc w1 _), k, fun h0 => ⟨(f h0).1, Nat.lt_of_lt_of_le (f h0).2 (below_alloc w1 _).size⟩⟩,
          fun h => fun hh => let ⟨A, c, e, r⟩ := (hJ.h6 (h.resolve_left (by decide))) (fun s => hh (.inr s)); ⟨A, c, e, r.below (below_alloc w1 _)⟩,
          fun h => let ⟨X, c, e, n, x, l⟩ := (hJ.h7 (h.resolve_left (by decide))); ⟨X, c, e, n.below (below_alloc w1 _), x, Nat.lt_of_lt_of_le l (below_alloc w1 _).size⟩,
          fun h => (hJ.h8 (h.resolve_left (by decide))),
          fun h => (hJ.h9 (h.resolve_left (by decide))),
          fun h => (hJ.h10 (h.resolve_left (by decide))),
          fun h => fun hh => let ⟨X, c, e, n, k, f⟩ := (hJ.h11 (h.resolve_left (by decide))) (fun s => hh (.inr s)); ⟨X, c, e, n.below (below_alloc w1 _), k, fun h0 => ⟨(f h0).1, Nat.lt_of_lt_of_le (f h0).2 (below_alloc w1 _).size⟩⟩,
          fun h => let ⟨e, l, r⟩ := (hJ.h12 (h.resolve_left (by decide))); ⟨e, Nat.lt_of_lt_of_le l (below_alloc w1 _).size, fun hh => (r (fun s => hh (.inr s))).below (below_alloc w1 _)⟩,
          fun h => let ⟨X, c, e, n⟩ := (hJ.h13 (h.resolve_left (by decide))); ⟨X, c, e, n.below (below_alloc w1 _)⟩,
          fun h => (hJ.h14 (h.resolve_left (by decide))),
          fun h => let ⟨e, l, z, k⟩ := (hJ.h15 (h.resolve_left (by decide))); ⟨e, l, z, k.below (below_alloc w1 _)⟩,
          fun h => (hJ.h16 (h.resolve_left (by decide))).below (below_alloc w1 _),
          fun h1 h2 h7 => hJ.hD1 (h1.resolve_left (by decide)) (h2.resolve_left (by decide)) (fun s => h7 (.inr s)),
          fun h1 h2 => hJ.hD2 (h1.resolve_left (by decide)) (h2.resolve_left (by decide))⟩
    · have ho2 : some _ = some o := ho
      obtain rfl := Option.some.inj ho2
      clear ho ho2
      go_simp
      refine hK.out _ _ ⟨_, _, _, _, _, _, _, _, _, _, _, _, _, _, _, _, zb, g47, g49, g53, b54, rfl, ?_⟩
      exact ⟨hJ.hB,
          fun h => (hJ.h0 (h.resolve_left (by decide))),
          fun h => (hJ.h1 (h.resolve_left (by decide))),
          fun h => (hJ.h2 (h.resolve_left (by decide))),
          fun _ => rfl,
          fun h => (hJ.h4 (h.resolve_left (by decide))),
          fun h => fun hh => (hJ.h5 (h.resolve_left (by decide))) (fun s => hh (.inr s)),
          fun h => fun hh => (hJ.h6 (h.resolve_left (by decide))) (fun s => hh (.inr s)),
          fun h => (hJ.h7 (h.resolve_left (by decide))),
          fun h => (hJ.h8 (h.resolve_left (by decide))),
          fun h => (hJ.h9 (h.resolve_left (by decide))),
          fun h => (hJ.h10 (h.resolve_left (by decide))),
          fun h => fun hh => (hJ.h11 (h.resolve_left (by decide))) (fun s => hh (.inr s)),
          fun h => let ⟨e, l, r⟩ := (hJ.h12 (h.resolve_left (by decide))); ⟨e, l, fun hh => r (fun s => hh (.inr s))⟩,
          fun h => (hJ.h13 (h.resolve_left (by decide))),
          fun h => (hJ.h14 (h.resolve_left (by decide))),
          fun h => (hJ.h15 (h.resolve_left (by decide))),
          fun h => (hJ.h16 (h.resolve_left (by decide))),
          fun h1 h2 h7 => hJ.hD1 (h1.resolve_left (by decide)) (h2.resolve_left (by decide)) (fun s => h7 (.inr s)),
          fun h1 h2 => hJ.hD2 (h1.resolve_left (by decide)) (h2.resolve_left (by decide))⟩
    · have ho2 : some _ = some o := ho
      obtain rfl := Option.some.inj ho2
      clear ho ho2
      have hd2 : S 3 ∧ True := hd
      obtain ⟨d3, _⟩ := hd2
      have e3 := hJ.h3 d3
      subst e3
      obtain ⟨v_0, v_1, v_2, v_3, v_4, v_5⟩ := (k_v.below hJ.hB).facts
      go_simp
      refine hK.out _ _ ⟨_, _, _, _, _, _, _, _, _, _, _, _, _, _, _, _, zb, g47, g49, g53, b54, rfl, ?_⟩
      exact ⟨hJ.hB,
          fun h => (hJ.h0 (h.resolve_left (by decide))),
          fun h => (hJ.h1 (h.resolve_left (by decide))),
          fun h => (hJ.h2 (h.resolve_left (by decide))),
          fun h => (hJ.h3 (h.resolve_left (by decide))),
          fun _ => rfl,
          fun h => fun hh => (hJ.h5 (h.resolve_left (by decide))) (fun s => hh (.inr s)),
          fun h => fun hh => (hJ.h6 (h.resolve_left (by decide))) (fun s => hh (.inr s)),
          fun h => (hJ.h7 (h.resolve_left (by decide))),
          fun h => (hJ.h8 (h.resolve_left (by decide))),
          fun h => (hJ.h9 (h.resolve_left (by decide))),
          fun h => (hJ.h10 (h.resolve_left (by decide))),
          fun h => fun hh => (hJ.h11 (h.resolve_left (by decide))) (fun s => hh (.inr s)),
          fun h => let ⟨e, l, r⟩ := (hJ.h12 (h.resolve_left (by decide))); ⟨e, l, fun hh => r (fun s => hh (.inr s))⟩,
          fun h => (hJ.h13 (h.resolve_left (by decide))),
          fun h => (hJ.h14 (h.resolve_left (by decide))),
          fun h => (hJ.h15 (h.resolve_left (by decide))),
          fun h => (hJ.h16 (h.resolve_left (by decide))),
          fun h1 h2 h7 => hJ.hD1 (h1.resolve_left (by decide)) (h2.resolve_left (by decide)) (fun s => h7 (.inr s)),
          fun h1 h2 => hJ.hD2 (h1.resolve_left (by decide)) (h2.resolve_left (by decide))⟩
    · have ho2 : some _ = some o := ho
      obtain rfl := Option.some.inj ho2
      clear ho ho2
      have hd2 : S 2 ∧ S 4 ∧ True := hd
      obtain ⟨d2, d4, _⟩ := hd2
      obtain ⟨A0, ez⟩ := hJ.h2 d2
      have es := hJ.h4 d4
      subst ez es
      refine step_app00 (A0 := A0) (A' := v.A) (m := v.n) (c' := v.c) (k := a) rfl _ _ rfl rfl rfl (ra.below hJ.hB) (by omega) ?_
      intro X cX w2 hX hc0 hb
      obtain ⟨g, hg⟩ := hX.blk
      refine hK.out _ _ ⟨_, _, _, _, _, _, _, _, _, _, _, _, _, _, _, _, zb, g, g49, g53, b54, rfl, ?_⟩
      exact ⟨hJ.hB.trans (hb.mono hJ.hB.size),
          fun h => (hJ.h0 (h.resolve_left (by decide))),
          fun h => (hJ.h1 (h.resolve_left (by decide))),
          fun h => (hJ.h2 (h.resolve_left (by decide))),
          fun h => (hJ.h3 (h.resolve_left (by decide))),
          fun h => (hJ.h4 (h.resolve_left (by decide))),
          fun _ _ => ⟨X, cX, rfl, hX.lower hJ.hB.size, hc0, fun h0 => ⟨(hg h0).1, (hg h0).2.2⟩⟩,
          fun h => fun hh => let ⟨A, c, e, r⟩ := (hJ.h6 (h.resolve_left (by decide))) (fun s => hh (.inr s)); ⟨A, c, e, r.below hb⟩,
          fun h => let ⟨X, c, e, n, x, l⟩ := (hJ.h7 (h.resolve_left (by decide))); ⟨X, c, e, n.below hb, x, Nat.lt_of_lt_of_le l hb.size⟩,
          fun h => (hJ.h8 (h.resolve_left (by decide))),
          fun h => (hJ.h9 (h.resolve_left (by decide))),
          fun h => (hJ.h10 (h.resolve_left (by decide))),
          fun h => fun hh => let ⟨X, c, e, n, k, f⟩ := (hJ.h11 (h.resolve_left (by decide))) (fun s => hh (.inr s)); ⟨X, c, e, n.below hb, k, fun h0 => ⟨(f h0).1, Nat.lt_of_lt_of_le (f h0).2 hb.size⟩⟩,
          fun h => let ⟨e, l, r⟩ := (hJ.h12 (h.resolve_left (by decide))); ⟨e, Nat.lt_of_lt_of_le l hb.size, fun hh => (r (fun s => hh (.inr s))).below hb⟩,
          fun h => let ⟨X, c, e, n⟩ := (hJ.h13 (h.resolve_left (by decide))); ⟨X, c, e, n.below hb⟩,
          fun h => (hJ.h14 (h.resolve_left (by decide))),
          fun h => let ⟨e, l, z, k⟩ := (hJ.h15 (h.resolve_left (by decide))); ⟨e, l, z, k.below hb⟩,
          fun h => (hJ.h16 (h.resolve_left (by decide))).below hb,
          fun _ h2 _ hn => Nat.ne_of_gt (let ⟨_, l, _⟩ := hJ.h12 (h2.resolve_left (by decide)); Nat.lt_of_lt_of_le l (hg hn).2.1),
          fun h1 h2 => hJ.hD2 (h1.resolve_left (by decide)) (h2.resolve_left (by decide))⟩
    · have ho2 : some _ = some o := ho
      obtain rfl := Option.some.inj ho2
      clear ho ho2
      go_simp
      refine hK.out _ _ ⟨_, _, _, _, _, _, _, _, _, _, _, _, _, _, _, _, zb, g47, g49, g53, b54, rfl, ?_⟩
      exact ⟨hJ.hB.trans ((below_alloc w1 _).mono hJ.hB.size),
          fun h => (hJ.h0 (h.resolve_left (by decide))),
          fun h => (hJ.h1 (h.resolve_left (by decide))),
          fun h => (hJ.h2 (h.resolve_left (by decide))),
          fun h => (hJ.h3 (h.resolve_left (by decide))),
          fun h => (hJ.h4 (h.resolve_left (by decide))),
          fun h => fun hh => let ⟨X, c, e, n, k, f⟩ := (hJ.h5 (h.resolve_left (by decide))) (fun s => hh (.inr s)); ⟨X, c, e, n.below (below_alloc w1 _), k, fun h0 => ⟨(f h0).1, Nat.lt_of_lt_of_le (f h0).2 (below_alloc w1 _).size⟩⟩,
          fun _ _ => ⟨_, _, rfl, Row.lit2 w1⟩,
          fun h => let ⟨X, c, e, n, x, l⟩ := (hJ.h7 (h.resolve_left (by decide))); ⟨X, c, e, n.below (below_alloc w1 _), x, Nat.lt_of_lt_of_le l (below_alloc w1 _).size⟩,
          fun h => (hJ.h8 (h.resolve_left (by decide))),
          fun h => (hJ.h9 (h.resolve_left (by decide))),
          fun h => (hJ.h10 (h.resolve_left (by decide))),
          fun h => fun hh => let ⟨X, c, e, n, k, f⟩ := (hJ.h11 (h.resolve_left (by decide))) (fun s => hh (.inr s)); ⟨X, c, e, n.below (below_alloc w1 _), k, fun h0 => ⟨(f h0).1, Nat.lt_of_lt_of_le (f h0).2 (below_alloc w1 _).size⟩⟩,
          fun h => let ⟨e, l, r⟩ := (hJ.h12 (h.resolve_left (by decide))); ⟨e, Nat.lt_of_lt_of_le l (below_alloc w1 _).size, fun hh => (r (fun s => hh (.inr s))).below (below_alloc w1 _)⟩,
          fun h => let ⟨X, c, e, n⟩ := (hJ.h13 (h.resolve_left (by decide))); ⟨X, c, e, n.below (below_alloc w1 _)⟩,
          fun h => (hJ.h14 (h.resolve_left (by decide))),
          fun h => let ⟨e, l, z, k⟩ := (hJ.h15 (h.resolve_left (by decide))); ⟨e, l, z, k.below (below_alloc w1 _)⟩,
          fun h => (hJ.h16 (h.resolve_left (by decide))).below (below_alloc w1 _),
          fun h1 h2 h7 => hJ.hD1 (h1.resolve_left (by decide)) (h2.resolve_left (by decide)) (fun s => h7 (.inr s)),
          fun h1 h2 => hJ.hD2 (h1.resolve_left (by decide)) (h2.resolve_left (by decide))⟩
    · have n14 : ¬ S 14 := fun h => by
        have h2 : S 1 ∧ S 7 ∧ S 13 ∧ True := hcl 14 _ rfl h
        exact hni h2.2.1
      have n16 : ¬ S 16 := fun h => by
        have h2 : S 15 ∧ S 14 ∧ S 13 ∧ S 0 ∧ S 1 ∧ S 2 ∧ S 3 ∧ S 4 ∧ S 5 ∧ S 6 ∧ S 7 ∧ S 8 ∧ S 9 ∧ S 10 ∧ S 11 ∧ S 12 ∧ S 13 ∧ S 14 ∧ S 15 ∧ True := hcl 16 _ rfl h
        exact hni h2.2.2.2.2.2.2.2.2.2.2.1
      have ho2 : some _ = some o := ho
      obtain rfl := Option.some.inj ho2
      clear ho ho2
      have hd2 : S 5 ∧ S 6 ∧ S 5 ∧ True := hd
      obtain ⟨d5, d6, d5, _⟩ := hd2
      have n11z : ¬ S 11 := fun h => by
            have h2 : S 8 ∧ S 10 ∧ S 7 ∧ True := hcl 11 _ rfl h
            exact hni h2.2.2.1
      have n13z : ¬ S 13 := fun h => by
            have h2 : S 11 ∧ S 12 ∧ S 11 ∧ True := hcl 13 _ rfl h
            exact n11z h2.1
      have n16z : ¬ S 16 := fun h => by
            have h2 : S 15 ∧ S 14 ∧ S 13 ∧ S 0 ∧ S 1 ∧ S 2 ∧ S 3 ∧ S 4 ∧ S 5 ∧ S 6 ∧ S 7 ∧ S 8 ∧ S 9 ∧ S 10 ∧ S 11 ∧ S 12 ∧ S 13 ∧ S 14 ∧ S 15 ∧ True := hcl 16 _ rfl h
            exact hni h2.2.2.2.2.2.2.2.2.2.2.1
      obtain ⟨X0, c0, e47, h47, hc0, f47⟩ := hJ.h5 d5 hni
      obtain ⟨A1, c1, e48, r48⟩ := hJ.h6 d6 hni
      subst e47 e48
      refine step_app2 (X := X0) (n := v.n) (c := c0) (A' := A1) (m := 2) (c' := c1) (l := a) (k := [0, 0]) rfl _ _ rfl rfl rfl h47 hc0 r48 (by omega) hJ.hB.size ?_
      intro Y cY w2 row hY hg hrow
      obtain ⟨g, hgY⟩ := hY.blk
      replace hgY := hgY (by omega)
      have hrowB : ∀ g, row = some g → w0.heap.size ≤ g := fun g e => by
            obtain ⟨h0, ex⟩ := hrow g e
            obtain ⟨g', e2, h1, _⟩ := (h47.own h0).form h0
            rw [ex] at e2
            injection e2 with e2
            injection e2 with e3 _
            omega
      have hB2 := below_row hJ.hB hg hrowB (Nat.le_refl _)
      refine hK.out _ _ ⟨_, _, _, _, _, _, _, _, _, _, _, _, _, _, _, _, zb, g47, g, g53, b54, rfl, ?_⟩
      exact ⟨hB2,
          fun h => (hJ.h0 (h.resolve_left (by decide))),
          fun h => (hJ.h1 (h.resolve_left (by decide))),
          fun h => (hJ.h2 (h.resolve_left (by decide))),
          fun h => (hJ.h3 (h.resolve_left (by decide))),
          fun h => (hJ.h4 (h.resolve_left (by decide))),
          fun h => fun hh => absurd (Or.inl rfl) hh,
          fun h => fun hh => absurd (Or.inl rfl) hh,
          fun _ => ⟨Y, cY, rfl, hY, hgY.1, hgY.2.2⟩,
          fun h => (hJ.h8 (h.resolve_left (by decide))),
          fun h => (hJ.h9 (h.resolve_left (by decide))),
          fun h => (hJ.h10 (h.resolve_left (by decide))),
          fun h => absurd (h.resolve_left (by decide)) n11z,
          fun h => let ⟨e, l, r⟩ := (hJ.h12 (h.resolve_left (by decide))); ⟨e, Nat.lt_of_lt_of_le l hg.size, fun hh => (r (fun s => hh (.inr s))).grown hg (fun ad e2 e3 => by injection e2 with e2; subst e2; obtain ⟨h0, ex⟩ := hrow _ e3.symm; have e4 := (f47 h0).1.symm.trans ex; injection e4 with e4; injection e4 with e5 _; exact hJ.hD1 d5 (h.resolve_left (by decide)) hni h0 e5)⟩,
          fun h => absurd (h.resolve_left (by decide)) n13z,
          fun h => absurd (h.resolve_left (by decide)) n14,
          fun h => let ⟨e, l, z, k⟩ := (hJ.h15 (h.resolve_left (by decide))); ⟨e, l, z, k.grown hg (fun g e => by obtain ⟨h0, ex⟩ := hrow g e; exact h47.apart h0 ex k)⟩,
          fun h => absurd (h.resolve_left (by decide)) n16z,
          fun _ _ hh => absurd (Or.inl rfl) hh,
          fun _ h2 => absurd (h2.resolve_left (by decide)) n11z⟩
    · have ho2 : some _ = some o := ho
      obtain rfl := Option.some.inj ho2
      clear ho ho2
      go_simp
      refine hK.out _ _ ⟨_, _, _, _, _, _, _, _, _, _, _, _, _, _, _, _, zb, g47, g49, g53, b54, rfl, ?_⟩
      exact ⟨hJ.hB.trans ((below_alloc w1 _).mono hJ.hB.size),
          fun h => (hJ.h0 (h.resolve_left (by decide))),
          fun h => (hJ.h1 (h.resolve_left (by decide))),
          fun h => (hJ.h2 (h.resolve_left (by decide))),
          fun h => (hJ.h3 (h.resolve_left (by decide))),
          fun h => (hJ.h4 (h.resolve_left (by decide))),
          fun h => fun hh => let ⟨X, c, e, n, k, f⟩ := (hJ.h5 (h.resolve_left (by decide))) (fun s => hh (.inr s)); ⟨X, c, e, n.below (below_alloc w1 _), k, fun h0 => ⟨(f h0).1, Nat.lt_of_lt_of_le (f h0).2 (below_alloc w1 _).size⟩⟩,
          fun h => fun hh => let ⟨A, c, e, r⟩ := (hJ.h6 (h.resolve_left (by decide))) (fun s => hh (.inr s)); ⟨A, c, e, r.below (below_alloc w1 _)⟩,
          fun h => let ⟨X, c, e, n, x, l⟩ := (hJ.h7 (h.resolve_left (by decide))); ⟨X, c, e, n.below (below_alloc w1 _), x, Nat.lt_of_lt_of_le l (below_alloc w1 _).size⟩,
          fun _ => ⟨_, rfl⟩,
          fun h => (hJ.h9 (h.resolve_left (by decide))),
          fun h => (hJ.h10 (h.resolve_left (by decide))),
          fun h => fun hh => let ⟨X, c, e, n, k, f⟩ := (hJ.h11 (h.resolve_left (by decide))) (fun s => hh (.inr s)); ⟨X, c, e, n.below (below_alloc w1 _), k, fun h0 => ⟨(f h0).1, Nat.lt_of_lt_of_le (f h0).2 (below_alloc w1 _).size⟩⟩,
          fun h => let ⟨e, l, r⟩ := (hJ.h12 (h.resolve_left (by decide))); ⟨e, Nat.lt_of_lt_of_le l (below_alloc w1 _).size, fun hh => (r (fun s => hh (.inr s))).below (below_alloc w1 _)⟩,
          fun h => let ⟨X, c, e, n⟩ := (hJ.h13 (h.resolve_left (by decide))); ⟨X, c, e, n.below (below_alloc w1 _)⟩,
          fun h => (hJ.h14 (h.resolve_left (by decide))),
          fun h => let ⟨e, l, z, k⟩ := (hJ.h15 (h.resolve_left (by decide))); ⟨e, l, z, k.below (below_alloc w1 _)⟩,
          fun h => (hJ.h16 (h.resolve_left (by decide))).below (below_alloc w1 _),
          fun h1 h2 h7 => hJ.hD1 (h1.resolve_left (by decide)) (h2.resolve_left (by decide)) (fun s => h7 (.inr s)),
          fun h1 h2 => hJ.hD2 (h1.resolve_left (by decide)) (h2.resolve_left (by decide))⟩
    · have ho2 : some _ = some o := ho
      obtain rfl := Option.some.inj ho2
      clear ho ho2
      go_simp
      refine hK.out _ _ ⟨_, _, _, _, _, _, _, _, _, _, _, _, _, _, _, _, zb, g47, g49, g53, b54, rfl, ?_⟩
      exact ⟨hJ.hB,
          fun h => (hJ.h0 (h.resolve_left (by decide))),
          fun h => (hJ.h1 (h.resolve_left (by decide))),
          fun h => (hJ.h2 (h.resolve_left (by decide))),
          fun h => (hJ.h3 (h.resolve_left (by decide))),
          fun h => (hJ.h4 (h.resolve_left (by decide))),
          fun h => fun hh => (hJ.h5 (h.resolve_left (by decide))) (fun s => hh (.inr s)),
          fun h => fun hh => (hJ.h6 (h.resolve_left (by decide))) (fun s => hh (.inr s)),
          fun h => (hJ.h7 (h.resolve_left (by decide))),
          fun h => (hJ.h8 (h.resolve_left (by decide))),
          fun _ => rfl,
          fun h => (hJ.h10 (h.resolve_left (by decide))),
          fun h => fun hh => (hJ.h11 (h.resolve_left (by decide))) (fun s => hh (.inr s)),
          fun h => let ⟨e, l, r⟩ := (hJ.h12 (h.resolve_left (by decide))); ⟨e, l, fun hh => r (fun s => hh (.inr s))⟩,
          fun h => (hJ.h13 (h.resolve_left (by decide))),
          fun h => (hJ.h14 (h.resolve_left (by decide))),
          fun h => (hJ.h15 (h.resolve_left (by decide))),
          fun h => (hJ.h16 (h.resolve_left (by decide))),
          fun h1 h2 h7 => hJ.hD1 (h1.resolve_left (by decide)) (h2.resolve_left (by decide)) (fun s => h7 (.inr s)),
          fun h1 h2 => hJ.hD2 (h1.resolve_left (by decide)) (h2.resolve_left (by decide))⟩
    · have ho2 : some _ = some o := ho
      obtain rfl := Option.some.inj ho2
      clear ho ho2
      have hd2 : S 9 ∧ True := hd
      obtain ⟨d9, _⟩ := hd2
      have e9 := hJ.h9 d9
      subst e9
      obtain ⟨v_0, v_1, v_2, v_3, v_4, v_5⟩ := (k_v.below hJ.hB).facts
      go_simp
      refine hK.out _ _ ⟨_, _, _, _, _, _, _, _, _, _, _, _, _, _, _, _, zb, g47, g49, g53, b54, rfl, ?_⟩
      exact ⟨hJ.hB,
          fun h => (hJ.h0 (h.resolve_left (by decide))),
          fun h => (hJ.h1 (h.resolve_left (by decide))),
          fun h => (hJ.h2 (h.resolve_left (by decide))),
          fun h => (hJ.h3 (h.resolve_left (by decide))),
          fun h => (hJ.h4 (h.resolve_left (by decide))),
          fun h => fun hh => (hJ.h5 (h.resolve_left (by decide))) (fun s => hh (.inr s)),
          fun h => fun hh => (hJ.h6 (h.resolve_left (by decide))) (fun s => hh (.inr s)),
          fun h => (hJ.h7 (h.resolve_left (by decide))),
          fun h => (hJ.h8 (h.resolve_left (by decide))),
          fun h => (hJ.h9 (h.resolve_left (by decide))),
          fun _ => rfl,
          fun h => fun hh => (hJ.h11 (h.resolve_left (by decide))) (fun s => hh (.inr s)),
          fun h => let ⟨e, l, r⟩ := (hJ.h12 (h.resolve_left (by decide))); ⟨e, l, fun hh => r (fun s => hh (.inr s))⟩,
          fun h => (hJ.h13 (h.resolve_left (by decide))),
          fun h => (hJ.h14 (h.resolve_left (by decide))),
          fun h => (hJ.h15 (h.resolve_left (by decide))),
          fun h => (hJ.h16 (h.resolve_left (by decide))),
          fun h1 h2 h7 => hJ.hD1 (h1.resolve_left (by decide)) (h2.resolve_left (by decide)) (fun s => h7 (.inr s)),
          fun h1 h2 => hJ.hD2 (h1.resolve_left (by decide)) (h2.resolve_left (by decide))⟩
    · have ho2 : some _ = some o := ho
      obtain rfl := Option.some.inj ho2
      clear ho ho2
      have hd2 : S 8 ∧ S 10 ∧ S 7 ∧ True := hd
      obtain ⟨d8, d10, d7, _⟩ := hd2
      obtain ⟨A0, ez⟩ := hJ.h8 d8
      have es := hJ.h10 d10
      subst ez es
      refine step_app00 (A0 := A0) (A' := v.B) (m := v.m) (c' := v.d) (k := b) rfl _ _ rfl rfl rfl (rb.below hJ.hB) (by omega) ?_
      intro X cX w2 hX hc0 hb
      obtain ⟨g, hg⟩ := hX.blk
      refine hK.out _ _ ⟨_, _, _, _, _, _, _, _, _, _, _, _, _, _, _, _, zb, g47, g49, g, b54, rfl, ?_⟩
      exact ⟨hJ.hB.trans (hb.mono hJ.hB.size),
          fun h => (hJ.h0 (h.resolve_left (by decide))),
          fun h => (hJ.h1 (h.resolve_left (by decide))),
          fun h => (hJ.h2 (h.resolve_left (by decide))),
          fun h => (hJ.h3 (h.resolve_left (by decide))),
          fun h => (hJ.h4 (h.resolve_left (by decide))),
          fun h => fun hh => let ⟨X, c, e, n, k, f⟩ := (hJ.h5 (h.resolve_left (by decide))) (fun s => hh (.inr s)); ⟨X, c, e, n.below hb, k, fun h0 => ⟨(f h0).1, Nat.lt_of_lt_of_le (f h0).2 hb.size⟩⟩,
          fun h => fun hh => let ⟨A, c, e, r⟩ := (hJ.h6 (h.resolve_left (by decide))) (fun s => hh (.inr s)); ⟨A, c, e, r.below hb⟩,
          fun h => let ⟨X, c, e, n, x, l⟩ := (hJ.h7 (h.resolve_left (by decide))); ⟨X, c, e, n.below hb, x, Nat.lt_of_lt_of_le l hb.size⟩,
          fun h => (hJ.h8 (h.resolve_left (by decide))),
          fun h => (hJ.h9 (h.resolve_left (by decide))),
          fun h => (hJ.h10 (h.resolve_left (by decide))),
          fun _ _ => ⟨X, cX, rfl, hX.lower hJ.hB.size, hc0, fun h0 => ⟨(hg h0).1, (hg h0).2.2⟩⟩,
          fun h => let ⟨e, l, r⟩ := (hJ.h12 (h.resolve_left (by decide))); ⟨e, Nat.lt_of_lt_of_le l hb.size, fun hh => (r (fun s => hh (.inr s))).below hb⟩,
          fun h => let ⟨X, c, e, n⟩ := (hJ.h13 (h.resolve_left (by decide))); ⟨X, c, e, n.below hb⟩,
          fun h => (hJ.h14 (h.resolve_left (by decide))),
          fun h => let ⟨e, l, z, k⟩ := (hJ.h15 (h.resolve_left (by decide))); ⟨e, l, z, k.below hb⟩,
          fun h => (hJ.h16 (h.resolve_left (by decide))).below hb,
          fun h1 h2 h7 => hJ.hD1 (h1.resolve_left (by decide)) (h2.resolve_left (by decide)) (fun s => h7 (.inr s)),
          fun _ _ hm => Nat.ne_of_gt (let ⟨_, _, _, _, _, l⟩ := hJ.h7 d7; Nat.lt_of_lt_of_le l (hg hm).2.1)⟩
    · have ho2 : some _ = some o := ho
      obtain rfl := Option.some.inj ho2
      clear ho ho2
      go_simp
      refine hK.out _ _ ⟨_, _, _, _, _, _, _, _, _, _, _, _, _, _, _, _, zb, g47, g49, g53, w1.heap.size, rfl, ?_⟩
      exact ⟨hJ.hB.trans ((below_alloc w1 _).mono hJ.hB.size),
          fun h => (hJ.h0 (h.resolve_left (by decide))),
          fun h => (hJ.h1 (h.resolve_left (by decide))),
          fun h => (hJ.h2 (h.resolve_left (by decide))),
          fun h => (hJ.h3 (h.resolve_left (by decide))),
          fun h => (hJ.h4 (h.resolve_left (by decide))),
          fun h => fun hh => let ⟨X, c, e, n, k, f⟩ := (hJ.h5 (h.resolve_left (by decide))) (fun s => hh (.inr s)); ⟨X, c, e, n.below (below_alloc w1 _), k, fun h0 => ⟨(f h0).1, Nat.lt_of_lt_of_le (f h0).2 (below_alloc w1 _).size⟩⟩,
          fun h => fun hh => let ⟨A, c, e, r⟩ := (hJ.h6 (h.resolve_left (by decide))) (fun s => hh (.inr s)); ⟨A, c, e, r.below (below_alloc w1 _)⟩,
          fun h => let ⟨X, c, e, n, x, l⟩ := (hJ.h7 (h.resolve_left (by decide))); ⟨X, c, e, n.below (below_alloc w1 _), x, Nat.lt_of_lt_of_le l (below_alloc w1 _).size⟩,
          fun h => (hJ.h8 (h.resolve_left (by decide))),
          fun h => (hJ.h9 (h.resolve_left (by decide))),
          fun h => (hJ.h10 (h.resolve_left (by decide))),
          fun h => fun hh => let ⟨X, c, e, n, k, f⟩ := (hJ.h11 (h.resolve_left (by decide))) (fun s => hh (.inr s)); ⟨X, c, e, n.below (below_alloc w1 _), k, fun h0 => ⟨(f h0).1, Nat.lt_of_lt_of_le (f h0).2 (below_alloc w1 _).size⟩⟩,
          fun _ => ⟨⟨_, rfl⟩, by simp, fun _ => Row.lit w1 0 0 rfl (by omega)⟩,
          fun h => let ⟨X, c, e, n⟩ := (hJ.h13 (h.resolve_left (by decide))); ⟨X, c, e, n.below (below_alloc w1 _)⟩,
          fun h => (hJ.h14 (h.resolve_left (by decide))),
          fun h => let ⟨e, l, z, k⟩ := (hJ.h15 (h.resolve_left (by decide))); ⟨e, l, z, k.below (below_alloc w1 _)⟩,
          fun h => (hJ.h16 (h.resolve_left (by decide))).below (below_alloc w1 _),
          fun h1 _ h7 hn => Nat.ne_of_lt (let ⟨_, _, _, _, _, f⟩ := hJ.h5 (h1.resolve_left (by decide)) (fun s => h7 (.inr s)); (f hn).2),
          fun h1 h2 => hJ.hD2 (h1.resolve_left (by decide)) (h2.resolve_left (by decide))⟩
    · have n14 : ¬ S 14 := fun h => by
        have h2 : S 1 ∧ S 7 ∧ S 13 ∧ True := hcl 14 _ rfl h
        exact hni h2.2.2.1
      have n16 : ¬ S 16 := fun h => by
        have h2 : S 15 ∧ S 14 ∧ S 13 ∧ S 0 ∧ S 1 ∧ S 2 ∧ S 3 ∧ S 4 ∧ S 5 ∧ S 6 ∧ S 7 ∧ S 8 ∧ S 9 ∧ S 10 ∧ S 11 ∧ S 12 ∧ S 13 ∧ S 14 ∧ S 15 ∧ True := hcl 16 _ rfl h
        exact hni h2.2.2.1
      have ho2 : some _ = some o := ho
      obtain rfl := Option.some.inj ho2
      clear ho ho2
      have hd2 : S 11 ∧ S 12 ∧ S 11 ∧ True := hd
      obtain ⟨d11, d12, d11, _⟩ := hd2
      have n16z : ¬ S 16 := fun h => by
            have h2 : S 15 ∧ S 14 ∧ S 13 ∧ S 0 ∧ S 1 ∧ S 2 ∧ S 3 ∧ S 4 ∧ S 5 ∧ S 6 ∧ S 7 ∧ S 8 ∧ S 9 ∧ S 10 ∧ S 11 ∧ S 12 ∧ S 13 ∧ S 14 ∧ S 15 ∧ True := hcl 16 _ rfl h
            exact hni h2.2.2.1
      have h2 : S 8 ∧ S 10 ∧ S 7 ∧ True := hcl 11 _ rfl d11
      have d7 := h2.2.2.1
      obtain ⟨X0, c0, e53, h53, hc0, f53⟩ := hJ.h11 d11 hni
      obtain ⟨⟨c1, e54⟩, _, r54⟩ := hJ.h12 d12
      replace r54 := r54 hni
      subst e53 e54
      refine step_app2 (X := X0) (n := v.m) (c := c0) (A' := some ⟨b54, 0, none⟩) (m := 1) (c' := c1) (l := b) (k := [0]) rfl _ _ rfl rfl rfl h53 hc0 r54 (by omega) hJ.hB.size ?_
      intro Y cY w2 row hY hg hrow
      have hrowB : ∀ g, row = some g → w0.heap.size ≤ g := fun g e => by
            obtain ⟨h0, ex⟩ := hrow g e
            obtain ⟨g', e2, h1, _⟩ := (h53.own h0).form h0
            rw [ex] at e2
            injection e2 with e2
            injection e2 with e3 _
            omega
      have hB2 := below_row hJ.hB hg hrowB (Nat.le_refl _)
      refine hK.out _ _ ⟨_, _, _, _, _, _, _, _, _, _, _, _, _, _, _, _, zb, g47, g49, g53, b54, rfl, ?_⟩
      exact ⟨hB2,
          fun h => (hJ.h0 (h.resolve_left (by decide))),
          fun h => (hJ.h1 (h.resolve_left (by decide))),
          fun h => (hJ.h2 (h.resolve_left (by decide))),
          fun h => (hJ.h3 (h.resolve_left (by decide))),
          fun h => (hJ.h4 (h.resolve_left (by decide))),
          fun h => fun hh => absurd (Or.inr d7) hh,
          fun h => fun hh => absurd (Or.inr d7) hh,
          fun h => let ⟨X, c, e, n, x, l⟩ := (hJ.h7 (h.resolve_left (by decide))); ⟨X, c, e, n.grown hg (fun _ ad e2 e3 => by rw [x] at e2; injection e2 with e2; subst e2; obtain ⟨h0, ex⟩ := hrow _ e3.symm; have e4 := (f53 h0).1.symm.trans ex; injection e4 with e4; injection e4 with e5 _; exact hJ.hD2 d7 d11 h0 e5), x, Nat.lt_of_lt_of_le l hg.size⟩,
          fun h => (hJ.h8 (h.resolve_left (by decide))),
          fun h => (hJ.h9 (h.resolve_left (by decide))),
          fun h => (hJ.h10 (h.resolve_left (by decide))),
          fun h => fun hh => absurd (Or.inl rfl) hh,
          fun h => let ⟨e, l, _⟩ := (hJ.h12 (h.resolve_left (by decide))); ⟨e, Nat.lt_of_lt_of_le l hg.size, fun hh => absurd (Or.inl rfl) hh⟩,
          fun _ => ⟨Y, cY, rfl, hY⟩,
          fun h => absurd (h.resolve_left (by decide)) n14,
          fun h => let ⟨e, l, z, k⟩ := (hJ.h15 (h.resolve_left (by decide))); ⟨e, l, z, k.grown hg (fun g e => by obtain ⟨h0, ex⟩ := hrow g e; exact h53.apart h0 ex k)⟩,
          fun h => absurd (h.resolve_left (by decide)) n16z,
          fun h1 h2 h7 => hJ.hD1 (h1.resolve_left (by decide)) (h2.resolve_left (by decide)) (fun s => h7 (.inr s)),
          fun h1 h2 => hJ.hD2 (h1.resolve_left (by decide)) (h2.resolve_left (by decide))⟩
    · have ho2 : some _ = some o := ho
      obtain rfl := Option.some.inj ho2
      clear ho ho2
      have hd2 : S 1 ∧ S 7 ∧ S 13 ∧ True := hd
      obtain ⟨d1, d7, d13, _⟩ := hd2
      have e43 := hJ.h1 d1
      obtain ⟨X, cX, eX, hq1, hq2, hq3⟩ := hJ.h7 d7
      clear hq1 hq2 hq3
      obtain ⟨Y, cY, eY, _⟩ := hJ.h13 d13
      subst e43 eX eY
      go_simp
      refine hK.out _ _ ⟨_, _, _, _, _, _, _, _, _, _, _, _, _, _, _, _, zb, g47, g49, g53, b54, rfl, ?_⟩
      exact ⟨hJ.hB,
          fun h => (hJ.h0 (h.resolve_left (by decide))),
          fun h => (hJ.h1 (h.resolve_left (by decide))),
          fun h => (hJ.h2 (h.resolve_left (by decide))),
          fun h => (hJ.h3 (h.resolve_left (by decide))),
          fun h => (hJ.h4 (h.resolve_left (by decide))),
          fun h => fun hh => (hJ.h5 (h.resolve_left (by decide))) (fun s => hh (.inr s)),
          fun h => fun hh => (hJ.h6 (h.resolve_left (by decide))) (fun s => hh (.inr s)),
          fun h => (hJ.h7 (h.resolve_left (by decide))),
          fun h => (hJ.h8 (h.resolve_left (by decide))),
          fun h => (hJ.h9 (h.resolve_left (by decide))),
          fun h => (hJ.h10 (h.resolve_left (by decide))),
          fun h => fun hh => (hJ.h11 (h.resolve_left (by decide))) (fun s => hh (.inr s)),
          fun h => let ⟨e, l, r⟩ := (hJ.h12 (h.resolve_left (by decide))); ⟨e, l, fun hh => r (fun s => hh (.inr s))⟩,
          fun h => (hJ.h13 (h.resolve_left (by decide))),
          fun _ => rfl,
          fun h => (hJ.h15 (h.resolve_left (by decide))),
          fun h => (hJ.h16 (h.resolve_left (by decide))),
          fun h1 h2 h7 => hJ.hD1 (h1.resolve_left (by decide)) (h2.resolve_left (by decide)) (fun s => h7 (.inr s)),
          fun h1 h2 => hJ.hD2 (h1.resolve_left (by decide)) (h2.resolve_left (by decide))⟩
    · have ho2 : some _ = some o := ho
      obtain rfl := Option.some.inj ho2
      clear ho ho2
      have n16z : ¬ S 16 := fun h => by
            have h2 : S 15 ∧ S 14 ∧ S 13 ∧ S 0 ∧ S 1 ∧ S 2 ∧ S 3 ∧ S 4 ∧ S 5 ∧ S 6 ∧ S 7 ∧ S 8 ∧ S 9 ∧ S 10 ∧ S 11 ∧ S 12 ∧ S 13 ∧ S 14 ∧ S 15 ∧ True := hcl 16 _ rfl h
            exact hni h2.1
      go_simp
      refine hK.out _ _ ⟨_, _, _, _, _, _, _, _, _, _, _, _, _, _, _, _, w1.heap.size, g47, g49, g53, b54, rfl, ?_⟩
      exact ⟨hJ.hB.trans ((below_alloc w1 _).mono hJ.hB.size),
          fun h => (hJ.h0 (h.resolve_left (by decide))),
          fun h => (hJ.h1 (h.resolve_left (by decide))),
          fun h => (hJ.h2 (h.resolve_left (by decide))),
          fun h => (hJ.h3 (h.resolve_left (by decide))),
          fun h => (hJ.h4 (h.resolve_left (by decide))),
          fun h => fun hh => let ⟨X, c, e, n, k, f⟩ := (hJ.h5 (h.resolve_left (by decide))) (fun s => hh (.inr s)); ⟨X, c, e, n.below (below_alloc w1 _), k, fun h0 => ⟨(f h0).1, Nat.lt_of_lt_of_le (f h0).2 (below_alloc w1 _).size⟩⟩,
          fun h => fun hh => let ⟨A, c, e, r⟩ := (hJ.h6 (h.resolve_left (by decide))) (fun s => hh (.inr s)); ⟨A, c, e, r.below (below_alloc w1 _)⟩,
          fun h => let ⟨X, c, e, n, x, l⟩ := (hJ.h7 (h.resolve_left (by decide))); ⟨X, c, e, n.below (below_alloc w1 _), x, Nat.lt_of_lt_of_le l (below_alloc w1 _).size⟩,
          fun h => (hJ.h8 (h.resolve_left (by decide))),
          fun h => (hJ.h9 (h.resolve_left (by decide))),
          fun h => (hJ.h10 (h.resolve_left (by decide))),
          fun h => fun hh => let ⟨X, c, e, n, k, f⟩ := (hJ.h11 (h.resolve_left (by decide))) (fun s => hh (.inr s)); ⟨X, c, e, n.below (below_alloc w1 _), k, fun h0 => ⟨(f h0).1, Nat.lt_of_lt_of_le (f h0).2 (below_alloc w1 _).size⟩⟩,
          fun h => let ⟨e, l, r⟩ := (hJ.h12 (h.resolve_left (by decide))); ⟨e, Nat.lt_of_lt_of_le l (below_alloc w1 _).size, fun hh => (r (fun s => hh (.inr s))).below (below_alloc w1 _)⟩,
          fun h => let ⟨X, c, e, n⟩ := (hJ.h13 (h.resolve_left (by decide))); ⟨X, c, e, n.below (below_alloc w1 _)⟩,
          fun h => (hJ.h14 (h.resolve_left (by decide))),
          fun _ => ⟨rfl, hJ.hB.size, ⟨false, none, 0, 0, none, 0, 0⟩, C3.new w1 _ _ _⟩,
          fun h => absurd (h.resolve_left (by decide)) n16z,
          fun h1 h2 h7 => hJ.hD1 (h1.resolve_left (by decide)) (h2.resolve_left (by decide)) (fun s => h7 (.inr s)),
          fun h1 h2 => hJ.hD2 (h1.resolve_left (by decide)) (h2.resolve_left (by decide))⟩
    · have ho2 : some _ = some o := ho
      obtain rfl := Option.some.inj ho2
      clear ho ho2
      have hd2 : S 15 ∧ S 14 ∧ S 13 ∧ S 0 ∧ S 1 ∧ S 2 ∧ S 3 ∧ S 4 ∧ S 5 ∧ S 6 ∧ S 7 ∧ S 8 ∧ S 9 ∧ S 10 ∧ S 11 ∧ S 12 ∧ S 13 ∧ S 14 ∧ S 15 ∧ True := hd
      obtain ⟨d15, d14, d13, d0, d1, d2, d3, d4, d5, d6, d7, d8, d9, d10, d11, d12, d13, d14, d15, _⟩ := hd2
      obtain ⟨e9, hl, z, kz⟩ := hJ.h15 d15
      have e56 := hJ.h14 d14
      have e43 := hJ.h1 d1
      obtain ⟨X, cX, eX, hq1, hq2, hq3⟩ := hJ.h7 d7
      clear hq1 hq2 hq3
      obtain ⟨Y, cY, eY, _⟩ := hJ.h13 d13
      subst e43 eX eY
      subst e56 e9
      obtain ⟨z_0, z_1, z_2, z_3, z_4, z_5⟩ := kz.facts
      go_simp
      refine hK.out _ _ ⟨_, _, _, _, _, _, _, _, _, _, _, _, _, _, _, _, zb, g47, g49, g53, b54, rfl, ?_⟩
      exact ⟨hJ.hB.trans (put3_below hl _ _ _),
          fun h => (hJ.h0 (h.resolve_left (by decide))),
          fun h => (hJ.h1 (h.resolve_left (by decide))),
          fun h => (hJ.h2 (h.resolve_left (by decide))),
          fun h => (hJ.h3 (h.resolve_left (by decide))),
          fun h => (hJ.h4 (h.resolve_left (by decide))),
          fun h => fun hh => absurd (Or.inr d7) hh,
          fun h => fun hh => absurd (Or.inr d7) hh,
          fun h => let ⟨X, c, e, n, x, l⟩ := (hJ.h7 (h.resolve_left (by decide))); ⟨X, c, e, n.putC kz _ _ _, x, by simpa using l⟩,
          fun h => (hJ.h8 (h.resolve_left (by decide))),
          fun h => (hJ.h9 (h.resolve_left (by decide))),
          fun h => (hJ.h10 (h.resolve_left (by decide))),
          fun h => fun hh => absurd (Or.inr d13) hh,
          fun h => let ⟨e, l, _⟩ := (hJ.h12 (h.resolve_left (by decide))); ⟨e, by simpa using l, fun hh => absurd (Or.inr d13) hh⟩,
          fun h => let ⟨X, c, e, n⟩ := (hJ.h13 (h.resolve_left (by decide))); ⟨X, c, e, n.putC kz _ _ _⟩,
          fun h => (hJ.h14 (h.resolve_left (by decide))),
          fun h => ⟨rfl, hl, ⟨v.s, X, v.n + 2, cX, Y, v.m + 1, cY⟩, kz.put _ _ _⟩,
          fun _ => kz.put _ _ _,
          fun h1 h2 h7 => hJ.hD1 (h1.resolve_left (by decide)) (h2.resolve_left (by decide)) (fun s => h7 (.inr s)),
          fun h1 h2 => hJ.hD2 (h1.resolve_left (by decide)) (h2.resolve_left (by decide))⟩
  · rintro S a' w1 ⟨t42, t43, t44, t45, t46, t47, t48, t49, t50, t51, t52, t53, t54, t55, t56, t9, zb, g47, g49, g53, b54, rfl, hJ⟩ hall
    have HB1 := hJ.hB
    obtain ⟨e9, hl, _⟩ := hJ.h15 (hall 15 (show 15 < 17 by decide))
    obtain ⟨X, cX, eX, h_X, _, _⟩ := hJ.h7 (hall 7 (show 7 < 17 by decide))
    obtain ⟨Y, cY, eY, h_Y⟩ := hJ.h13 (hall 13 (show 13 < 17 by decide))
    have e43 := hJ.h1 (hall 1 (show 1 < 17 by decide))
    have k_x := hJ.h16 (hall 16 (show 16 < 17 by decide))
    clear hJ hall
    subst e9 eX eY e43
    have ea : val (a ++ [0, 0]) = val a := val_noughts a 2
    have eb : val (b ++ [0]) = val b := val_noughts b 1
    have h_x : Rw w1 ⟨v.s, X, v.n + 2, cX, Y, v.m + 1, cY⟩ r 16 := ⟨h_X.cap, h_Y.cap, by show v.n + 2 ≤ 16; omega, by show v.m + 1 ≤ 16; omega, a ++ [0, 0], b ++ [0], h_X.row.lower (Nat.zero_le _), h_Y.row.lower (Nat.zero_le _), by rw [ea, eb]; exact hr⟩
    replace k_x : C3 w1 zb (.bool v.s) (.slice X (v.n + 2) cX) (.slice Y (v.m + 1) cY) := k_x
    obtain ⟨x, hx⟩ : ∃ x : Rv, x = ⟨v.s, X, v.n + 2, cX, Y, v.m + 1, cY⟩ := ⟨_, rfl⟩
    replace k_x : C3 w1 zb (.bool x.s) (.slice x.A x.n x.c) (.slice x.B x.m x.d) := by rw [hx]; exact k_x
    rw [← hx] at h_x
    clear hx ea eb h_X h_Y ra rb hr
    have k_v := k_v0.out.below HB1
    have h_v := hv0.out.below HB1
    replace k_q := k_q.below HB1
    replace ht_q := ht_q.below HB1
    replace HB := HB.trans (HB1.mono HB.size)
    clear HB1 k_v0 hv0
    go_upto_region 7 with fail
    obtain ⟨v_0, v_1, v_2, v_3, v_4, v_5⟩ := k_v.facts
    obtain ⟨q_0, q_1, q_2, q_3, q_4, q_5⟩ := k_q.facts
    obtain ⟨x_0, x_1, x_2, x_3, x_4, x_5⟩ := k_x.facts
    replace h_v := (h_v.below (Below.refl _ _).drew).more (show 8 ≤ 250 by omega)
    replace h_x := (h_x.below (Below.refl _ _).drew).more (show 16 ≤ 2000 by omega)
    replace ht_q := ht_q.below (Below.refl _ _).drew
    replace k_v := k_v.drew
    replace k_q := k_q.drew
    replace k_x := k_x.drew
    replace HB := HB.drew
    have mk0 : Hid True := trivial
    go_region_held3 (fun w' => w'.cell? ⟨w.heap.size, 0, none⟩ = some (.bool v.s) ∧ w'.cell? ⟨w.heap.size, 1, none⟩ = some (.slice v.A v.n v.c) ∧ w'.cell? ⟨w.heap.size, 2, none⟩ = some (.slice v.B v.m v.d) ∧ w'.cell? ⟨yb, 0, none⟩ = some (.bool q.s) ∧ w'.cell? ⟨yb, 1, none⟩ = some (.slice q.A q.n q.c) ∧ w'.cell? ⟨yb, 2, none⟩ = some (.slice q.B q.m q.d) ∧ w'.cell? ⟨zb, 0, none⟩ = some (.bool x.s) ∧ w'.cell? ⟨zb, 1, none⟩ = some (.slice x.A x.n x.c) ∧ w'.cell? ⟨zb, 2, none⟩ = some (.slice x.B x.m x.d)) (go_keep)
        (first
        | (go_at_call 9
           have mk1 := mk0
           clear mk0
           refine (rNorm_c v _ _ h_v).mono ?_
           rintro e w1 ⟨z1, rfl, ht_z1, hb⟩
           replace HB := HB.trans (hb.mono HB.size)
           replace k_v := k_v.below hb
           replace k_q := k_q.below hb
           replace k_x := k_x.below hb
           replace h_v := h_v.below hb
           replace ht_q := ht_q.below hb
           replace h_x := h_x.below hb
           clear hb
           clear v_0 v_1 v_2 v_3 v_4 v_5 q_0 q_1 q_2 q_3 q_4 q_5 x_0 x_1 x_2 x_3 x_4 x_5
           obtain ⟨v_0, v_1, v_2, v_3, v_4, v_5⟩ := k_v.facts
           obtain ⟨q_0, q_1, q_2, q_3, q_4, q_5⟩ := k_q.facts
           obtain ⟨x_0, x_1, x_2, x_3, x_4, x_5⟩ := k_x.facts)
        | (go_at_call 8
           have mk2 := mk1
           clear mk1
           refine (one_yes q z1 _ _ _ _ _ ht_q ht_z1 rfl (ht_q.len z_v (by omega)).1 (ht_q.len z_v (by omega)).2).mono ?_
           rintro e w2 ⟨rfl, hb⟩
           replace HB := HB.trans (hb.mono HB.size)
           replace k_v := k_v.below hb
           replace k_q := k_q.below hb
           replace k_x := k_x.below hb
           replace h_v := h_v.below hb
           replace ht_q := ht_q.below hb
           replace h_x := h_x.below hb
           replace ht_z1 := ht_z1.below hb
           clear hb
           clear v_0 v_1 v_2 v_3 v_4 v_5 q_0 q_1 q_2 q_3 q_4 q_5 x_0 x_1 x_2 x_3 x_4 x_5
           obtain ⟨v_0, v_1, v_2, v_3, v_4, v_5⟩ := k_v.facts
           obtain ⟨q_0, q_1, q_2, q_3, q_4, q_5⟩ := k_q.facts
           obtain ⟨x_0, x_1, x_2, x_3, x_4, x_5⟩ := k_x.facts)
        | (go_at_call 10
           have mk3 := mk2
           clear mk2
           refine (Same_v v x r r true _ (h_v.more (show 250 ≤ 2000 by omega)) h_x (decide_eq_true rfl)).mono ?_
           rintro e w3 ⟨rfl, hb⟩
           replace HB := HB.trans (hb.mono HB.size)
           replace k_v := k_v.below hb
           replace k_q := k_q.below hb
           replace k_x := k_x.below hb
           replace h_v := h_v.below hb
           replace ht_q := ht_q.below hb
           replace h_x := h_x.below hb
           clear hb
           clear v_0 v_1 v_2 v_3 v_4 v_5 q_0 q_1 q_2 q_3 q_4 q_5 x_0 x_1 x_2 x_3 x_4 x_5
           obtain ⟨v_0, v_1, v_2, v_3, v_4, v_5⟩ := k_v.facts
           obtain ⟨q_0, q_1, q_2, q_3, q_4, q_5⟩ := k_q.facts
           obtain ⟨x_0, x_1, x_2, x_3, x_4, x_5⟩ := k_x.facts)
        | (go_at_call 11
           have mk4 := mk3
           clear mk3
           refine (Norm_any x r _ (h_x.more (show 2000 ≤ 5000 by omega))).mono ?_
           rintro e w4 ⟨z2, rfl, ht_z2, hb⟩
           replace HB := HB.trans (hb.mono HB.size)
           replace k_v := k_v.below hb
           replace k_q := k_q.below hb
           replace k_x := k_x.below hb
           replace h_v := h_v.below hb
           replace ht_q := ht_q.below hb
           replace h_x := h_x.below hb
           clear hb
           clear v_0 v_1 v_2 v_3 v_4 v_5 q_0 q_1 q_2 q_3 q_4 q_5 x_0 x_1 x_2 x_3 x_4 x_5
           obtain ⟨v_0, v_1, v_2, v_3, v_4, v_5⟩ := k_v.facts
           obtain ⟨q_0, q_1, q_2, q_3, q_4, q_5⟩ := k_q.facts
           obtain ⟨x_0, x_1, x_2, x_3, x_4, x_5⟩ := k_x.facts)
        | (go_at_call 9
           have mk5 := mk4
           clear mk4
           refine (rNorm_c v _ _ h_v).mono ?_
           rintro e w5 ⟨z3, rfl, ht_z3, hb⟩
           replace HB := HB.trans (hb.mono HB.size)
           replace k_v := k_v.below hb
           replace k_q := k_q.below hb
           replace k_x := k_x.below hb
           replace h_v := h_v.below hb
           replace ht_q := ht_q.below hb
           replace h_x := h_x.below hb
           replace ht_z2 := ht_z2.below hb
           clear hb
           clear v_0 v_1 v_2 v_3 v_4 v_5 q_0 q_1 q_2 q_3 q_4 q_5 x_0 x_1 x_2 x_3 x_4 x_5
           obtain ⟨v_0, v_1, v_2, v_3, v_4, v_5⟩ := k_v.facts
           obtain ⟨q_0, q_1, q_2, q_3, q_4, q_5⟩ := k_q.facts
           obtain ⟨x_0, x_1, x_2, x_3, x_4, x_5⟩ := k_x.facts)
        | (go_at_call 8
           have mk6 := mk5
           clear mk5
           refine (one_yes z2 z3 _ _ _ _ _ ht_z2 ht_z3 rfl (ht_z2.len z_v (by omega)).1 (ht_z2.len z_v (by omega)).2).mono ?_
           rintro e w6 ⟨rfl, hb⟩
           replace HB := HB.trans (hb.mono HB.size)
           replace k_v := k_v.below hb
           replace k_q := k_q.below hb
           replace k_x := k_x.below hb
           replace h_v := h_v.below hb
           replace ht_q := ht_q.below hb
           replace h_x := h_x.below hb
           replace ht_z2 := ht_z2.below hb
           replace ht_z3 := ht_z3.below hb
           clear hb
           clear v_0 v_1 v_2 v_3 v_4 v_5 q_0 q_1 q_2 q_3 q_4 q_5 x_0 x_1 x_2 x_3 x_4 x_5
           obtain ⟨v_0, v_1, v_2, v_3, v_4, v_5⟩ := k_v.facts
           obtain ⟨q_0, q_1, q_2, q_3, q_4, q_5⟩ := k_q.facts
           obtain ⟨x_0, x_1, x_2, x_3, x_4, x_5⟩ := k_x.facts)
        | (go_at_call 12
           have mk7 := mk6
           clear mk6
           refine (known_any _).mono ?_
           rintro e w7 ⟨rfl, hb⟩
           replace HB := HB.trans (hb.mono HB.size)
           replace k_v := k_v.below hb
           replace k_q := k_q.below hb
           replace k_x := k_x.below hb
           replace h_v := h_v.below hb
           replace ht_q := ht_q.below hb
           replace h_x := h_x.below hb
           clear hb
           clear v_0 v_1 v_2 v_3 v_4 v_5 q_0 q_1 q_2 q_3 q_4 q_5 x_0 x_1 x_2 x_3 x_4 x_5
           obtain ⟨v_0, v_1, v_2, v_3, v_4, v_5⟩ := k_v.facts
           obtain ⟨q_0, q_1, q_2, q_3, q_4, q_5⟩ := k_q.facts
           obtain ⟨x_0, x_1, x_2, x_3, x_4, x_5⟩ := k_x.facts))
    go_wp2
    go_ret
    exact ⟨rfl, HB⟩
end Go.Proofs.Ytgfajmnmeggaeaa
