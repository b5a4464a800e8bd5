/-
  RatBack: the walk of the law over small rationals.
-/
import Derived.Test.YtadopepoicbahaaRatKit
import Derived.Test.YtadopepoicbahaaRef1
namespace Go.Proofs.Ytadopepoicbahaa
open Go.RowKit

theorem Rt.drew {w : World} {lo : Nat} {v : Rv} {r : Rat} (h : Rt w lo v r) : Rt w.drew lo v r := h.below ⟨rfl, rfl, rfl, Nat.le_refl _, fun _ _ => rfl⟩

set_option maxRecDepth 100000 in
set_option maxHeartbeats 8000000 in
theorem RatBack_pos (v u : Rv) (r s : Rat) (w : World) (h_0 : Hid (s ≠ 0)) (hlen : v.n + v.m + u.n + u.m ≤ 8) (h_v : Rw w v r 8) (h_u : Rw w u s 8) :
    Calls Try.prog 6 #[.agg #[.bool v.s, .slice v.A v.n v.c, .slice v.B v.m v.d], .agg #[.bool u.s, .slice u.A u.n u.c, .slice u.B u.m u.d]] w fun e w' => e = .returned (.bool true) ∧ Below w.heap.size w w' := by
  have e_0 : Hid (decide (s = 0) = false) := decide_eq_false h_0.out
  have z_v : Sz r 8 := h_v.sz (by omega)
  have z_u : Sz s 8 := h_u.sz (by omega)
  have s_vu := z_v.add z_u
  have d_vu := s_vu.sub z_u
  have n_v := z_v.neg
  have nn_v := n_v.neg
  have q_vu := z_v.div z_u h_0.out
  have p_qu := q_vu.mul z_u
  go_enter Try.func6, Try.ntmps6
  go_wp2_with fail
  generalize hW : ((w.alloc (.cells #[.bool v.s, .slice v.A v.n v.c, .slice v.B v.m v.d] 24)).alloc (.cells #[.bool u.s, .slice u.A u.n u.c, .slice u.B u.m u.d] 24)).alloc (.cells #[.bool v.s, .slice v.A v.n v.c, .slice v.B v.m v.d, .bool u.s, .slice u.A u.n u.c, .slice u.B u.m u.d] 24) = W
  obtain ⟨k_v, k_u, HB, hsW, hbig⟩ := open2b w v u W hW
  clear hW
  refine (big_any (pick v u u) (w.heap.size + 1 + 1) 2 _ (by omega) ?_ hbig).mono ?_
  · intro i hi
    have : i = 0 ∨ i = 1 := by omega
    rcases this with rfl | rfl <;> simp only [pick] <;> omega
  rintro e w0 ⟨rfl, hb⟩
  rw [decide_eq_false (show ¬ 16 < tot (pick v u u) 2 by simp only [tot, pick]; omega)]
  replace HB := HB.trans (hb.mono (by omega))
  replace k_v := k_v.below hb
  replace k_u := k_u.below hb
  clear hb hbig hsW
  obtain ⟨v_0, v_1, v_2, v_3, v_4, v_5⟩ := k_v.facts
  obtain ⟨u_0, u_1, u_2, u_3, u_4, u_5⟩ := k_u.facts
  have b1 := h_v.numLe
  have b2 := h_v.denLe
  have b3 := h_u.numLe
  have b4 := h_u.denLe
  go_wp2_with fail
  clear b1 b2 b3 b4
  have h_v8 := h_v.below HB
  have h_u8 := h_u.below HB
  clear h_v h_u v_0 v_1 v_2 v_3 v_4 v_5 u_0 u_1 u_2 u_3 u_4 u_5
  refine (rNorm_c v r _ (h_v8.more (by omega))).mono ?_
  rintro e w1 ⟨nn, rfl, ht_nn, hb⟩
  replace HB := HB.trans (hb.mono HB.size)
  replace k_v := k_v.below hb
  replace h_v8 := h_v8.below hb
  replace k_u := k_u.below hb
  replace h_u8 := h_u8.below hb
  clear hb
  obtain ⟨v_0, v_1, v_2, v_3, v_4, v_5⟩ := k_v.facts
  obtain ⟨u_0, u_1, u_2, u_3, u_4, u_5⟩ := k_u.facts
  have lt_v := k_v.lt
  have lt_u := k_u.lt
  go_wp2_with fail
  clear lt_v lt_u
  have k_nn := C3.new w1 (.bool nn.s) (.slice nn.A nn.n nn.c) (.slice nn.B nn.m nn.d)
  have hbn := (Below.refl w1.heap.size w1).alloc (Nat.le_refl _) (.cells #[.bool nn.s, .slice nn.A nn.n nn.c, .slice nn.B nn.m nn.d] 24)
  replace HB := HB.trans (hbn.mono HB.size)
  replace k_v := k_v.below hbn
  replace k_u := k_u.below hbn
  replace h_v8 := h_v8.below hbn
  replace h_u8 := h_u8.below hbn
  replace ht_nn := ht_nn.below hbn
  clear hbn v_0 v_1 v_2 v_3 v_4 v_5 u_0 u_1 u_2 u_3 u_4 u_5
  generalize hWx : w1.alloc (.cells #[.bool nn.s, .slice nn.A nn.n nn.c, .slice nn.B nn.m nn.d] 24) = Wx at *
  clear hWx
  refine (Div_c v u r s _ (h_v8.more (by omega)) (h_u8.more (by omega)) h_0.out).mono ?_
  rintro e w2 ⟨qq, rfl, ht_qq, hb⟩
  replace HB := HB.trans (hb.mono HB.size)
  replace k_v := k_v.below hb
  replace k_u := k_u.below hb
  replace k_nn := k_nn.below hb
  replace h_v8 := h_v8.below hb
  replace h_u8 := h_u8.below hb
  replace ht_nn := ht_nn.below hb
  clear hb
  obtain ⟨v_0, v_1, v_2, v_3, v_4, v_5⟩ := k_v.facts
  obtain ⟨u_0, u_1, u_2, u_3, u_4, u_5⟩ := k_u.facts
  obtain ⟨nn_0, nn_1, nn_2, nn_3, nn_4, nn_5⟩ := k_nn.facts
  have lt_v := k_v.lt
  have lt_u := k_u.lt
  have lt_nn := k_nn.lt
  go_wp2_with fail
  clear lt_v lt_u lt_nn
  have k_qq := C3.new w2 (.bool qq.s) (.slice qq.A qq.n qq.c) (.slice qq.B qq.m qq.d)
  have hbn := (Below.refl w2.heap.size w2).alloc (Nat.le_refl _) (.cells #[.bool qq.s, .slice qq.A qq.n qq.c, .slice qq.B qq.m qq.d] 24)
  replace HB := HB.trans (hbn.mono HB.size)
  replace k_v := k_v.below hbn
  replace k_u := k_u.below hbn
  replace k_nn := k_nn.below hbn
  replace h_v8 := h_v8.below hbn
  replace h_u8 := h_u8.below hbn
  replace ht_nn := ht_nn.below hbn
  replace ht_qq := ht_qq.below hbn
  clear hbn v_0 v_1 v_2 v_3 v_4 v_5 u_0 u_1 u_2 u_3 u_4 u_5 nn_0 nn_1 nn_2 nn_3 nn_4 nn_5
  generalize hWy : w2.alloc (.cells #[.bool qq.s, .slice qq.A qq.n qq.c, .slice qq.B qq.m qq.d] 24) = Wy at *
  clear hWy
  have g_u := (h_u8.drew).more (show 8 ≤ 60 by omega)
  have h_v := (h_v8.drew).more (show 8 ≤ 2000 by omega)
  have h_u := (h_u8.drew).more (show 8 ≤ 2000 by omega)
  have h_qq := ((ht_qq.rw q_vu).drew).more (show 8 + 8 ≤ 2000 by omega)
  replace ht_nn := ht_nn.drew
  obtain ⟨v_0, v_1, v_2, v_3, v_4, v_5⟩ := k_v.facts
  obtain ⟨u_0, u_1, u_2, u_3, u_4, u_5⟩ := k_u.facts
  obtain ⟨nn_0, nn_1, nn_2, nn_3, nn_4, nn_5⟩ := k_nn.facts
  obtain ⟨qq_0, qq_1, qq_2, qq_3, qq_4, qq_5⟩ := k_qq.facts
  replace k_v := k_v.drew
  replace k_u := k_u.drew
  replace k_nn := k_nn.drew
  replace k_qq := k_qq.drew
  replace HB := HB.drew
  have mk0 : Hid True := trivial
  clear hlen h_v8 h_u8 ht_qq
  go_region_held3 (fun w' => w'.cell? ⟨w.heap.size, 0, none⟩ = some (.bool v.s) ∧ w'.cell? ⟨w.heap.size, 1, none⟩ = some (.slice v.A v.n v.c) ∧ w'.cell? ⟨w.heap.size, 2, none⟩ = some (.slice v.B v.m v.d) ∧ w'.cell? ⟨w.heap.size + 1, 0, none⟩ = some (.bool u.s) ∧ w'.cell? ⟨w.heap.size + 1, 1, none⟩ = some (.slice u.A u.n u.c) ∧ w'.cell? ⟨w.heap.size + 1, 2, none⟩ = some (.slice u.B u.m u.d) ∧ w'.cell? ⟨w1.heap.size, 0, none⟩ = some (.bool nn.s) ∧ w'.cell? ⟨w1.heap.size, 1, none⟩ = some (.slice nn.A nn.n nn.c) ∧ w'.cell? ⟨w1.heap.size, 2, none⟩ = some (.slice nn.B nn.m nn.d) ∧ w'.cell? ⟨w2.heap.size, 0, none⟩ = some (.bool qq.s) ∧ w'.cell? ⟨w2.heap.size, 1, none⟩ = some (.slice qq.A qq.n qq.c) ∧ w'.cell? ⟨w2.heap.size, 2, none⟩ = some (.slice qq.B qq.m qq.d)) (go_keep)
      (first
      | (go_at_call 16
         have mk1 := mk0
         clear mk0
         refine (Add_c v u _ _ _ (h_v) (h_u)).mono ?_
         rintro e w1 ⟨x1, rfl, ht_x1, hb⟩
         replace HB := HB.trans (hb.mono HB.size)
         replace k_v := k_v.below hb
         replace k_u := k_u.below hb
         replace k_nn := k_nn.below hb
         replace k_qq := k_qq.below hb
         replace h_v := h_v.below hb
         replace h_u := h_u.below hb
         replace g_u := g_u.below hb
         replace ht_nn := ht_nn.below hb
         replace h_qq := h_qq.below hb
         have h_x1 := (ht_x1.rw s_vu).more (show _ ≤ 2000 by omega)
         clear hb
         clear v_0 v_1 v_2 v_3 v_4 v_5 u_0 u_1 u_2 u_3 u_4 u_5 nn_0 nn_1 nn_2 nn_3 nn_4 nn_5 qq_0 qq_1 qq_2 qq_3 qq_4 qq_5
         obtain ⟨v_0, v_1, v_2, v_3, v_4, v_5⟩ := k_v.facts
         obtain ⟨u_0, u_1, u_2, u_3, u_4, u_5⟩ := k_u.facts
         obtain ⟨nn_0, nn_1, nn_2, nn_3, nn_4, nn_5⟩ := k_nn.facts
         obtain ⟨qq_0, qq_1, qq_2, qq_3, qq_4, qq_5⟩ := k_qq.facts)
      | (go_at_call 18
         have mk2 := mk1
         clear mk1
         refine (Sub_c x1 u _ _ _ (h_x1) (h_u)).mono ?_
         rintro e w2 ⟨x2, rfl, ht_x2, hb⟩
         replace HB := HB.trans (hb.mono HB.size)
         replace k_v := k_v.below hb
         replace k_u := k_u.below hb
         replace k_nn := k_nn.below hb
         replace k_qq := k_qq.below hb
         replace h_v := h_v.below hb
         replace h_u := h_u.below hb
         replace g_u := g_u.below hb
         replace ht_nn := ht_nn.below hb
         replace h_qq := h_qq.below hb
         replace h_x1 := h_x1.below hb
         replace ht_x1 := ht_x1.below hb
         have h_x2 := (ht_x2.rw d_vu).more (show _ ≤ 2000 by omega)
         clear hb
         clear v_0 v_1 v_2 v_3 v_4 v_5 u_0 u_1 u_2 u_3 u_4 u_5 nn_0 nn_1 nn_2 nn_3 nn_4 nn_5 qq_0 qq_1 qq_2 qq_3 qq_4 qq_5
         obtain ⟨v_0, v_1, v_2, v_3, v_4, v_5⟩ := k_v.facts
         obtain ⟨u_0, u_1, u_2, u_3, u_4, u_5⟩ := k_u.facts
         obtain ⟨nn_0, nn_1, nn_2, nn_3, nn_4, nn_5⟩ := k_nn.facts
         obtain ⟨qq_0, qq_1, qq_2, qq_3, qq_4, qq_5⟩ := k_qq.facts)
      | (go_at_call 15
         have mk3 := mk2
         clear mk2
         refine (one_yes x2 nn _ _ _ _ _ ht_x2 ht_nn Rat.add_sub_cancel (ht_x2.len d_vu (by omega)).1 (ht_x2.len d_vu (by omega)).2).mono ?_
         rintro e w3 ⟨rfl, hb⟩
         replace HB := HB.trans (hb.mono HB.size)
         replace k_v := k_v.below hb
         replace k_u := k_u.below hb
         replace k_nn := k_nn.below hb
         replace k_qq := k_qq.below hb
         replace h_v := h_v.below hb
         replace h_u := h_u.below hb
         replace g_u := g_u.below hb
         replace ht_nn := ht_nn.below hb
         replace h_qq := h_qq.below hb
         replace h_x1 := h_x1.below hb
         replace ht_x1 := ht_x1.below hb
         replace h_x2 := h_x2.below hb
         replace ht_x2 := ht_x2.below hb
         clear hb
         clear v_0 v_1 v_2 v_3 v_4 v_5 u_0 u_1 u_2 u_3 u_4 u_5 nn_0 nn_1 nn_2 nn_3 nn_4 nn_5 qq_0 qq_1 qq_2 qq_3 qq_4 qq_5
         obtain ⟨v_0, v_1, v_2, v_3, v_4, v_5⟩ := k_v.facts
         obtain ⟨u_0, u_1, u_2, u_3, u_4, u_5⟩ := k_u.facts
         obtain ⟨nn_0, nn_1, nn_2, nn_3, nn_4, nn_5⟩ := k_nn.facts
         obtain ⟨qq_0, qq_1, qq_2, qq_3, qq_4, qq_5⟩ := k_qq.facts
         clear h_x1 ht_x1 h_x2 ht_x2)
      | (go_at_call 32
         have mk4 := mk3
         clear mk3
         refine (rZero_v u _ false _ g_u e_0.out).mono ?_
         rintro e w4 ⟨rfl, hb⟩
         replace HB := HB.trans (hb.mono HB.size)
         replace k_v := k_v.below hb
         replace k_u := k_u.below hb
         replace k_nn := k_nn.below hb
         replace k_qq := k_qq.below hb
         replace h_v := h_v.below hb
         replace h_u := h_u.below hb
         replace g_u := g_u.below hb
         replace ht_nn := ht_nn.below hb
         replace h_qq := h_qq.below hb
         clear hb
         clear v_0 v_1 v_2 v_3 v_4 v_5 u_0 u_1 u_2 u_3 u_4 u_5 nn_0 nn_1 nn_2 nn_3 nn_4 nn_5 qq_0 qq_1 qq_2 qq_3 qq_4 qq_5
         obtain ⟨v_0, v_1, v_2, v_3, v_4, v_5⟩ := k_v.facts
         obtain ⟨u_0, u_1, u_2, u_3, u_4, u_5⟩ := k_u.facts
         obtain ⟨nn_0, nn_1, nn_2, nn_3, nn_4, nn_5⟩ := k_nn.facts
         obtain ⟨qq_0, qq_1, qq_2, qq_3, qq_4, qq_5⟩ := k_qq.facts)
      | (go_at_call 20
         have mk5 := mk4
         clear mk4
         refine (Mul_c qq u _ _ _ (h_qq) (h_u)).mono ?_
         rintro e w5 ⟨x3, rfl, ht_x3, hb⟩
         replace HB := HB.trans (hb.mono HB.size)
         replace k_v := k_v.below hb
         replace k_u := k_u.below hb
         replace k_nn := k_nn.below hb
         replace k_qq := k_qq.below hb
         replace h_v := h_v.below hb
         replace h_u := h_u.below hb
         replace g_u := g_u.below hb
         replace ht_nn := ht_nn.below hb
         replace h_qq := h_qq.below hb
         have h_x3 := (ht_x3.rw p_qu).more (show _ ≤ 2000 by omega)
         clear hb
         clear v_0 v_1 v_2 v_3 v_4 v_5 u_0 u_1 u_2 u_3 u_4 u_5 nn_0 nn_1 nn_2 nn_3 nn_4 nn_5 qq_0 qq_1 qq_2 qq_3 qq_4 qq_5
         obtain ⟨v_0, v_1, v_2, v_3, v_4, v_5⟩ := k_v.facts
         obtain ⟨u_0, u_1, u_2, u_3, u_4, u_5⟩ := k_u.facts
         obtain ⟨nn_0, nn_1, nn_2, nn_3, nn_4, nn_5⟩ := k_nn.facts
         obtain ⟨qq_0, qq_1, qq_2, qq_3, qq_4, qq_5⟩ := k_qq.facts)
      | (go_at_call 15
         have mk6 := mk5
         clear mk5
         refine (one_yes x3 nn _ _ _ _ _ ht_x3 ht_nn (Rat.div_mul_cancel h_0.out) (ht_x3.len p_qu (by omega)).1 (ht_x3.len p_qu (by omega)).2).mono ?_
         rintro e w6 ⟨rfl, hb⟩
         replace HB := HB.trans (hb.mono HB.size)
         replace k_v := k_v.below hb
         replace k_u := k_u.below hb
         replace k_nn := k_nn.below hb
         replace k_qq := k_qq.below hb
         replace h_v := h_v.below hb
         replace h_u := h_u.below hb
         replace g_u := g_u.below hb
         replace ht_nn := ht_nn.below hb
         replace h_qq := h_qq.below hb
         replace h_x3 := h_x3.below hb
         replace ht_x3 := ht_x3.below hb
         clear hb
         clear v_0 v_1 v_2 v_3 v_4 v_5 u_0 u_1 u_2 u_3 u_4 u_5 nn_0 nn_1 nn_2 nn_3 nn_4 nn_5 qq_0 qq_1 qq_2 qq_3 qq_4 qq_5
         obtain ⟨v_0, v_1, v_2, v_3, v_4, v_5⟩ := k_v.facts
         obtain ⟨u_0, u_1, u_2, u_3, u_4, u_5⟩ := k_u.facts
         obtain ⟨nn_0, nn_1, nn_2, nn_3, nn_4, nn_5⟩ := k_nn.facts
         obtain ⟨qq_0, qq_1, qq_2, qq_3, qq_4, qq_5⟩ := k_qq.facts
         clear h_x3 ht_x3)
      | (go_at_call 35
         have mk7 := mk6
         clear mk6
         refine (Neg_c v _ _ h_v).mono ?_
         rintro e w7 ⟨x4, rfl, ht_x4, hb⟩
         replace HB := HB.trans (hb.mono HB.size)
         replace k_v := k_v.below hb
         replace k_u := k_u.below hb
         replace k_nn := k_nn.below hb
         replace k_qq := k_qq.below hb
         replace h_v := h_v.below hb
         replace h_u := h_u.below hb
         replace g_u := g_u.below hb
         replace ht_nn := ht_nn.below hb
         replace h_qq := h_qq.below hb
         have h_x4 := (ht_x4.rw n_v).more (show _ ≤ 2000 by omega)
         clear hb
         clear v_0 v_1 v_2 v_3 v_4 v_5 u_0 u_1 u_2 u_3 u_4 u_5 nn_0 nn_1 nn_2 nn_3 nn_4 nn_5 qq_0 qq_1 qq_2 qq_3 qq_4 qq_5
         obtain ⟨v_0, v_1, v_2, v_3, v_4, v_5⟩ := k_v.facts
         obtain ⟨u_0, u_1, u_2, u_3, u_4, u_5⟩ := k_u.facts
         obtain ⟨nn_0, nn_1, nn_2, nn_3, nn_4, nn_5⟩ := k_nn.facts
         obtain ⟨qq_0, qq_1, qq_2, qq_3, qq_4, qq_5⟩ := k_qq.facts)
      | (go_at_call 35
         have mk8 := mk7
         clear mk7
         refine (Neg_c x4 _ _ h_x4).mono ?_
         rintro e w8 ⟨x5, rfl, ht_x5, hb⟩
         replace HB := HB.trans (hb.mono HB.size)
         replace k_v := k_v.below hb
         replace k_u := k_u.below hb
         replace k_nn := k_nn.below hb
         replace k_qq := k_qq.below hb
         replace h_v := h_v.below hb
         replace h_u := h_u.below hb
         replace g_u := g_u.below hb
         replace ht_nn := ht_nn.below hb
         replace h_qq := h_qq.below hb
         replace h_x4 := h_x4.below hb
         replace ht_x4 := ht_x4.below hb
         have h_x5 := (ht_x5.rw nn_v).more (show _ ≤ 2000 by omega)
         clear hb
         clear v_0 v_1 v_2 v_3 v_4 v_5 u_0 u_1 u_2 u_3 u_4 u_5 nn_0 nn_1 nn_2 nn_3 nn_4 nn_5 qq_0 qq_1 qq_2 qq_3 qq_4 qq_5
         obtain ⟨v_0, v_1, v_2, v_3, v_4, v_5⟩ := k_v.facts
         obtain ⟨u_0, u_1, u_2, u_3, u_4, u_5⟩ := k_u.facts
         obtain ⟨nn_0, nn_1, nn_2, nn_3, nn_4, nn_5⟩ := k_nn.facts
         obtain ⟨qq_0, qq_1, qq_2, qq_3, qq_4, qq_5⟩ := k_qq.facts)
      | (go_at_call 15
         have mk9 := mk8
         clear mk8
         refine (one_yes x5 nn _ _ _ _ _ ht_x5 ht_nn (Rat.neg_neg _) (ht_x5.len nn_v (by omega)).1 (ht_x5.len nn_v (by omega)).2).mono ?_
         rintro e w9 ⟨rfl, hb⟩
         replace HB := HB.trans (hb.mono HB.size)
         replace k_v := k_v.below hb
         replace k_u := k_u.below hb
         replace k_nn := k_nn.below hb
         replace k_qq := k_qq.below hb
         replace h_v := h_v.below hb
         replace h_u := h_u.below hb
         replace g_u := g_u.below hb
         replace ht_nn := ht_nn.below hb
         replace h_qq := h_qq.below hb
         replace h_x4 := h_x4.below hb
         replace ht_x4 := ht_x4.below hb
         replace h_x5 := h_x5.below hb
         replace ht_x5 := ht_x5.below hb
         clear hb
         clear v_0 v_1 v_2 v_3 v_4 v_5 u_0 u_1 u_2 u_3 u_4 u_5 nn_0 nn_1 nn_2 nn_3 nn_4 nn_5 qq_0 qq_1 qq_2 qq_3 qq_4 qq_5
         obtain ⟨v_0, v_1, v_2, v_3, v_4, v_5⟩ := k_v.facts
         obtain ⟨u_0, u_1, u_2, u_3, u_4, u_5⟩ := k_u.facts
         obtain ⟨nn_0, nn_1, nn_2, nn_3, nn_4, nn_5⟩ := k_nn.facts
         obtain ⟨qq_0, qq_1, qq_2, qq_3, qq_4, qq_5⟩ := k_qq.facts
         clear h_x4 ht_x4 h_x5 ht_x5)
      | (go_at_call 26
         have mk10 := mk9
         clear mk9
         refine (known_any _).mono ?_
         rintro e w10 ⟨rfl, hb⟩
         replace HB := HB.trans (hb.mono HB.size)
         replace k_v := k_v.below hb
         replace k_u := k_u.below hb
         replace k_nn := k_nn.below hb
         replace k_qq := k_qq.below hb
         replace h_v := h_v.below hb
         replace h_u := h_u.below hb
         replace g_u := g_u.below hb
         replace ht_nn := ht_nn.below hb
         replace h_qq := h_qq.below hb
         clear hb
         clear v_0 v_1 v_2 v_3 v_4 v_5 u_0 u_1 u_2 u_3 u_4 u_5 nn_0 nn_1 nn_2 nn_3 nn_4 nn_5 qq_0 qq_1 qq_2 qq_3 qq_4 qq_5
         obtain ⟨v_0, v_1, v_2, v_3, v_4, v_5⟩ := k_v.facts
         obtain ⟨u_0, u_1, u_2, u_3, u_4, u_5⟩ := k_u.facts
         obtain ⟨nn_0, nn_1, nn_2, nn_3, nn_4, nn_5⟩ := k_nn.facts
         obtain ⟨qq_0, qq_1, qq_2, qq_3, qq_4, qq_5⟩ := k_qq.facts))
  go_wp2
  go_ret
  exact ⟨rfl, HB⟩

set_option maxRecDepth 100000 in
set_option maxHeartbeats 8000000 in
theorem RatBack_zero (v u : Rv) (r s : Rat) (w : World) (h_0 : Hid (s = 0)) (hlen : v.n + v.m + u.n + u.m ≤ 8) (h_v : Rw w v r 8) (h_u : Rw w u s 8) :
    Calls Try.prog 6 #[.agg #[.bool v.s, .slice v.A v.n v.c, .slice v.B v.m v.d], .agg #[.bool u.s, .slice u.A u.n u.c, .slice u.B u.m u.d]] w fun e w' => e = .returned (.bool true) ∧ Below w.heap.size w w' := by
  have e_0 : Hid (decide (s = 0) = true) := decide_eq_true h_0.out
  have z_v : Sz r 8 := h_v.sz (by omega)
  have z_u : Sz s 8 := h_u.sz (by omega)
  have s_vu := z_v.add z_u
  have d_vu := s_vu.sub z_u
  have n_v := z_v.neg
  have nn_v := n_v.neg
  go_enter Try.func6, Try.ntmps6
  go_wp2_with fail
  generalize hW : ((w.alloc (.cells #[.bool v.s, .slice v.A v.n v.c, .slice v.B v.m v.d] 24)).alloc (.cells #[.bool u.s, .slice u.A u.n u.c, .slice u.B u.m u.d] 24)).alloc (.cells #[.bool v.s, .slice v.A v.n v.c, .slice v.B v.m v.d, .bool u.s, .slice u.A u.n u.c, .slice u.B u.m u.d] 24) = W
  obtain ⟨k_v, k_u, HB, hsW, hbig⟩ := open2b w v u W hW
  clear hW
  refine (big_any (pick v u u) (w.heap.size + 1 + 1) 2 _ (by omega) ?_ hbig).mono ?_
  · intro i hi
    have : i = 0 ∨ i = 1 := by omega
    rcases this with rfl | rfl <;> simp only [pick] <;> omega
  rintro e w0 ⟨rfl, hb⟩
  rw [decide_eq_false (show ¬ 16 < tot (pick v u u) 2 by simp only [tot, pick]; omega)]
  replace HB := HB.trans (hb.mono (by omega))
  replace k_v := k_v.below hb
  replace k_u := k_u.below hb
  clear hb hbig hsW
  obtain ⟨v_0, v_1, v_2, v_3, v_4, v_5⟩ := k_v.facts
  obtain ⟨u_0, u_1, u_2, u_3, u_4, u_5⟩ := k_u.facts
  have b1 := h_v.numLe
  have b2 := h_v.denLe
  have b3 := h_u.numLe
  have b4 := h_u.denLe
  go_wp2_with fail
  clear b1 b2 b3 b4
  have h_v8 := h_v.below HB
  have h_u8 := h_u.below HB
  clear h_v h_u v_0 v_1 v_2 v_3 v_4 v_5 u_0 u_1 u_2 u_3 u_4 u_5
  refine (rNorm_c v r _ (h_v8.more (by omega))).mono ?_
  rintro e w1 ⟨nn, rfl, ht_nn, hb⟩
  replace HB := HB.trans (hb.mono HB.size)
  replace k_v := k_v.below hb
  replace h_v8 := h_v8.below hb
  replace k_u := k_u.below hb
  replace h_u8 := h_u8.below hb
  clear hb
  obtain ⟨v_0, v_1, v_2, v_3, v_4, v_5⟩ := k_v.facts
  obtain ⟨u_0, u_1, u_2, u_3, u_4, u_5⟩ := k_u.facts
  have lt_v := k_v.lt
  have lt_u := k_u.lt
  go_wp2_with fail
  clear lt_v lt_u
  have k_nn := C3.new w1 (.bool nn.s) (.slice nn.A nn.n nn.c) (.slice nn.B nn.m nn.d)
  have hbn := (Below.refl w1.heap.size w1).alloc (Nat.le_refl _) (.cells #[.bool nn.s, .slice nn.A nn.n nn.c, .slice nn.B nn.m nn.d] 24)
  replace HB := HB.trans (hbn.mono HB.size)
  replace k_v := k_v.below hbn
  replace k_u := k_u.below hbn
  replace h_v8 := h_v8.below hbn
  replace h_u8 := h_u8.below hbn
  replace ht_nn := ht_nn.below hbn
  clear hbn v_0 v_1 v_2 v_3 v_4 v_5 u_0 u_1 u_2 u_3 u_4 u_5
  generalize hWx : w1.alloc (.cells #[.bool nn.s, .slice nn.A nn.n nn.c, .slice nn.B nn.m nn.d] 24) = Wx at *
  clear hWx
  refine (Div_zero_c v u s _ (h_u8.more (by omega)) h_0.out).mono ?_
  rintro e w2 ⟨qq, rfl, ht_qq, hb⟩
  replace HB := HB.trans (hb.mono HB.size)
  replace k_v := k_v.below hb
  replace k_u := k_u.below hb
  replace k_nn := k_nn.below hb
  replace h_v8 := h_v8.below hb
  replace h_u8 := h_u8.below hb
  replace ht_nn := ht_nn.below hb
  clear hb
  obtain ⟨v_0, v_1, v_2, v_3, v_4, v_5⟩ := k_v.facts
  obtain ⟨u_0, u_1, u_2, u_3, u_4, u_5⟩ := k_u.facts
  obtain ⟨nn_0, nn_1, nn_2, nn_3, nn_4, nn_5⟩ := k_nn.facts
  have lt_v := k_v.lt
  have lt_u := k_u.lt
  have lt_nn := k_nn.lt
  go_wp2_with fail
  clear lt_v lt_u lt_nn
  have k_qq := C3.new w2 (.bool qq.s) (.slice qq.A qq.n qq.c) (.slice qq.B qq.m qq.d)
  have hbn := (Below.refl w2.heap.size w2).alloc (Nat.le_refl _) (.cells #[.bool qq.s, .slice qq.A qq.n qq.c, .slice qq.B qq.m qq.d] 24)
  replace HB := HB.trans (hbn.mono HB.size)
  replace k_v := k_v.below hbn
  replace k_u := k_u.below hbn
  replace k_nn := k_nn.below hbn
  replace h_v8 := h_v8.below hbn
  replace h_u8 := h_u8.below hbn
  replace ht_nn := ht_nn.below hbn
  replace ht_qq := ht_qq.below hbn
  clear hbn v_0 v_1 v_2 v_3 v_4 v_5 u_0 u_1 u_2 u_3 u_4 u_5 nn_0 nn_1 nn_2 nn_3 nn_4 nn_5
  generalize hWy : w2.alloc (.cells #[.bool qq.s, .slice qq.A qq.n qq.c, .slice qq.B qq.m qq.d] 24) = Wy at *
  clear hWy
  have g_u := (h_u8.drew).more (show 8 ≤ 60 by omega)
  have h_v := (h_v8.drew).more (show 8 ≤ 2000 by omega)
  have h_u := (h_u8.drew).more (show 8 ≤ 2000 by omega)
  replace ht_nn := ht_nn.drew
  obtain ⟨v_0, v_1, v_2, v_3, v_4, v_5⟩ := k_v.facts
  obtain ⟨u_0, u_1, u_2, u_3, u_4, u_5⟩ := k_u.facts
  obtain ⟨nn_0, nn_1, nn_2, nn_3, nn_4, nn_5⟩ := k_nn.facts
  obtain ⟨qq_0, qq_1, qq_2, qq_3, qq_4, qq_5⟩ := k_qq.facts
  replace k_v := k_v.drew
  replace k_u := k_u.drew
  replace k_nn := k_nn.drew
  replace k_qq := k_qq.drew
  replace HB := HB.drew
  have mk0 : Hid True := trivial
  clear hlen h_v8 h_u8 ht_qq
  refine wp_region_held_drew (S := (fun w' => w'.cell? ⟨w.heap.size, 0, none⟩ = some (.bool v.s) ∧ w'.cell? ⟨w.heap.size, 1, none⟩ = some (.slice v.A v.n v.c) ∧ w'.cell? ⟨w.heap.size, 2, none⟩ = some (.slice v.B v.m v.d) ∧ w'.cell? ⟨w.heap.size + 1, 0, none⟩ = some (.bool u.s) ∧ w'.cell? ⟨w.heap.size + 1, 1, none⟩ = some (.slice u.A u.n u.c) ∧ w'.cell? ⟨w.heap.size + 1, 2, none⟩ = some (.slice u.B u.m u.d) ∧ w'.cell? ⟨w1.heap.size, 0, none⟩ = some (.bool nn.s) ∧ w'.cell? ⟨w1.heap.size, 1, none⟩ = some (.slice nn.A nn.n nn.c) ∧ w'.cell? ⟨w1.heap.size, 2, none⟩ = some (.slice nn.B nn.m nn.d) ∧ w'.cell? ⟨w2.heap.size, 0, none⟩ = some (.bool qq.s) ∧ w'.cell? ⟨w2.heap.size, 1, none⟩ = some (.slice qq.A qq.n qq.c) ∧ w'.cell? ⟨w2.heap.size, 2, none⟩ = some (.slice qq.B qq.m qq.d))) (by kernel_rfl) ?_ (fun hHeld => ?_)
  · (try dsimp only)
    go_keep
  refine wpAnyH_take (i := 0) (oi := { dst := some 38, op := Op.load 24 (Operand.tmp 2), type := 24, pos := "law.go:77", after := #[], guard := none }) (v := ?v0) rfl (by kernel_rfl) (by kernel_rfl) (by kernel_rfl) (fun _ _ _ h => h) (Or.inl ⟨by rfl, ?hy0⟩) (by assumption) ?rest0
  case hy0 =>
    intro w hSw
    (try dsimp only at hSw)
    go_simp
    all_goals (with_reducible rfl)
  try simp only [Act.put, List.setIfInBounds_toArray, List.set_cons_zero, List.set_cons_succ]
  refine wpAnyH_take (i := 1) (oi := { dst := some 39, op := Op.load 24 (Operand.tmp 3), type := 24, pos := "law.go:77", after := #[], guard := none }) (v := ?v1) rfl (by kernel_rfl) (by kernel_rfl) (by kernel_rfl) (fun _ _ _ h => h) (Or.inl ⟨by rfl, ?hy1⟩) (by assumption) ?rest1
  case hy1 =>
    intro w hSw
    (try dsimp only at hSw)
    go_simp
    all_goals (with_reducible rfl)
  try simp only [Act.put, List.setIfInBounds_toArray, List.set_cons_zero, List.set_cons_succ]
  refine wpAnyH_take (i := 3) (oi := { dst := some 41, op := Op.load 24 (Operand.tmp 3), type := 24, pos := "law.go:77", after := #[], guard := none }) (v := ?v3) rfl (by kernel_rfl) (by kernel_rfl) (by kernel_rfl) (fun _ _ _ h => h) (Or.inl ⟨by rfl, ?hy3⟩) (by assumption) ?rest3
  case hy3 =>
    intro w hSw
    (try dsimp only at hSw)
    go_simp
    all_goals (with_reducible rfl)
  try simp only [Act.put, List.setIfInBounds_toArray, List.set_cons_zero, List.set_cons_succ]
  refine wpAnyH_take (i := 5) (oi := { dst := some 43, op := Op.load 24 (Operand.tmp 5), type := 24, pos := "law.go:77", after := #[], guard := none }) (v := ?v5) rfl (by kernel_rfl) (by kernel_rfl) (by kernel_rfl) (fun _ _ _ h => h) (Or.inl ⟨by rfl, ?hy5⟩) (by assumption) ?rest5
  case hy5 =>
    intro w hSw
    (try dsimp only at hSw)
    go_simp
    all_goals (with_reducible rfl)
  try simp only [Act.put, List.setIfInBounds_toArray, List.set_cons_zero, List.set_cons_succ]
  refine wpAnyH_ready (rs := [2]) (by kernel_rfl) (by simp) ?_
  refine AllReadyH.cons (o := { dst := some 40, op := Op.call { callee := Callee.value (Operand.func 16), args := #[Operand.tmp 38, Operand.tmp 39], argTypes := #[24, 24] }, type := 24, pos := "law.go:77", after := #[{ on := 0, ground := Ground.data }, { on := 1, ground := Ground.data }], guard := none }) rfl (fun K hK => ?_) AllReadyH.nil
  go_simp
  have mk1 := mk0
  clear mk0
  refine (Add_c v u _ _ _ (h_v) (h_u)).mono ?_
  rintro e w1 ⟨x1, rfl, ht_x1, hb⟩
  replace HB := HB.trans (hb.mono HB.size)
  replace k_v := k_v.below hb
  replace k_u := k_u.below hb
  replace k_nn := k_nn.below hb
  replace k_qq := k_qq.below hb
  replace h_v := h_v.below hb
  replace h_u := h_u.below hb
  replace g_u := g_u.below hb
  replace ht_nn := ht_nn.below hb
  have h_x1 := (ht_x1.rw s_vu).more (show _ ≤ 2000 by omega)
  clear hb
  clear v_0 v_1 v_2 v_3 v_4 v_5 u_0 u_1 u_2 u_3 u_4 u_5 nn_0 nn_1 nn_2 nn_3 nn_4 nn_5 qq_0 qq_1 qq_2 qq_3 qq_4 qq_5
  obtain ⟨v_0, v_1, v_2, v_3, v_4, v_5⟩ := k_v.facts
  obtain ⟨u_0, u_1, u_2, u_3, u_4, u_5⟩ := k_u.facts
  obtain ⟨nn_0, nn_1, nn_2, nn_3, nn_4, nn_5⟩ := k_nn.facts
  obtain ⟨qq_0, qq_1, qq_2, qq_3, qq_4, qq_5⟩ := k_qq.facts
  try go_wp2_with fail
  refine hK.out _ _ ?_ (fun hHeld => ?_)
  · (try dsimp only)
    go_keep
  clear hK K
  try simp only [Act.put, List.setIfInBounds_toArray, List.set_cons_zero, List.set_cons_succ]
  refine wpAnyH_ready (rs := [4]) (by kernel_rfl) (by simp) ?_
  refine AllReadyH.cons (o := { dst := some 42, op := Op.call { callee := Callee.value (Operand.func 18), args := #[Operand.tmp 40, Operand.tmp 41], argTypes := #[24, 24] }, type := 24, pos := "law.go:77", after := #[{ on := 2, ground := Ground.data }, { on := 3, ground := Ground.data }, { on := 2, ground := Ground.chain }], guard := none }) rfl (fun K hK => ?_) AllReadyH.nil
  go_simp
  have mk2 := mk1
  clear mk1
  refine (Sub_c x1 u _ _ _ (h_x1) (h_u)).mono ?_
  rintro e w2 ⟨x2, rfl, ht_x2, hb⟩
  replace HB := HB.trans (hb.mono HB.size)
  replace k_v := k_v.below hb
  replace k_u := k_u.below hb
  replace k_nn := k_nn.below hb
  replace k_qq := k_qq.below hb
  replace h_v := h_v.below hb
  replace h_u := h_u.below hb
  replace g_u := g_u.below hb
  replace ht_nn := ht_nn.below hb
  replace h_x1 := h_x1.below hb
  replace ht_x1 := ht_x1.below hb
  have h_x2 := (ht_x2.rw d_vu).more (show _ ≤ 2000 by omega)
  clear hb
  clear v_0 v_1 v_2 v_3 v_4 v_5 u_0 u_1 u_2 u_3 u_4 u_5 nn_0 nn_1 nn_2 nn_3 nn_4 nn_5 qq_0 qq_1 qq_2 qq_3 qq_4 qq_5
  obtain ⟨v_0, v_1, v_2, v_3, v_4, v_5⟩ := k_v.facts
  obtain ⟨u_0, u_1, u_2, u_3, u_4, u_5⟩ := k_u.facts
  obtain ⟨nn_0, nn_1, nn_2, nn_3, nn_4, nn_5⟩ := k_nn.facts
  obtain ⟨qq_0, qq_1, qq_2, qq_3, qq_4, qq_5⟩ := k_qq.facts
  try go_wp2_with fail
  refine hK.out _ _ ?_ (fun hHeld => ?_)
  · (try dsimp only)
    go_keep
  clear hK K
  try simp only [Act.put, List.setIfInBounds_toArray, List.set_cons_zero, List.set_cons_succ]
  refine wpAnyH_ready (rs := [6]) (by kernel_rfl) (by simp) ?_
  refine AllReadyH.cons (o := { dst := some 44, op := Op.call { callee := Callee.value (Operand.func 15), args := #[Operand.tmp 42, Operand.tmp 43], argTypes := #[24, 24] }, type := 4, pos := "law.go:77", after := #[{ on := 4, ground := Ground.data }, { on := 5, ground := Ground.data }, { on := 4, ground := Ground.chain }], guard := none }) rfl (fun K hK => ?_) AllReadyH.nil
  go_simp
  have mk3 := mk2
  clear mk2
  refine (one_yes x2 nn _ _ _ _ _ ht_x2 ht_nn Rat.add_sub_cancel (ht_x2.len d_vu (by omega)).1 (ht_x2.len d_vu (by omega)).2).mono ?_
  rintro e w3 ⟨rfl, hb⟩
  replace HB := HB.trans (hb.mono HB.size)
  replace k_v := k_v.below hb
  replace k_u := k_u.below hb
  replace k_nn := k_nn.below hb
  replace k_qq := k_qq.below hb
  replace h_v := h_v.below hb
  replace h_u := h_u.below hb
  replace g_u := g_u.below hb
  replace ht_nn := ht_nn.below hb
  replace h_x1 := h_x1.below hb
  replace ht_x1 := ht_x1.below hb
  replace h_x2 := h_x2.below hb
  replace ht_x2 := ht_x2.below hb
  clear hb
  clear v_0 v_1 v_2 v_3 v_4 v_5 u_0 u_1 u_2 u_3 u_4 u_5 nn_0 nn_1 nn_2 nn_3 nn_4 nn_5 qq_0 qq_1 qq_2 qq_3 qq_4 qq_5
  obtain ⟨v_0, v_1, v_2, v_3, v_4, v_5⟩ := k_v.facts
  obtain ⟨u_0, u_1, u_2, u_3, u_4, u_5⟩ := k_u.facts
  obtain ⟨nn_0, nn_1, nn_2, nn_3, nn_4, nn_5⟩ := k_nn.facts
  obtain ⟨qq_0, qq_1, qq_2, qq_3, qq_4, qq_5⟩ := k_qq.facts
  clear h_x1 ht_x1 h_x2 ht_x2
  try go_wp2_with fail
  refine hK.out _ _ ?_ (fun hHeld => ?_)
  · (try dsimp only)
    go_keep
  clear hK K
  try simp only [Act.put, List.setIfInBounds_toArray, List.set_cons_zero, List.set_cons_succ]
  refine wpAnyH_take (i := 7) (oi := { dst := some 45, op := Op.move (Operand.tmp 44), type := 4, pos := "law.go:77", after := #[{ on := 6, ground := Ground.data }, { on := 6, ground := Ground.chain }], guard := none }) (v := ?v7) rfl (by kernel_rfl) (by kernel_rfl) (by kernel_rfl) (fun _ _ _ h => h) (Or.inl ⟨by rfl, ?hy7⟩) (by assumption) ?rest7
  case hy7 =>
    intro w hSw
    (try dsimp only at hSw)
    go_simp
    all_goals (with_reducible rfl)
  try simp only [Act.put, List.setIfInBounds_toArray, List.set_cons_zero, List.set_cons_succ]
  refine wpAnyH_take (i := 8) (oi := { dst := some 46, op := Op.move (Operand.tmp 7), type := 4, pos := "law.go:77", after := #[{ on := 7, ground := Ground.guard }], guard := some (7, true) }) (v := ?v8) rfl (by kernel_rfl) (by kernel_rfl) (by kernel_rfl) (fun _ _ _ h => h) (Or.inl ⟨by rfl, ?hy8⟩) (by assumption) ?rest8
  case hy8 =>
    intro w hSw
    (try dsimp only at hSw)
    go_simp
    all_goals (with_reducible rfl)
  try simp only [Act.put, List.setIfInBounds_toArray, List.set_cons_zero, List.set_cons_succ]
  refine wpAnyH_take (i := 9) (oi := { dst := some 47, op := Op.load 24 (Operand.tmp 3), type := 24, pos := "law.go:77", after := #[{ on := 7, ground := Ground.guard }], guard := some (7, true) }) (v := ?v9) rfl (by kernel_rfl) (by kernel_rfl) (by kernel_rfl) (fun _ _ _ h => h) (Or.inl ⟨by rfl, ?hy9⟩) (by assumption) ?rest9
  case hy9 =>
    intro w hSw
    (try dsimp only at hSw)
    go_simp
    all_goals (with_reducible rfl)
  try simp only [Act.put, List.setIfInBounds_toArray, List.set_cons_zero, List.set_cons_succ]
  refine wpAnyH_ready (rs := [10]) (by kernel_rfl) (by simp) ?_
  refine AllReadyH.cons (o := { dst := some 48, op := Op.call { callee := Callee.value (Operand.func 32), args := #[Operand.tmp 47], argTypes := #[24] }, type := 4, pos := "law.go:77", after := #[{ on := 9, ground := Ground.data }, { on := 7, ground := Ground.chain }, { on := 7, ground := Ground.guard }], guard := some (7, true) }) rfl (fun K hK => ?_) AllReadyH.nil
  go_simp
  have mk4 := mk3
  clear mk3
  refine (rZero_v u _ true _ g_u e_0.out).mono ?_
  rintro e w4 ⟨rfl, hb⟩
  replace HB := HB.trans (hb.mono HB.size)
  replace k_v := k_v.below hb
  replace k_u := k_u.below hb
  replace k_nn := k_nn.below hb
  replace k_qq := k_qq.below hb
  replace h_v := h_v.below hb
  replace h_u := h_u.below hb
  replace g_u := g_u.below hb
  replace ht_nn := ht_nn.below hb
  clear hb
  clear v_0 v_1 v_2 v_3 v_4 v_5 u_0 u_1 u_2 u_3 u_4 u_5 nn_0 nn_1 nn_2 nn_3 nn_4 nn_5 qq_0 qq_1 qq_2 qq_3 qq_4 qq_5
  obtain ⟨v_0, v_1, v_2, v_3, v_4, v_5⟩ := k_v.facts
  obtain ⟨u_0, u_1, u_2, u_3, u_4, u_5⟩ := k_u.facts
  obtain ⟨nn_0, nn_1, nn_2, nn_3, nn_4, nn_5⟩ := k_nn.facts
  obtain ⟨qq_0, qq_1, qq_2, qq_3, qq_4, qq_5⟩ := k_qq.facts
  try go_wp2_with fail
  refine hK.out _ _ ?_ (fun hHeld => ?_)
  · (try dsimp only)
    go_keep
  clear hK K
  try simp only [Act.put, List.setIfInBounds_toArray, List.set_cons_zero, List.set_cons_succ]
  refine wpAnyH_take (i := 11) (oi := { dst := some 49, op := Op.unOp UnOp.not 4 (Operand.tmp 48), type := 4, pos := "law.go:77", after := #[{ on := 10, ground := Ground.data }, { on := 7, ground := Ground.guard }], guard := some (7, true) }) (v := ?v11) rfl (by kernel_rfl) (by kernel_rfl) (by kernel_rfl) (fun _ _ _ h => h) (Or.inl ⟨by rfl, ?hy11⟩) (by assumption) ?rest11
  case hy11 =>
    intro w hSw
    (try dsimp only at hSw)
    go_simp
    all_goals (with_reducible rfl)
  try simp only [Act.put, List.setIfInBounds_toArray, List.set_cons_zero, List.set_cons_succ]
  refine wpAnyH_take (i := 12) (oi := { dst := some 50, op := Op.binOp BinOp.eql 4 (Operand.tmp 46) (Operand.tmp 49) 4, type := 4, pos := "law.go:77", after := #[{ on := 8, ground := Ground.data }, { on := 11, ground := Ground.data }, { on := 7, ground := Ground.guard }], guard := some (7, true) }) (v := ?v12) rfl (by kernel_rfl) (by kernel_rfl) (by kernel_rfl) (fun _ _ _ h => h) (Or.inl ⟨by rfl, ?hy12⟩) (by assumption) ?rest12
  case hy12 =>
    intro w hSw
    (try dsimp only at hSw)
    go_simp
    all_goals (with_reducible rfl)
  try simp only [Act.put, List.setIfInBounds_toArray, List.set_cons_zero, List.set_cons_succ]
  refine wpAnyH_take (i := 13) (oi := { dst := some 51, op := Op.pick (Operand.tmp 45) (Operand.tmp 50) (Operand.const (Value.bool false)), type := 4, pos := "law.go:77", after := #[{ on := 7, ground := Ground.data }, { on := 12, ground := Ground.data }], guard := none }) (v := ?v13) rfl (by kernel_rfl) (by kernel_rfl) (by kernel_rfl) (fun _ _ _ h => h) (Or.inl ⟨by rfl, ?hy13⟩) (by assumption) ?rest13
  case hy13 =>
    intro w hSw
    (try dsimp only at hSw)
    go_simp
    all_goals (with_reducible rfl)
  try simp only [Act.put, List.setIfInBounds_toArray, List.set_cons_zero, List.set_cons_succ]
  refine wpAnyH_take (i := 14) (oi := { dst := some 52, op := Op.move (Operand.tmp 51), type := 4, pos := "law.go:77", after := #[{ on := 13, ground := Ground.data }, { on := 10, ground := Ground.chain }], guard := none }) (v := ?v14) rfl (by kernel_rfl) (by kernel_rfl) (by kernel_rfl) (fun _ _ _ h => h) (Or.inl ⟨by rfl, ?hy14⟩) (by assumption) ?rest14
  case hy14 =>
    intro w hSw
    (try dsimp only at hSw)
    go_simp
    all_goals (with_reducible rfl)
  try simp only [Act.put, List.setIfInBounds_toArray, List.set_cons_zero, List.set_cons_succ]
  refine wpAnyH_take (i := 15) (oi := { dst := some 53, op := Op.move (Operand.tmp 7), type := 4, pos := "law.go:77", after := #[{ on := 14, ground := Ground.guard }], guard := some (14, true) }) (v := ?v15) rfl (by kernel_rfl) (by kernel_rfl) (by kernel_rfl) (fun _ _ _ h => h) (Or.inl ⟨by rfl, ?hy15⟩) (by assumption) ?rest15
  case hy15 =>
    intro w hSw
    (try dsimp only at hSw)
    go_simp
    all_goals (with_reducible rfl)
  try simp only [Act.put, List.setIfInBounds_toArray, List.set_cons_zero, List.set_cons_succ]
  refine wpAnyH_take (i := 16) (oi := { dst := some 54, op := Op.unOp UnOp.not 4 (Operand.tmp 53), type := 4, pos := "law.go:77", after := #[{ on := 15, ground := Ground.data }, { on := 14, ground := Ground.guard }], guard := some (14, true) }) (v := ?v16) rfl (by kernel_rfl) (by kernel_rfl) (by kernel_rfl) (fun _ _ _ h => h) (Or.inl ⟨by rfl, ?hy16⟩) (by assumption) ?rest16
  case hy16 =>
    intro w hSw
    (try dsimp only at hSw)
    go_simp
    all_goals (with_reducible rfl)
  try simp only [Act.put, List.setIfInBounds_toArray, List.set_cons_zero, List.set_cons_succ]
  refine wpAnyH_take (i := 17) (oi := { dst := some 55, op := Op.move (Operand.tmp 54), type := 4, pos := "law.go:77", after := #[{ on := 16, ground := Ground.data }, { on := 14, ground := Ground.chain }, { on := 14, ground := Ground.guard }], guard := some (14, true) }) (v := ?v17) rfl (by kernel_rfl) (by kernel_rfl) (by kernel_rfl) (fun _ _ _ h => h) (Or.inl ⟨by rfl, ?hy17⟩) (by assumption) ?rest17
  case hy17 =>
    intro w hSw
    (try dsimp only at hSw)
    go_simp
    all_goals (with_reducible rfl)
  try simp only [Act.put, List.setIfInBounds_toArray, List.set_cons_zero, List.set_cons_succ]
  refine wpAnyH_take (i := 18) (oi := { dst := some 56, op := Op.load 24 (Operand.tmp 6), type := 24, pos := "law.go:77", after := #[{ on := 17, ground := Ground.guard }], guard := some (17, false) }) (v := undef) rfl (by kernel_rfl) (by kernel_rfl) (by kernel_rfl) (fun _ _ _ h => h) (Or.inr ⟨by rfl, rfl⟩) (by assumption) ?_
  try simp only [Act.put, List.setIfInBounds_toArray, List.set_cons_zero, List.set_cons_succ]
  refine wpAnyH_take (i := 19) (oi := { dst := some 57, op := Op.load 24 (Operand.tmp 3), type := 24, pos := "law.go:77", after := #[{ on := 17, ground := Ground.guard }], guard := some (17, false) }) (v := undef) rfl (by kernel_rfl) (by kernel_rfl) (by kernel_rfl) (fun _ _ _ h => h) (Or.inr ⟨by rfl, rfl⟩) (by assumption) ?_
  try simp only [Act.put, List.setIfInBounds_toArray, List.set_cons_zero, List.set_cons_succ]
  refine wpAnyH_take (i := 21) (oi := { dst := some 59, op := Op.load 24 (Operand.tmp 5), type := 24, pos := "law.go:77", after := #[{ on := 17, ground := Ground.guard }], guard := some (17, false) }) (v := undef) rfl (by kernel_rfl) (by kernel_rfl) (by kernel_rfl) (fun _ _ _ h => h) (Or.inr ⟨by rfl, rfl⟩) (by assumption) ?_
  try simp only [Act.put, List.setIfInBounds_toArray, List.set_cons_zero, List.set_cons_succ]
  refine wpAnyH_ready (rs := [20]) (by kernel_rfl) (by simp) ?_
  refine AllReadyH.cons (o := { dst := some 58, op := Op.call { callee := Callee.value (Operand.func 20), args := #[Operand.tmp 56, Operand.tmp 57], argTypes := #[24, 24] }, type := 24, pos := "law.go:77", after := #[{ on := 18, ground := Ground.data }, { on := 19, ground := Ground.data }, { on := 17, ground := Ground.chain }, { on := 17, ground := Ground.guard }], guard := some (17, false) }) rfl (fun K hK => ?_) AllReadyH.nil
  go_simp
  refine hK.out _ _ ?_ (fun hHeld => ?_)
  · (try dsimp only)
    go_keep
  clear hK K
  try simp only [Act.put, List.setIfInBounds_toArray, List.set_cons_zero, List.set_cons_succ]
  refine wpAnyH_ready (rs := [22]) (by kernel_rfl) (by simp) ?_
  refine AllReadyH.cons (o := { dst := some 60, op := Op.call { callee := Callee.value (Operand.func 15), args := #[Operand.tmp 58, Operand.tmp 59], argTypes := #[24, 24] }, type := 4, pos := "law.go:77", after := #[{ on := 20, ground := Ground.data }, { on := 21, ground := Ground.data }, { on := 20, ground := Ground.chain }, { on := 17, ground := Ground.guard }], guard := some (17, false) }) rfl (fun K hK => ?_) AllReadyH.nil
  go_simp
  refine hK.out _ _ ?_ (fun hHeld => ?_)
  · (try dsimp only)
    go_keep
  clear hK K
  try simp only [Act.put, List.setIfInBounds_toArray, List.set_cons_zero, List.set_cons_succ]
  refine wpAnyH_take (i := 23) (oi := { dst := some 61, op := Op.pick (Operand.tmp 55) (Operand.const (Value.bool true)) (Operand.tmp 60), type := 4, pos := "law.go:77", after := #[{ on := 17, ground := Ground.data }, { on := 22, ground := Ground.data }, { on := 14, ground := Ground.guard }], guard := some (14, true) }) (v := ?v23) rfl (by kernel_rfl) (by kernel_rfl) (by kernel_rfl) (fun _ _ _ h => h) (Or.inl ⟨by rfl, ?hy23⟩) (by assumption) ?rest23
  case hy23 =>
    intro w hSw
    (try dsimp only at hSw)
    go_simp
    all_goals (with_reducible rfl)
  try simp only [Act.put, List.setIfInBounds_toArray, List.set_cons_zero, List.set_cons_succ]
  refine wpAnyH_take (i := 24) (oi := { dst := some 62, op := Op.pick (Operand.tmp 52) (Operand.tmp 61) (Operand.const (Value.bool false)), type := 4, pos := "law.go:77", after := #[{ on := 14, ground := Ground.data }, { on := 23, ground := Ground.data }], guard := none }) (v := ?v24) rfl (by kernel_rfl) (by kernel_rfl) (by kernel_rfl) (fun _ _ _ h => h) (Or.inl ⟨by rfl, ?hy24⟩) (by assumption) ?rest24
  case hy24 =>
    intro w hSw
    (try dsimp only at hSw)
    go_simp
    all_goals (with_reducible rfl)
  try simp only [Act.put, List.setIfInBounds_toArray, List.set_cons_zero, List.set_cons_succ]
  refine wpAnyH_take (i := 25) (oi := { dst := some 63, op := Op.move (Operand.tmp 62), type := 4, pos := "law.go:77", after := #[{ on := 24, ground := Ground.data }, { on := 22, ground := Ground.chain }], guard := none }) (v := ?v25) rfl (by kernel_rfl) (by kernel_rfl) (by kernel_rfl) (fun _ _ _ h => h) (Or.inl ⟨by rfl, ?hy25⟩) (by assumption) ?rest25
  case hy25 =>
    intro w hSw
    (try dsimp only at hSw)
    go_simp
    all_goals (with_reducible rfl)
  try simp only [Act.put, List.setIfInBounds_toArray, List.set_cons_zero, List.set_cons_succ]
  refine wpAnyH_take (i := 26) (oi := { dst := some 64, op := Op.load 24 (Operand.tmp 2), type := 24, pos := "law.go:77", after := #[{ on := 25, ground := Ground.guard }], guard := some (25, true) }) (v := ?v26) rfl (by kernel_rfl) (by kernel_rfl) (by kernel_rfl) (fun _ _ _ h => h) (Or.inl ⟨by rfl, ?hy26⟩) (by assumption) ?rest26
  case hy26 =>
    intro w hSw
    (try dsimp only at hSw)
    go_simp
    all_goals (with_reducible rfl)
  try simp only [Act.put, List.setIfInBounds_toArray, List.set_cons_zero, List.set_cons_succ]
  refine wpAnyH_take (i := 29) (oi := { dst := some 67, op := Op.load 24 (Operand.tmp 5), type := 24, pos := "law.go:77", after := #[{ on := 25, ground := Ground.guard }], guard := some (25, true) }) (v := ?v29) rfl (by kernel_rfl) (by kernel_rfl) (by kernel_rfl) (fun _ _ _ h => h) (Or.inl ⟨by rfl, ?hy29⟩) (by assumption) ?rest29
  case hy29 =>
    intro w hSw
    (try dsimp only at hSw)
    go_simp
    all_goals (with_reducible rfl)
  try simp only [Act.put, List.setIfInBounds_toArray, List.set_cons_zero, List.set_cons_succ]
  refine wpAnyH_ready (rs := [27]) (by kernel_rfl) (by simp) ?_
  refine AllReadyH.cons (o := { dst := some 65, op := Op.call { callee := Callee.value (Operand.func 35), args := #[Operand.tmp 64], argTypes := #[24] }, type := 24, pos := "law.go:77", after := #[{ on := 26, ground := Ground.data }, { on := 25, ground := Ground.chain }, { on := 25, ground := Ground.guard }], guard := some (25, true) }) rfl (fun K hK => ?_) AllReadyH.nil
  go_simp
  have mk5 := mk4
  clear mk4
  refine (Neg_c v _ _ h_v).mono ?_
  rintro e w5 ⟨x4, rfl, ht_x4, hb⟩
  replace HB := HB.trans (hb.mono HB.size)
  replace k_v := k_v.below hb
  replace k_u := k_u.below hb
  replace k_nn := k_nn.below hb
  replace k_qq := k_qq.below hb
  replace h_v := h_v.below hb
  replace h_u := h_u.below hb
  replace g_u := g_u.below hb
  replace ht_nn := ht_nn.below hb
  have h_x4 := (ht_x4.rw n_v).more (show _ ≤ 2000 by omega)
  clear hb
  clear v_0 v_1 v_2 v_3 v_4 v_5 u_0 u_1 u_2 u_3 u_4 u_5 nn_0 nn_1 nn_2 nn_3 nn_4 nn_5 qq_0 qq_1 qq_2 qq_3 qq_4 qq_5
  obtain ⟨v_0, v_1, v_2, v_3, v_4, v_5⟩ := k_v.facts
  obtain ⟨u_0, u_1, u_2, u_3, u_4, u_5⟩ := k_u.facts
  obtain ⟨nn_0, nn_1, nn_2, nn_3, nn_4, nn_5⟩ := k_nn.facts
  obtain ⟨qq_0, qq_1, qq_2, qq_3, qq_4, qq_5⟩ := k_qq.facts
  try go_wp2_with fail
  refine hK.out _ _ ?_ (fun hHeld => ?_)
  · (try dsimp only)
    go_keep
  clear hK K
  try simp only [Act.put, List.setIfInBounds_toArray, List.set_cons_zero, List.set_cons_succ]
  refine wpAnyH_ready (rs := [28]) (by kernel_rfl) (by simp) ?_
  refine AllReadyH.cons (o := { dst := some 66, op := Op.call { callee := Callee.value (Operand.func 35), args := #[Operand.tmp 65], argTypes := #[24] }, type := 24, pos := "law.go:77", after := #[{ on := 27, ground := Ground.data }, { on := 27, ground := Ground.chain }, { on := 25, ground := Ground.guard }], guard := some (25, true) }) rfl (fun K hK => ?_) AllReadyH.nil
  go_simp
  have mk6 := mk5
  clear mk5
  refine (Neg_c x4 _ _ h_x4).mono ?_
  rintro e w6 ⟨x5, rfl, ht_x5, hb⟩
  replace HB := HB.trans (hb.mono HB.size)
  replace k_v := k_v.below hb
  replace k_u := k_u.below hb
  replace k_nn := k_nn.below hb
  replace k_qq := k_qq.below hb
  replace h_v := h_v.below hb
  replace h_u := h_u.below hb
  replace g_u := g_u.below hb
  replace ht_nn := ht_nn.below hb
  replace h_x4 := h_x4.below hb
  replace ht_x4 := ht_x4.below hb
  have h_x5 := (ht_x5.rw nn_v).more (show _ ≤ 2000 by omega)
  clear hb
  clear v_0 v_1 v_2 v_3 v_4 v_5 u_0 u_1 u_2 u_3 u_4 u_5 nn_0 nn_1 nn_2 nn_3 nn_4 nn_5 qq_0 qq_1 qq_2 qq_3 qq_4 qq_5
  obtain ⟨v_0, v_1, v_2, v_3, v_4, v_5⟩ := k_v.facts
  obtain ⟨u_0, u_1, u_2, u_3, u_4, u_5⟩ := k_u.facts
  obtain ⟨nn_0, nn_1, nn_2, nn_3, nn_4, nn_5⟩ := k_nn.facts
  obtain ⟨qq_0, qq_1, qq_2, qq_3, qq_4, qq_5⟩ := k_qq.facts
  try go_wp2_with fail
  refine hK.out _ _ ?_ (fun hHeld => ?_)
  · (try dsimp only)
    go_keep
  clear hK K
  try simp only [Act.put, List.setIfInBounds_toArray, List.set_cons_zero, List.set_cons_succ]
  refine wpAnyH_ready (rs := [30]) (by kernel_rfl) (by simp) ?_
  refine AllReadyH.cons (o := { dst := some 68, op := Op.call { callee := Callee.value (Operand.func 15), args := #[Operand.tmp 66, Operand.tmp 67], argTypes := #[24, 24] }, type := 4, pos := "law.go:77", after := #[{ on := 28, ground := Ground.data }, { on := 29, ground := Ground.data }, { on := 28, ground := Ground.chain }, { on := 25, ground := Ground.guard }], guard := some (25, true) }) rfl (fun K hK => ?_) AllReadyH.nil
  go_simp
  have mk7 := mk6
  clear mk6
  refine (one_yes x5 nn _ _ _ _ _ ht_x5 ht_nn (Rat.neg_neg _) (ht_x5.len nn_v (by omega)).1 (ht_x5.len nn_v (by omega)).2).mono ?_
  rintro e w7 ⟨rfl, hb⟩
  replace HB := HB.trans (hb.mono HB.size)
  replace k_v := k_v.below hb
  replace k_u := k_u.below hb
  replace k_nn := k_nn.below hb
  replace k_qq := k_qq.below hb
  replace h_v := h_v.below hb
  replace h_u := h_u.below hb
  replace g_u := g_u.below hb
  replace ht_nn := ht_nn.below hb
  replace h_x4 := h_x4.below hb
  replace ht_x4 := ht_x4.below hb
  replace h_x5 := h_x5.below hb
  replace ht_x5 := ht_x5.below hb
  clear hb
  clear v_0 v_1 v_2 v_3 v_4 v_5 u_0 u_1 u_2 u_3 u_4 u_5 nn_0 nn_1 nn_2 nn_3 nn_4 nn_5 qq_0 qq_1 qq_2 qq_3 qq_4 qq_5
  obtain ⟨v_0, v_1, v_2, v_3, v_4, v_5⟩ := k_v.facts
  obtain ⟨u_0, u_1, u_2, u_3, u_4, u_5⟩ := k_u.facts
  obtain ⟨nn_0, nn_1, nn_2, nn_3, nn_4, nn_5⟩ := k_nn.facts
  obtain ⟨qq_0, qq_1, qq_2, qq_3, qq_4, qq_5⟩ := k_qq.facts
  clear h_x4 ht_x4 h_x5 ht_x5
  try go_wp2_with fail
  refine hK.out _ _ ?_ (fun hHeld => ?_)
  · (try dsimp only)
    go_keep
  clear hK K
  try simp only [Act.put, List.setIfInBounds_toArray, List.set_cons_zero, List.set_cons_succ]
  refine wpAnyH_take (i := 31) (oi := { dst := some 69, op := Op.pick (Operand.tmp 63) (Operand.tmp 68) (Operand.const (Value.bool false)), type := 4, pos := "law.go:77", after := #[{ on := 25, ground := Ground.data }, { on := 30, ground := Ground.data }], guard := none }) (v := ?v31) rfl (by kernel_rfl) (by kernel_rfl) (by kernel_rfl) (fun _ _ _ h => h) (Or.inl ⟨by rfl, ?hy31⟩) (by assumption) ?rest31
  case hy31 =>
    intro w hSw
    (try dsimp only at hSw)
    go_simp
    all_goals (with_reducible rfl)
  try simp only [Act.put, List.setIfInBounds_toArray, List.set_cons_zero, List.set_cons_succ]
  refine wpAnyH_take (i := 32) (oi := { dst := some 70, op := Op.move (Operand.tmp 69), type := 4, pos := "law.go:77", after := #[{ on := 31, ground := Ground.data }, { on := 30, ground := Ground.chain }], guard := none }) (v := ?v32) rfl (by kernel_rfl) (by kernel_rfl) (by kernel_rfl) (fun _ _ _ h => h) (Or.inl ⟨by rfl, ?hy32⟩) (by assumption) ?rest32
  case hy32 =>
    intro w hSw
    (try dsimp only at hSw)
    go_simp
    all_goals (with_reducible rfl)
  try simp only [Act.put, List.setIfInBounds_toArray, List.set_cons_zero, List.set_cons_succ]
  refine wpAnyH_ready (rs := [33]) (by kernel_rfl) (by simp) ?_
  refine AllReadyH.cons (o := { dst := some 71, op := Op.call { callee := Callee.value (Operand.func 26), args := #[], argTypes := #[] }, type := 4, pos := "law.go:77", after := #[{ on := 32, ground := Ground.chain }, { on := 32, ground := Ground.guard }], guard := some (32, true) }) rfl (fun K hK => ?_) AllReadyH.nil
  go_simp
  have mk8 := mk7
  clear mk7
  refine (known_any _).mono ?_
  rintro e w8 ⟨rfl, hb⟩
  replace HB := HB.trans (hb.mono HB.size)
  replace k_v := k_v.below hb
  replace k_u := k_u.below hb
  replace k_nn := k_nn.below hb
  replace k_qq := k_qq.below hb
  replace h_v := h_v.below hb
  replace h_u := h_u.below hb
  replace g_u := g_u.below hb
  replace ht_nn := ht_nn.below hb
  clear hb
  clear v_0 v_1 v_2 v_3 v_4 v_5 u_0 u_1 u_2 u_3 u_4 u_5 nn_0 nn_1 nn_2 nn_3 nn_4 nn_5 qq_0 qq_1 qq_2 qq_3 qq_4 qq_5
  obtain ⟨v_0, v_1, v_2, v_3, v_4, v_5⟩ := k_v.facts
  obtain ⟨u_0, u_1, u_2, u_3, u_4, u_5⟩ := k_u.facts
  obtain ⟨nn_0, nn_1, nn_2, nn_3, nn_4, nn_5⟩ := k_nn.facts
  obtain ⟨qq_0, qq_1, qq_2, qq_3, qq_4, qq_5⟩ := k_qq.facts
  try go_wp2_with fail
  refine hK.out _ _ ?_ (fun hHeld => ?_)
  · (try dsimp only)
    go_keep
  clear hK K
  try simp only [Act.put, List.setIfInBounds_toArray, List.set_cons_zero, List.set_cons_succ]
  refine wpAnyH_take (i := 34) (oi := { dst := some 72, op := Op.pick (Operand.tmp 70) (Operand.tmp 71) (Operand.const (Value.bool false)), type := 4, pos := "law.go:77", after := #[{ on := 32, ground := Ground.data }, { on := 33, ground := Ground.data }], guard := none }) (v := ?v34) rfl (by kernel_rfl) (by kernel_rfl) (by kernel_rfl) (fun _ _ _ h => h) (Or.inl ⟨by rfl, ?hy34⟩) (by assumption) ?rest34
  case hy34 =>
    intro w hSw
    (try dsimp only at hSw)
    go_simp
    all_goals (with_reducible rfl)
  try simp only [Act.put, List.setIfInBounds_toArray, List.set_cons_zero, List.set_cons_succ]
  refine wpAnyH_ready (rs := [35]) (by kernel_rfl) (by simp) ?_
  refine AllReadyH.cons (o := { dst := some 4, op := Op.assign (Operand.tmp 72), type := 4, pos := "law.go:77", after := #[{ on := 34, ground := Ground.data }, { on := 33, ground := Ground.chain }, { on := 0, ground := Ground.phase }, { on := 1, ground := Ground.phase }, { on := 2, ground := Ground.phase }, { on := 3, ground := Ground.phase }, { on := 4, ground := Ground.phase }, { on := 5, ground := Ground.phase }, { on := 6, ground := Ground.phase }, { on := 7, ground := Ground.phase }, { on := 8, ground := Ground.phase }, { on := 9, ground := Ground.phase }, { on := 10, ground := Ground.phase }, { on := 11, ground := Ground.phase }, { on := 12, ground := Ground.phase }, { on := 13, ground := Ground.phase }, { on := 14, ground := Ground.phase }, { on := 15, ground := Ground.phase }, { on := 16, ground := Ground.phase }, { on := 17, ground := Ground.phase }, { on := 18, ground := Ground.phase }, { on := 19, ground := Ground.phase }, { on := 20, ground := Ground.phase }, { on := 21, ground := Ground.phase }, { on := 22, ground := Ground.phase }, { on := 23, ground := Ground.phase }, { on := 24, ground := Ground.phase }, { on := 25, ground := Ground.phase }, { on := 26, ground := Ground.phase }, { on := 27, ground := Ground.phase }, { on := 28, ground := Ground.phase }, { on := 29, ground := Ground.phase }, { on := 30, ground := Ground.phase }, { on := 31, ground := Ground.phase }, { on := 32, ground := Ground.phase }, { on := 33, ground := Ground.phase }, { on := 34, ground := Ground.phase }], guard := none }) rfl (fun K hK => ?_) AllReadyH.nil
  go_simp
  refine hK.out _ _ ?_ (fun hHeld => ?_)
  · (try dsimp only)
    go_keep
  clear hK K
  try simp only [Act.put, List.setIfInBounds_toArray, List.set_cons_zero, List.set_cons_succ]
  refine wpAnyH_done (by kernel_rfl) ?_ _
  go_wp2
  go_ret
  exact ⟨rfl, HB⟩

theorem RatBack_small (v u : Rv) (r s : Rat) (w : World) (hlen : v.n + v.m + u.n + u.m ≤ 8) (h_v : Rw w v r 8) (h_u : Rw w u s 8) :
    Calls Try.prog 6 #[.agg #[.bool v.s, .slice v.A v.n v.c, .slice v.B v.m v.d], .agg #[.bool u.s, .slice u.A u.n u.c, .slice u.B u.m u.d]] w fun e w' => e = .returned (.bool true) ∧ Below w.heap.size w w' := by
  by_cases h : s = 0
  · exact RatBack_zero v u r s w h hlen h_v h_u
  · exact RatBack_pos v u r s w h hlen h_v h_u
end Go.Proofs.Ytadopepoicbahaa
