/-
  RatOrder: the walk of the law over small rationals.
-/
import Derived.Test.YtadopepoicbahaaRatKit
namespace Go.Proofs.Ytadopepoicbahaa
open Go.RowKit

theorem sgn_neg (r : Rat) : sgn (-r) = -sgn r := by
  unfold sgn
  by_cases h : r = 0
  · subst h; rfl
  · have h1 : -r ≠ 0 := fun e => h (by rw [← Rat.neg_neg r, e]; rfl)
    have h2 := num_ne h
    rw [if_neg h, if_neg h1, Rat.neg_num]
    by_cases h3 : r.num < 0
    · rw [if_pos h3, if_neg (by omega)]; rfl
    · rw [if_neg h3, if_pos (by omega)]
theorem sgn_turn (r s : Rat) : sgn (s - r) = -sgn (r - s) := by rw [← Rat.neg_sub r s, sgn_neg]
theorem sub_both (r s q : Rat) : (r + q) - (s + q) = r - s := by
  apply Rat.add_right_cancel (s + q)
  rw [Rat.sub_add_cancel, ← Rat.add_assoc, Rat.sub_add_cancel]
theorem sgn_cases (r : Rat) : sgn r = -1 ∨ sgn r = 0 ∨ sgn r = 1 := by
  unfold sgn
  split
  · exact .inr (.inl rfl)
  · split
    · exact .inl rfl
    · exact .inr (.inr rfl)
set_option maxRecDepth 100000 in
set_option maxHeartbeats 8000000 in
theorem RatOrder_k (v u t : Rv) (r s q : Rat) (k : Int) (b : Bool) (w : World) (e_k : Hid (sgn (r - s) = k)) (e_b : (k == 0) = b) (e_w : IntKind.i64.wrap (-k) = -k) (hlen : v.n + v.m + u.n + u.m + t.n + t.m ≤ 8) (h_v : Rw w v r 8) (h_u : Rw w u s 8) (h_t : Rw w t q 8) :
    Calls Try.prog 7 #[.agg #[.bool v.s, .slice v.A v.n v.c, .slice v.B v.m v.d], .agg #[.bool u.s, .slice u.A u.n u.c, .slice u.B u.m u.d], .agg #[.bool t.s, .slice t.A t.n t.c, .slice t.B t.m t.d]] w fun e w' => e = .returned (.bool true) ∧ Below w.heap.size w w' := by
  have e_turn : Hid (sgn (s - r) = -k) := by show _ = _; rw [sgn_turn, e_k.out]
  have e_both : Hid (sgn ((r + q) - (s + q)) = k) := by show _ = _; rw [sub_both, e_k.out]
  have e_same : Hid (decide (r = s) = b) := by
    show _ = _
    have h1 := sgn_sub_zero (r := r) (s := s)
    rw [e_k.out] at h1
    rw [← e_b]
    by_cases h : r = s
    · rw [decide_eq_true h, h1.2 h]; rfl
    · rw [decide_eq_false h]; exact (beq_eq_false_iff_ne.2 (fun e => h (h1.1 e))).symm
  go_enter Try.func7, Try.ntmps7
  go_wp2_with fail
  generalize hW : (((w.alloc (.cells #[.bool v.s, .slice v.A v.n v.c, .slice v.B v.m v.d] 24)).alloc (.cells #[.bool u.s, .slice u.A u.n u.c, .slice u.B u.m u.d] 24)).alloc (.cells #[.bool t.s, .slice t.A t.n t.c, .slice t.B t.m t.d] 24)).alloc (.cells #[.bool v.s, .slice v.A v.n v.c, .slice v.B v.m v.d, .bool u.s, .slice u.A u.n u.c, .slice u.B u.m u.d, .bool t.s, .slice t.A t.n t.c, .slice t.B t.m t.d] 24) = W
  obtain ⟨k_v, k_u, k_t, HB, hsW, hbig⟩ := open3b w v u t W hW
  clear hW
  refine (big_any (pick v u t) (w.heap.size + 1 + 1 + 1) 3 _ (by omega) ?_ hbig).mono ?_
  · intro i hi
    have : i = 0 ∨ i = 1 ∨ i = 2 := by omega
    rcases this with rfl | rfl | rfl <;> simp only [pick] <;> omega
  rintro e w0 ⟨rfl, hb⟩
  rw [decide_eq_false (show ¬ 16 < tot (pick v u t) 3 by simp only [tot, pick]; omega)]
  replace HB := HB.trans (hb.mono (by omega))
  replace k_v := k_v.below hb
  replace k_u := k_u.below hb
  replace k_t := k_t.below hb
  clear hb hbig hsW
  obtain ⟨v_0, v_1, v_2, v_3, v_4, v_5⟩ := k_v.facts
  obtain ⟨u_0, u_1, u_2, u_3, u_4, u_5⟩ := k_u.facts
  obtain ⟨t_0, t_1, t_2, t_3, t_4, t_5⟩ := k_t.facts
  have b1 := h_v.numLe
  have b2 := h_v.denLe
  have b3 := h_u.numLe
  have b4 := h_u.denLe
  have b5 := h_t.numLe
  have b6 := h_t.denLe
  go_wp2_with fail
  clear b1 b2 b3 b4 b5 b6
  refine (Cmp_v v u r s k _ ((h_v.below HB).more (by omega)) ((h_u.below HB).more (by omega)) e_k.out).mono ?_
  rintro e w1 ⟨rfl, hb⟩
  replace HB := HB.trans (hb.mono HB.size)
  replace k_v := k_v.below hb
  replace k_u := k_u.below hb
  replace k_t := k_t.below hb
  clear hb v_0 v_1 v_2 v_3 v_4 v_5 u_0 u_1 u_2 u_3 u_4 u_5 t_0 t_1 t_2 t_3 t_4 t_5
  obtain ⟨v_0, v_1, v_2, v_3, v_4, v_5⟩ := k_v.facts
  obtain ⟨u_0, u_1, u_2, u_3, u_4, u_5⟩ := k_u.facts
  obtain ⟨t_0, t_1, t_2, t_3, t_4, t_5⟩ := k_t.facts
  go_wp2_with fail
  clear v_0 v_1 v_2 v_3 v_4 v_5 u_0 u_1 u_2 u_3 u_4 u_5 t_0 t_1 t_2 t_3 t_4 t_5
  have z_v : Sz r 8 := h_v.sz (by omega)
  have z_u : Sz s 8 := h_u.sz (by omega)
  have z_t : Sz q 8 := h_t.sz (by omega)
  have s_vt := z_v.add z_t
  have s_ut := z_u.add z_t
  replace h_v := ((h_v.below HB).drew).more (show 8 ≤ 2000 by omega)
  replace h_u := ((h_u.below HB).drew).more (show 8 ≤ 2000 by omega)
  replace h_t := ((h_t.below HB).drew).more (show 8 ≤ 2000 by omega)
  obtain ⟨v_0, v_1, v_2, v_3, v_4, v_5⟩ := k_v.facts
  obtain ⟨u_0, u_1, u_2, u_3, u_4, u_5⟩ := k_u.facts
  obtain ⟨t_0, t_1, t_2, t_3, t_4, t_5⟩ := k_t.facts
  replace k_v := k_v.drew
  replace k_u := k_u.drew
  replace k_t := k_t.drew
  replace HB := HB.drew
  have mk0 : Hid True := trivial
  clear hlen
  go_region_held3 (fun w' => w'.cell? ⟨w.heap.size, 0, none⟩ = some (.bool v.s) ∧ w'.cell? ⟨w.heap.size, 1, none⟩ = some (.slice v.A v.n v.c) ∧ w'.cell? ⟨w.heap.size, 2, none⟩ = some (.slice v.B v.m v.d) ∧ w'.cell? ⟨w.heap.size + 1, 0, none⟩ = some (.bool u.s) ∧ w'.cell? ⟨w.heap.size + 1, 1, none⟩ = some (.slice u.A u.n u.c) ∧ w'.cell? ⟨w.heap.size + 1, 2, none⟩ = some (.slice u.B u.m u.d) ∧ w'.cell? ⟨w.heap.size + 1 + 1, 0, none⟩ = some (.bool t.s) ∧ w'.cell? ⟨w.heap.size + 1 + 1, 1, none⟩ = some (.slice t.A t.n t.c) ∧ w'.cell? ⟨w.heap.size + 1 + 1, 2, none⟩ = some (.slice t.B t.m t.d)) (go_keep)
      (first
      | (go_at_call 22
         have mk1 := mk0
         clear mk0
         refine (Cmp_v u v _ _ (-k) _ h_u h_v e_turn.out).mono ?_
         rintro e w1 ⟨rfl, hb⟩
         replace HB := HB.trans (hb.mono HB.size)
         replace k_v := k_v.below hb
         replace k_u := k_u.below hb
         replace k_t := k_t.below hb
         replace h_v := h_v.below hb
         replace h_u := h_u.below hb
         replace h_t := h_t.below hb
         clear hb
         clear v_0 v_1 v_2 v_3 v_4 v_5 u_0 u_1 u_2 u_3 u_4 u_5 t_0 t_1 t_2 t_3 t_4 t_5
         obtain ⟨v_0, v_1, v_2, v_3, v_4, v_5⟩ := k_v.facts
         obtain ⟨u_0, u_1, u_2, u_3, u_4, u_5⟩ := k_u.facts
         obtain ⟨t_0, t_1, t_2, t_3, t_4, t_5⟩ := k_t.facts)
      | (go_at_call 24
         have mk2 := mk1
         clear mk1
         refine (Same_v v u _ _ b _ h_v h_u e_same.out).mono ?_
         rintro e w2 ⟨rfl, hb⟩
         replace HB := HB.trans (hb.mono HB.size)
         replace k_v := k_v.below hb
         replace k_u := k_u.below hb
         replace k_t := k_t.below hb
         replace h_v := h_v.below hb
         replace h_u := h_u.below hb
         replace h_t := h_t.below hb
         clear hb
         clear v_0 v_1 v_2 v_3 v_4 v_5 u_0 u_1 u_2 u_3 u_4 u_5 t_0 t_1 t_2 t_3 t_4 t_5
         obtain ⟨v_0, v_1, v_2, v_3, v_4, v_5⟩ := k_v.facts
         obtain ⟨u_0, u_1, u_2, u_3, u_4, u_5⟩ := k_u.facts
         obtain ⟨t_0, t_1, t_2, t_3, t_4, t_5⟩ := k_t.facts)
      | (go_at_call 16
         have mk3 := mk2
         clear mk2
         refine (Add_c v t _ _ _ (h_v) (h_t)).mono ?_
         rintro e w3 ⟨x1, rfl, ht_x1, hb⟩
         replace HB := HB.trans (hb.mono HB.size)
         replace k_v := k_v.below hb
         replace k_u := k_u.below hb
         replace k_t := k_t.below hb
         replace h_v := h_v.below hb
         replace h_u := h_u.below hb
         replace h_t := h_t.below hb
         have h_x1 := (ht_x1.rw s_vt).more (show _ ≤ 2000 by omega)
         clear hb
         clear v_0 v_1 v_2 v_3 v_4 v_5 u_0 u_1 u_2 u_3 u_4 u_5 t_0 t_1 t_2 t_3 t_4 t_5
         obtain ⟨v_0, v_1, v_2, v_3, v_4, v_5⟩ := k_v.facts
         obtain ⟨u_0, u_1, u_2, u_3, u_4, u_5⟩ := k_u.facts
         obtain ⟨t_0, t_1, t_2, t_3, t_4, t_5⟩ := k_t.facts)
      | (go_at_call 16
         have mk4 := mk3
         clear mk3
         refine (Add_c u t _ _ _ (h_u) (h_t)).mono ?_
         rintro e w4 ⟨x2, rfl, ht_x2, hb⟩
         replace HB := HB.trans (hb.mono HB.size)
         replace k_v := k_v.below hb
         replace k_u := k_u.below hb
         replace k_t := k_t.below hb
         replace h_v := h_v.below hb
         replace h_u := h_u.below hb
         replace h_t := h_t.below hb
         replace h_x1 := h_x1.below hb
         replace ht_x1 := ht_x1.below hb
         have h_x2 := (ht_x2.rw s_ut).more (show _ ≤ 2000 by omega)
         clear hb
         clear v_0 v_1 v_2 v_3 v_4 v_5 u_0 u_1 u_2 u_3 u_4 u_5 t_0 t_1 t_2 t_3 t_4 t_5
         obtain ⟨v_0, v_1, v_2, v_3, v_4, v_5⟩ := k_v.facts
         obtain ⟨u_0, u_1, u_2, u_3, u_4, u_5⟩ := k_u.facts
         obtain ⟨t_0, t_1, t_2, t_3, t_4, t_5⟩ := k_t.facts)
      | (go_at_call 22
         have mk5 := mk4
         clear mk4
         refine (Cmp_v x1 x2 _ _ k _ h_x1 h_x2 e_both.out).mono ?_
         rintro e w5 ⟨rfl, hb⟩
         replace HB := HB.trans (hb.mono HB.size)
         replace k_v := k_v.below hb
         replace k_u := k_u.below hb
         replace k_t := k_t.below hb
         replace h_v := h_v.below hb
         replace h_u := h_u.below hb
         replace h_t := h_t.below hb
         replace h_x1 := h_x1.below hb
         replace ht_x1 := ht_x1.below hb
         replace h_x2 := h_x2.below hb
         replace ht_x2 := ht_x2.below hb
         clear hb
         clear v_0 v_1 v_2 v_3 v_4 v_5 u_0 u_1 u_2 u_3 u_4 u_5 t_0 t_1 t_2 t_3 t_4 t_5
         obtain ⟨v_0, v_1, v_2, v_3, v_4, v_5⟩ := k_v.facts
         obtain ⟨u_0, u_1, u_2, u_3, u_4, u_5⟩ := k_u.facts
         obtain ⟨t_0, t_1, t_2, t_3, t_4, t_5⟩ := k_t.facts
         clear h_x1 ht_x1 h_x2 ht_x2)
      | (go_at_call 26
         have mk6 := mk5
         clear mk5
         refine (known_any _).mono ?_
         rintro e w6 ⟨rfl, hb⟩
         replace HB := HB.trans (hb.mono HB.size)
         replace k_v := k_v.below hb
         replace k_u := k_u.below hb
         replace k_t := k_t.below hb
         replace h_v := h_v.below hb
         replace h_u := h_u.below hb
         replace h_t := h_t.below hb
         clear hb
         clear v_0 v_1 v_2 v_3 v_4 v_5 u_0 u_1 u_2 u_3 u_4 u_5 t_0 t_1 t_2 t_3 t_4 t_5
         obtain ⟨v_0, v_1, v_2, v_3, v_4, v_5⟩ := k_v.facts
         obtain ⟨u_0, u_1, u_2, u_3, u_4, u_5⟩ := k_u.facts
         obtain ⟨t_0, t_1, t_2, t_3, t_4, t_5⟩ := k_t.facts))
  go_wp2
  go_ret
  exact ⟨rfl, HB⟩

theorem RatOrder_small (v u t : Rv) (r s q : Rat) (w : World) (hlen : v.n + v.m + u.n + u.m + t.n + t.m ≤ 8) (h_v : Rw w v r 8) (h_u : Rw w u s 8) (h_t : Rw w t q 8) :
    Calls Try.prog 7 #[.agg #[.bool v.s, .slice v.A v.n v.c, .slice v.B v.m v.d], .agg #[.bool u.s, .slice u.A u.n u.c, .slice u.B u.m u.d], .agg #[.bool t.s, .slice t.A t.n t.c, .slice t.B t.m t.d]] w fun e w' => e = .returned (.bool true) ∧ Below w.heap.size w w' := by
  refine RatOrder_k v u t r s q (sgn (r - s)) _ w rfl rfl ?_ hlen h_v h_u h_t
  rcases sgn_cases (r - s) with h | h | h <;> rw [h] <;> rfl
end Go.Proofs.Ytadopepoicbahaa
