/-
  RatLaws: the walk of the law over small rationals.
-/
import Derived.Test.YtadopepoicbahaaRatKit
namespace Go.Proofs.Ytadopepoicbahaa
open Go.RowKit

set_option maxRecDepth 100000 in
set_option maxHeartbeats 8000000 in
theorem RatLaws_small (v u t : Rv) (r s q : Rat) (w : World) (hlen : v.n + v.m + u.n + u.m + t.n + t.m ≤ 8) (h_v : Rw w v r 8) (h_u : Rw w u s 8) (h_t : Rw w t q 8) :
    Calls Try.prog 5 #[.agg #[.bool v.s, .slice v.A v.n v.c, .slice v.B v.m v.d], .agg #[.bool u.s, .slice u.A u.n u.c, .slice u.B u.m u.d], .agg #[.bool t.s, .slice t.A t.n t.c, .slice t.B t.m t.d]] w fun e w' => e = .returned (.bool true) ∧ Below w.heap.size w w' := by
  go_enter Try.func5, Try.ntmps5
  go_wp2_with fail
  generalize hW : (((w.alloc (.cells #[.bool v.s, .slice v.A v.n v.c, .slice v.B v.m v.d] 24)).alloc (.cells #[.bool u.s, .slice u.A u.n u.c, .slice u.B u.m u.d] 24)).alloc (.cells #[.bool t.s, .slice t.A t.n t.c, .slice t.B t.m t.d] 24)).alloc (.cells #[.bool v.s, .slice v.A v.n v.c, .slice v.B v.m v.d, .bool u.s, .slice u.A u.n u.c, .slice u.B u.m u.d, .bool t.s, .slice t.A t.n t.c, .slice t.B t.m t.d] 24) = W
  obtain ⟨k_v, k_u, k_t, HB, hsW, hbig⟩ := open3b w v u t W hW
  clear hW
  refine (big_any (pick v u t) (w.heap.size + 1 + 1 + 1) 3 _ (by omega) ?_ hbig).mono ?_
  · intro i hi
    have : i = 0 ∨ i = 1 ∨ i = 2 := by omega
    rcases this with rfl | rfl | rfl <;> simp only [pick] <;> omega
  rintro e w0 ⟨rfl, hb⟩
  rw [decide_eq_false (show ¬ 16 < tot (pick v u t) 3 by simp only [tot, pick]; omega)]
  replace HB := HB.trans (hb.mono (by omega))
  replace k_v := k_v.below hb
  replace k_u := k_u.below hb
  replace k_t := k_t.below hb
  clear hb hbig hsW
  obtain ⟨v_0, v_1, v_2, v_3, v_4, v_5⟩ := k_v.facts
  obtain ⟨u_0, u_1, u_2, u_3, u_4, u_5⟩ := k_u.facts
  obtain ⟨t_0, t_1, t_2, t_3, t_4, t_5⟩ := k_t.facts
  have b1 := h_v.numLe
  have b2 := h_v.denLe
  have b3 := h_u.numLe
  have b4 := h_u.denLe
  have b5 := h_t.numLe
  have b6 := h_t.denLe
  go_wp2_with fail
  clear b1 b2 b3 b4 b5 b6 v_0 v_1 v_2 v_3 v_4 v_5 u_0 u_1 u_2 u_3 u_4 u_5 t_0 t_1 t_2 t_3 t_4 t_5
  have z_v : Sz r 8 := h_v.sz (by omega)
  have z_u : Sz s 8 := h_u.sz (by omega)
  have z_t : Sz q 8 := h_t.sz (by omega)
  have s_vu := z_v.add z_u
  have s_uv := z_u.add z_v
  have p_vu := z_v.mul z_u
  have p_uv := z_u.mul z_v
  have s_vu_t := s_vu.add z_t
  have s_ut := z_u.add z_t
  have s_v_ut := z_v.add s_ut
  have m_vu_t := s_vu.mul z_t
  have p_vt := z_v.mul z_t
  have p_ut := z_u.mul z_t
  have s_vt_ut := p_vt.add p_ut
  replace h_v := ((h_v.below HB).drew).more (show 8 ≤ 2000 by omega)
  replace h_u := ((h_u.below HB).drew).more (show 8 ≤ 2000 by omega)
  replace h_t := ((h_t.below HB).drew).more (show 8 ≤ 2000 by omega)
  obtain ⟨v_0, v_1, v_2, v_3, v_4, v_5⟩ := k_v.facts
  obtain ⟨u_0, u_1, u_2, u_3, u_4, u_5⟩ := k_u.facts
  obtain ⟨t_0, t_1, t_2, t_3, t_4, t_5⟩ := k_t.facts
  replace k_v := k_v.drew
  replace k_u := k_u.drew
  replace k_t := k_t.drew
  replace HB := HB.drew
  have mk0 : Hid True := trivial
  clear hlen
  go_region_held3 (fun w' => w'.cell? ⟨w.heap.size, 0, none⟩ = some (.bool v.s) ∧ w'.cell? ⟨w.heap.size, 1, none⟩ = some (.slice v.A v.n v.c) ∧ w'.cell? ⟨w.heap.size, 2, none⟩ = some (.slice v.B v.m v.d) ∧ w'.cell? ⟨w.heap.size + 1, 0, none⟩ = some (.bool u.s) ∧ w'.cell? ⟨w.heap.size + 1, 1, none⟩ = some (.slice u.A u.n u.c) ∧ w'.cell? ⟨w.heap.size + 1, 2, none⟩ = some (.slice u.B u.m u.d) ∧ w'.cell? ⟨w.heap.size + 1 + 1, 0, none⟩ = some (.bool t.s) ∧ w'.cell? ⟨w.heap.size + 1 + 1, 1, none⟩ = some (.slice t.A t.n t.c) ∧ w'.cell? ⟨w.heap.size + 1 + 1, 2, none⟩ = some (.slice t.B t.m t.d)) (go_keep)
      (first
      | (go_at_call 16
         have mk1 := mk0
         clear mk0
         refine (Add_c v u _ _ _ (h_v) (h_u)).mono ?_
         rintro e w1 ⟨x1, rfl, ht_x1, hb⟩
         replace HB := HB.trans (hb.mono HB.size)
         replace k_v := k_v.below hb
         replace k_u := k_u.below hb
         replace k_t := k_t.below hb
         replace h_v := h_v.below hb
         replace h_u := h_u.below hb
         replace h_t := h_t.below hb
         have h_x1 := (ht_x1.rw s_vu).more (show _ ≤ 2000 by omega)
         clear hb
         clear v_0 v_1 v_2 v_3 v_4 v_5 u_0 u_1 u_2 u_3 u_4 u_5 t_0 t_1 t_2 t_3 t_4 t_5
         obtain ⟨v_0, v_1, v_2, v_3, v_4, v_5⟩ := k_v.facts
         obtain ⟨u_0, u_1, u_2, u_3, u_4, u_5⟩ := k_u.facts
         obtain ⟨t_0, t_1, t_2, t_3, t_4, t_5⟩ := k_t.facts)
      | (go_at_call 16
         have mk2 := mk1
         clear mk1
         refine (Add_c u v _ _ _ (h_u) (h_v)).mono ?_
         rintro e w2 ⟨x2, rfl, ht_x2, hb⟩
         replace HB := HB.trans (hb.mono HB.size)
         replace k_v := k_v.below hb
         replace k_u := k_u.below hb
         replace k_t := k_t.below hb
         replace h_v := h_v.below hb
         replace h_u := h_u.below hb
         replace h_t := h_t.below hb
         replace h_x1 := h_x1.below hb
         replace ht_x1 := ht_x1.below hb
         have h_x2 := (ht_x2.rw s_uv).more (show _ ≤ 2000 by omega)
         clear hb
         clear v_0 v_1 v_2 v_3 v_4 v_5 u_0 u_1 u_2 u_3 u_4 u_5 t_0 t_1 t_2 t_3 t_4 t_5
         obtain ⟨v_0, v_1, v_2, v_3, v_4, v_5⟩ := k_v.facts
         obtain ⟨u_0, u_1, u_2, u_3, u_4, u_5⟩ := k_u.facts
         obtain ⟨t_0, t_1, t_2, t_3, t_4, t_5⟩ := k_t.facts)
      | (go_at_call 15
         have mk3 := mk2
         clear mk2
         refine (one_yes x1 x2 _ _ _ _ _ ht_x1 ht_x2 (Rat.add_comm _ _) (ht_x1.len s_vu (by omega)).1 (ht_x1.len s_vu (by omega)).2).mono ?_
         rintro e w3 ⟨rfl, hb⟩
         replace HB := HB.trans (hb.mono HB.size)
         replace k_v := k_v.below hb
         replace k_u := k_u.below hb
         replace k_t := k_t.below hb
         replace h_v := h_v.below hb
         replace h_u := h_u.below hb
         replace h_t := h_t.below hb
         replace h_x1 := h_x1.below hb
         replace ht_x1 := ht_x1.below hb
         replace h_x2 := h_x2.below hb
         replace ht_x2 := ht_x2.below hb
         clear hb
         clear v_0 v_1 v_2 v_3 v_4 v_5 u_0 u_1 u_2 u_3 u_4 u_5 t_0 t_1 t_2 t_3 t_4 t_5
         obtain ⟨v_0, v_1, v_2, v_3, v_4, v_5⟩ := k_v.facts
         obtain ⟨u_0, u_1, u_2, u_3, u_4, u_5⟩ := k_u.facts
         obtain ⟨t_0, t_1, t_2, t_3, t_4, t_5⟩ := k_t.facts
         clear h_x1 ht_x1 h_x2 ht_x2)
      | (go_at_call 20
         have mk4 := mk3
         clear mk3
         refine (Mul_c v u _ _ _ (h_v) (h_u)).mono ?_
         rintro e w4 ⟨x3, rfl, ht_x3, hb⟩
         replace HB := HB.trans (hb.mono HB.size)
         replace k_v := k_v.below hb
         replace k_u := k_u.below hb
         replace k_t := k_t.below hb
         replace h_v := h_v.below hb
         replace h_u := h_u.below hb
         replace h_t := h_t.below hb
         have h_x3 := (ht_x3.rw p_vu).more (show _ ≤ 2000 by omega)
         clear hb
         clear v_0 v_1 v_2 v_3 v_4 v_5 u_0 u_1 u_2 u_3 u_4 u_5 t_0 t_1 t_2 t_3 t_4 t_5
         obtain ⟨v_0, v_1, v_2, v_3, v_4, v_5⟩ := k_v.facts
         obtain ⟨u_0, u_1, u_2, u_3, u_4, u_5⟩ := k_u.facts
         obtain ⟨t_0, t_1, t_2, t_3, t_4, t_5⟩ := k_t.facts)
      | (go_at_call 20
         have mk5 := mk4
         clear mk4
         refine (Mul_c u v _ _ _ (h_u) (h_v)).mono ?_
         rintro e w5 ⟨x4, rfl, ht_x4, hb⟩
         replace HB := HB.trans (hb.mono HB.size)
         replace k_v := k_v.below hb
         replace k_u := k_u.below hb
         replace k_t := k_t.below hb
         replace h_v := h_v.below hb
         replace h_u := h_u.below hb
         replace h_t := h_t.below hb
         replace h_x3 := h_x3.below hb
         replace ht_x3 := ht_x3.below hb
         have h_x4 := (ht_x4.rw p_uv).more (show _ ≤ 2000 by omega)
         clear hb
         clear v_0 v_1 v_2 v_3 v_4 v_5 u_0 u_1 u_2 u_3 u_4 u_5 t_0 t_1 t_2 t_3 t_4 t_5
         obtain ⟨v_0, v_1, v_2, v_3, v_4, v_5⟩ := k_v.facts
         obtain ⟨u_0, u_1, u_2, u_3, u_4, u_5⟩ := k_u.facts
         obtain ⟨t_0, t_1, t_2, t_3, t_4, t_5⟩ := k_t.facts)
      | (go_at_call 15
         have mk6 := mk5
         clear mk5
         refine (one_yes x3 x4 _ _ _ _ _ ht_x3 ht_x4 (Rat.mul_comm _ _) (ht_x3.len p_vu (by omega)).1 (ht_x3.len p_vu (by omega)).2).mono ?_
         rintro e w6 ⟨rfl, hb⟩
         replace HB := HB.trans (hb.mono HB.size)
         replace k_v := k_v.below hb
         replace k_u := k_u.below hb
         replace k_t := k_t.below hb
         replace h_v := h_v.below hb
         replace h_u := h_u.below hb
         replace h_t := h_t.below hb
         replace h_x3 := h_x3.below hb
         replace ht_x3 := ht_x3.below hb
         replace h_x4 := h_x4.below hb
         replace ht_x4 := ht_x4.below hb
         clear hb
         clear v_0 v_1 v_2 v_3 v_4 v_5 u_0 u_1 u_2 u_3 u_4 u_5 t_0 t_1 t_2 t_3 t_4 t_5
         obtain ⟨v_0, v_1, v_2, v_3, v_4, v_5⟩ := k_v.facts
         obtain ⟨u_0, u_1, u_2, u_3, u_4, u_5⟩ := k_u.facts
         obtain ⟨t_0, t_1, t_2, t_3, t_4, t_5⟩ := k_t.facts
         clear h_x3 ht_x3 h_x4 ht_x4)
      | (go_at_call 16
         have mk7 := mk6
         clear mk6
         refine (Add_c v u _ _ _ (h_v) (h_u)).mono ?_
         rintro e w7 ⟨x5, rfl, ht_x5, hb⟩
         replace HB := HB.trans (hb.mono HB.size)
         replace k_v := k_v.below hb
         replace k_u := k_u.below hb
         replace k_t := k_t.below hb
         replace h_v := h_v.below hb
         replace h_u := h_u.below hb
         replace h_t := h_t.below hb
         have h_x5 := (ht_x5.rw s_vu).more (show _ ≤ 2000 by omega)
         clear hb
         clear v_0 v_1 v_2 v_3 v_4 v_5 u_0 u_1 u_2 u_3 u_4 u_5 t_0 t_1 t_2 t_3 t_4 t_5
         obtain ⟨v_0, v_1, v_2, v_3, v_4, v_5⟩ := k_v.facts
         obtain ⟨u_0, u_1, u_2, u_3, u_4, u_5⟩ := k_u.facts
         obtain ⟨t_0, t_1, t_2, t_3, t_4, t_5⟩ := k_t.facts)
      | (go_at_call 16
         have mk8 := mk7
         clear mk7
         refine (Add_c x5 t _ _ _ (h_x5) (h_t)).mono ?_
         rintro e w8 ⟨x6, rfl, ht_x6, hb⟩
         replace HB := HB.trans (hb.mono HB.size)
         replace k_v := k_v.below hb
         replace k_u := k_u.below hb
         replace k_t := k_t.below hb
         replace h_v := h_v.below hb
         replace h_u := h_u.below hb
         replace h_t := h_t.below hb
         replace h_x5 := h_x5.below hb
         replace ht_x5 := ht_x5.below hb
         have h_x6 := (ht_x6.rw s_vu_t).more (show _ ≤ 2000 by omega)
         clear hb
         clear v_0 v_1 v_2 v_3 v_4 v_5 u_0 u_1 u_2 u_3 u_4 u_5 t_0 t_1 t_2 t_3 t_4 t_5
         obtain ⟨v_0, v_1, v_2, v_3, v_4, v_5⟩ := k_v.facts
         obtain ⟨u_0, u_1, u_2, u_3, u_4, u_5⟩ := k_u.facts
         obtain ⟨t_0, t_1, t_2, t_3, t_4, t_5⟩ := k_t.facts)
      | (go_at_call 16
         have mk9 := mk8
         clear mk8
         refine (Add_c u t _ _ _ (h_u) (h_t)).mono ?_
         rintro e w9 ⟨x7, rfl, ht_x7, hb⟩
         replace HB := HB.trans (hb.mono HB.size)
         replace k_v := k_v.below hb
         replace k_u := k_u.below hb
         replace k_t := k_t.below hb
         replace h_v := h_v.below hb
         replace h_u := h_u.below hb
         replace h_t := h_t.below hb
         replace h_x5 := h_x5.below hb
         replace ht_x5 := ht_x5.below hb
         replace h_x6 := h_x6.below hb
         replace ht_x6 := ht_x6.below hb
         have h_x7 := (ht_x7.rw s_ut).more (show _ ≤ 2000 by omega)
         clear hb
         clear v_0 v_1 v_2 v_3 v_4 v_5 u_0 u_1 u_2 u_3 u_4 u_5 t_0 t_1 t_2 t_3 t_4 t_5
         obtain ⟨v_0, v_1, v_2, v_3, v_4, v_5⟩ := k_v.facts
         obtain ⟨u_0, u_1, u_2, u_3, u_4, u_5⟩ := k_u.facts
         obtain ⟨t_0, t_1, t_2, t_3, t_4, t_5⟩ := k_t.facts)
      | (go_at_call 16
         have mk10 := mk9
         clear mk9
         refine (Add_c v x7 _ _ _ (h_v) (h_x7)).mono ?_
         rintro e w10 ⟨x8, rfl, ht_x8, hb⟩
         replace HB := HB.trans (hb.mono HB.size)
         replace k_v := k_v.below hb
         replace k_u := k_u.below hb
         replace k_t := k_t.below hb
         replace h_v := h_v.below hb
         replace h_u := h_u.below hb
         replace h_t := h_t.below hb
         replace h_x5 := h_x5.below hb
         replace ht_x5 := ht_x5.below hb
         replace h_x6 := h_x6.below hb
         replace ht_x6 := ht_x6.below hb
         replace h_x7 := h_x7.below hb
         replace ht_x7 := ht_x7.below hb
         have h_x8 := (ht_x8.rw s_v_ut).more (show _ ≤ 2000 by omega)
         clear hb
         clear v_0 v_1 v_2 v_3 v_4 v_5 u_0 u_1 u_2 u_3 u_4 u_5 t_0 t_1 t_2 t_3 t_4 t_5
         obtain ⟨v_0, v_1, v_2, v_3, v_4, v_5⟩ := k_v.facts
         obtain ⟨u_0, u_1, u_2, u_3, u_4, u_5⟩ := k_u.facts
         obtain ⟨t_0, t_1, t_2, t_3, t_4, t_5⟩ := k_t.facts)
      | (go_at_call 15
         have mk11 := mk10
         clear mk10
         refine (one_yes x6 x8 _ _ _ _ _ ht_x6 ht_x8 (Rat.add_assoc _ _ _) (ht_x6.len s_vu_t (by omega)).1 (ht_x6.len s_vu_t (by omega)).2).mono ?_
         rintro e w11 ⟨rfl, hb⟩
         replace HB := HB.trans (hb.mono HB.size)
         replace k_v := k_v.below hb
         replace k_u := k_u.below hb
         replace k_t := k_t.below hb
         replace h_v := h_v.below hb
         replace h_u := h_u.below hb
         replace h_t := h_t.below hb
         replace h_x5 := h_x5.below hb
         replace ht_x5 := ht_x5.below hb
         replace h_x6 := h_x6.below hb
         replace ht_x6 := ht_x6.below hb
         replace h_x7 := h_x7.below hb
         replace ht_x7 := ht_x7.below hb
         replace h_x8 := h_x8.below hb
         replace ht_x8 := ht_x8.below hb
         clear hb
         clear v_0 v_1 v_2 v_3 v_4 v_5 u_0 u_1 u_2 u_3 u_4 u_5 t_0 t_1 t_2 t_3 t_4 t_5
         obtain ⟨v_0, v_1, v_2, v_3, v_4, v_5⟩ := k_v.facts
         obtain ⟨u_0, u_1, u_2, u_3, u_4, u_5⟩ := k_u.facts
         obtain ⟨t_0, t_1, t_2, t_3, t_4, t_5⟩ := k_t.facts
         clear h_x5 ht_x5 h_x6 ht_x6 h_x7 ht_x7 h_x8 ht_x8)
      | (go_at_call 16
         have mk12 := mk11
         clear mk11
         refine (Add_c v u _ _ _ (h_v) (h_u)).mono ?_
         rintro e w12 ⟨x9, rfl, ht_x9, hb⟩
         replace HB := HB.trans (hb.mono HB.size)
         replace k_v := k_v.below hb
         replace k_u := k_u.below hb
         replace k_t := k_t.below hb
         replace h_v := h_v.below hb
         replace h_u := h_u.below hb
         replace h_t := h_t.below hb
         have h_x9 := (ht_x9.rw s_vu).more (show _ ≤ 2000 by omega)
         clear hb
         clear v_0 v_1 v_2 v_3 v_4 v_5 u_0 u_1 u_2 u_3 u_4 u_5 t_0 t_1 t_2 t_3 t_4 t_5
         obtain ⟨v_0, v_1, v_2, v_3, v_4, v_5⟩ := k_v.facts
         obtain ⟨u_0, u_1, u_2, u_3, u_4, u_5⟩ := k_u.facts
         obtain ⟨t_0, t_1, t_2, t_3, t_4, t_5⟩ := k_t.facts)
      | (go_at_call 20
         have mk13 := mk12
         clear mk12
         refine (Mul_c x9 t _ _ _ (h_x9) (h_t)).mono ?_
         rintro e w13 ⟨y1, rfl, ht_y1, hb⟩
         replace HB := HB.trans (hb.mono HB.size)
         replace k_v := k_v.below hb
         replace k_u := k_u.below hb
         replace k_t := k_t.below hb
         replace h_v := h_v.below hb
         replace h_u := h_u.below hb
         replace h_t := h_t.below hb
         replace h_x9 := h_x9.below hb
         replace ht_x9 := ht_x9.below hb
         have h_y1 := (ht_y1.rw m_vu_t).more (show _ ≤ 2000 by omega)
         clear hb
         clear v_0 v_1 v_2 v_3 v_4 v_5 u_0 u_1 u_2 u_3 u_4 u_5 t_0 t_1 t_2 t_3 t_4 t_5
         obtain ⟨v_0, v_1, v_2, v_3, v_4, v_5⟩ := k_v.facts
         obtain ⟨u_0, u_1, u_2, u_3, u_4, u_5⟩ := k_u.facts
         obtain ⟨t_0, t_1, t_2, t_3, t_4, t_5⟩ := k_t.facts)
      | (go_at_call 20
         have mk14 := mk13
         clear mk13
         refine (Mul_c v t _ _ _ (h_v) (h_t)).mono ?_
         rintro e w14 ⟨y2, rfl, ht_y2, hb⟩
         replace HB := HB.trans (hb.mono HB.size)
         replace k_v := k_v.below hb
         replace k_u := k_u.below hb
         replace k_t := k_t.below hb
         replace h_v := h_v.below hb
         replace h_u := h_u.below hb
         replace h_t := h_t.below hb
         replace h_x9 := h_x9.below hb
         replace ht_x9 := ht_x9.below hb
         replace h_y1 := h_y1.below hb
         replace ht_y1 := ht_y1.below hb
         have h_y2 := (ht_y2.rw p_vt).more (show _ ≤ 2000 by omega)
         clear hb
         clear v_0 v_1 v_2 v_3 v_4 v_5 u_0 u_1 u_2 u_3 u_4 u_5 t_0 t_1 t_2 t_3 t_4 t_5
         obtain ⟨v_0, v_1, v_2, v_3, v_4, v_5⟩ := k_v.facts
         obtain ⟨u_0, u_1, u_2, u_3, u_4, u_5⟩ := k_u.facts
         obtain ⟨t_0, t_1, t_2, t_3, t_4, t_5⟩ := k_t.facts)
      | (go_at_call 20
         have mk15 := mk14
         clear mk14
         refine (Mul_c u t _ _ _ (h_u) (h_t)).mono ?_
         rintro e w15 ⟨y3, rfl, ht_y3, hb⟩
         replace HB := HB.trans (hb.mono HB.size)
         replace k_v := k_v.below hb
         replace k_u := k_u.below hb
         replace k_t := k_t.below hb
         replace h_v := h_v.below hb
         replace h_u := h_u.below hb
         replace h_t := h_t.below hb
         replace h_x9 := h_x9.below hb
         replace ht_x9 := ht_x9.below hb
         replace h_y1 := h_y1.below hb
         replace ht_y1 := ht_y1.below hb
         replace h_y2 := h_y2.below hb
         replace ht_y2 := ht_y2.below hb
         have h_y3 := (ht_y3.rw p_ut).more (show _ ≤ 2000 by omega)
         clear hb
         clear v_0 v_1 v_2 v_3 v_4 v_5 u_0 u_1 u_2 u_3 u_4 u_5 t_0 t_1 t_2 t_3 t_4 t_5
         obtain ⟨v_0, v_1, v_2, v_3, v_4, v_5⟩ := k_v.facts
         obtain ⟨u_0, u_1, u_2, u_3, u_4, u_5⟩ := k_u.facts
         obtain ⟨t_0, t_1, t_2, t_3, t_4, t_5⟩ := k_t.facts)
      | (go_at_call 16
         have mk16 := mk15
         clear mk15
         refine (Add_c y2 y3 _ _ _ (h_y2) (h_y3)).mono ?_
         rintro e w16 ⟨y4, rfl, ht_y4, hb⟩
         replace HB := HB.trans (hb.mono HB.size)
         replace k_v := k_v.below hb
         replace k_u := k_u.below hb
         replace k_t := k_t.below hb
         replace h_v := h_v.below hb
         replace h_u := h_u.below hb
         replace h_t := h_t.below hb
         replace h_x9 := h_x9.below hb
         replace ht_x9 := ht_x9.below hb
         replace h_y1 := h_y1.below hb
         replace ht_y1 := ht_y1.below hb
         replace h_y2 := h_y2.below hb
         replace ht_y2 := ht_y2.below hb
         replace h_y3 := h_y3.below hb
         replace ht_y3 := ht_y3.below hb
         have h_y4 := (ht_y4.rw s_vt_ut).more (show _ ≤ 2000 by omega)
         clear hb
         clear v_0 v_1 v_2 v_3 v_4 v_5 u_0 u_1 u_2 u_3 u_4 u_5 t_0 t_1 t_2 t_3 t_4 t_5
         obtain ⟨v_0, v_1, v_2, v_3, v_4, v_5⟩ := k_v.facts
         obtain ⟨u_0, u_1, u_2, u_3, u_4, u_5⟩ := k_u.facts
         obtain ⟨t_0, t_1, t_2, t_3, t_4, t_5⟩ := k_t.facts)
      | (go_at_call 15
         have mk17 := mk16
         clear mk16
         refine (one_yes y1 y4 _ _ _ _ _ ht_y1 ht_y4 (Rat.add_mul _ _ _) (ht_y1.len m_vu_t (by omega)).1 (ht_y1.len m_vu_t (by omega)).2).mono ?_
         rintro e w17 ⟨rfl, hb⟩
         replace HB := HB.trans (hb.mono HB.size)
         replace k_v := k_v.below hb
         replace k_u := k_u.below hb
         replace k_t := k_t.below hb
         replace h_v := h_v.below hb
         replace h_u := h_u.below hb
         replace h_t := h_t.below hb
         replace h_x9 := h_x9.below hb
         replace ht_x9 := ht_x9.below hb
         replace h_y1 := h_y1.below hb
         replace ht_y1 := ht_y1.below hb
         replace h_y2 := h_y2.below hb
         replace ht_y2 := ht_y2.below hb
         replace h_y3 := h_y3.below hb
         replace ht_y3 := ht_y3.below hb
         replace h_y4 := h_y4.below hb
         replace ht_y4 := ht_y4.below hb
         clear hb
         clear v_0 v_1 v_2 v_3 v_4 v_5 u_0 u_1 u_2 u_3 u_4 u_5 t_0 t_1 t_2 t_3 t_4 t_5
         obtain ⟨v_0, v_1, v_2, v_3, v_4, v_5⟩ := k_v.facts
         obtain ⟨u_0, u_1, u_2, u_3, u_4, u_5⟩ := k_u.facts
         obtain ⟨t_0, t_1, t_2, t_3, t_4, t_5⟩ := k_t.facts
         clear h_x9 ht_x9 h_y1 ht_y1 h_y2 ht_y2 h_y3 ht_y3 h_y4 ht_y4)
      | (go_at_call 26
         have mk18 := mk17
         clear mk17
         refine (known_any _).mono ?_
         rintro e w18 ⟨rfl, hb⟩
         replace HB := HB.trans (hb.mono HB.size)
         replace k_v := k_v.below hb
         replace k_u := k_u.below hb
         replace k_t := k_t.below hb
         replace h_v := h_v.below hb
         replace h_u := h_u.below hb
         replace h_t := h_t.below hb
         clear hb
         clear v_0 v_1 v_2 v_3 v_4 v_5 u_0 u_1 u_2 u_3 u_4 u_5 t_0 t_1 t_2 t_3 t_4 t_5
         obtain ⟨v_0, v_1, v_2, v_3, v_4, v_5⟩ := k_v.facts
         obtain ⟨u_0, u_1, u_2, u_3, u_4, u_5⟩ := k_u.facts
         obtain ⟨t_0, t_1, t_2, t_3, t_4, t_5⟩ := k_t.facts))
  go_wp2
  go_ret
  exact ⟨rfl, HB⟩
end Go.Proofs.Ytadopepoicbahaa
