/-
  FltOrder: the walk of the law over small rationals.
-/
import Derived.Test.YtmehlbdlllkcgaaFltCmp
import Derived.Test.YtmehlbdlllkcgaaRefP
namespace Go.Proofs.Ytmehlbdlllkcgaa
set_option maxRecDepth 20000
open Go.RowKit

theorem order_tof {r s : Rat} {p : Nat} (hr : Sz r p) (hs : Sz s p) (hp : p ≤ 120) : FloatKind.f64.format.order (tof r) (tof s) = some (ordI (wv r) (wv s)) := by
  obtain ⟨s1, e1, m1, P1⟩ := parts_of (tof_lt hr hp)
  obtain ⟨s2, e2, m2, P2⟩ := parts_of (tof_lt hs hp)
  obtain ⟨a1, b1⟩ := tof_val P1 hr hp
  obtain ⟨a2, b2⟩ := tof_val P2 hs hp
  have := order_is P1 P2 b1 b2
  rw [a1, a2] at this
  exact this
theorem ordI_le {x y : Int} (h : x ≤ y) : ordI x y = .lt ∨ ordI x y = .eq := by
  unfold ordI
  by_cases h1 : x < y
  · exact .inl (if_pos h1)
  · exact .inr (by rw [if_neg h1, if_pos (by omega)])
theorem ordI_ge {x y : Int} (h : y ≤ x) : ordI x y = .gt ∨ ordI x y = .eq := by
  unfold ordI
  by_cases h1 : x = y
  · exact .inr (by rw [if_neg (by omega), if_pos h1])
  · exact .inl (by rw [if_neg (by omega), if_neg h1])
/-- What the law asks of the two numbers, by their comparison. -/
theorem order_case {r s : Rat} {p : Nat} (hr : Sz r p) (hs : Sz s p) (hp : p ≤ 120) :
    (sgn (r - s) = -1 ∧ (FloatKind.f64.format.order (tof r) (tof s) = some .lt ∨ FloatKind.f64.format.order (tof r) (tof s) = some .eq)) ∨
    (sgn (r - s) = 0 ∧ FloatKind.f64.format.order (tof r) (tof s) = some .eq) ∨
    (sgn (r - s) = 1 ∧ (FloatKind.f64.format.order (tof r) (tof s) = some .gt ∨ FloatKind.f64.format.order (tof r) (tof s) = some .eq)) := by
  rw [order_tof hr hs hp]
  by_cases h0 : r - s = 0
  · have he : r = s := by
      have : r - s + s = 0 + s := by rw [h0]
      rwa [Rat.sub_add_cancel, Rat.zero_add] at this
    subst he
    refine .inr (.inl ⟨by rw [h0]; rfl, ?_⟩)
    unfold ordI
    rw [if_neg (by omega), if_pos rfl]
  · by_cases h1 : (r - s).num < 0
    · have hle : r ≤ s := by
        rcases Rat.le_total (a := r) (b := s) with h2 | h2
        · exact h2
        · have h3 := Rat.num_nonneg.2 ((Rat.le_iff_sub_nonneg s r).1 h2)
          omega
      refine .inl ⟨by unfold sgn; rw [if_neg h0, if_pos h1], ?_⟩
      rcases ordI_le (wv_mono hle hr hs hp) with h | h <;> rw [h]
      · exact .inl rfl
      · exact .inr rfl
    · have hle : s ≤ r := by
        exact (Rat.le_iff_sub_nonneg s r).2 (Rat.num_nonneg.1 (by omega))
      refine .inr (.inr ⟨by unfold sgn; rw [if_neg h0, if_neg h1], ?_⟩)
      rcases ordI_ge (wv_mono hle hs hr hp) with h | h <;> rw [h]
      · exact .inl rfl
      · exact .inr rfl

set_option maxRecDepth 100000 in
set_option maxHeartbeats 8000000 in
theorem FltOrder_small (v u : Rv) (r s : Rat) (w : World) (hlen : v.n + u.n + v.m + u.m ≤ 10) (h_v : Rw w v r 10) (h_u : Rw w u s 10) :
    Calls Try.prog 10 #[.agg #[.bool v.s, .slice v.A v.n v.c, .slice v.B v.m v.d], .agg #[.bool u.s, .slice u.A u.n u.c, .slice u.B u.m u.d]] w fun e w' => e = .returned (.bool true) ∧ Below w.heap.size w w' := by
  have z_r := h_v.sz (by omega)
  have z_s := h_u.sz (by omega)
  have hcase := Lib.hid (order_case z_r z_s (by omega))
  clear z_r z_s
  go_enter Try.func10, Try.ntmps10
  go_wp2_with fail
  generalize hW : ((w.alloc (.cells #[.bool v.s, .slice v.A v.n v.c, .slice v.B v.m v.d] 24)).alloc (.cells #[.bool u.s, .slice u.A u.n u.c, .slice u.B u.m u.d] 24)).alloc (.cells #[.bool v.s, .slice v.A v.n v.c, .slice v.B v.m v.d, .bool u.s, .slice u.A u.n u.c, .slice u.B u.m u.d] 24) = W
  obtain ⟨k_v, k_u, HB, hsW, hbig⟩ := open2b w v u W hW
  clear hW
  refine (big4_any (pick v u u) (w.heap.size + 1 + 1) 2 _ (by omega) ?_ hbig).mono ?_
  · intro i hi
    have : i = 0 ∨ i = 1 := by omega
    rcases this with rfl | rfl <;> simp only [pick] <;> omega
  rintro e w0 ⟨rfl, hb⟩
  rw [decide_eq_false (show ¬ 16 < tot (pick v u u) 2 by simp only [tot, pick]; omega)]
  replace HB := HB.trans (hb.mono (by omega))
  replace k_v := k_v.below hb
  replace k_u := k_u.below hb
  clear hb hbig hsW
  have hv := (h_v.below HB).drew
  have hu := (h_u.below HB).drew
  obtain ⟨v_0, v_1, v_2, v_3, v_4, v_5⟩ := k_v.facts
  obtain ⟨u_0, u_1, u_2, u_3, u_4, u_5⟩ := k_u.facts
  clear h_v h_u
  go_wp2_with fail
  clear v_0 v_1 v_2 v_3 v_4 v_5 u_0 u_1 u_2 u_3 u_4 u_5 hlen
  go_cut [5, 6, 7] (fun vk va vb wx => vk = .int .i64 (sgn (r - s)) ∧ va = .float .f64 (tof r) ∧ vb = .float .f64 (tof s) ∧ Hid (Below w.heap.size w wx))
  case first =>
    obtain ⟨v_0, v_1, v_2, v_3, v_4, v_5⟩ := k_v.facts
    obtain ⟨u_0, u_1, u_2, u_3, u_4, u_5⟩ := k_u.facts
    replace k_v := k_v.drew
    replace k_u := k_u.drew
    replace HB := HB.drew
    have mk0 : Hid True := trivial
    go_region_held3 (fun w' => w'.cell? ⟨w.heap.size, 0, none⟩ = some (.bool v.s) ∧ w'.cell? ⟨w.heap.size, 1, none⟩ = some (.slice v.A v.n v.c) ∧ w'.cell? ⟨w.heap.size, 2, none⟩ = some (.slice v.B v.m v.d) ∧ w'.cell? ⟨w.heap.size + 1, 0, none⟩ = some (.bool u.s) ∧ w'.cell? ⟨w.heap.size + 1, 1, none⟩ = some (.slice u.A u.n u.c) ∧ w'.cell? ⟨w.heap.size + 1, 2, none⟩ = some (.slice u.B u.m u.d)) (go_keep)
      (first
      | (go_at_call 43
         have mk1 := mk0
         clear mk0
         refine (rCmp2_c v u r s _ (hv.more (by omega)) (hu.more (by omega))).mono ?_
         rintro e w1 ⟨rfl, hb⟩
         replace HB := HB.trans (hb.mono HB.size)
         replace k_v := k_v.below hb
         replace k_u := k_u.below hb
         replace hv := hv.below hb
         replace hu := hu.below hb
         clear hb v_0 v_1 v_2 v_3 v_4 v_5 u_0 u_1 u_2 u_3 u_4 u_5
         obtain ⟨v_0, v_1, v_2, v_3, v_4, v_5⟩ := k_v.facts
         obtain ⟨u_0, u_1, u_2, u_3, u_4, u_5⟩ := k_u.facts)
      | (go_at_call 40
         have mk2 := mk1
         clear mk1
         refine (To_c v r _ (hv.more (by omega))).mono ?_
         rintro e w2 ⟨rfl, hb⟩
         replace HB := HB.trans (hb.mono HB.size)
         replace k_v := k_v.below hb
         replace k_u := k_u.below hb
         replace hu := hu.below hb
         clear hb v_0 v_1 v_2 v_3 v_4 v_5 u_0 u_1 u_2 u_3 u_4 u_5
         obtain ⟨v_0, v_1, v_2, v_3, v_4, v_5⟩ := k_v.facts
         obtain ⟨u_0, u_1, u_2, u_3, u_4, u_5⟩ := k_u.facts)
      | (go_at_call 40
         clear mk2
         refine (To_c u s _ (hu.more (by omega))).mono ?_
         rintro e w3 ⟨rfl, hb⟩
         replace HB := HB.trans (hb.mono HB.size)
         replace k_v := k_v.below hb
         replace k_u := k_u.below hb
         clear hb v_0 v_1 v_2 v_3 v_4 v_5 u_0 u_1 u_2 u_3 u_4 u_5
         obtain ⟨v_0, v_1, v_2, v_3, v_4, v_5⟩ := k_v.facts
         obtain ⟨u_0, u_1, u_2, u_3, u_4, u_5⟩ := k_u.facts))
    all_goals (
      go_wp2_with fail
      go_meet
      exact ⟨rfl, rfl, rfl, Lib.hid HB⟩)
  obtain ⟨rfl, rfl, rfl, HC⟩ := hcut
  clear HB k_v hv k_u hu
  have HB := HC.out
  clear HC
  have hc := hcase.out
  clear hcase
  generalize tof r = a at *
  generalize tof s = b at *
  generalize sgn (r - s) = k at *
  rcases hc with ⟨rfl, hO | hO⟩ | ⟨rfl, hO⟩ | ⟨rfl, hO | hO⟩
  all_goals
    go_wp2_with fail
    refine (known4_any _).mono ?_
    rintro r w2 ⟨rfl, hb2⟩
    replace HB := HB.trans (hb2.mono HB.size)
    clear hb2
    go_wp2
    go_ret
    exact ⟨rfl, HB⟩
end Go.Proofs.Ytmehlbdlllkcgaa
