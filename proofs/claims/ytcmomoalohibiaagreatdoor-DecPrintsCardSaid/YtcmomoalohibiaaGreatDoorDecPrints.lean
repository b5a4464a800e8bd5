/-
  DecPrints: the walk of the law.
-/
import Derived.Test.YtcmomoalohibiaaGreatDoorDecR
namespace Go.Proofs.YtcmomoalohibiaaGreatDoor
set_option maxRecDepth 20000
open Go.RowKit

set_option maxRecDepth 100000 in
set_option maxHeartbeats 4000000 in
theorem DecPrints_many (v : Rv) (i : Int) (w : World) (h1 : v.n ≤ 100000000000000) (h2 : v.m ≤ 100000000000000) (hlen : 16 < v.n + v.m) :
    Calls Tryz.prog 4 #[.agg #[.bool v.s, .slice v.A v.n v.c, .slice v.B v.m v.d], .int .i64 i] w fun e w' => e = .returned (.bool true) ∧ Below w.heap.size w w' := by
  go_enter Tryz.func4, Tryz.ntmps4
  go_wp2_with fail
  generalize hW : (w.alloc (.cells #[.bool v.s, .slice v.A v.n v.c, .slice v.B v.m v.d] 24)).alloc (.cells #[.bool v.s, .slice v.A v.n v.c, .slice v.B v.m v.d] 24) = W
  obtain ⟨k_v, HB, hsW, hbig⟩ := open1b w v W hW
  clear hW
  refine (big_any (pick v v v) (w.heap.size + 1) 1 _ (by omega) ?_ hbig).mono ?_
  · intro i hi
    have : i = 0 := by omega
    subst this
    simp only [pick]; omega
  rintro e w0 ⟨rfl, hb⟩
  rw [decide_eq_true (show 16 < tot (pick v v v) 1 by simp only [tot, pick]; omega)]
  replace HB := HB.trans (hb.mono (by omega))
  clear hb hbig hsW k_v h1 h2 hlen
  go_wp2
  go_ret
  exact ⟨rfl, HB⟩

set_option maxRecDepth 100000 in
set_option maxHeartbeats 16000000 in
theorem DecPrints_few (v : Rv) (r : Rat) (i : Int) (w : World) (hi : Hid (-9223372036854775808 ≤ i ∧ i ≤ 9223372036854775807)) (h0 : Rw w v r 16) (hlen : v.n + v.m ≤ 16) (ht : Tb w) :
    Calls Tryz.prog 4 #[.agg #[.bool v.s, .slice v.A v.n v.c, .slice v.B v.m v.d], .int .i64 i] w fun e w' => e = .returned (.bool true) ∧ Below w.heap.size w w' := by
  obtain ⟨F, hF⟩ := str_data (dpr r)
  obtain ⟨G, hG⟩ := str_data (fxd r (hsc i))
  obtain ⟨E, b, hE⟩ := exW_ex r
  have HF := Lib.hid hF
  have HG := Lib.hid hG
  have HE := Lib.hid hE
  have sz := (h0.more (show 16 ≤ 400 by omega)).sz (by omega)
  have hk9 := hsc_le i
  have zr : Hid (∀ (z : Rv) (w : World) (lo : Nat), Rt w lo z (rnd r (hsc i)) → z.n ≤ 100000 ∧ z.m ≤ 100000) := fun z w lo h => rnd_len sz (hsc_le i) h
  clear hF hG hE sz hk9
  go_enter Tryz.func4, Tryz.ntmps4
  go_wp2_with fail
  generalize hW : (w.alloc (.cells #[.bool v.s, .slice v.A v.n v.c, .slice v.B v.m v.d] 24)).alloc (.cells #[.bool v.s, .slice v.A v.n v.c, .slice v.B v.m v.d] 24) = W
  obtain ⟨k_v, HB, hsW, hbig⟩ := open1b w v W hW
  clear hW
  refine (big_any (pick v v v) (w.heap.size + 1) 1 _ (by omega) ?_ hbig).mono ?_
  · intro i hi
    have : i = 0 := by omega
    subst this
    simp only [pick]; omega
  rintro e w0 ⟨rfl, hb⟩
  rw [decide_eq_false (show ¬ 16 < tot (pick v v v) 1 by simp only [tot, pick]; omega)]
  replace HB := HB.trans (hb.mono (by omega))
  replace k_v := k_v.below hb
  have h_v := (h0.below HB).more (show 16 ≤ 400 by omega)
  have g_v := (h0.below HB).more (show 16 ≤ 40 by omega)
  replace ht := ht.below HB
  clear hb hbig hsW hlen h0
  obtain ⟨v_0, v_1, v_2, v_3, v_4, v_5⟩ := k_v.facts
  go_wp2_with fail
  refine (dExact_v E b v r _ HE.out h_v ht).mono ?_
  rintro e w1 ⟨rfl, hb⟩
  replace HB := HB.trans (hb.mono HB.size)
  replace k_v := k_v.below hb
  replace h_v := h_v.below hb
  replace g_v := g_v.below hb
  replace ht := ht.below hb
  clear hb
  clear v_0 v_1 v_2 v_3 v_4 v_5
  obtain ⟨v_0, v_1, v_2, v_3, v_4, v_5⟩ := k_v.facts
  go_wp2_with fail
  refine (rExact_v E b v r _ HE.out g_v).mono ?_
  rintro e w2 ⟨rfl, hb⟩
  replace HB := HB.trans (hb.mono HB.size)
  replace k_v := k_v.below hb
  replace h_v := h_v.below hb
  replace g_v := g_v.below hb
  replace ht := ht.below hb
  clear hb
  clear v_0 v_1 v_2 v_3 v_4 v_5
  obtain ⟨v_0, v_1, v_2, v_3, v_4, v_5⟩ := k_v.facts
  go_wp2_with fail
  clear v_0 v_1 v_2 v_3 v_4 v_5
  replace k_v := k_v.drew
  replace HB := HB.drew
  replace h_v := h_v.drew
  replace g_v := g_v.drew
  replace ht := ht.drewn
  obtain ⟨v_0, v_1, v_2, v_3, v_4, v_5⟩ := k_v.facts
  have mk0 : Hid True := trivial
  go_region_held3 (fun w' => w'.cell? ⟨w.heap.size, 0, none⟩ = some (.bool v.s) ∧ w'.cell? ⟨w.heap.size, 1, none⟩ = some (.slice v.A v.n v.c) ∧ w'.cell? ⟨w.heap.size, 2, none⟩ = some (.slice v.B v.m v.d)) (go_keep)
      (first
      | (go_at_call 18
         have mk1 := mk0
         clear mk0
         refine (dPrint_any F v r _ HF.out h_v ht).mono ?_
         rintro e w3 ⟨rfl, hb⟩
         replace HB := HB.trans (hb.mono HB.size)
         replace k_v := k_v.below hb
         replace h_v := h_v.below hb
         replace g_v := g_v.below hb
         replace ht := ht.below hb
         clear hb
         clear v_0 v_1 v_2 v_3 v_4 v_5
         obtain ⟨v_0, v_1, v_2, v_3, v_4, v_5⟩ := k_v.facts)
      | (go_at_call 19
         have mk2 := mk1
         clear mk1
         refine (rdPrint_any F v r _ HF.out (g_v.more (by omega))).mono ?_
         rintro e w4 ⟨rfl, hb⟩
         replace HB := HB.trans (hb.mono HB.size)
         replace k_v := k_v.below hb
         replace h_v := h_v.below hb
         replace g_v := g_v.below hb
         replace ht := ht.below hb
         clear hb
         clear v_0 v_1 v_2 v_3 v_4 v_5
         obtain ⟨v_0, v_1, v_2, v_3, v_4, v_5⟩ := k_v.facts)
      | (go_at_call 20
         have mk3 := mk2
         clear mk2
         refine (Round_any v r i _ hi.out h_v).mono ?_
         rintro e w5 ⟨x1, rfl, ht_x1, hb⟩
         replace HB := HB.trans (hb.mono HB.size)
         replace k_v := k_v.below hb
         replace h_v := h_v.below hb
         replace g_v := g_v.below hb
         replace ht := ht.below hb
         clear hb
         clear v_0 v_1 v_2 v_3 v_4 v_5
         obtain ⟨v_0, v_1, v_2, v_3, v_4, v_5⟩ := k_v.facts)
      | (go_at_call 21
         have mk4 := mk3
         clear mk3
         refine (rRound_any v r i _ hi.out g_v).mono ?_
         rintro e w6 ⟨x2, rfl, ht_x2, hb⟩
         replace HB := HB.trans (hb.mono HB.size)
         replace k_v := k_v.below hb
         replace h_v := h_v.below hb
         replace g_v := g_v.below hb
         replace ht := ht.below hb
         replace ht_x1 := ht_x1.below hb
         clear hb
         clear v_0 v_1 v_2 v_3 v_4 v_5
         obtain ⟨v_0, v_1, v_2, v_3, v_4, v_5⟩ := k_v.facts)
      | (go_at_call 13
         have mk5 := mk4
         clear mk4
         refine (one_yes x1 x2 _ _ _ _ _ ht_x1 ht_x2 rfl (zr.out _ _ _ ht_x1).1 (zr.out _ _ _ ht_x1).2).mono ?_
         rintro e w7 ⟨rfl, hb⟩
         replace HB := HB.trans (hb.mono HB.size)
         replace k_v := k_v.below hb
         replace h_v := h_v.below hb
         replace g_v := g_v.below hb
         replace ht := ht.below hb
         replace ht_x1 := ht_x1.below hb
         replace ht_x2 := ht_x2.below hb
         clear hb
         clear ht_x1 ht_x2
         clear v_0 v_1 v_2 v_3 v_4 v_5
         obtain ⟨v_0, v_1, v_2, v_3, v_4, v_5⟩ := k_v.facts)
      | (go_at_call 22
         have mk6 := mk5
         clear mk5
         refine (Fixed_any G v r i _ HG.out hi.out h_v ht).mono ?_
         rintro e w8 ⟨rfl, hb⟩
         replace HB := HB.trans (hb.mono HB.size)
         replace k_v := k_v.below hb
         replace h_v := h_v.below hb
         replace g_v := g_v.below hb
         replace ht := ht.below hb
         clear hb
         clear v_0 v_1 v_2 v_3 v_4 v_5
         obtain ⟨v_0, v_1, v_2, v_3, v_4, v_5⟩ := k_v.facts)
      | (go_at_call 23
         have mk7 := mk6
         clear mk6
         refine (rFixed_any G v r i _ HG.out hi.out g_v).mono ?_
         rintro e w9 ⟨rfl, hb⟩
         replace HB := HB.trans (hb.mono HB.size)
         replace k_v := k_v.below hb
         replace h_v := h_v.below hb
         replace g_v := g_v.below hb
         replace ht := ht.below hb
         clear hb
         clear v_0 v_1 v_2 v_3 v_4 v_5
         obtain ⟨v_0, v_1, v_2, v_3, v_4, v_5⟩ := k_v.facts)
      | (go_at_call 14
         have mk8 := mk7
         clear mk7
         refine (known3_any _ ht).mono ?_
         rintro e w10 ⟨rfl, hb⟩
         replace HB := HB.trans (hb.mono HB.size)
         replace k_v := k_v.below hb
         replace h_v := h_v.below hb
         replace g_v := g_v.below hb
         replace ht := ht.below hb
         clear hb
         clear v_0 v_1 v_2 v_3 v_4 v_5
         obtain ⟨v_0, v_1, v_2, v_3, v_4, v_5⟩ := k_v.facts))
  clear v_0 v_1 v_2 v_3 v_4 v_5
  go_wp2
  go_ret
  exact ⟨rfl, HB⟩

theorem DecPrints_any (v : Rv) (i : Int) (w : World) (hi : -9223372036854775808 ≤ i ∧ i ≤ 9223372036854775807) (hc : v.n ≤ v.c ∧ v.m ≤ v.d) (hl : v.n ≤ 100000000000000 ∧ v.m ≤ 100000000000000) (hr : ∃ a b, Row w 0 v.A v.n a ∧ Row w 0 v.B v.m b) (ht : Tb w) :
    Calls Tryz.prog 4 #[.agg #[.bool v.s, .slice v.A v.n v.c, .slice v.B v.m v.d], .int .i64 i] w fun e w' => e = .returned (.bool true) ∧ Below w.heap.size w w' := by
  by_cases h : 16 < v.n + v.m
  · exact DecPrints_many v i w hl.1 hl.2 h
  · obtain ⟨a, b, ra, rb⟩ := hr
    exact DecPrints_few v _ i w hi ⟨hc.1, hc.2, by omega, by omega, a, b, ra, rb, rfl⟩ (by omega) ht
end Go.Proofs.YtcmomoalohibiaaGreatDoor
