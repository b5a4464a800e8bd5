/-
  DecOrder: of two numbers, rounded, the greater one is not below the other: the walk of the law.
-/
import Derived.Test.YtcmomoalohibiaaDoorDecX
import Derived.Test.YtcmomoalohibiaaDoorRefP
namespace Go.Proofs.YtcmomoalohibiaaDoor
set_option maxRecDepth 20000
open Go.RowKit

set_option maxHeartbeats 800000 in
theorem DecOrder_big (v u : Rv) (i : Int) (w : World) (l_v : v.n ≤ 100000000000000 ∧ v.m ≤ 100000000000000) (l_u : u.n ≤ 100000000000000 ∧ u.m ≤ 100000000000000) (ht : Hid (16 < tot (pick v u u) 2)) :
    Calls Tryd.prog 5 #[.agg #[.bool v.s, .slice v.A v.n v.c, .slice v.B v.m v.d], .agg #[.bool u.s, .slice u.A u.n u.c, .slice u.B u.m u.d], .int .i64 i] w fun e w' => e = .returned (.bool true) ∧ Below w.heap.size w w' := by
  go_enter Tryd.func5, Tryd.ntmps5
  go_wp2_with fail
  generalize hW : ((w.alloc (.cells #[.bool v.s, .slice v.A v.n v.c, .slice v.B v.m v.d] 32)).alloc (.cells #[.bool u.s, .slice u.A u.n u.c, .slice u.B u.m u.d] 32)).alloc (.cells #[.bool v.s, .slice v.A v.n v.c, .slice v.B v.m v.d, .bool u.s, .slice u.A u.n u.c, .slice u.B u.m u.d] 32) = W
  obtain ⟨k_v, k_u, HB, hsW, hbig⟩ := open2b w v u W hW
  clear hW
  refine (big_any (pick v u u) (w.heap.size + 1 + 1) 2 _ (by omega) ?_ hbig).mono ?_
  · intro i hi
    have : i = 0 ∨ i = 1 := by omega
    rcases this with rfl | rfl <;> simp only [pick] <;> omega
  rintro e w0 ⟨rfl, hb⟩
  replace HB := HB.trans (hb.mono (by omega))
  clear hb hbig hsW
  rw [decide_eq_true ht.out]
  go_wp2
  go_ret
  exact ⟨rfl, HB⟩

set_option maxHeartbeats 1600000 in
theorem DecOrder_more (v u : Rv) (i : Int) (w : World) (hlen : Hid (tot (pick v u u) 2 ≤ 16)) (hmore : 8 < v.n + u.n + v.m + u.m) (l_v : v.n ≤ 100000000000000 ∧ v.m ≤ 100000000000000) (l_u : u.n ≤ 100000000000000 ∧ u.m ≤ 100000000000000) :
    Calls Tryd.prog 5 #[.agg #[.bool v.s, .slice v.A v.n v.c, .slice v.B v.m v.d], .agg #[.bool u.s, .slice u.A u.n u.c, .slice u.B u.m u.d], .int .i64 i] w fun e w' => e = .returned (.bool true) ∧ Below w.heap.size w w' := by
  go_enter Tryd.func5, Tryd.ntmps5
  go_wp2_with fail
  generalize hW : ((w.alloc (.cells #[.bool v.s, .slice v.A v.n v.c, .slice v.B v.m v.d] 32)).alloc (.cells #[.bool u.s, .slice u.A u.n u.c, .slice u.B u.m u.d] 32)).alloc (.cells #[.bool v.s, .slice v.A v.n v.c, .slice v.B v.m v.d, .bool u.s, .slice u.A u.n u.c, .slice u.B u.m u.d] 32) = W
  obtain ⟨k_v, k_u, HB, hsW, hbig⟩ := open2b w v u W hW
  clear hW
  refine (big_any (pick v u u) (w.heap.size + 1 + 1) 2 _ (by omega) ?_ hbig).mono ?_
  · intro i hi
    have : i = 0 ∨ i = 1 := by omega
    rcases this with rfl | rfl <;> simp only [pick] <;> omega
  rintro e w0 ⟨rfl, hb⟩
  replace HB := HB.trans (hb.mono (by omega))
  replace k_v := k_v.below hb
  replace k_u := k_u.below hb
  clear hb hbig hsW
  rw [decide_eq_false (show ¬ 16 < tot (pick v u u) 2 by have := hlen.out; omega)]
  obtain ⟨v_0, v_1, v_2, v_3, v_4, v_5⟩ := k_v.facts
  obtain ⟨u_0, u_1, u_2, u_3, u_4, u_5⟩ := k_u.facts
  have HM : (8 : Int) < v.n + u.n + v.m + u.m := by omega
  clear hmore
  go_wp2_with fail
  go_ret
  exact ⟨rfl, HB⟩

set_option maxHeartbeats 1600000 in
theorem DecOrder_low (v u : Rv) (i : Int) (w : World) (hlen : Hid (tot (pick v u u) 2 ≤ 16)) (hmore : v.n + u.n + v.m + u.m ≤ 8) (hi : i < 0) (l_v : v.n ≤ 100000000000000 ∧ v.m ≤ 100000000000000) (l_u : u.n ≤ 100000000000000 ∧ u.m ≤ 100000000000000) :
    Calls Tryd.prog 5 #[.agg #[.bool v.s, .slice v.A v.n v.c, .slice v.B v.m v.d], .agg #[.bool u.s, .slice u.A u.n u.c, .slice u.B u.m u.d], .int .i64 i] w fun e w' => e = .returned (.bool true) ∧ Below w.heap.size w w' := by
  go_enter Tryd.func5, Tryd.ntmps5
  go_wp2_with fail
  generalize hW : ((w.alloc (.cells #[.bool v.s, .slice v.A v.n v.c, .slice v.B v.m v.d] 32)).alloc (.cells #[.bool u.s, .slice u.A u.n u.c, .slice u.B u.m u.d] 32)).alloc (.cells #[.bool v.s, .slice v.A v.n v.c, .slice v.B v.m v.d, .bool u.s, .slice u.A u.n u.c, .slice u.B u.m u.d] 32) = W
  obtain ⟨k_v, k_u, HB, hsW, hbig⟩ := open2b w v u W hW
  clear hW
  refine (big_any (pick v u u) (w.heap.size + 1 + 1) 2 _ (by omega) ?_ hbig).mono ?_
  · intro i hi
    have : i = 0 ∨ i = 1 := by omega
    rcases this with rfl | rfl <;> simp only [pick] <;> omega
  rintro e w0 ⟨rfl, hb⟩
  replace HB := HB.trans (hb.mono (by omega))
  replace k_v := k_v.below hb
  replace k_u := k_u.below hb
  clear hb hbig hsW
  rw [decide_eq_false (show ¬ 16 < tot (pick v u u) 2 by have := hlen.out; omega)]
  obtain ⟨v_0, v_1, v_2, v_3, v_4, v_5⟩ := k_v.facts
  obtain ⟨u_0, u_1, u_2, u_3, u_4, u_5⟩ := k_u.facts
  have HM : (v.n : Int) + u.n + v.m + u.m ≤ 8 := by omega
  skip
  clear hmore
  go_wp2_with fail
  go_ret
  exact ⟨rfl, HB⟩

set_option maxHeartbeats 1600000 in
theorem DecOrder_high (v u : Rv) (i : Int) (w : World) (hlen : Hid (tot (pick v u u) 2 ≤ 16)) (hmore : v.n + u.n + v.m + u.m ≤ 8) (hi : 9 < i) (l_v : v.n ≤ 100000000000000 ∧ v.m ≤ 100000000000000) (l_u : u.n ≤ 100000000000000 ∧ u.m ≤ 100000000000000) :
    Calls Tryd.prog 5 #[.agg #[.bool v.s, .slice v.A v.n v.c, .slice v.B v.m v.d], .agg #[.bool u.s, .slice u.A u.n u.c, .slice u.B u.m u.d], .int .i64 i] w fun e w' => e = .returned (.bool true) ∧ Below w.heap.size w w' := by
  go_enter Tryd.func5, Tryd.ntmps5
  go_wp2_with fail
  generalize hW : ((w.alloc (.cells #[.bool v.s, .slice v.A v.n v.c, .slice v.B v.m v.d] 32)).alloc (.cells #[.bool u.s, .slice u.A u.n u.c, .slice u.B u.m u.d] 32)).alloc (.cells #[.bool v.s, .slice v.A v.n v.c, .slice v.B v.m v.d, .bool u.s, .slice u.A u.n u.c, .slice u.B u.m u.d] 32) = W
  obtain ⟨k_v, k_u, HB, hsW, hbig⟩ := open2b w v u W hW
  clear hW
  refine (big_any (pick v u u) (w.heap.size + 1 + 1) 2 _ (by omega) ?_ hbig).mono ?_
  · intro i hi
    have : i = 0 ∨ i = 1 := by omega
    rcases this with rfl | rfl <;> simp only [pick] <;> omega
  rintro e w0 ⟨rfl, hb⟩
  replace HB := HB.trans (hb.mono (by omega))
  replace k_v := k_v.below hb
  replace k_u := k_u.below hb
  clear hb hbig hsW
  rw [decide_eq_false (show ¬ 16 < tot (pick v u u) 2 by have := hlen.out; omega)]
  obtain ⟨v_0, v_1, v_2, v_3, v_4, v_5⟩ := k_v.facts
  obtain ⟨u_0, u_1, u_2, u_3, u_4, u_5⟩ := k_u.facts
  have HM : (v.n : Int) + u.n + v.m + u.m ≤ 8 := by omega
  have hi2 : ¬ i < 0 := by omega
  clear hmore
  go_wp2_with fail
  go_ret
  exact ⟨rfl, HB⟩

set_option maxRecDepth 100000 in
set_option maxHeartbeats 8000000 in
theorem DecOrder_few (v u : Rv) (r s : Rat) (n : Nat) (K J : Int) (w : World) (HK : Hid (sgn (r - s) = K)) (HJ : Hid (sgn (rnd r n - rnd s n) = J)) (HC : Hid ((K = -1 ∧ J = -1) ∨ (K = -1 ∧ J = 0) ∨ (K = 0 ∧ J = 0) ∨ (K = 1 ∧ J = 0) ∨ (K = 1 ∧ J = 1))) (hn : n ≤ 9) (hlen : Hid (tot (pick v u u) 2 ≤ 16)) (hmore : v.n + u.n + v.m + u.m ≤ 8) (l_v : v.n ≤ 100000000000000 ∧ v.m ≤ 100000000000000) (l_u : u.n ≤ 100000000000000 ∧ u.m ≤ 100000000000000) (h_v : Rw w v r 8) (h_u : Rw w u s 8) (ht : Tb w) :
    Calls Tryd.prog 5 #[.agg #[.bool v.s, .slice v.A v.n v.c, .slice v.B v.m v.d], .agg #[.bool u.s, .slice u.A u.n u.c, .slice u.B u.m u.d], .int .i64 (n : Int)] w fun e w' => e = .returned (.bool true) ∧ Below w.heap.size w w' := by
  have z_v := h_v.sz (by omega)
  have z_u := h_u.sz (by omega)
  have zz : Hid (∀ (x : Rv) (W : World) (lo : Nat) (q : Rat), Sz q 8 → Rt W lo x (rnd q n) → Rw W x (rnd q n) 29) := fun x W lo q hq h => (h.rw (rnd_sz hq hn)).more (by omega)
  have HN : Hid (hsc (n : Int) = n) := hsc_of hn
  have ni : (n : Int) ≤ 9 := by omega
  go_enter Tryd.func5, Tryd.ntmps5
  go_wp2_with fail
  generalize hW : ((w.alloc (.cells #[.bool v.s, .slice v.A v.n v.c, .slice v.B v.m v.d] 32)).alloc (.cells #[.bool u.s, .slice u.A u.n u.c, .slice u.B u.m u.d] 32)).alloc (.cells #[.bool v.s, .slice v.A v.n v.c, .slice v.B v.m v.d, .bool u.s, .slice u.A u.n u.c, .slice u.B u.m u.d] 32) = W
  obtain ⟨k_v, k_u, HB, hsW, hbig⟩ := open2b w v u W hW
  clear hW
  refine (big_any (pick v u u) (w.heap.size + 1 + 1) 2 _ (by omega) ?_ hbig).mono ?_
  · intro i hi
    have : i = 0 ∨ i = 1 := by omega
    rcases this with rfl | rfl <;> simp only [pick] <;> omega
  rintro e w0 ⟨rfl, hb⟩
  replace HB := HB.trans (hb.mono (by omega))
  replace k_v := k_v.below hb
  replace k_u := k_u.below hb
  clear hb hbig hsW
  rw [decide_eq_false (show ¬ 16 < tot (pick v u u) 2 by have := hlen.out; omega)]
  obtain ⟨v_0, v_1, v_2, v_3, v_4, v_5⟩ := k_v.facts
  obtain ⟨u_0, u_1, u_2, u_3, u_4, u_5⟩ := k_u.facts
  have HM : (v.n : Int) + u.n + v.m + u.m ≤ 8 := by omega
  have b1 := h_v.numLe
  have b2 := h_v.denLe
  have b3 := h_u.numLe
  have b4 := h_u.denLe
  clear hmore
  replace h_v := h_v.below HB
  replace h_u := h_u.below HB
  replace ht := ht.below HB
  go_wp2_with fail
  clear b1 b2 b3 b4 HM
  clear v_0 v_1 v_2 v_3 v_4 v_5 u_0 u_1 u_2 u_3 u_4 u_5
  replace k_v := k_v.drew
  replace k_u := k_u.drew
  replace HB := HB.drew
  replace h_v := h_v.drew
  replace h_u := h_u.drew
  replace ht := ht.drewn
  obtain ⟨v_0, v_1, v_2, v_3, v_4, v_5⟩ := k_v.facts
  obtain ⟨u_0, u_1, u_2, u_3, u_4, u_5⟩ := k_u.facts
  have mk0 : Hid True := trivial
  go_region_held3 (fun w' => w'.cell? ⟨w.heap.size, 0, none⟩ = some (.bool v.s) ∧ w'.cell? ⟨w.heap.size, 1, none⟩ = some (.slice v.A v.n v.c) ∧ w'.cell? ⟨w.heap.size, 2, none⟩ = some (.slice v.B v.m v.d) ∧ w'.cell? ⟨w.heap.size + 1, 0, none⟩ = some (.bool u.s) ∧ w'.cell? ⟨w.heap.size + 1, 1, none⟩ = some (.slice u.A u.n u.c) ∧ w'.cell? ⟨w.heap.size + 1, 2, none⟩ = some (.slice u.B u.m u.d)) (go_keep)
      (first
      | (go_at_call 14
         have mk1 := mk0
         clear mk0
         refine (rCmp2_v v u r s K _ (h_v.more (by omega)) (h_u.more (by omega)) HK.out).mono ?_
         rintro e w1 ⟨rfl, hb⟩
         replace HB := HB.trans (hb.mono HB.size)
         replace k_v := k_v.below hb
         replace k_u := k_u.below hb
         replace h_v := h_v.below hb
         replace h_u := h_u.below hb
         replace ht := ht.below hb
         clear hb
         clear v_0 v_1 v_2 v_3 v_4 v_5 u_0 u_1 u_2 u_3 u_4 u_5
         obtain ⟨v_0, v_1, v_2, v_3, v_4, v_5⟩ := k_v.facts
         obtain ⟨u_0, u_1, u_2, u_3, u_4, u_5⟩ := k_u.facts)
      | (go_at_call 15
         have mk2 := mk1
         clear mk1
         refine (Round_any v r (n : Int) _ (by omega) (h_v.more (by omega))).mono ?_
         rintro e w2 ⟨x1, rfl, ht_x1, hb⟩
         replace HB := HB.trans (hb.mono HB.size)
         replace k_v := k_v.below hb
         replace k_u := k_u.below hb
         replace h_v := h_v.below hb
         replace h_u := h_u.below hb
         replace ht := ht.below hb
         rw [HN.out] at ht_x1
         clear hb
         clear v_0 v_1 v_2 v_3 v_4 v_5 u_0 u_1 u_2 u_3 u_4 u_5
         obtain ⟨v_0, v_1, v_2, v_3, v_4, v_5⟩ := k_v.facts
         obtain ⟨u_0, u_1, u_2, u_3, u_4, u_5⟩ := k_u.facts)
      | (go_at_call 15
         have mk3 := mk2
         clear mk2
         refine (Round_any u s (n : Int) _ (by omega) (h_u.more (by omega))).mono ?_
         rintro e w3 ⟨x2, rfl, ht_x2, hb⟩
         replace HB := HB.trans (hb.mono HB.size)
         replace k_v := k_v.below hb
         replace k_u := k_u.below hb
         replace h_v := h_v.below hb
         replace h_u := h_u.below hb
         replace ht := ht.below hb
         replace ht_x1 := ht_x1.below hb
         rw [HN.out] at ht_x2
         clear hb
         clear v_0 v_1 v_2 v_3 v_4 v_5 u_0 u_1 u_2 u_3 u_4 u_5
         obtain ⟨v_0, v_1, v_2, v_3, v_4, v_5⟩ := k_v.facts
         obtain ⟨u_0, u_1, u_2, u_3, u_4, u_5⟩ := k_u.facts)
      | (go_at_call 14
         have mk4 := mk3
         clear mk3
         refine (rCmp2_v x1 x2 _ _ J _ (zz.out _ _ _ _ z_v ht_x1) (zz.out _ _ _ _ z_u ht_x2) HJ.out).mono ?_
         rintro e w4 ⟨rfl, hb⟩
         replace HB := HB.trans (hb.mono HB.size)
         replace k_v := k_v.below hb
         replace k_u := k_u.below hb
         replace h_v := h_v.below hb
         replace h_u := h_u.below hb
         replace ht := ht.below hb
         replace ht_x1 := ht_x1.below hb
         replace ht_x2 := ht_x2.below hb
         clear hb
         clear v_0 v_1 v_2 v_3 v_4 v_5 u_0 u_1 u_2 u_3 u_4 u_5
         obtain ⟨v_0, v_1, v_2, v_3, v_4, v_5⟩ := k_v.facts
         obtain ⟨u_0, u_1, u_2, u_3, u_4, u_5⟩ := k_u.facts))
  clear v_0 v_1 v_2 v_3 v_4 v_5 u_0 u_1 u_2 u_3 u_4 u_5
  have fin : ∀ k' j' : Int, True := fun _ _ => trivial
  clear fin
  rcases HC.out with ⟨rfl, rfl⟩ | ⟨rfl, rfl⟩ | ⟨rfl, rfl⟩ | ⟨rfl, rfl⟩ | ⟨rfl, rfl⟩
  · go_wp2_with fail
    refine (known3_any _ ht).mono ?_
    rintro e w9 ⟨rfl, hb⟩
    replace HB := HB.trans (hb.mono HB.size)
    clear hb
    go_wp2
    go_ret
    exact ⟨rfl, HB⟩
  · go_wp2_with fail
    refine (known3_any _ ht).mono ?_
    rintro e w9 ⟨rfl, hb⟩
    replace HB := HB.trans (hb.mono HB.size)
    clear hb
    go_wp2
    go_ret
    exact ⟨rfl, HB⟩
  · go_wp2_with fail
    refine (known3_any _ ht).mono ?_
    rintro e w9 ⟨rfl, hb⟩
    replace HB := HB.trans (hb.mono HB.size)
    clear hb
    go_wp2
    go_ret
    exact ⟨rfl, HB⟩
  · go_wp2_with fail
    refine (known3_any _ ht).mono ?_
    rintro e w9 ⟨rfl, hb⟩
    replace HB := HB.trans (hb.mono HB.size)
    clear hb
    go_wp2
    go_ret
    exact ⟨rfl, HB⟩
  · go_wp2_with fail
    refine (known3_any _ ht).mono ?_
    rintro e w9 ⟨rfl, hb⟩
    replace HB := HB.trans (hb.mono HB.size)
    clear hb
    go_wp2
    go_ret
    exact ⟨rfl, HB⟩

theorem DecOrder_any (v u : Rv) (i : Int) (w : World) (l_v : v.n ≤ 100000000000000 ∧ v.m ≤ 100000000000000) (l_u : u.n ≤ 100000000000000 ∧ u.m ≤ 100000000000000) (c_v : v.n ≤ v.c ∧ v.m ≤ v.d) (c_u : u.n ≤ u.c ∧ u.m ≤ u.d)
    (r_v : ∃ a b, Row w 0 v.A v.n a ∧ Row w 0 v.B v.m b) (r_u : ∃ a b, Row w 0 u.A u.n a ∧ Row w 0 u.B u.m b) (ht : Tb w) :
    Calls Tryd.prog 5 #[.agg #[.bool v.s, .slice v.A v.n v.c, .slice v.B v.m v.d], .agg #[.bool u.s, .slice u.A u.n u.c, .slice u.B u.m u.d], .int .i64 i] w fun e w' => e = .returned (.bool true) ∧ Below w.heap.size w w' := by
  by_cases h1 : 16 < tot (pick v u u) 2
  · exact DecOrder_big v u i w l_v l_u h1
  · by_cases h2 : 8 < v.n + u.n + v.m + u.m
    · exact DecOrder_more v u i w (Nat.le_of_not_lt h1) h2 l_v l_u
    · by_cases h3 : i < 0
      · exact DecOrder_low v u i w (Nat.le_of_not_lt h1) (by omega) h3 l_v l_u
      · by_cases h4 : 9 < i
        · exact DecOrder_high v u i w (Nat.le_of_not_lt h1) (by omega) h4 l_v l_u
        · obtain ⟨a, b, ra, rb⟩ := r_v
          obtain ⟨c, d, rc, rd⟩ := r_u
          obtain ⟨n, rfl⟩ := Int.eq_ofNat_of_zero_le (show 0 ≤ i by omega)
          obtain ⟨K, J, hK, hJ, hC⟩ := cmp_case (rn v.s (val a) (val b)) (rn u.s (val c) (val d)) n
          exact DecOrder_few v u _ _ n K J w hK hJ hC (by omega) (Nat.le_of_not_lt h1) (by omega) l_v l_u ⟨c_v.1, c_v.2, by omega, by omega, a, b, ra, rb, rfl⟩ ⟨c_u.1, c_u.2, by omega, by omega, c, d, rc, rd, rfl⟩ ht
end Go.Proofs.YtcmomoalohibiaaDoor
