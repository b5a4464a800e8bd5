/-
  DecRounds: what is rounded is near, and is itself when it is rounded again: the walk of the law.
-/
import Derived.Test.YtcmomoalohibiaaGreatDoorDecZ
namespace Go.Proofs.YtcmomoalohibiaaGreatDoor
set_option maxRecDepth 20000
open Go.RowKit

/-- What the loop keeps: u is one over ten, k times. -/
structure RdAt (w wx : World) (bx b k : Nat) (v x z : Rv) (rr : Rat) : Prop where
  cv : C3 wx w.heap.size (.bool v.s) (.slice v.A v.n v.c) (.slice v.B v.m v.d)
  cx : C3 wx bx (.bool x.s) (.slice x.A x.n x.c) (.slice x.B x.m x.d)
  cz : C3 wx b (.bool z.s) (.slice z.A z.n z.c) (.slice z.B z.m z.d)
  nx : Rt wx 0 x rr
  nz : Rt wx 0 z (rn false 1 (10 ^ k))
  below : Below w.heap.size w wx
  lv : w.heap.size < b
  lx : bx < b

set_option maxRecDepth 100000 in
set_option maxHeartbeats 4000000 in
theorem DecRounds_many (v : Rv) (i : Int) (w : World) (h1 : v.n ≤ 100000000000000) (h2 : v.m ≤ 100000000000000) (hlen : 16 < v.n + v.m) :
    Calls Tryz.prog 6 #[.agg #[.bool v.s, .slice v.A v.n v.c, .slice v.B v.m v.d], .int .i64 i] w fun e w' => e = .returned (.bool true) ∧ Below w.heap.size w w' := by
  go_enter Tryz.func6, Tryz.ntmps6
  go_wp2_with fail
  generalize hW : (w.alloc (.cells #[.bool v.s, .slice v.A v.n v.c, .slice v.B v.m v.d] 24)).alloc (.cells #[.bool v.s, .slice v.A v.n v.c, .slice v.B v.m v.d] 24) = W
  obtain ⟨k_v, HB, hsW, hbig⟩ := open1b w v W hW
  clear hW
  refine (big_any (pick v v v) (w.heap.size + 1) 1 _ (by omega) ?_ hbig).mono ?_
  · intro i hi
    have : i = 0 := by omega
    subst this
    simp only [pick]; omega
  rintro e w0 ⟨rfl, hb⟩
  rw [decide_eq_true (show 16 < tot (pick v v v) 1 by simp only [tot, pick]; omega)]
  replace HB := HB.trans (hb.mono (by omega))
  clear hb hbig hsW k_v h1 h2 hlen
  go_wp2
  go_ret
  exact ⟨rfl, HB⟩

set_option maxRecDepth 100000 in
set_option maxHeartbeats 4000000 in
theorem DecRounds_low (v : Rv) (i : Int) (w : World) (h : i < 0) (hlen : v.n + v.m ≤ 16) :
    Calls Tryz.prog 6 #[.agg #[.bool v.s, .slice v.A v.n v.c, .slice v.B v.m v.d], .int .i64 i] w fun e w' => e = .returned (.bool true) ∧ Below w.heap.size w w' := by
  go_enter Tryz.func6, Tryz.ntmps6
  go_wp2_with fail
  generalize hW : (w.alloc (.cells #[.bool v.s, .slice v.A v.n v.c, .slice v.B v.m v.d] 24)).alloc (.cells #[.bool v.s, .slice v.A v.n v.c, .slice v.B v.m v.d] 24) = W
  obtain ⟨k_v, HB, hsW, hbig⟩ := open1b w v W hW
  clear hW
  refine (big_any (pick v v v) (w.heap.size + 1) 1 _ (by omega) ?_ hbig).mono ?_
  · intro i hi
    have : i = 0 := by omega
    subst this
    simp only [pick]; omega
  rintro e w0 ⟨rfl, hb⟩
  rw [decide_eq_false (show ¬ 16 < tot (pick v v v) 1 by simp only [tot, pick]; omega)]
  replace HB := HB.trans (hb.mono (by omega))
  clear hb hbig hsW k_v hlen
  go_wp2
  go_ret
  exact ⟨rfl, HB⟩

set_option maxRecDepth 100000 in
set_option maxHeartbeats 4000000 in
theorem DecRounds_high (v : Rv) (i : Int) (w : World) (h0 : ¬ i < 0) (h : 9 < i) (hlen : v.n + v.m ≤ 16) :
    Calls Tryz.prog 6 #[.agg #[.bool v.s, .slice v.A v.n v.c, .slice v.B v.m v.d], .int .i64 i] w fun e w' => e = .returned (.bool true) ∧ Below w.heap.size w w' := by
  go_enter Tryz.func6, Tryz.ntmps6
  go_wp2_with fail
  generalize hW : (w.alloc (.cells #[.bool v.s, .slice v.A v.n v.c, .slice v.B v.m v.d] 24)).alloc (.cells #[.bool v.s, .slice v.A v.n v.c, .slice v.B v.m v.d] 24) = W
  obtain ⟨k_v, HB, hsW, hbig⟩ := open1b w v W hW
  clear hW
  refine (big_any (pick v v v) (w.heap.size + 1) 1 _ (by omega) ?_ hbig).mono ?_
  · intro i hi
    have : i = 0 := by omega
    subst this
    simp only [pick]; omega
  rintro e w0 ⟨rfl, hb⟩
  rw [decide_eq_false (show ¬ 16 < tot (pick v v v) 1 by simp only [tot, pick]; omega)]
  replace HB := HB.trans (hb.mono (by omega))
  clear hb hbig hsW k_v hlen
  go_wp2
  go_ret
  exact ⟨rfl, HB⟩

set_option maxRecDepth 100000 in
set_option maxHeartbeats 16000000 in
theorem DecRounds_in (v : Rv) (r : Rat) (n : Nat) (w : World) (hn : n ≤ 9) (h0 : Rw w v r 16) (hlen : v.n + v.m ≤ 16) (ht : Tb w) (hm : Mx w) :
    Calls Tryz.prog 6 #[.agg #[.bool v.s, .slice v.A v.n v.c, .slice v.B v.m v.d], .int .i64 (n : Int)] w fun e w' => e = .returned (.bool true) ∧ Below w.heap.size w w' := by
  have sz := h0.sz (by omega)
  obtain ⟨A, K, hA, hK, hK0, sA, sAA, sD⟩ := twice sz hn
  obtain ⟨G, hG⟩ := str_data (fxd r (hsc (n : Int)))
  have hsc1 := hsc_of hn
  have HG := Lib.hid hG
  have hT : Txt G (rnd r n) := by rw [hsc1] at hG; exact txt_fxd hG hn sz
  have hR := rnd_sz sz hn
  have hAG := rnd_again r n
  obtain ⟨rr, hrr⟩ : ∃ rr, rnd r n = rr := ⟨_, rfl⟩
  rw [hrr] at hT hR hAG hA sD
  have HRR := Lib.hid hrr
  have HSC := Lib.hid hsc1
  have TG := Lib.hid hT
  have HR := Lib.hid hR
  have HAG := Lib.hid hAG
  have HA := Lib.hid hA
  have HK := Lib.hid hK
  have SAA := Lib.hid sAA
  have SD := Lib.hid sD
  have zr : Hid (∀ (z : Rv) (w : World) (lo : Nat), Rt w lo z rr → z.n ≤ 100000 ∧ z.m ≤ 100000) := fun z w lo h => h.len hR (by omega)
  have TBW : Hid (∀ W, Below w.heap.size w W → Tb W) := fun W hb => ht.below hb
  have MXW : Hid (∀ W, Below w.heap.size w W → Mx W) := fun W hb => hm.below hb
  have HVW : Hid (∀ W, Below w.heap.size w W → Rw W v r 16) := fun W hb => h0.below hb
  have ni : (n : Int) ≤ 9 := by omega
  have ni0 : (0 : Int) ≤ (n : Int) := by omega
  clear hG hsc1 hT hR hAG hrr hA hK sA sAA sD sz ht hm
  go_enter Tryz.func6, Tryz.ntmps6
  go_wp2_with fail
  generalize hW : (w.alloc (.cells #[.bool v.s, .slice v.A v.n v.c, .slice v.B v.m v.d] 24)).alloc (.cells #[.bool v.s, .slice v.A v.n v.c, .slice v.B v.m v.d] 24) = W
  obtain ⟨k_v, HB, hsW, hbig⟩ := open1b w v W hW
  clear hW
  refine (big_any (pick v v v) (w.heap.size + 1) 1 _ (by omega) ?_ hbig).mono ?_
  · intro i hi
    have : i = 0 := by omega
    subst this
    simp only [pick]; omega
  rintro e w0 ⟨rfl, hb⟩
  rw [decide_eq_false (show ¬ 16 < tot (pick v v v) 1 by simp only [tot, pick]; omega)]
  replace HB := HB.trans (hb.mono (by omega))
  replace k_v := k_v.below hb
  have h_v := h0.below HB
  clear hb hbig hsW hlen h0
  obtain ⟨v_0, v_1, v_2, v_3, v_4, v_5⟩ := k_v.facts
  go_wp2_with fail
  refine (Round_any v r (n : Int) _ (by omega) (h_v.more (by omega))).mono ?_
  rintro e w1 ⟨x, rfl, ht_x, hb⟩
  replace HB := HB.trans (hb.mono HB.size)
  replace k_v := k_v.below hb
  replace h_v := h_v.below hb
  rw [HSC.out, HRR.out] at ht_x
  clear hb
  clear v_0 v_1 v_2 v_3 v_4 v_5
  obtain ⟨v_0, v_1, v_2, v_3, v_4, v_5⟩ := k_v.facts
  have k_x := C3.new w1 (.bool x.s) (.slice x.A x.n x.c) (.slice x.B x.m x.d)
  have hbn := (Below.refl w1.heap.size w1).alloc (Nat.le_refl _) (.cells #[.bool x.s, .slice x.A x.n x.c, .slice x.B x.m x.d] 24)
  replace HB := HB.trans (hbn.mono HB.size)
  replace k_v := k_v.below hbn
  replace h_v := h_v.below hbn
  replace ht_x := ht_x.below hbn
  clear hbn v_0 v_1 v_2 v_3 v_4 v_5
  obtain ⟨v_0, v_1, v_2, v_3, v_4, v_5⟩ := k_v.facts
  obtain ⟨x_0, x_1, x_2, x_3, x_4, x_5⟩ := k_x.facts
  go_wp2_with fail
  generalize hWx : w1.alloc (.cells #[.bool x.s, .slice x.A x.n x.c, .slice x.B x.m x.d] 24) = Wg1 at *
  clear hWx
  refine (rInt_c 1 _ (by omega)).mono ?_
  rintro e w2 ⟨u, rfl, ht_u, hb⟩
  replace HB := HB.trans (hb.mono HB.size)
  replace k_v := k_v.below hb
  replace k_x := k_x.below hb
  replace h_v := h_v.below hb
  replace ht_x := ht_x.below hb
  rw [one_rn] at ht_u
  clear hb
  clear v_0 v_1 v_2 v_3 v_4 v_5 x_0 x_1 x_2 x_3 x_4 x_5
  obtain ⟨v_0, v_1, v_2, v_3, v_4, v_5⟩ := k_v.facts
  obtain ⟨x_0, x_1, x_2, x_3, x_4, x_5⟩ := k_x.facts
  have lv := k_v.lt
  have lx := k_x.lt
  have k_u := C3.new w2 (.bool u.s) (.slice u.A u.n u.c) (.slice u.B u.m u.d)
  have hbn := below_alloc w2 (.cells #[.bool u.s, .slice u.A u.n u.c, .slice u.B u.m u.d] 24)
  replace HB := HB.trans (hbn.mono HB.size)
  replace k_v := k_v.below hbn
  replace k_x := k_x.below hbn
  have HST : Hid (RdAt w (w2.alloc (.cells #[.bool u.s, .slice u.A u.n u.c, .slice u.B u.m u.d] 24)) w1.heap.size w2.heap.size 0 v x u rr) := ⟨k_v, k_x, k_u, (ht_x.below hbn).lower (Nat.zero_le _), (ht_u.below hbn).lower (Nat.zero_le _), HB, lv, lx⟩
  clear v_0 v_1 v_2 v_3 v_4 v_5 x_0 x_1 x_2 x_3 x_4 x_5
  obtain ⟨u_0, u_1, u_2, u_3, u_4, u_5⟩ := k_u.facts
  clear hbn HB k_v k_x h_v ht_x ht_u lv lx
  go_wp2
  clear u_0 u_1 u_2 u_3 u_4 u_5 k_u
  generalize w2.alloc (.cells #[.bool u.s, .slice u.A u.n u.c, .slice u.B u.m u.d] 24) = W1 at *
  generalize w2.heap.size = b at *
  generalize w1.heap.size = bx at *
  go_loopw [7] (fun iv wr => ∃ (k : Nat) (z : Rv), k ≤ n ∧ iv = .int .i64 (k : Int) ∧ Hid (RdAt w wr bx b k v x z rr)) (fun iv _ => n - (intOf iv).toNat)
  case atStart => exact ⟨0, u, Nat.zero_le _, rfl, HST⟩
  case round =>
    obtain ⟨k, z, hk, rfl, HAt⟩ := hrel
    clear HST
    by_cases hkn : k < n
    · obtain ⟨k_v, k_x, k_z, ht_x, ht_z, HB, lv, lx⟩ := HAt.out
      have h_z := ((ht_z.rw (tens_sz (s := false) (n := 1) (by omega) (show k ≤ 45 by omega))).more (show 6 ≤ 29 by omega)).drew
      obtain ⟨z_0, z_1, z_2, z_3, z_4, z_5⟩ := k_z.facts
      go_wp2_with fail
      go_region_with (first
        | (go_at_call 25
           refine (rInt_c 10 _ (by omega)).mono ?_
           rintro e w1' ⟨t, rfl, ht_t, hb1⟩
           clear z_0 z_1 z_2 z_3 z_4 z_5
           obtain ⟨z_0, z_1, z_2, z_3, z_4, z_5⟩ := (k_z.drew.below hb1).facts)
        | (go_at_call 26
           refine (rDiv_c z t _ _ _ (h_z.below hb1) ((ht_t.rw ten_sz).more (by omega)) ten_nz).mono ?_
           rintro e w2' ⟨q, rfl, ht_q, hb2⟩
           clear z_0 z_1 z_2 z_3 z_4 z_5
           obtain ⟨z_0, z_1, z_2, z_3, z_4, z_5⟩ := ((k_z.drew.below hb1).below hb2).facts))
      all_goals (
        rw [over_ten] at ht_q
        have HB2 := (HB.trans ((below_drewN' wr.heap.size wr 1).mono HB.size)).trans ((hb1.mono HB.size).trans (hb2.mono (Nat.le_trans HB.size (show wr.heap.size ≤ _ from by have := hb1.size; have e : wr.drew.heap.size = wr.heap.size := rfl; omega))))
        have k_q := (k_z.drew.below hb1).below hb2
        have HA2 : Hid (RdAt w (put3 w2' b (.bool q.s) (.slice q.A q.n q.c) (.slice q.B q.m q.d)) bx b (k + 1) v x q rr) := ⟨((k_v.drew.below hb1).below hb2).putOther (by omega) _ _ _, ((k_x.drew.below hb1).below hb2).putOther (by omega) _ _ _, k_q.put _ _ _, ((ht_x.drewn.below hb1).below hb2).putC k_q _ _ _, (ht_q.lower (Nat.zero_le _)).putC k_q _ _ _, HB2.trans (put3_below (by omega) _ _ _), lv, lx⟩
        clear HB2 HB ht_q k_q ht_t ht_z h_z hb1 hb2
        go_wp2
        go_roundw
        case rel => exact ⟨k + 1, q, by omega, by go_num, HA2⟩
        case measure => simp [intOf]; omega)
    · have e : k = n := by omega
      subst e
      obtain ⟨k_v, k_x, k_z, ht_x, ht_z, HB, lv, lx⟩ := HAt.out
      have ht := TBW.out wr HB
      have hm := MXW.out wr HB
      have h_v := HVW.out wr HB
      obtain ⟨v_0, v_1, v_2, v_3, v_4, v_5⟩ := k_v.facts
      obtain ⟨x_0, x_1, x_2, x_3, x_4, x_5⟩ := k_x.facts
      obtain ⟨z_0, z_1, z_2, z_3, z_4, z_5⟩ := k_z.facts
      clear HAt
      go_wp2_with fail
      refine (rSub_c x v rr r _ ((ht_x.rw HR.out).more (by omega)) (h_v.more (by omega))).mono ?_
      rintro e w1 ⟨d, rfl, ht_d, hb⟩
      replace HB := HB.trans (hb.mono HB.size)
      replace k_v := k_v.below hb
      replace k_x := k_x.below hb
      replace k_z := k_z.below hb
      replace h_v := h_v.below hb
      replace ht := ht.below hb
      replace hm := hm.below hb
      replace ht_x := ht_x.below hb
      replace ht_z := ht_z.below hb
      clear hb
      clear v_0 v_1 v_2 v_3 v_4 v_5 x_0 x_1 x_2 x_3 x_4 x_5 z_0 z_1 z_2 z_3 z_4 z_5
      obtain ⟨v_0, v_1, v_2, v_3, v_4, v_5⟩ := k_v.facts
      obtain ⟨x_0, x_1, x_2, x_3, x_4, x_5⟩ := k_x.facts
      obtain ⟨z_0, z_1, z_2, z_3, z_4, z_5⟩ := k_z.facts
      have k_d := C3.new w1 (.bool false) (.slice d.A d.n d.c) (.slice d.B d.m d.d)
      have hbn := (Below.refl w1.heap.size w1).alloc (Nat.le_refl _) (.cells #[.bool false, .slice d.A d.n d.c, .slice d.B d.m d.d] 24)
      replace HB := HB.trans (hbn.mono HB.size)
      replace k_v := k_v.below hbn
      replace k_x := k_x.below hbn
      replace k_z := k_z.below hbn
      replace h_v := h_v.below hbn
      replace ht := ht.below hbn
      replace hm := hm.below hbn
      replace ht_x := ht_x.below hbn
      replace ht_z := ht_z.below hbn
      replace ht_d := ht_d.below hbn
      clear hbn v_0 v_1 v_2 v_3 v_4 v_5 x_0 x_1 x_2 x_3 x_4 x_5 z_0 z_1 z_2 z_3 z_4 z_5
      obtain ⟨v_0, v_1, v_2, v_3, v_4, v_5⟩ := k_v.facts
      obtain ⟨x_0, x_1, x_2, x_3, x_4, x_5⟩ := k_x.facts
      obtain ⟨z_0, z_1, z_2, z_3, z_4, z_5⟩ := k_z.facts
      obtain ⟨d_0, d_1, d_2, d_3, d_4, d_5⟩ := k_d.facts
      go_wp2_with fail
      generalize hWx : w1.alloc (.cells #[.bool false, .slice d.A d.n d.c, .slice d.B d.m d.d] 24) = Wg1 at *
      clear hWx
      refine (Fixed_any G v r (k : Int) _ HG.out (by omega) (h_v.more (by omega)) ht).mono ?_
      rintro e w2 ⟨rfl, hb⟩
      replace HB := HB.trans (hb.mono HB.size)
      replace k_v := k_v.below hb
      replace k_x := k_x.below hb
      replace k_z := k_z.below hb
      replace k_d := k_d.below hb
      replace h_v := h_v.below hb
      replace ht := ht.below hb
      replace hm := hm.below hb
      replace ht_x := ht_x.below hb
      replace ht_z := ht_z.below hb
      replace ht_d := ht_d.below hb
      clear hb
      clear v_0 v_1 v_2 v_3 v_4 v_5 x_0 x_1 x_2 x_3 x_4 x_5 z_0 z_1 z_2 z_3 z_4 z_5 d_0 d_1 d_2 d_3 d_4 d_5
      obtain ⟨v_0, v_1, v_2, v_3, v_4, v_5⟩ := k_v.facts
      obtain ⟨x_0, x_1, x_2, x_3, x_4, x_5⟩ := k_x.facts
      obtain ⟨z_0, z_1, z_2, z_3, z_4, z_5⟩ := k_z.facts
      obtain ⟨d_0, d_1, d_2, d_3, d_4, d_5⟩ := k_d.facts
      go_wp2_with fail
      refine (dParse_v G rr _ TG.out hm).mono ?_
      rintro e w3 ⟨y, rfl, ht_y, hb⟩
      replace HB := HB.trans (hb.mono HB.size)
      replace k_v := k_v.below hb
      replace k_x := k_x.below hb
      replace k_z := k_z.below hb
      replace k_d := k_d.below hb
      replace h_v := h_v.below hb
      replace ht := ht.below hb
      replace hm := hm.below hb
      replace ht_x := ht_x.below hb
      replace ht_z := ht_z.below hb
      replace ht_d := ht_d.below hb
      clear hb
      clear v_0 v_1 v_2 v_3 v_4 v_5 x_0 x_1 x_2 x_3 x_4 x_5 z_0 z_1 z_2 z_3 z_4 z_5 d_0 d_1 d_2 d_3 d_4 d_5
      obtain ⟨v_0, v_1, v_2, v_3, v_4, v_5⟩ := k_v.facts
      obtain ⟨x_0, x_1, x_2, x_3, x_4, x_5⟩ := k_x.facts
      obtain ⟨z_0, z_1, z_2, z_3, z_4, z_5⟩ := k_z.facts
      obtain ⟨d_0, d_1, d_2, d_3, d_4, d_5⟩ := k_d.facts
      have k_y := C3.new w3 (.bool y.s) (.slice y.A y.n y.c) (.slice y.B y.m y.d)
      have hbn := (Below.refl w3.heap.size w3).alloc (Nat.le_refl _) (.cells #[.bool y.s, .slice y.A y.n y.c, .slice y.B y.m y.d] 24)
      replace HB := HB.trans (hbn.mono HB.size)
      replace k_v := k_v.below hbn
      replace k_x := k_x.below hbn
      replace k_z := k_z.below hbn
      replace k_d := k_d.below hbn
      replace h_v := h_v.below hbn
      replace ht := ht.below hbn
      replace hm := hm.below hbn
      replace ht_x := ht_x.below hbn
      replace ht_z := ht_z.below hbn
      replace ht_d := ht_d.below hbn
      replace ht_y := ht_y.below hbn
      clear hbn v_0 v_1 v_2 v_3 v_4 v_5 x_0 x_1 x_2 x_3 x_4 x_5 z_0 z_1 z_2 z_3 z_4 z_5 d_0 d_1 d_2 d_3 d_4 d_5
      obtain ⟨v_0, v_1, v_2, v_3, v_4, v_5⟩ := k_v.facts
      obtain ⟨x_0, x_1, x_2, x_3, x_4, x_5⟩ := k_x.facts
      obtain ⟨z_0, z_1, z_2, z_3, z_4, z_5⟩ := k_z.facts
      obtain ⟨d_0, d_1, d_2, d_3, d_4, d_5⟩ := k_d.facts
      obtain ⟨y_0, y_1, y_2, y_3, y_4, y_5⟩ := k_y.facts
      go_wp2_with fail
      generalize hWx : w3.alloc (.cells #[.bool y.s, .slice y.A y.n y.c, .slice y.B y.m y.d] 24) = Wg3 at *
      clear hWx
      have h_d := (ht_d.abs SD.out HA.out).more (show 16 + 2 ≤ 29 by omega)
      clear hm ht_d h_v
      clear v_0 v_1 v_2 v_3 v_4 v_5 x_0 x_1 x_2 x_3 x_4 x_5 z_0 z_1 z_2 z_3 z_4 z_5 d_0 d_1 d_2 d_3 d_4 d_5 y_0 y_1 y_2 y_3 y_4 y_5
      replace k_v := k_v.drew
      replace k_x := k_x.drew
      replace k_z := k_z.drew
      replace k_d := k_d.drew
      replace k_y := k_y.drew
      replace HB := HB.drew
      replace ht := ht.drewn
      replace ht_x := ht_x.drewn
      replace ht_z := ht_z.drewn
      replace ht_y := ht_y.drewn
      replace h_d := h_d.drew
      obtain ⟨v_0, v_1, v_2, v_3, v_4, v_5⟩ := k_v.facts
      obtain ⟨x_0, x_1, x_2, x_3, x_4, x_5⟩ := k_x.facts
      obtain ⟨z_0, z_1, z_2, z_3, z_4, z_5⟩ := k_z.facts
      obtain ⟨d_0, d_1, d_2, d_3, d_4, d_5⟩ := k_d.facts
      obtain ⟨y_0, y_1, y_2, y_3, y_4, y_5⟩ := k_y.facts
      have mk0 : Hid True := trivial
      go_region_held3 (fun w' => w'.cell? ⟨w.heap.size, 0, none⟩ = some (.bool v.s) ∧ w'.cell? ⟨w.heap.size, 1, none⟩ = some (.slice v.A v.n v.c) ∧ w'.cell? ⟨w.heap.size, 2, none⟩ = some (.slice v.B v.m v.d) ∧ w'.cell? ⟨bx, 0, none⟩ = some (.bool x.s) ∧ w'.cell? ⟨bx, 1, none⟩ = some (.slice x.A x.n x.c) ∧ w'.cell? ⟨bx, 2, none⟩ = some (.slice x.B x.m x.d) ∧ w'.cell? ⟨b, 0, none⟩ = some (.bool z.s) ∧ w'.cell? ⟨b, 1, none⟩ = some (.slice z.A z.n z.c) ∧ w'.cell? ⟨b, 2, none⟩ = some (.slice z.B z.m z.d) ∧ w'.cell? ⟨w1.heap.size, 0, none⟩ = some (.bool false) ∧ w'.cell? ⟨w1.heap.size, 1, none⟩ = some (.slice d.A d.n d.c) ∧ w'.cell? ⟨w1.heap.size, 2, none⟩ = some (.slice d.B d.m d.d) ∧ w'.cell? ⟨w3.heap.size, 0, none⟩ = some (.bool y.s) ∧ w'.cell? ⟨w3.heap.size, 1, none⟩ = some (.slice y.A y.n y.c) ∧ w'.cell? ⟨w3.heap.size, 2, none⟩ = some (.slice y.B y.m y.d)) (go_keep)
          (first
          | (go_at_call 29
             have mk1 := mk0
             clear mk0
             refine (rAdd_c ⟨false, d.A, d.n, d.c, d.B, d.m, d.d⟩ ⟨false, d.A, d.n, d.c, d.B, d.m, d.d⟩ A A _ h_d h_d).mono ?_
             rintro e w4 ⟨s, rfl, ht_s, hb⟩
             replace HB := HB.trans (hb.mono HB.size)
             replace k_v := k_v.below hb
             replace k_x := k_x.below hb
             replace k_z := k_z.below hb
             replace k_d := k_d.below hb
             replace k_y := k_y.below hb
             replace ht := ht.below hb
             replace ht_x := ht_x.below hb
             replace ht_z := ht_z.below hb
             replace ht_y := ht_y.below hb
             replace h_d := h_d.below hb
             clear hb
             clear v_0 v_1 v_2 v_3 v_4 v_5 x_0 x_1 x_2 x_3 x_4 x_5 z_0 z_1 z_2 z_3 z_4 z_5 d_0 d_1 d_2 d_3 d_4 d_5 y_0 y_1 y_2 y_3 y_4 y_5
             obtain ⟨v_0, v_1, v_2, v_3, v_4, v_5⟩ := k_v.facts
             obtain ⟨x_0, x_1, x_2, x_3, x_4, x_5⟩ := k_x.facts
             obtain ⟨z_0, z_1, z_2, z_3, z_4, z_5⟩ := k_z.facts
             obtain ⟨d_0, d_1, d_2, d_3, d_4, d_5⟩ := k_d.facts
             obtain ⟨y_0, y_1, y_2, y_3, y_4, y_5⟩ := k_y.facts)
          | (go_at_call 28
             have mk2 := mk1
             clear mk1
             refine (rCmp2_v s z (A + A) (rn false 1 (10 ^ k)) K _ ((ht_s.rw SAA.out).more (by omega)) ((ht_z.rw (tens_sz (s := false) (n := 1) (by omega) (show k ≤ 45 by omega))).more (by omega)) HK.out).mono ?_
             rintro e w5 ⟨rfl, hb⟩
             replace HB := HB.trans (hb.mono HB.size)
             replace k_v := k_v.below hb
             replace k_x := k_x.below hb
             replace k_z := k_z.below hb
             replace k_d := k_d.below hb
             replace k_y := k_y.below hb
             replace ht := ht.below hb
             replace ht_x := ht_x.below hb
             replace ht_z := ht_z.below hb
             replace ht_y := ht_y.below hb
             replace h_d := h_d.below hb
             replace ht_s := ht_s.below hb
             clear hb
             clear ht_s
             clear v_0 v_1 v_2 v_3 v_4 v_5 x_0 x_1 x_2 x_3 x_4 x_5 z_0 z_1 z_2 z_3 z_4 z_5 d_0 d_1 d_2 d_3 d_4 d_5 y_0 y_1 y_2 y_3 y_4 y_5
             obtain ⟨v_0, v_1, v_2, v_3, v_4, v_5⟩ := k_v.facts
             obtain ⟨x_0, x_1, x_2, x_3, x_4, x_5⟩ := k_x.facts
             obtain ⟨z_0, z_1, z_2, z_3, z_4, z_5⟩ := k_z.facts
             obtain ⟨d_0, d_1, d_2, d_3, d_4, d_5⟩ := k_d.facts
             obtain ⟨y_0, y_1, y_2, y_3, y_4, y_5⟩ := k_y.facts)
          | (go_at_call 20
             have mk3 := mk2
             clear mk2
             refine (Round_any x rr (k : Int) _ (by omega) ((ht_x.rw HR.out).more (by omega))).mono ?_
             rintro e w6 ⟨x2, rfl, ht_x2, hb⟩
             replace HB := HB.trans (hb.mono HB.size)
             replace k_v := k_v.below hb
             replace k_x := k_x.below hb
             replace k_z := k_z.below hb
             replace k_d := k_d.below hb
             replace k_y := k_y.below hb
             replace ht := ht.below hb
             replace ht_x := ht_x.below hb
             replace ht_z := ht_z.below hb
             replace ht_y := ht_y.below hb
             replace h_d := h_d.below hb
             rw [HSC.out, HAG.out] at ht_x2
             clear hb
             clear v_0 v_1 v_2 v_3 v_4 v_5 x_0 x_1 x_2 x_3 x_4 x_5 z_0 z_1 z_2 z_3 z_4 z_5 d_0 d_1 d_2 d_3 d_4 d_5 y_0 y_1 y_2 y_3 y_4 y_5
             obtain ⟨v_0, v_1, v_2, v_3, v_4, v_5⟩ := k_v.facts
             obtain ⟨x_0, x_1, x_2, x_3, x_4, x_5⟩ := k_x.facts
             obtain ⟨z_0, z_1, z_2, z_3, z_4, z_5⟩ := k_z.facts
             obtain ⟨d_0, d_1, d_2, d_3, d_4, d_5⟩ := k_d.facts
             obtain ⟨y_0, y_1, y_2, y_3, y_4, y_5⟩ := k_y.facts)
          | (go_at_call 13
             have mk4 := mk3
             clear mk3
             refine (one_yes x2 x _ _ _ _ _ ht_x2 ht_x rfl (zr.out _ _ _ ht_x2).1 (zr.out _ _ _ ht_x2).2).mono ?_
             rintro e w7 ⟨rfl, hb⟩
             replace HB := HB.trans (hb.mono HB.size)
             replace k_v := k_v.below hb
             replace k_x := k_x.below hb
             replace k_z := k_z.below hb
             replace k_d := k_d.below hb
             replace k_y := k_y.below hb
             replace ht := ht.below hb
             replace ht_x := ht_x.below hb
             replace ht_z := ht_z.below hb
             replace ht_y := ht_y.below hb
             replace h_d := h_d.below hb
             replace ht_x2 := ht_x2.below hb
             clear hb
             clear v_0 v_1 v_2 v_3 v_4 v_5 x_0 x_1 x_2 x_3 x_4 x_5 z_0 z_1 z_2 z_3 z_4 z_5 d_0 d_1 d_2 d_3 d_4 d_5 y_0 y_1 y_2 y_3 y_4 y_5
             obtain ⟨v_0, v_1, v_2, v_3, v_4, v_5⟩ := k_v.facts
             obtain ⟨x_0, x_1, x_2, x_3, x_4, x_5⟩ := k_x.facts
             obtain ⟨z_0, z_1, z_2, z_3, z_4, z_5⟩ := k_z.facts
             obtain ⟨d_0, d_1, d_2, d_3, d_4, d_5⟩ := k_d.facts
             obtain ⟨y_0, y_1, y_2, y_3, y_4, y_5⟩ := k_y.facts)
          | (go_at_call 13
             have mk5 := mk4
             clear mk4
             refine (one_yes y x _ _ _ _ _ ht_y ht_x rfl (zr.out _ _ _ ht_y).1 (zr.out _ _ _ ht_y).2).mono ?_
             rintro e w8 ⟨rfl, hb⟩
             replace HB := HB.trans (hb.mono HB.size)
             replace k_v := k_v.below hb
             replace k_x := k_x.below hb
             replace k_z := k_z.below hb
             replace k_d := k_d.below hb
             replace k_y := k_y.below hb
             replace ht := ht.below hb
             replace ht_x := ht_x.below hb
             replace ht_z := ht_z.below hb
             replace ht_y := ht_y.below hb
             replace h_d := h_d.below hb
             replace ht_x2 := ht_x2.below hb
             clear hb
             clear v_0 v_1 v_2 v_3 v_4 v_5 x_0 x_1 x_2 x_3 x_4 x_5 z_0 z_1 z_2 z_3 z_4 z_5 d_0 d_1 d_2 d_3 d_4 d_5 y_0 y_1 y_2 y_3 y_4 y_5
             obtain ⟨v_0, v_1, v_2, v_3, v_4, v_5⟩ := k_v.facts
             obtain ⟨x_0, x_1, x_2, x_3, x_4, x_5⟩ := k_x.facts
             obtain ⟨z_0, z_1, z_2, z_3, z_4, z_5⟩ := k_z.facts
             obtain ⟨d_0, d_1, d_2, d_3, d_4, d_5⟩ := k_d.facts
             obtain ⟨y_0, y_1, y_2, y_3, y_4, y_5⟩ := k_y.facts)
          | (go_at_call 14
             have mk6 := mk5
             clear mk5
             refine (known3_any _ ht).mono ?_
             rintro e w9 ⟨rfl, hb⟩
             replace HB := HB.trans (hb.mono HB.size)
             replace k_v := k_v.below hb
             replace k_x := k_x.below hb
             replace k_z := k_z.below hb
             replace k_d := k_d.below hb
             replace k_y := k_y.below hb
             replace ht := ht.below hb
             replace ht_x := ht_x.below hb
             replace ht_z := ht_z.below hb
             replace ht_y := ht_y.below hb
             replace h_d := h_d.below hb
             replace ht_x2 := ht_x2.below hb
             clear hb
             clear v_0 v_1 v_2 v_3 v_4 v_5 x_0 x_1 x_2 x_3 x_4 x_5 z_0 z_1 z_2 z_3 z_4 z_5 d_0 d_1 d_2 d_3 d_4 d_5 y_0 y_1 y_2 y_3 y_4 y_5
             obtain ⟨v_0, v_1, v_2, v_3, v_4, v_5⟩ := k_v.facts
             obtain ⟨x_0, x_1, x_2, x_3, x_4, x_5⟩ := k_x.facts
             obtain ⟨z_0, z_1, z_2, z_3, z_4, z_5⟩ := k_z.facts
             obtain ⟨d_0, d_1, d_2, d_3, d_4, d_5⟩ := k_d.facts
             obtain ⟨y_0, y_1, y_2, y_3, y_4, y_5⟩ := k_y.facts))
      clear v_0 v_1 v_2 v_3 v_4 v_5 x_0 x_1 x_2 x_3 x_4 x_5 z_0 z_1 z_2 z_3 z_4 z_5 d_0 d_1 d_2 d_3 d_4 d_5 y_0 y_1 y_2 y_3 y_4 y_5
      go_wp2
      go_ret
      exact ⟨rfl, HB⟩

theorem DecRounds_any (v : Rv) (i : Int) (w : World) (hc : v.n ≤ v.c ∧ v.m ≤ v.d) (hl : v.n ≤ 100000000000000 ∧ v.m ≤ 100000000000000) (hr : ∃ a b, Row w 0 v.A v.n a ∧ Row w 0 v.B v.m b) (ht : Tb w) (hm : Mx w) :
    Calls Tryz.prog 6 #[.agg #[.bool v.s, .slice v.A v.n v.c, .slice v.B v.m v.d], .int .i64 i] w fun e w' => e = .returned (.bool true) ∧ Below w.heap.size w w' := by
  by_cases h : 16 < v.n + v.m
  · exact DecRounds_many v i w hl.1 hl.2 h
  · by_cases h1 : i < 0
    · exact DecRounds_low v i w h1 (by omega)
    · by_cases h2 : 9 < i
      · exact DecRounds_high v i w h1 h2 (by omega)
      · obtain ⟨a, b, ra, rb⟩ := hr
        obtain ⟨n, rfl⟩ := Int.eq_ofNat_of_zero_le (show 0 ≤ i by omega)
        exact DecRounds_in v _ n w (by omega) ⟨hc.1, hc.2, by omega, by omega, a, b, ra, rb, rfl⟩ (by omega) ht hm
end Go.Proofs.YtcmomoalohibiaaGreatDoor
