/-
  DecPlaces: digits behind a point: the walk of the law.
-/
import Derived.Test.YtcmomoalohibiaaGreatDoorDecPl
namespace Go.Proofs.YtcmomoalohibiaaGreatDoor
set_option maxRecDepth 20000
open Go.RowKit

set_option maxRecDepth 100000 in
set_option maxHeartbeats 2000000 in
theorem DecPlaces_low (n : Nat) (i : Int) (w : World) (h : i < 0) (ht : Tb w) :
    Calls Tryz.prog 9 #[.int .u32 (n : Int), .int .i64 i] w fun e w' => e = .returned (.bool true) ∧ Below w.heap.size w w' := by
  have HB := Below.refl w.heap.size w
  go_enter Tryz.func9, Tryz.ntmps9
  go_wp2_with fail
  refine (known3_any _ ht).mono ?_
  rintro e w1 ⟨rfl, hb⟩
  replace HB := HB.trans hb
  clear hb
  go_wp2
  go_ret
  exact ⟨rfl, HB⟩

set_option maxRecDepth 100000 in
set_option maxHeartbeats 2000000 in
theorem DecPlaces_high (n : Nat) (i : Int) (w : World) (h0 : ¬ i < 0) (h : 30 < i) (ht : Tb w) :
    Calls Tryz.prog 9 #[.int .u32 (n : Int), .int .i64 i] w fun e w' => e = .returned (.bool true) ∧ Below w.heap.size w w' := by
  have HB := Below.refl w.heap.size w
  go_enter Tryz.func9, Tryz.ntmps9
  go_wp2_with fail
  refine (known3_any _ ht).mono ?_
  rintro e w1 ⟨rfl, hb⟩
  replace HB := HB.trans hb
  clear hb
  go_wp2
  go_ret
  exact ⟨rfl, HB⟩

set_option maxRecDepth 100000 in
set_option maxHeartbeats 8000000 in
theorem DecPlaces_in (n K : Nat) (D : ByteArray) (w : World) (hn : n < 4294967296) (hK : K ≤ 30) (HD : Hid (D.data.toList = Lib.decDigits n)) (ht : Tb w) (hm : Mx w) :
    Calls Tryz.prog 9 #[.int .u32 (n : Int), .int .i64 (K : Int)] w fun e w' => e = .returned (.bool true) ∧ Below w.heap.size w w' := by
  have hDl : D.size ≤ 10 := by rw [str_size HD.out]; exact dec_len_le (by omega) (by omega)
  have HDL : Hid (D.size = (Lib.decDigits n).length) := str_size HD.out
  have k30 : (K : Int) ≤ 30 := by omega
  have k0 : (0 : Int) ≤ (K : Int) := by omega
  have HB := Below.refl w.heap.size w
  have TBW : Hid (∀ W, Below w.heap.size w W → Tb W) := fun W hb => ht.below hb
  have MXW : Hid (∀ W, Below w.heap.size w W → Mx W) := fun W hb => hm.below hb
  go_enter Tryz.func9, Tryz.ntmps9
  go_wp2_with fail
  have hb0 := (below_alloc w (.cells #[.int .u32 (n : Int)] 50)).alloc (by simp) (.cells #[.int .u32 1] 50)
  replace HB := HB.trans hb0
  have hl1 := (Row.lit1 w n (n : Int) rfl hn).alloc (.cells #[.int .u32 1] 50)
  have hl2 := Row.lit2 w (.cells #[.int .u32 (n : Int)] 50) 1 1 rfl (by omega)
  replace ht := ht.below hb0
  replace hm := hm.below hb0
  clear hb0
  refine (rOf_n false _ _ 1 1 1 1 n 1 [n] [1] _ _ (val_one n) (val_one 1) (by omega) (by omega) (Nat.le_refl _) (Nat.le_refl _) hl1 hl2 rfl).mono ?_
  rintro e w1 ⟨z, rfl, ht_z, hb⟩
  replace HB := HB.trans (hb.mono HB.size)
  replace ht := ht.below hb
  replace hm := hm.below hb
  have hsz := HB.size
  have k_z := C3.new w1 (.bool z.s) (.slice z.A z.n z.c) (.slice z.B z.m z.d)
  have hb0 := below_alloc w1 (.cells #[.bool z.s, .slice z.A z.n z.c, .slice z.B z.m z.d] 24)
  replace HB := HB.trans (hb0.mono hsz)
  replace ht := ht.below hb0
  replace hm := hm.below hb0
  have HST : Hid (TnAt w (w1.alloc (.cells #[.bool z.s, .slice z.A z.n z.c, .slice z.B z.m z.d] 24)) w1.heap.size n 0 z) := ⟨k_z, (ht_z.below hb0).lower (Nat.zero_le _), hsz, HB⟩
  obtain ⟨z_0, z_1, z_2, z_3, z_4, z_5⟩ := k_z.facts
  clear hb hl1 hl2 hb0 HB ht hm
  go_wp2
  clear z_0 z_1 z_2 z_3 z_4 z_5 k_z ht_z
  generalize w1.alloc (.cells #[.bool z.s, .slice z.A z.n z.c, .slice z.B z.m z.d] 24) = W1 at *
  generalize w1.heap.size = b at *
  go_loopw [5, 7] (fun sv iv wr => ∃ (k : Nat) (S : ByteArray) (z : Rv), k ≤ K ∧ sv = .string S ∧ iv = .int .i64 (k : Int) ∧ Hid (S.data.toList = List.replicate k 48) ∧ Hid (TnAt w wr b n k z)) (fun _ iv _ => K - (intOf iv).toNat)
  case atStart => exact ⟨0, ⟨#[]⟩, z, Nat.zero_le _, rfl, rfl, rfl, HST⟩
  case round =>
    obtain ⟨k, S, z, hk, rfl, rfl, HS, HA⟩ := hrel
    clear HST
    have hSs : S.size = k := by rw [str_size HS.out]; simp
    have HSS := Lib.hid hSs
    have s1 : ¬ (9223372036854775807 < S.size + 1) := by omega
    have s2 : ¬ (S.size + 1 > 9223372036854775807) := by omega
    clear hSs
    by_cases hkK : k < K
    · have HS2 : Hid ((S ++ ⟨#[48]⟩ : ByteArray).data.toList = List.replicate (k + 1) 48) := by
        show _ = _
        rw [app_data, HS.out, List.replicate_succ']
      obtain ⟨k_z, ht_z, hwb, HB⟩ := HA.out
      have hlt := k_z.lt
      have h_z := ((ht_z.rw (tens_sz hn (show k ≤ 45 by omega))).more (show 6 ≤ 29 by omega)).drew
      obtain ⟨z_0, z_1, z_2, z_3, z_4, z_5⟩ := k_z.facts
      go_wp2_with fail
      go_region_with (first
        | (go_at_call 25
           refine (rInt_c 10 _ (by omega)).mono ?_
           rintro e w1' ⟨t, rfl, ht_t, hb1⟩
           clear z_0 z_1 z_2 z_3 z_4 z_5
           obtain ⟨z_0, z_1, z_2, z_3, z_4, z_5⟩ := (k_z.drew.below hb1).facts)
        | (go_at_call 26
           refine (rDiv_c z t _ _ _ (h_z.below hb1) ((ht_t.rw ten_sz).more (by omega)) ten_nz).mono ?_
           rintro e w2' ⟨q, rfl, ht_q, hb2⟩
           clear z_0 z_1 z_2 z_3 z_4 z_5
           obtain ⟨z_0, z_1, z_2, z_3, z_4, z_5⟩ := ((k_z.drew.below hb1).below hb2).facts))
      all_goals (
        rw [over_ten] at ht_q
        have HB2 := (HB.trans ((below_drewN' wr.heap.size wr 1).mono HB.size)).trans ((hb1.mono HB.size).trans (hb2.mono (Nat.le_trans HB.size (show wr.heap.size ≤ _ from by have := hb1.size; have e : wr.drew.heap.size = wr.heap.size := rfl; omega))))
        have k_q := (k_z.drew.below hb1).below hb2
        have HA2 : Hid (TnAt w (put3 w2' b (.bool q.s) (.slice q.A q.n q.c) (.slice q.B q.m q.d)) b n (k + 1) q) := ⟨k_q.put _ _ _, (ht_q.lower (Nat.zero_le _)).putC k_q _ _ _, hwb, HB2.trans (put3_below hwb _ _ _)⟩
        clear HB2 HB ht_q k_q ht_t ht_z h_z hb1 hb2
        go_wp2
        go_roundw
        case rel => exact ⟨k + 1, _, q, by omega, rfl, by go_num, HS2, HA2⟩
        case measure => simp [intOf]; omega)
    · have e : k = K := by omega
      subst e
      obtain ⟨k_z, ht_z, hwb, HB⟩ := HA.out
      obtain ⟨z_0, z_1, z_2, z_3, z_4, z_5⟩ := k_z.facts
      clear HA
      go_wp2_with fail
      have hb0 := below_alloc wr (.cells #[.int .u32 (n : Int)] 50)
      have hlit := Row.lit1 wr n (n : Int) rfl hn
      replace HB := HB.trans (hb0.mono HB.size)
      replace k_z := k_z.below hb0
      replace ht_z := ht_z.below hb0
      clear hb0
      refine (rPrint_s D _ 1 1 n [n] _ HD.out (val_one n) (by omega) (Nat.le_refl _) hlit).mono ?_
      rintro e w2 ⟨rfl, hb⟩
      replace HB := HB.trans (hb.mono HB.size)
      replace k_z := k_z.below hb
      replace ht_z := ht_z.below hb
      have HST2 : Hid (TnAt w w2 b n (k + 0) z) := ⟨k_z, ht_z, hwb, HB⟩
      have d1 : (D.size : Int) ≤ 10 := by omega
      clear hb hlit HB k_z ht_z z_0 z_1 z_2 z_3 z_4 z_5
      go_wp2
      go_loopw [9] (fun iv wr => ∃ (j : Nat) (z : Rv), j ≤ D.size ∧ iv = .int .i64 (j : Int) ∧ Hid (TnAt w wr b n (k + j) z)) (fun iv _ => D.size - (intOf iv).toNat)
      case atStart => exact ⟨0, z, Nat.zero_le _, rfl, HST2⟩
      case round =>
        obtain ⟨j, z, hj, rfl, HA⟩ := hrel
        clear HST2
        by_cases hjD : j < D.size
        · have i1 : (j : Int) < (D.size : Int) := by omega
          obtain ⟨k_z, ht_z, hwb, HB⟩ := HA.out
          have hlt := k_z.lt
          have h_z := ((ht_z.rw (tens_sz hn (show k + j ≤ 45 by omega))).more (show 6 ≤ 29 by omega)).drew
          obtain ⟨z_0, z_1, z_2, z_3, z_4, z_5⟩ := k_z.facts
          go_wp2_with fail
          go_region_with (first
            | (go_at_call 25
               refine (rInt_c 10 _ (by omega)).mono ?_
               rintro e w1' ⟨t, rfl, ht_t, hb1⟩
               clear z_0 z_1 z_2 z_3 z_4 z_5
               obtain ⟨z_0, z_1, z_2, z_3, z_4, z_5⟩ := (k_z.drew.below hb1).facts)
            | (go_at_call 26
               refine (rDiv_c z t _ _ _ (h_z.below hb1) ((ht_t.rw ten_sz).more (by omega)) ten_nz).mono ?_
               rintro e w2' ⟨q, rfl, ht_q, hb2⟩
               clear z_0 z_1 z_2 z_3 z_4 z_5
               obtain ⟨z_0, z_1, z_2, z_3, z_4, z_5⟩ := ((k_z.drew.below hb1).below hb2).facts))
          all_goals (
            rw [over_ten] at ht_q
            have HB2 := (HB.trans ((below_drewN' wr.heap.size wr 1).mono HB.size)).trans ((hb1.mono HB.size).trans (hb2.mono (Nat.le_trans HB.size (show wr.heap.size ≤ _ from by have := hb1.size; have e : wr.drew.heap.size = wr.heap.size := rfl; omega))))
            have k_q := (k_z.drew.below hb1).below hb2
            have HA2 : Hid (TnAt w (put3 w2' b (.bool q.s) (.slice q.A q.n q.c) (.slice q.B q.m q.d)) b n (k + (j + 1)) q) := ⟨k_q.put _ _ _, (ht_q.lower (Nat.zero_le _)).putC k_q _ _ _, hwb, HB2.trans (put3_below hwb _ _ _)⟩
            clear HB2 HB ht_q k_q ht_t ht_z h_z hb1 hb2
            go_wp2
            go_roundw
            case rel => exact ⟨j + 1, q, by omega, by go_num, HA2⟩
            case measure => simp [intOf]; omega)
        · have e : j = D.size := by omega
          subst e
          obtain ⟨k_z, ht_z, hwb, HB⟩ := HA.out
          rw [HDL.out] at ht_z
          have ht := TBW.out wr HB
          have hm := MXW.out wr HB
          obtain ⟨r, hr⟩ : ∃ r, rn false n (10 ^ (k + (Lib.decDigits n).length)) = r := ⟨_, rfl⟩
          rw [hr] at ht_z
          have HT1 : Hid (Txt ((⟨#[48, 46]⟩ : ByteArray) ++ S ++ D) r) := by
            show Txt _ _
            rw [← hr]
            refine pl_txt ?_ hn hK
            rw [app_data, app_data, HS.out, HD.out]; rfl
          have HT2 : Hid (Txt ((⟨#[48, 46]⟩ : ByteArray) ++ (S ++ D)) r) := by
            show Txt _ _
            rw [← hr]
            refine pl_txt ?_ hn hK
            rw [app_data, app_data, HS.out, HD.out]; rfl
          have sz : Sz r 6 := by
            rw [← hr]
            have h10 : (Lib.decDigits n).length ≤ 10 := by have := HDL.out; omega
            exact tens_sz hn (by omega)
          have zr : Hid (∀ (z : Rv) (w : World) (lo : Nat), Rt w lo z r → z.n ≤ 100000 ∧ z.m ≤ 100000) := fun z w lo h => h.len sz (by omega)
          have hss := HSS.out
          have s3 : ¬ (9223372036854775807 < 2 + S.size) := by omega
          have s4 : ¬ (2 + S.size > 9223372036854775807) := by omega
          have s5 : ¬ (9223372036854775807 < 2 + S.size + D.size) := by omega
          have s6 : ¬ (2 + S.size + D.size > 9223372036854775807) := by omega
          obtain ⟨z_0, z_1, z_2, z_3, z_4, z_5⟩ := k_z.facts
          clear HA hr sz hss s1 s2
          go_wp2_with fail
          refine (dParse_v _ r _ HT1.out hm).mono ?_
          rintro e w1 ⟨y, rfl, ht_y, hb⟩
          replace HB := HB.trans (hb.mono HB.size)
          replace k_z := k_z.below hb
          replace ht_z := ht_z.below hb
          replace ht := ht.below hb
          replace hm := hm.below hb
          clear hb
          clear z_0 z_1 z_2 z_3 z_4 z_5
          obtain ⟨z_0, z_1, z_2, z_3, z_4, z_5⟩ := k_z.facts
          have k_y := C3.new w1 (.bool y.s) (.slice y.A y.n y.c) (.slice y.B y.m y.d)
          have hbn := (Below.refl w1.heap.size w1).alloc (Nat.le_refl _) (.cells #[.bool y.s, .slice y.A y.n y.c, .slice y.B y.m y.d] 24)
          replace HB := HB.trans (hbn.mono HB.size)
          replace k_z := k_z.below hbn
          replace ht_z := ht_z.below hbn
          replace ht := ht.below hbn
          replace hm := hm.below hbn
          replace ht_y := ht_y.below hbn
          clear hbn z_0 z_1 z_2 z_3 z_4 z_5
          obtain ⟨z_0, z_1, z_2, z_3, z_4, z_5⟩ := k_z.facts
          obtain ⟨y_0, y_1, y_2, y_3, y_4, y_5⟩ := k_y.facts
          go_wp2_with fail
          generalize hWx : w1.alloc (.cells #[.bool y.s, .slice y.A y.n y.c, .slice y.B y.m y.d] 24) = Wg1 at *
          clear hWx
          refine (one_yes y z _ _ _ _ _ ht_y ht_z rfl (zr.out _ _ _ ht_y).1 (zr.out _ _ _ ht_y).2).mono ?_
          rintro e w2 ⟨rfl, hb⟩
          replace HB := HB.trans (hb.mono HB.size)
          replace k_z := k_z.below hb
          replace k_y := k_y.below hb
          replace ht_z := ht_z.below hb
          replace ht := ht.below hb
          replace hm := hm.below hb
          replace ht_y := ht_y.below hb
          clear hb
          clear z_0 z_1 z_2 z_3 z_4 z_5 y_0 y_1 y_2 y_3 y_4 y_5
          obtain ⟨z_0, z_1, z_2, z_3, z_4, z_5⟩ := k_z.facts
          obtain ⟨y_0, y_1, y_2, y_3, y_4, y_5⟩ := k_y.facts
          go_wp2_with fail
          refine (known3_any _ ht).mono ?_
          rintro e w3 ⟨rfl, hb⟩
          replace HB := HB.trans (hb.mono HB.size)
          replace k_z := k_z.below hb
          replace k_y := k_y.below hb
          replace ht_z := ht_z.below hb
          replace ht := ht.below hb
          replace hm := hm.below hb
          replace ht_y := ht_y.below hb
          clear hb
          clear z_0 z_1 z_2 z_3 z_4 z_5 y_0 y_1 y_2 y_3 y_4 y_5
          obtain ⟨z_0, z_1, z_2, z_3, z_4, z_5⟩ := k_z.facts
          obtain ⟨y_0, y_1, y_2, y_3, y_4, y_5⟩ := k_y.facts
          clear z_0 z_1 z_2 z_3 z_4 z_5 y_0 y_1 y_2 y_3 y_4 y_5
          go_wp2
          go_ret
          exact ⟨rfl, HB⟩

theorem DecPlaces_any (i0 i : Int) (w : World) (h0 : 0 ≤ i0 ∧ i0 ≤ 4294967295) (ht : Tb w) (hm : Mx w) :
    Calls Tryz.prog 9 #[.int .u32 i0, .int .i64 i] w fun e w' => e = .returned (.bool true) ∧ Below w.heap.size w w' := by
  obtain ⟨n, rfl⟩ := Int.eq_ofNat_of_zero_le h0.1
  by_cases h1 : i < 0
  · exact DecPlaces_low n i w h1 ht
  · by_cases h2 : 30 < i
    · exact DecPlaces_high n i w h1 h2 ht
    · obtain ⟨K, rfl⟩ := Int.eq_ofNat_of_zero_le (show 0 ≤ i by omega)
      obtain ⟨D, hD⟩ := str_data (Lib.decDigits n)
      exact DecPlaces_in n K D w (by omega) (by omega) hD ht hm
end Go.Proofs.YtcmomoalohibiaaGreatDoor
