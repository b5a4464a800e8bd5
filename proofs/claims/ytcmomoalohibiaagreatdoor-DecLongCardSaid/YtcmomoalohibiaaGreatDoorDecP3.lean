/-
  The document's Parse, second part: its walk.
-/
import Derived.Test.YtcmomoalohibiaaGreatDoorDecM
namespace Go.Proofs.YtcmomoalohibiaaGreatDoor
set_option maxRecDepth 20000
open Go.RowKit

/-- What the document's Parse answers of a text of at most 400 bytes. -/
def RParse (neg : Bool) (m : List UInt8) (w : World) (e : Ending) (w' : World) : Prop :=
  ∃ (v : Rv) (code : Int), e = .returned (.tuple #[.agg #[.bool v.s, .slice v.A v.n v.c, .slice v.B v.m v.d], .int .i64 code]) ∧ Below w.heap.size w w' ∧
    ((∃ x y, Num m x y ∧ code = 0 ∧ Rt w' w.heap.size v (rn neg x y)) ∨ ((∀ x y, ¬ Num m x y) ∧ code = 2 ∧ Rt w' w.heap.size v 0))
theorem ext_data (S : ByteArray) (i j : Nat) : (S.extract i j).data.toList = (S.data.toList.take j).drop i := by
  rw [ByteArray.data_extract, Array.toList_extract, List.extract_eq_take_drop, ← List.drop_take]
theorem ba_ext {S T : ByteArray} (h : S.data.toList = T.data.toList) : S = T := by
  rw [str_of S _ rfl, str_of T _ rfl, h]
theorem head_byte {R : ByteArray} {c : UInt8} {d : List UInt8} (h : R.data.toList = c :: d) (hl : 0 < R.size) : R[0].toNat = c.toNat := by
  have e := byte_eq R 0 hl
  rw [h] at e
  simp at e
  rw [← e]

set_option maxRecDepth 100000 in
set_option maxHeartbeats 8000000 in
theorem rfParse_true (S M : ByteArray) (k : Nat) (w : World) (h1 : S.size ≤ 400) (HS : Hid (Sgn S.data.toList true M.data.toList)) (HRK : Hid (RunAt M.data.toList k)) :
    Calls Tryz.prog 11 #[.string S] w (RParse true M.data.toList w) := by
  have hS := HS.out.yes rfl
  have Hsz : Hid (S.size = M.size + 1) := by show _ = _; rw [Lib.size_eq, Lib.size_eq, hS]; simp
  have hpos : 0 < S.size := by have := Hsz.out; omega
  have hE : S.extract 1 S.size = M := ba_ext (by rw [ext_data, Lib.size_eq, List.take_length, hS]; rfl)
  have q := str_ne (S := S) hpos
  have d0 : S[0].toNat = 45 := head_byte hS hpos
  have i1 : (1 : Int) ≤ (S.size : Int) := by omega
  have i2 : (0 : Int) < (S.size : Int) := by omega
  have hms : M.size ≤ 400 := by have := Hsz.out; omega
  clear hS
  have hkm : k ≤ M.size := by rw [Lib.size_eq]; exact HRK.out.le
  obtain ⟨W0, hW0⟩ : ∃ W0, M.extract 0 k = W0 := ⟨_, rfl⟩
  obtain ⟨R, hR⟩ : ∃ R, M.extract k M.size = R := ⟨_, rfl⟩
  have HW : Hid (W0.data.toList = M.data.toList.take k) := by show _ = _; rw [← hW0, ext_data, List.drop_zero]
  have HRD : Hid (R.data.toList = M.data.toList.drop k) := by show _ = _; rw [← hR, ext_data, Lib.size_eq, List.take_length]
  have hRs : R.size = M.size - k := by rw [Lib.size_eq, HRD.out, List.length_drop, ← Lib.size_eq]
  have hWs : W0.size = k := by rw [Lib.size_eq, HW.out, List.length_take, ← Lib.size_eq]; omega
  have HRs := Lib.hid hRs
  have HWs := Lib.hid hWs
  clear hRs hWs
  have j0 : (0 : Int) ≤ (k : Int) := by omega
  have j1 : (k : Int) ≤ (M.size : Int) := by omega
  go_enter Tryz.func11, Tryz.ntmps11
  go_wp2_with fail
  have k2 : C3 (w.alloc (.cells #[.bool false, .slice none 0 0, .slice none 0 0] 24)) w.heap.size (.bool false) (.slice none 0 0) (.slice none 0 0) := C3.new w (.bool false) (.slice none 0 0) (.slice none 0 0)
  have HB := below_alloc w (.cells #[.bool false, .slice none 0 0, .slice none 0 0] 24)
  obtain ⟨q0, q1, q2, g0, g1, g2⟩ := k2.facts
  refine (run_any M k _ HRK.out (by omega)).mono ?_
  rintro e w1 ⟨rfl, rfl⟩
  go_wp2_with fail
  go_quiet (fail)
  replace k2 := k2.below (below_drewN' _ _ nq)
  replace HB := HB.trans ((below_drewN' _ _ nq).mono HB.size)
  clear q0 q1 q2 g0 g1 g2
  generalize (w.alloc (.cells #[.bool false, .slice none 0 0, .slice none 0 0] 24)).drewN nq = W1 at *
  obtain ⟨q0, q1, q2, g0, g1, g2⟩ := k2.facts
  by_cases hk0 : k = 0
  · have HNN : Hid (∀ x y, ¬ Num M.data.toList x y) := num_no_start (hk0 ▸ HRK.out)
    have j2 : ((k : Int) == 0) = true := by rw [beq_iff_eq]; omega
    clear hk0
    go_wp2_with fail
    have hl0 := k2.lt
    clear q0 q1 q2 g0 g1 g2
    refine (rInt_c 0 _ (by omega)).mono ?_
    rintro e v11 ⟨z, rfl, hz, hb⟩
    replace k2 := k2.below hb
    replace HB := HB.trans (hb.mono HB.size)
    clear hb
    obtain ⟨q0, q1, q2, g0, g1, g2⟩ := k2.facts
    go_wp2
    refine ret3t (fn := Tryz.f11) Tryz.results11 rfl rfl rfl (k2.put (.bool z.s) (.slice z.A z.n z.c) (.slice z.B z.m z.d)) ?_
    exact ⟨z, 2, rfl, HB.trans (put3_below (Nat.le_refl _) _ _ _), .inr ⟨HNN.out, rfl, (hz.put (by omega) _ _ _).lower (by omega)⟩⟩
  · have j2 : ((k : Int) == 0) = false := by rw [beq_eq_false_iff_ne]; omega
    have NW : Hid (IsNum W0.data.toList) := by
      refine ⟨by rw [← Lib.size_eq]; have := HWs.out; omega, by rw [← Lib.size_eq]; have := HWs.out; omega, ?_⟩
      rw [HW.out]; exact HRK.out.dig
    have hlx := nu_len' NW.out.dig NW.out.len
    go_wp2_with fail
    refine (rParse_yes W0 _ NW.out).mono ?_
    rintro e w2 ⟨A, c, rfl, ho, hb⟩
    replace k2 := k2.below hb
    replace HB := HB.trans (hb.mono HB.size)
    have hr := ho.rowz
    have hc := ho.capLe
    clear ho hb q0 q1 q2 g0 g1 g2
    obtain ⟨q0, q1, q2, g0, g1, g2⟩ := k2.facts
    by_cases hkM : k = M.size
    · have e := str_nil (S := R) (by have := HRs.out; omega)
      subst e
      have HN : Hid (Num M.data.toList (nu W0.data.toList) 1) := by
        have e : W0.data.toList = M.data.toList := by rw [HW.out]; exact List.take_of_length_le (by rw [← Lib.size_eq]; omega)
        show Num _ _ _
        rw [e]
        have := NW.out
        rw [e] at this
        exact .whole (.of this)
      clear hkM hk0
      go_wp2_with fail
      have hbn := below_alloc w2 (.cells #[.int .u32 1] 50)
      replace k2 := k2.below hbn
      replace HB := HB.trans (hbn.mono HB.size)
      replace hr := hr.below hbn
      have hlit := Row.lit1 w2 1 1 rfl (by omega)
      clear hbn
      have hl0 := k2.lt
      clear q0 q1 q2 g0 g1 g2
      refine (rOf_n true A _ _ 1 c 1 (nu W0.data.toList) 1 _ [1] (rn true (nu W0.data.toList) 1) _ (val_lim _) (val_one 1) (by omega) (by omega) hc (Nat.le_refl _) hr hlit rfl).mono ?_
      rintro e v12 ⟨z, rfl, hz, hb⟩
      replace k2 := k2.below hb
      replace HB := HB.trans (hb.mono HB.size)
      clear hb
      obtain ⟨q0, q1, q2, g0, g1, g2⟩ := k2.facts
      go_wp2
      refine ret3t (fn := Tryz.f11) Tryz.results11 rfl rfl rfl (k2.put (.bool z.s) (.slice z.A z.n z.c) (.slice z.B z.m z.d)) ?_
      exact ⟨z, 0, rfl, HB.trans (put3_below (Nat.le_refl _) _ _ _), .inl ⟨_, _, HN.out, rfl, (hz.put (by omega) _ _ _).lower (by omega)⟩⟩
    · obtain ⟨ch, d, hd1, hd2, hd3⟩ := HRK.out.split (by rw [← Lib.size_eq]; exact hkM)
      have HD2 : Hid (R.data.toList = ch :: d) := by show _ = _; rw [HRD.out]; exact hd2
      obtain ⟨D, hDE⟩ : ∃ D, R.extract 1 R.size = D := ⟨_, rfl⟩
      have HDD : Hid (D.data.toList = d) := by show _ = _; rw [← hDE, ext_data, Lib.size_eq, List.take_length, HD2.out]; rfl
      have hRp : 0 < R.size := by have := HRs.out; omega
      have HDs : Hid (D.size = R.size - 1) := by show _ = _; rw [Lib.size_eq, Lib.size_eq, HDD.out, HD2.out]; simp
      have q3 := str_ne (S := R) hRp
      have HR0 : Hid (R[0].toNat = ch.toNat) := head_byte HD2.out hRp
      obtain ⟨j, hj⟩ := run_ex D.data.toList
      have HJ := Lib.hid hj
      have hjl : j ≤ D.size := by rw [Lib.size_eq]; exact hj.le
      have hDl : D.size ≤ 400 := by have := HDs.out; have := HRs.out; omega
      have HNO : Hid (¬ (ch = 46 ∧ IsDs W0.data.toList ∧ IsDs d) → ¬ (ch = 47 ∧ IsDs W0.data.toList ∧ IsDs d ∧ nu d ≠ 0) → ∀ x y, ¬ Num M.data.toList x y) := by
        intro h h'
        rw [HW.out] at h h'
        exact num_no_sign hd1 HRK.out.dig hd3 h h'
      have HM1 : Hid (M.data.toList = W0.data.toList ++ ch :: d) := by show _ = _; rw [HW.out]; exact hd1
      have m1 : (1 : Int) ≤ (R.size : Int) := by omega
      have m2 : (R.size : Int) ≤ 400 := by have := HRs.out; omega
      have m3 : (0 : Int) < (R.size : Int) := by omega
      have m4 : IntKind.i64.wrap ((R.size : Int) - 1) = (R.size : Int) - 1 := by rw [IntKind.wrap_i64]; omega
      clear hd1 hd2 hd3 hj hkM hk0
      go_wp2_with fail
      refine (run_any D j _ HJ.out (by omega)).mono ?_
      rintro e w3 ⟨rfl, rfl⟩
      by_cases hj0 : j = 0
      · have HNN : Hid (∀ x y, ¬ Num M.data.toList x y) := by
          have key : ¬ IsDs d := fun h => by
            rw [← HDD.out] at h
            have e := HJ.out.all h.dig
            have := List.length_pos_iff.2 h.pos
            omega
          exact HNO.out (fun h => key h.2.2) (fun h => key h.2.2.1)
        have l1 : ((j : Int) == 0) = true := by rw [beq_iff_eq]; omega
        clear hj0
        go_wp2_with fail
        have hl0 := k2.lt
        clear q0 q1 q2 g0 g1 g2
        refine (rInt_c 0 _ (by omega)).mono ?_
        rintro e v13 ⟨z, rfl, hz, hb⟩
        replace k2 := k2.below hb
        replace HB := HB.trans (hb.mono HB.size)
        clear hb
        obtain ⟨q0, q1, q2, g0, g1, g2⟩ := k2.facts
        go_wp2
        refine ret3t (fn := Tryz.f11) Tryz.results11 rfl rfl rfl (k2.put (.bool z.s) (.slice z.A z.n z.c) (.slice z.B z.m z.d)) ?_
        exact ⟨z, 2, rfl, HB.trans (put3_below (Nat.le_refl _) _ _ _), .inr ⟨HNN.out, rfl, (hz.put (by omega) _ _ _).lower (by omega)⟩⟩
      · have l1 : ((j : Int) == 0) = false := by rw [beq_eq_false_iff_ne]; omega
        by_cases hjD : j = D.size
        rotate_left
        · have HNN : Hid (∀ x y, ¬ Num M.data.toList x y) := by
            have key : ¬ IsDs d := fun h => by
              rw [← HDD.out] at h
              have e := HJ.out.all h.dig
              rw [← Lib.size_eq] at e
              omega
            exact HNO.out (fun h => key h.2.2) (fun h => key h.2.2.1)
          have l2 : ((j : Int) != (R.size : Int) - 1) = true := by rw [bne_iff_ne]; have := HDs.out; omega
          clear hj0 hjD
          go_wp2_with fail
          have hl0 := k2.lt
          clear q0 q1 q2 g0 g1 g2
          refine (rInt_c 0 _ (by omega)).mono ?_
          rintro e v14 ⟨z, rfl, hz, hb⟩
          replace k2 := k2.below hb
          replace HB := HB.trans (hb.mono HB.size)
          clear hb
          obtain ⟨q0, q1, q2, g0, g1, g2⟩ := k2.facts
          go_wp2
          refine ret3t (fn := Tryz.f11) Tryz.results11 rfl rfl rfl (k2.put (.bool z.s) (.slice z.A z.n z.c) (.slice z.B z.m z.d)) ?_
          exact ⟨z, 2, rfl, HB.trans (put3_below (Nat.le_refl _) _ _ _), .inr ⟨HNN.out, rfl, (hz.put (by omega) _ _ _).lower (by omega)⟩⟩
        have l2 : ((j : Int) != (R.size : Int) - 1) = false := by rw [bne_eq_false_iff_eq]; have := HDs.out; omega
        have ND : Hid (IsNum D.data.toList) := by
          refine ⟨by rw [← Lib.size_eq]; omega, by rw [← Lib.size_eq]; omega, ?_⟩
          exact HJ.out.full (by rw [← Lib.size_eq]; exact hjD)
        have hly := nu_len' ND.out.dig ND.out.len
        have hj4 : j ≤ 400 := by omega
        have HJS : Hid (j = D.data.toList.length) := by show _ = _; rw [← Lib.size_eq]; exact hjD
        clear hj0 hjD hjl
        by_cases hp : ch = 46
        · have r0 : R[0].toNat = 46 := by rw [HR0.out, hp]; rfl
          have HN : Hid (Num M.data.toList (nu W0.data.toList * 10 ^ j + nu D.data.toList) (10 ^ j)) := by
            show Num _ _ _
            rw [HJS.out, ← nu_append]
            exact .point _ _ (by rw [HM1.out, HDD.out, hp]) (.of NW.out) (.of ND.out)
          have hlen := HN.out.len (by rw [← Lib.size_eq]; exact hms)
          have htl : (lim (10 ^ j)).length ≤ 50 := hlen.2
          have hpl : (lim (nu W0.data.toList * 10 ^ j)).length ≤ 100 := ((Bd.ofL hlx).mul (Bd.ofL htl)).len
          clear hp
          go_wp2_with fail
          refine (rParse_yes D _ ND.out).mono ?_
          rintro e w4 ⟨B, f, rfl, ho, hb⟩
          replace k2 := k2.below hb
          replace HB := HB.trans (hb.mono HB.size)
          replace hr := hr.below hb
          have hr2 := ho.rowz
          have hc2 := ho.capLe
          clear ho hb q0 q1 q2 g0 g1 g2
          obtain ⟨q0, q1, q2, g0, g1, g2⟩ := k2.facts
          go_wp2_with fail
          refine (ten_any j _ (by omega)).mono ?_
          rintro e w5 ⟨T, tc, rfl, ho, hb⟩
          replace k2 := k2.below hb
          replace HB := HB.trans (hb.mono HB.size)
          replace hr := hr.below hb
          replace hr2 := hr2.below hb
          have hr3 := ho.rowz
          have hc3 := ho.capLe
          clear ho hb q0 q1 q2 g0 g1 g2
          obtain ⟨q0, q1, q2, g0, g1, g2⟩ := k2.facts
          go_wp2_with fail
          refine (rMul_v _ _ _ _ _ _ _ _ _ _ _ (val_lim _) (val_lim _) (by omega) (by omega) hr hr3).mono ?_
          rintro e w6 ⟨P, pc, rfl, ho, hb⟩
          replace k2 := k2.below hb
          replace HB := HB.trans (hb.mono HB.size)
          replace hr2 := hr2.below hb
          replace hr3 := hr3.below hb
          have hr4 := ho.rowz
          clear ho hb q0 q1 q2 g0 g1 g2
          obtain ⟨q0, q1, q2, g0, g1, g2⟩ := k2.facts
          go_wp2_with fail
          refine (rAdd_v _ _ _ _ _ _ _ _ _ _ _ (val_lim _) (val_lim _) (by omega) (by omega) hr4 hr2).mono ?_
          rintro e w7 ⟨Q, qc, rfl, ho, hb⟩
          replace k2 := k2.below hb
          replace HB := HB.trans (hb.mono HB.size)
          replace hr3 := hr3.below hb
          have hr5 := ho.rowz
          have hc5 := ho.capLe
          clear ho hb q0 q1 q2 g0 g1 g2
          obtain ⟨q0, q1, q2, g0, g1, g2⟩ := k2.facts
          go_wp2_with fail
          have hl0 := k2.lt
          clear q0 q1 q2 g0 g1 g2
          refine (rOf_n true Q T _ _ qc tc _ _ _ _ (rn true (nu W0.data.toList * 10 ^ j + nu D.data.toList) (10 ^ j)) _ (val_lim _) (val_lim _) (by omega) (by omega) hc5 hc3 hr5 hr3 rfl).mono ?_
          rintro e v15 ⟨z, rfl, hz, hb⟩
          replace k2 := k2.below hb
          replace HB := HB.trans (hb.mono HB.size)
          clear hb
          obtain ⟨q0, q1, q2, g0, g1, g2⟩ := k2.facts
          go_wp2
          refine ret3t (fn := Tryz.f11) Tryz.results11 rfl rfl rfl (k2.put (.bool z.s) (.slice z.A z.n z.c) (.slice z.B z.m z.d)) ?_
          exact ⟨z, 0, rfl, HB.trans (put3_below (Nat.le_refl _) _ _ _), .inl ⟨_, _, HN.out, rfl, (hz.put (by omega) _ _ _).lower (by omega)⟩⟩
        · have r0 : R[0].toNat ≠ 46 := by rw [HR0.out]; intro h; exact hp (UInt8.toNat_inj.1 (by rw [h]; rfl))
          by_cases hp2 : ch = 47
          rotate_left
          · have r1 : R[0].toNat ≠ 47 := by rw [HR0.out]; intro h; exact hp2 (UInt8.toNat_inj.1 (by rw [h]; rfl))
            have HNN : Hid (∀ x y, ¬ Num M.data.toList x y) := HNO.out (fun h => hp h.1) (fun h => hp2 h.1)
            have s0 : (((R[0].toNat : Nat) : Int) != 46) = true := by rw [bne_iff_ne]; omega
            have s1 : (((R[0].toNat : Nat) : Int) != 47) = true := by rw [bne_iff_ne]; omega
            clear hp hp2
            go_wp2_with fail
            have hl0 := k2.lt
            clear q0 q1 q2 g0 g1 g2
            refine (rInt_c 0 _ (by omega)).mono ?_
            rintro e v16 ⟨z, rfl, hz, hb⟩
            replace k2 := k2.below hb
            replace HB := HB.trans (hb.mono HB.size)
            clear hb
            obtain ⟨q0, q1, q2, g0, g1, g2⟩ := k2.facts
            go_wp2
            refine ret3t (fn := Tryz.f11) Tryz.results11 rfl rfl rfl (k2.put (.bool z.s) (.slice z.A z.n z.c) (.slice z.B z.m z.d)) ?_
            exact ⟨z, 2, rfl, HB.trans (put3_below (Nat.le_refl _) _ _ _), .inr ⟨HNN.out, rfl, (hz.put (by omega) _ _ _).lower (by omega)⟩⟩
          clear r0
          have r1 : R[0].toNat = 47 := by rw [HR0.out, hp2]; rfl
          have HC : Hid (ch = 47) := hp2
          clear hp hp2
          go_wp2_with fail
          refine (rParse_yes D _ ND.out).mono ?_
          rintro e w4 ⟨B, f, rfl, ho, hb⟩
          replace k2 := k2.below hb
          replace HB := HB.trans (hb.mono HB.size)
          replace hr := hr.below hb
          have hr2 := ho.rowz
          have hc2 := ho.capLe
          clear ho hb q0 q1 q2 g0 g1 g2
          obtain ⟨q0, q1, q2, g0, g1, g2⟩ := k2.facts
          by_cases hy0 : nu D.data.toList = 0
          · have HNN : Hid (∀ x y, ¬ Num M.data.toList x y) := HNO.out (fun h => by have := h.1; rw [HC.out] at this; exact absurd this (by decide)) (fun h => h.2.2.2 (by rw [← HDD.out]; exact hy0))
            have y0 : (((lim (nu D.data.toList)).length : Int) == 0) = true := by rw [beq_iff_eq, hy0, lim_zero]; rfl
            clear hy0
            go_wp2_with fail
            have hl0 := k2.lt
            clear q0 q1 q2 g0 g1 g2
            refine (rInt_c 0 _ (by omega)).mono ?_
            rintro e v17 ⟨z, rfl, hz, hb⟩
            replace k2 := k2.below hb
            replace HB := HB.trans (hb.mono HB.size)
            clear hb
            obtain ⟨q0, q1, q2, g0, g1, g2⟩ := k2.facts
            go_wp2
            refine ret3t (fn := Tryz.f11) Tryz.results11 rfl rfl rfl (k2.put (.bool z.s) (.slice z.A z.n z.c) (.slice z.B z.m z.d)) ?_
            exact ⟨z, 2, rfl, HB.trans (put3_below (Nat.le_refl _) _ _ _), .inr ⟨HNN.out, rfl, (hz.put (by omega) _ _ _).lower (by omega)⟩⟩
          · have HN : Hid (Num M.data.toList (nu W0.data.toList) (nu D.data.toList)) := by
              show Num _ _ _
              exact .frac _ _ (by rw [HM1.out, HDD.out, HC.out]) (.of NW.out) (.of ND.out) hy0
            have y0 : (((lim (nu D.data.toList)).length : Int) == 0) = false := by
              rw [beq_eq_false_iff_ne, lim_pos hy0]; simp; omega
            clear hy0
            go_wp2_with fail
            have hl0 := k2.lt
            clear q0 q1 q2 g0 g1 g2
            refine (rOf_n true A B _ _ c f _ _ _ _ (rn true (nu W0.data.toList) (nu D.data.toList)) _ (val_lim _) (val_lim _) (by omega) (by omega) hc hc2 hr hr2 rfl).mono ?_
            rintro e v18 ⟨z, rfl, hz, hb⟩
            replace k2 := k2.below hb
            replace HB := HB.trans (hb.mono HB.size)
            clear hb
            obtain ⟨q0, q1, q2, g0, g1, g2⟩ := k2.facts
            go_wp2
            refine ret3t (fn := Tryz.f11) Tryz.results11 rfl rfl rfl (k2.put (.bool z.s) (.slice z.A z.n z.c) (.slice z.B z.m z.d)) ?_
            exact ⟨z, 0, rfl, HB.trans (put3_below (Nat.le_refl _) _ _ _), .inl ⟨_, _, HN.out, rfl, (hz.put (by omega) _ _ _).lower (by omega)⟩⟩

set_option maxRecDepth 100000 in
set_option maxHeartbeats 8000000 in
theorem rfParse_false (S M : ByteArray) (k : Nat) (hpos : 0 < S.size) (w : World) (h1 : S.size ≤ 400) (HS : Hid (Sgn S.data.toList false M.data.toList)) (HRK : Hid (RunAt M.data.toList k)) :
    Calls Tryz.prog 11 #[.string S] w (RParse false M.data.toList w) := by
  have hS := HS.out.no rfl
  have e := ba_ext hS.1
  subst e
  have q := str_ne (S := S) hpos
  have d0 : S[0].toNat ≠ 45 := by
    intro h
    obtain ⟨c, t, e⟩ := List.exists_cons_of_ne_nil (l := S.data.toList) (by intro e; rw [Lib.size_eq, e] at hpos; simp at hpos)
    rw [head_byte e hpos] at h
    refine hS.2 ?_
    rw [e]
    simp
    exact UInt8.toNat_inj.1 (by rw [h]; rfl)
  have i1 : (1 : Int) ≤ (S.size : Int) := by omega
  have i2 : (0 : Int) < (S.size : Int) := by omega
  have hms : S.size ≤ 400 := h1
  clear hS
  have hkm : k ≤ S.size := by rw [Lib.size_eq]; exact HRK.out.le
  obtain ⟨W0, hW0⟩ : ∃ W0, S.extract 0 k = W0 := ⟨_, rfl⟩
  obtain ⟨R, hR⟩ : ∃ R, S.extract k S.size = R := ⟨_, rfl⟩
  have HW : Hid (W0.data.toList = S.data.toList.take k) := by show _ = _; rw [← hW0, ext_data, List.drop_zero]
  have HRD : Hid (R.data.toList = S.data.toList.drop k) := by show _ = _; rw [← hR, ext_data, Lib.size_eq, List.take_length]
  have hRs : R.size = S.size - k := by rw [Lib.size_eq, HRD.out, List.length_drop, ← Lib.size_eq]
  have hWs : W0.size = k := by rw [Lib.size_eq, HW.out, List.length_take, ← Lib.size_eq]; omega
  have HRs := Lib.hid hRs
  have HWs := Lib.hid hWs
  clear hRs hWs
  have j0 : (0 : Int) ≤ (k : Int) := by omega
  have j1 : (k : Int) ≤ (S.size : Int) := by omega
  go_enter Tryz.func11, Tryz.ntmps11
  go_wp2_with fail
  have k2 : C3 (w.alloc (.cells #[.bool false, .slice none 0 0, .slice none 0 0] 24)) w.heap.size (.bool false) (.slice none 0 0) (.slice none 0 0) := C3.new w (.bool false) (.slice none 0 0) (.slice none 0 0)
  have HB := below_alloc w (.cells #[.bool false, .slice none 0 0, .slice none 0 0] 24)
  obtain ⟨q0, q1, q2, g0, g1, g2⟩ := k2.facts
  refine (run_any S k _ HRK.out (by omega)).mono ?_
  rintro e w1 ⟨rfl, rfl⟩
  go_wp2_with fail
  go_quiet (fail)
  replace k2 := k2.below (below_drewN' _ _ nq)
  replace HB := HB.trans ((below_drewN' _ _ nq).mono HB.size)
  clear q0 q1 q2 g0 g1 g2
  generalize (w.alloc (.cells #[.bool false, .slice none 0 0, .slice none 0 0] 24)).drewN nq = W1 at *
  obtain ⟨q0, q1, q2, g0, g1, g2⟩ := k2.facts
  by_cases hk0 : k = 0
  · have HNN : Hid (∀ x y, ¬ Num S.data.toList x y) := num_no_start (hk0 ▸ HRK.out)
    have j2 : ((k : Int) == 0) = true := by rw [beq_iff_eq]; omega
    clear hk0
    go_wp2_with fail
    have hl0 := k2.lt
    clear q0 q1 q2 g0 g1 g2
    refine (rInt_c 0 _ (by omega)).mono ?_
    rintro e v11 ⟨z, rfl, hz, hb⟩
    replace k2 := k2.below hb
    replace HB := HB.trans (hb.mono HB.size)
    clear hb
    obtain ⟨q0, q1, q2, g0, g1, g2⟩ := k2.facts
    go_wp2
    refine ret3t (fn := Tryz.f11) Tryz.results11 rfl rfl rfl (k2.put (.bool z.s) (.slice z.A z.n z.c) (.slice z.B z.m z.d)) ?_
    exact ⟨z, 2, rfl, HB.trans (put3_below (Nat.le_refl _) _ _ _), .inr ⟨HNN.out, rfl, (hz.put (by omega) _ _ _).lower (by omega)⟩⟩
  · have j2 : ((k : Int) == 0) = false := by rw [beq_eq_false_iff_ne]; omega
    have NW : Hid (IsNum W0.data.toList) := by
      refine ⟨by rw [← Lib.size_eq]; have := HWs.out; omega, by rw [← Lib.size_eq]; have := HWs.out; omega, ?_⟩
      rw [HW.out]; exact HRK.out.dig
    have hlx := nu_len' NW.out.dig NW.out.len
    go_wp2_with fail
    refine (rParse_yes W0 _ NW.out).mono ?_
    rintro e w2 ⟨A, c, rfl, ho, hb⟩
    replace k2 := k2.below hb
    replace HB := HB.trans (hb.mono HB.size)
    have hr := ho.rowz
    have hc := ho.capLe
    clear ho hb q0 q1 q2 g0 g1 g2
    obtain ⟨q0, q1, q2, g0, g1, g2⟩ := k2.facts
    by_cases hkM : k = S.size
    · have e := str_nil (S := R) (by have := HRs.out; omega)
      subst e
      have HN : Hid (Num S.data.toList (nu W0.data.toList) 1) := by
        have e : W0.data.toList = S.data.toList := by rw [HW.out]; exact List.take_of_length_le (by rw [← Lib.size_eq]; omega)
        show Num _ _ _
        rw [e]
        have := NW.out
        rw [e] at this
        exact .whole (.of this)
      clear hkM hk0
      go_wp2_with fail
      have hbn := below_alloc w2 (.cells #[.int .u32 1] 50)
      replace k2 := k2.below hbn
      replace HB := HB.trans (hbn.mono HB.size)
      replace hr := hr.below hbn
      have hlit := Row.lit1 w2 1 1 rfl (by omega)
      clear hbn
      have hl0 := k2.lt
      clear q0 q1 q2 g0 g1 g2
      refine (rOf_n false A _ _ 1 c 1 (nu W0.data.toList) 1 _ [1] (rn false (nu W0.data.toList) 1) _ (val_lim _) (val_one 1) (by omega) (by omega) hc (Nat.le_refl _) hr hlit rfl).mono ?_
      rintro e v12 ⟨z, rfl, hz, hb⟩
      replace k2 := k2.below hb
      replace HB := HB.trans (hb.mono HB.size)
      clear hb
      obtain ⟨q0, q1, q2, g0, g1, g2⟩ := k2.facts
      go_wp2
      refine ret3t (fn := Tryz.f11) Tryz.results11 rfl rfl rfl (k2.put (.bool z.s) (.slice z.A z.n z.c) (.slice z.B z.m z.d)) ?_
      exact ⟨z, 0, rfl, HB.trans (put3_below (Nat.le_refl _) _ _ _), .inl ⟨_, _, HN.out, rfl, (hz.put (by omega) _ _ _).lower (by omega)⟩⟩
    · obtain ⟨ch, d, hd1, hd2, hd3⟩ := HRK.out.split (by rw [← Lib.size_eq]; exact hkM)
      have HD2 : Hid (R.data.toList = ch :: d) := by show _ = _; rw [HRD.out]; exact hd2
      obtain ⟨D, hDE⟩ : ∃ D, R.extract 1 R.size = D := ⟨_, rfl⟩
      have HDD : Hid (D.data.toList = d) := by show _ = _; rw [← hDE, ext_data, Lib.size_eq, List.take_length, HD2.out]; rfl
      have hRp : 0 < R.size := by have := HRs.out; omega
      have HDs : Hid (D.size = R.size - 1) := by show _ = _; rw [Lib.size_eq, Lib.size_eq, HDD.out, HD2.out]; simp
      have q3 := str_ne (S := R) hRp
      have HR0 : Hid (R[0].toNat = ch.toNat) := head_byte HD2.out hRp
      obtain ⟨j, hj⟩ := run_ex D.data.toList
      have HJ := Lib.hid hj
      have hjl : j ≤ D.size := by rw [Lib.size_eq]; exact hj.le
      have hDl : D.size ≤ 400 := by have := HDs.out; have := HRs.out; omega
      have HNO : Hid (¬ (ch = 46 ∧ IsDs W0.data.toList ∧ IsDs d) → ¬ (ch = 47 ∧ IsDs W0.data.toList ∧ IsDs d ∧ nu d ≠ 0) → ∀ x y, ¬ Num S.data.toList x y) := by
        intro h h'
        rw [HW.out] at h h'
        exact num_no_sign hd1 HRK.out.dig hd3 h h'
      have HM1 : Hid (S.data.toList = W0.data.toList ++ ch :: d) := by show _ = _; rw [HW.out]; exact hd1
      have m1 : (1 : Int) ≤ (R.size : Int) := by omega
      have m2 : (R.size : Int) ≤ 400 := by have := HRs.out; omega
      have m3 : (0 : Int) < (R.size : Int) := by omega
      have m4 : IntKind.i64.wrap ((R.size : Int) - 1) = (R.size : Int) - 1 := by rw [IntKind.wrap_i64]; omega
      clear hd1 hd2 hd3 hj hkM hk0
      go_wp2_with fail
      refine (run_any D j _ HJ.out (by omega)).mono ?_
      rintro e w3 ⟨rfl, rfl⟩
      by_cases hj0 : j = 0
      · have HNN : Hid (∀ x y, ¬ Num S.data.toList x y) := by
          have key : ¬ IsDs d := fun h => by
            rw [← HDD.out] at h
            have e := HJ.out.all h.dig
            have := List.length_pos_iff.2 h.pos
            omega
          exact HNO.out (fun h => key h.2.2) (fun h => key h.2.2.1)
        have l1 : ((j : Int) == 0) = true := by rw [beq_iff_eq]; omega
        clear hj0
        go_wp2_with fail
        have hl0 := k2.lt
        clear q0 q1 q2 g0 g1 g2
        refine (rInt_c 0 _ (by omega)).mono ?_
        rintro e v13 ⟨z, rfl, hz, hb⟩
        replace k2 := k2.below hb
        replace HB := HB.trans (hb.mono HB.size)
        clear hb
        obtain ⟨q0, q1, q2, g0, g1, g2⟩ := k2.facts
        go_wp2
        refine ret3t (fn := Tryz.f11) Tryz.results11 rfl rfl rfl (k2.put (.bool z.s) (.slice z.A z.n z.c) (.slice z.B z.m z.d)) ?_
        exact ⟨z, 2, rfl, HB.trans (put3_below (Nat.le_refl _) _ _ _), .inr ⟨HNN.out, rfl, (hz.put (by omega) _ _ _).lower (by omega)⟩⟩
      · have l1 : ((j : Int) == 0) = false := by rw [beq_eq_false_iff_ne]; omega
        by_cases hjD : j = D.size
        rotate_left
        · have HNN : Hid (∀ x y, ¬ Num S.data.toList x y) := by
            have key : ¬ IsDs d := fun h => by
              rw [← HDD.out] at h
              have e := HJ.out.all h.dig
              rw [← Lib.size_eq] at e
              omega
            exact HNO.out (fun h => key h.2.2) (fun h => key h.2.2.1)
          have l2 : ((j : Int) != (R.size : Int) - 1) = true := by rw [bne_iff_ne]; have := HDs.out; omega
          clear hj0 hjD
          go_wp2_with fail
          have hl0 := k2.lt
          clear q0 q1 q2 g0 g1 g2
          refine (rInt_c 0 _ (by omega)).mono ?_
          rintro e v14 ⟨z, rfl, hz, hb⟩
          replace k2 := k2.below hb
          replace HB := HB.trans (hb.mono HB.size)
          clear hb
          obtain ⟨q0, q1, q2, g0, g1, g2⟩ := k2.facts
          go_wp2
          refine ret3t (fn := Tryz.f11) Tryz.results11 rfl rfl rfl (k2.put (.bool z.s) (.slice z.A z.n z.c) (.slice z.B z.m z.d)) ?_
          exact ⟨z, 2, rfl, HB.trans (put3_below (Nat.le_refl _) _ _ _), .inr ⟨HNN.out, rfl, (hz.put (by omega) _ _ _).lower (by omega)⟩⟩
        have l2 : ((j : Int) != (R.size : Int) - 1) = false := by rw [bne_eq_false_iff_eq]; have := HDs.out; omega
        have ND : Hid (IsNum D.data.toList) := by
          refine ⟨by rw [← Lib.size_eq]; omega, by rw [← Lib.size_eq]; omega, ?_⟩
          exact HJ.out.full (by rw [← Lib.size_eq]; exact hjD)
        have hly := nu_len' ND.out.dig ND.out.len
        have hj4 : j ≤ 400 := by omega
        have HJS : Hid (j = D.data.toList.length) := by show _ = _; rw [← Lib.size_eq]; exact hjD
        clear hj0 hjD hjl
        by_cases hp : ch = 46
        · have r0 : R[0].toNat = 46 := by rw [HR0.out, hp]; rfl
          have HN : Hid (Num S.data.toList (nu W0.data.toList * 10 ^ j + nu D.data.toList) (10 ^ j)) := by
            show Num _ _ _
            rw [HJS.out, ← nu_append]
            exact .point _ _ (by rw [HM1.out, HDD.out, hp]) (.of NW.out) (.of ND.out)
          have hlen := HN.out.len (by rw [← Lib.size_eq]; exact hms)
          have htl : (lim (10 ^ j)).length ≤ 50 := hlen.2
          have hpl : (lim (nu W0.data.toList * 10 ^ j)).length ≤ 100 := ((Bd.ofL hlx).mul (Bd.ofL htl)).len
          clear hp
          go_wp2_with fail
          refine (rParse_yes D _ ND.out).mono ?_
          rintro e w4 ⟨B, f, rfl, ho, hb⟩
          replace k2 := k2.below hb
          replace HB := HB.trans (hb.mono HB.size)
          replace hr := hr.below hb
          have hr2 := ho.rowz
          have hc2 := ho.capLe
          clear ho hb q0 q1 q2 g0 g1 g2
          obtain ⟨q0, q1, q2, g0, g1, g2⟩ := k2.facts
          go_wp2_with fail
          refine (ten_any j _ (by omega)).mono ?_
          rintro e w5 ⟨T, tc, rfl, ho, hb⟩
          replace k2 := k2.below hb
          replace HB := HB.trans (hb.mono HB.size)
          replace hr := hr.below hb
          replace hr2 := hr2.below hb
          have hr3 := ho.rowz
          have hc3 := ho.capLe
          clear ho hb q0 q1 q2 g0 g1 g2
          obtain ⟨q0, q1, q2, g0, g1, g2⟩ := k2.facts
          go_wp2_with fail
          refine (rMul_v _ _ _ _ _ _ _ _ _ _ _ (val_lim _) (val_lim _) (by omega) (by omega) hr hr3).mono ?_
          rintro e w6 ⟨P, pc, rfl, ho, hb⟩
          replace k2 := k2.below hb
          replace HB := HB.trans (hb.mono HB.size)
          replace hr2 := hr2.below hb
          replace hr3 := hr3.below hb
          have hr4 := ho.rowz
          clear ho hb q0 q1 q2 g0 g1 g2
          obtain ⟨q0, q1, q2, g0, g1, g2⟩ := k2.facts
          go_wp2_with fail
          refine (rAdd_v _ _ _ _ _ _ _ _ _ _ _ (val_lim _) (val_lim _) (by omega) (by omega) hr4 hr2).mono ?_
          rintro e w7 ⟨Q, qc, rfl, ho, hb⟩
          replace k2 := k2.below hb
          replace HB := HB.trans (hb.mono HB.size)
          replace hr3 := hr3.below hb
          have hr5 := ho.rowz
          have hc5 := ho.capLe
          clear ho hb q0 q1 q2 g0 g1 g2
          obtain ⟨q0, q1, q2, g0, g1, g2⟩ := k2.facts
          go_wp2_with fail
          have hl0 := k2.lt
          clear q0 q1 q2 g0 g1 g2
          refine (rOf_n false Q T _ _ qc tc _ _ _ _ (rn false (nu W0.data.toList * 10 ^ j + nu D.data.toList) (10 ^ j)) _ (val_lim _) (val_lim _) (by omega) (by omega) hc5 hc3 hr5 hr3 rfl).mono ?_
          rintro e v15 ⟨z, rfl, hz, hb⟩
          replace k2 := k2.below hb
          replace HB := HB.trans (hb.mono HB.size)
          clear hb
          obtain ⟨q0, q1, q2, g0, g1, g2⟩ := k2.facts
          go_wp2
          refine ret3t (fn := Tryz.f11) Tryz.results11 rfl rfl rfl (k2.put (.bool z.s) (.slice z.A z.n z.c) (.slice z.B z.m z.d)) ?_
          exact ⟨z, 0, rfl, HB.trans (put3_below (Nat.le_refl _) _ _ _), .inl ⟨_, _, HN.out, rfl, (hz.put (by omega) _ _ _).lower (by omega)⟩⟩
        · have r0 : R[0].toNat ≠ 46 := by rw [HR0.out]; intro h; exact hp (UInt8.toNat_inj.1 (by rw [h]; rfl))
          by_cases hp2 : ch = 47
          rotate_left
          · have r1 : R[0].toNat ≠ 47 := by rw [HR0.out]; intro h; exact hp2 (UInt8.toNat_inj.1 (by rw [h]; rfl))
            have HNN : Hid (∀ x y, ¬ Num S.data.toList x y) := HNO.out (fun h => hp h.1) (fun h => hp2 h.1)
            have s0 : (((R[0].toNat : Nat) : Int) != 46) = true := by rw [bne_iff_ne]; omega
            have s1 : (((R[0].toNat : Nat) : Int) != 47) = true := by rw [bne_iff_ne]; omega
            clear hp hp2
            go_wp2_with fail
            have hl0 := k2.lt
            clear q0 q1 q2 g0 g1 g2
            refine (rInt_c 0 _ (by omega)).mono ?_
            rintro e v16 ⟨z, rfl, hz, hb⟩
            replace k2 := k2.below hb
            replace HB := HB.trans (hb.mono HB.size)
            clear hb
            obtain ⟨q0, q1, q2, g0, g1, g2⟩ := k2.facts
            go_wp2
            refine ret3t (fn := Tryz.f11) Tryz.results11 rfl rfl rfl (k2.put (.bool z.s) (.slice z.A z.n z.c) (.slice z.B z.m z.d)) ?_
            exact ⟨z, 2, rfl, HB.trans (put3_below (Nat.le_refl _) _ _ _), .inr ⟨HNN.out, rfl, (hz.put (by omega) _ _ _).lower (by omega)⟩⟩
          clear r0
          have r1 : R[0].toNat = 47 := by rw [HR0.out, hp2]; rfl
          have HC : Hid (ch = 47) := hp2
          clear hp hp2
          go_wp2_with fail
          refine (rParse_yes D _ ND.out).mono ?_
          rintro e w4 ⟨B, f, rfl, ho, hb⟩
          replace k2 := k2.below hb
          replace HB := HB.trans (hb.mono HB.size)
          replace hr := hr.below hb
          have hr2 := ho.rowz
          have hc2 := ho.capLe
          clear ho hb q0 q1 q2 g0 g1 g2
          obtain ⟨q0, q1, q2, g0, g1, g2⟩ := k2.facts
          by_cases hy0 : nu D.data.toList = 0
          · have HNN : Hid (∀ x y, ¬ Num S.data.toList x y) := HNO.out (fun h => by have := h.1; rw [HC.out] at this; exact absurd this (by decide)) (fun h => h.2.2.2 (by rw [← HDD.out]; exact hy0))
            have y0 : (((lim (nu D.data.toList)).length : Int) == 0) = true := by rw [beq_iff_eq, hy0, lim_zero]; rfl
            clear hy0
            go_wp2_with fail
            have hl0 := k2.lt
            clear q0 q1 q2 g0 g1 g2
            refine (rInt_c 0 _ (by omega)).mono ?_
            rintro e v17 ⟨z, rfl, hz, hb⟩
            replace k2 := k2.below hb
            replace HB := HB.trans (hb.mono HB.size)
            clear hb
            obtain ⟨q0, q1, q2, g0, g1, g2⟩ := k2.facts
            go_wp2
            refine ret3t (fn := Tryz.f11) Tryz.results11 rfl rfl rfl (k2.put (.bool z.s) (.slice z.A z.n z.c) (.slice z.B z.m z.d)) ?_
            exact ⟨z, 2, rfl, HB.trans (put3_below (Nat.le_refl _) _ _ _), .inr ⟨HNN.out, rfl, (hz.put (by omega) _ _ _).lower (by omega)⟩⟩
          · have HN : Hid (Num S.data.toList (nu W0.data.toList) (nu D.data.toList)) := by
              show Num _ _ _
              exact .frac _ _ (by rw [HM1.out, HDD.out, HC.out]) (.of NW.out) (.of ND.out) hy0
            have y0 : (((lim (nu D.data.toList)).length : Int) == 0) = false := by
              rw [beq_eq_false_iff_ne, lim_pos hy0]; simp; omega
            clear hy0
            go_wp2_with fail
            have hl0 := k2.lt
            clear q0 q1 q2 g0 g1 g2
            refine (rOf_n false A B _ _ c f _ _ _ _ (rn false (nu W0.data.toList) (nu D.data.toList)) _ (val_lim _) (val_lim _) (by omega) (by omega) hc hc2 hr hr2 rfl).mono ?_
            rintro e v18 ⟨z, rfl, hz, hb⟩
            replace k2 := k2.below hb
            replace HB := HB.trans (hb.mono HB.size)
            clear hb
            obtain ⟨q0, q1, q2, g0, g1, g2⟩ := k2.facts
            go_wp2
            refine ret3t (fn := Tryz.f11) Tryz.results11 rfl rfl rfl (k2.put (.bool z.s) (.slice z.A z.n z.c) (.slice z.B z.m z.d)) ?_
            exact ⟨z, 0, rfl, HB.trans (put3_below (Nat.le_refl _) _ _ _), .inl ⟨_, _, HN.out, rfl, (hz.put (by omega) _ _ _).lower (by omega)⟩⟩

end Go.Proofs.YtcmomoalohibiaaGreatDoor
