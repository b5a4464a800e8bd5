/-
  The document's Parse, first part: how many digits stand at the beginning; texts' parts.
  The document's Parse, second part: its walk.
  Both Parses: what they answer of a text that is a number, and of one that is none.
-/
import Derived.Test.YtcmkgoikmleanaaGreatDoorMDc
import Derived.Test.YtcmkgoikmleanaaGreatDoorMRf
namespace Go.Proofs.YtcmkgoikmleanaaGreatDoor
set_option maxRecDepth 20000
open Go.RowKit

theorem RunAt.at {S : ByteArray} {k j : Nat} (h : RunAt S.data.toList k) (hj : j < k) (hl : j < S.size) : 48 ≤ S[j].toNat ∧ S[j].toNat ≤ 57 := by
  have e := byte_eq S j hl
  refine h.dig _ (List.mem_of_getElem? (i := j) ?_)
  rw [List.getElem?_take_of_lt hj]; exact e
theorem RunAt.no {S : ByteArray} {k : Nat} (h : RunAt S.data.toList k) (hl : k < S.size) : ¬ (48 ≤ S[k].toNat ∧ S[k].toNat ≤ 57) := by
  rcases h.stop with h1 | ⟨c, h1, h2⟩
  · rw [← Lib.size_eq] at h1; omega
  · have e := byte_eq S k hl
    rw [e] at h1
    injection h1 with h1
    rw [h1]; exact h2

set_option maxHeartbeats 1600000 in
theorem run_any (S : ByteArray) (k : Nat) (w : World) (h : RunAt S.data.toList k) (hs : S.size ≤ 1000000) :
    Calls Tryz.prog 158 #[.string S] w fun e w' => e = .returned (.int .i64 (k : Int)) ∧ w = w' := by
  have HR := Lib.hid h
  have hk : k ≤ S.size := by rw [Lib.size_eq]; exact h.le
  clear h
  go_enter Tryz.func158, Tryz.ntmps158
  go_wp2
  go_loopw [3] (fun iv wr => ∃ j : Nat, j ≤ k ∧ iv = .int .i64 j ∧ wr = w) (fun iv _ => k - (intOf iv).toNat)
  case atStart => exact ⟨0, Nat.zero_le _, rfl, rfl⟩
  case round =>
    obtain ⟨j, hj, rfl, rfl⟩ := hrel
    have i0 : (0 : Int) ≤ (j : Int) := by omega
    by_cases h1 : j < k
    · have hlt : j < S.size := by omega
      have i1 : (j : Int) < (S.size : Int) := by omega
      obtain ⟨d1, d2⟩ := HR.out.at h1 hlt
      go_wp2
      go_roundw
      case rel => exact ⟨j + 1, by omega, by go_num, by first | trivial | rfl⟩
      case measure => simp [intOf]; omega
    · have e : j = k := by omega
      subst e
      by_cases hlt : j < S.size
      · have i1 : (j : Int) < (S.size : Int) := by omega
        have hno := HR.out.no hlt
        by_cases d1 : 48 ≤ S[j].toNat
        · have d2 : 57 < S[j].toNat := by omega
          clear hno
          go_wp2
          go_ret
          exact ⟨rfl, rfl⟩
        · clear hno
          go_wp2
          go_ret
          exact ⟨rfl, rfl⟩
      · have i1 : ¬ ((j : Int) < (S.size : Int)) := by omega
        go_wp2
        go_ret
        exact ⟨rfl, rfl⟩

set_option maxHeartbeats 1600000 in
/-- A text that is longer than 400 bytes is none. -/
theorem dParse_long (S : ByteArray) (w : World) (h1 : 400 < S.size) (h2 : S.size ≤ 1000000) :
    Calls Tryz.prog 138 #[.string S] w fun e w' => e = .returned (.tuple #[.agg #[.bool false, .slice none 0 0, .slice none 0 0], .int .i64 3]) ∧ Below w.heap.size w w' := by
  have i1 : (400 : Int) < (S.size : Int) := by omega
  go_enter Tryz.func138, Tryz.ntmps138
  go_wp2_with fail
  have k := C3.new w (.bool false) (.slice none 0 0) (.slice none 0 0)
  have HB0 := below_alloc w (.cells #[.bool false, .slice none 0 0, .slice none 0 0] 24)
  obtain ⟨q0, q1, q2, g0, g1, g2⟩ := k.facts
  go_wp2
  refine ret3t (fn := Tryz.f138) Tryz.results138 rfl rfl rfl k ?_
  exact ⟨rfl, HB0⟩

set_option maxHeartbeats 1600000 in
theorem rParse_long (S : ByteArray) (w : World) (h1 : 400 < S.size) (h2 : S.size ≤ 1000000) :
    Calls Tryz.prog 135 #[.string S] w fun e w' => ∃ z : Rv, e = .returned (.tuple #[.agg #[.bool z.s, .slice z.A z.n z.c, .slice z.B z.m z.d], .int .i64 3]) ∧ Rt w' w.heap.size z 0 ∧ Below w.heap.size w w' := by
  have i1 : (400 : Int) < (S.size : Int) := by omega
  go_enter Tryz.func135, Tryz.ntmps135
  go_wp2_with fail
  have k := C3.new w (.bool false) (.slice none 0 0) (.slice none 0 0)
  have HB0 := below_alloc w (.cells #[.bool false, .slice none 0 0, .slice none 0 0] 24)
  have hw1 : (w.alloc (.cells #[.bool false, .slice none 0 0, .slice none 0 0] 24)).heap.size = w.heap.size + 1 := by simp
  have k2 : C3 (w.alloc (.cells #[.bool false, .slice none 0 0, .slice none 0 0] 24)) w.heap.size (.bool false) (.slice none 0 0) (.slice none 0 0) := k
  refine (rInt_c 0 _ (by omega)).mono ?_
  rintro e w1 ⟨z, rfl, hz, hb⟩
  replace k2 := k2.below hb
  have HB := HB0.trans (hb.mono HB0.size)
  clear hb k HB0
  obtain ⟨q0, q1, q2, g0, g1, g2⟩ := k2.facts
  go_wp2
  refine ret3t (fn := Tryz.f135) Tryz.results135 rfl rfl rfl (k2.put (.bool z.s) (.slice z.A z.n z.c) (.slice z.B z.m z.d)) ?_
  exact ⟨z, rfl, (hz.put (by omega) _ _ _).lower (by omega), HB.trans (put3_below (Nat.le_refl _) _ _ _)⟩
end Go.Proofs.YtcmkgoikmleanaaGreatDoor

namespace Go.Proofs.YtcmkgoikmleanaaGreatDoor
set_option maxRecDepth 20000
open Go.RowKit

/-- What the document's Parse answers of a text of at most 400 bytes. -/
def RParse (neg : Bool) (m : List UInt8) (w : World) (e : Ending) (w' : World) : Prop :=
  ∃ (v : Rv) (code : Int), e = .returned (.tuple #[.agg #[.bool v.s, .slice v.A v.n v.c, .slice v.B v.m v.d], .int .i64 code]) ∧ Below w.heap.size w w' ∧
    ((∃ x y, Num m x y ∧ code = 0 ∧ Rt w' w.heap.size v (rn neg x y)) ∨ ((∀ x y, ¬ Num m x y) ∧ code = 2 ∧ Rt w' w.heap.size v 0))
theorem ext_data (S : ByteArray) (i j : Nat) : (S.extract i j).data.toList = (S.data.toList.take j).drop i := by
  rw [ByteArray.data_extract, Array.toList_extract, List.extract_eq_take_drop, ← List.drop_take]
theorem ba_ext {S T : ByteArray} (h : S.data.toList = T.data.toList) : S = T := by
  rw [str_of S _ rfl, str_of T _ rfl, h]
theorem head_byte {R : ByteArray} {c : UInt8} {d : List UInt8} (h : R.data.toList = c :: d) (hl : 0 < R.size) : R[0].toNat = c.toNat := by
  have e := byte_eq R 0 hl
  rw [h] at e
  simp at e
  rw [← e]

set_option maxRecDepth 100000 in
set_option maxHeartbeats 8000000 in
theorem rfParse_true (S M : ByteArray) (k : Nat) (w : World) (h1 : S.size ≤ 400) (HS : Hid (Sgn S.data.toList true M.data.toList)) (HRK : Hid (RunAt M.data.toList k)) :
    Calls Tryz.prog 135 #[.string S] w (RParse true M.data.toList w) := by
  have hS := HS.out.yes rfl
  have Hsz : Hid (S.size = M.size + 1) := by show _ = _; rw [Lib.size_eq, Lib.size_eq, hS]; simp
  have hpos : 0 < S.size := by have := Hsz.out; omega
  have hE : S.extract 1 S.size = M := ba_ext (by rw [ext_data, Lib.size_eq, List.take_length, hS]; rfl)
  have q := str_ne (S := S) hpos
  have d0 : S[0].toNat = 45 := head_byte hS hpos
  have i1 : (1 : Int) ≤ (S.size : Int) := by omega
  have i2 : (0 : Int) < (S.size : Int) := by omega
  have hms : M.size ≤ 400 := by have := Hsz.out; omega
  clear hS
  have hkm : k ≤ M.size := by rw [Lib.size_eq]; exact HRK.out.le
  obtain ⟨W0, hW0⟩ : ∃ W0, M.extract 0 k = W0 := ⟨_, rfl⟩
  obtain ⟨R, hR⟩ : ∃ R, M.extract k M.size = R := ⟨_, rfl⟩
  have HW : Hid (W0.data.toList = M.data.toList.take k) := by show _ = _; rw [← hW0, ext_data, List.drop_zero]
  have HRD : Hid (R.data.toList = M.data.toList.drop k) := by show _ = _; rw [← hR, ext_data, Lib.size_eq, List.take_length]
  have hRs : R.size = M.size - k := by rw [Lib.size_eq, HRD.out, List.length_drop, ← Lib.size_eq]
  have hWs : W0.size = k := by rw [Lib.size_eq, HW.out, List.length_take, ← Lib.size_eq]; omega
  have HRs := Lib.hid hRs
  have HWs := Lib.hid hWs
  clear hRs hWs
  have j0 : (0 : Int) ≤ (k : Int) := by omega
  have j1 : (k : Int) ≤ (M.size : Int) := by omega
  go_enter Tryz.func135, Tryz.ntmps135
  go_wp2_with fail
  have k2 : C3 (w.alloc (.cells #[.bool false, .slice none 0 0, .slice none 0 0] 24)) w.heap.size (.bool false) (.slice none 0 0) (.slice none 0 0) := C3.new w (.bool false) (.slice none 0 0) (.slice none 0 0)
  have HB := below_alloc w (.cells #[.bool false, .slice none 0 0, .slice none 0 0] 24)
  obtain ⟨q0, q1, q2, g0, g1, g2⟩ := k2.facts
  refine (run_any M k _ HRK.out (by omega)).mono ?_
  rintro e w1 ⟨rfl, rfl⟩
  go_wp2_with fail
  go_quiet (fail)
  replace k2 := k2.below (below_drewN' _ _ nq)
  replace HB := HB.trans ((below_drewN' _ _ nq).mono HB.size)
  clear q0 q1 q2 g0 g1 g2
  generalize (w.alloc (.cells #[.bool false, .slice none 0 0, .slice none 0 0] 24)).drewN nq = W1 at *
  obtain ⟨q0, q1, q2, g0, g1, g2⟩ := k2.facts
  by_cases hk0 : k = 0
  · have HNN : Hid (∀ x y, ¬ Num M.data.toList x y) := num_no_start (hk0 ▸ HRK.out)
    have j2 : ((k : Int) == 0) = true := by rw [beq_iff_eq]; omega
    clear hk0
    go_wp2_with fail
    have hl0 := k2.lt
    clear q0 q1 q2 g0 g1 g2
    refine (rInt_c 0 _ (by omega)).mono ?_
    rintro e v11 ⟨z, rfl, hz, hb⟩
    replace k2 := k2.below hb
    replace HB := HB.trans (hb.mono HB.size)
    clear hb
    obtain ⟨q0, q1, q2, g0, g1, g2⟩ := k2.facts
    go_wp2
    refine ret3t (fn := Tryz.f135) Tryz.results135 rfl rfl rfl (k2.put (.bool z.s) (.slice z.A z.n z.c) (.slice z.B z.m z.d)) ?_
    exact ⟨z, 2, rfl, HB.trans (put3_below (Nat.le_refl _) _ _ _), .inr ⟨HNN.out, rfl, (hz.put (by omega) _ _ _).lower (by omega)⟩⟩
  · have j2 : ((k : Int) == 0) = false := by rw [beq_eq_false_iff_ne]; omega
    have NW : Hid (IsNum W0.data.toList) := by
      refine ⟨by rw [← Lib.size_eq]; have := HWs.out; omega, by rw [← Lib.size_eq]; have := HWs.out; omega, ?_⟩
      rw [HW.out]; exact HRK.out.dig
    have hlx := nu_len' NW.out.dig NW.out.len
    go_wp2_with fail
    refine (rParse_yes W0 _ NW.out).mono ?_
    rintro e w2 ⟨A, c, rfl, ho, hb⟩
    replace k2 := k2.below hb
    replace HB := HB.trans (hb.mono HB.size)
    have hr := ho.rowz
    have hc := ho.capLe
    clear ho hb q0 q1 q2 g0 g1 g2
    obtain ⟨q0, q1, q2, g0, g1, g2⟩ := k2.facts
    by_cases hkM : k = M.size
    · have e := str_nil (S := R) (by have := HRs.out; omega)
      subst e
      have HN : Hid (Num M.data.toList (nu W0.data.toList) 1) := by
        have e : W0.data.toList = M.data.toList := by rw [HW.out]; exact List.take_of_length_le (by rw [← Lib.size_eq]; omega)
        show Num _ _ _
        rw [e]
        have := NW.out
        rw [e] at this
        exact .whole (.of this)
      clear hkM hk0
      go_wp2_with fail
      have hbn := below_alloc w2 (.cells #[.int .u32 1] 82)
      replace k2 := k2.below hbn
      replace HB := HB.trans (hbn.mono HB.size)
      replace hr := hr.below hbn
      have hlit := Row.lit1 w2 1 1 rfl (by omega)
      clear hbn
      have hl0 := k2.lt
      clear q0 q1 q2 g0 g1 g2
      refine (rOf_n true A _ _ 1 c 1 (nu W0.data.toList) 1 _ [1] (rn true (nu W0.data.toList) 1) _ (val_lim _) (val_one 1) (by omega) (by omega) hc (Nat.le_refl _) hr hlit rfl).mono ?_
      rintro e v12 ⟨z, rfl, hz, hb⟩
      replace k2 := k2.below hb
      replace HB := HB.trans (hb.mono HB.size)
      clear hb
      obtain ⟨q0, q1, q2, g0, g1, g2⟩ := k2.facts
      go_wp2
      refine ret3t (fn := Tryz.f135) Tryz.results135 rfl rfl rfl (k2.put (.bool z.s) (.slice z.A z.n z.c) (.slice z.B z.m z.d)) ?_
      exact ⟨z, 0, rfl, HB.trans (put3_below (Nat.le_refl _) _ _ _), .inl ⟨_, _, HN.out, rfl, (hz.put (by omega) _ _ _).lower (by omega)⟩⟩
    · obtain ⟨ch, d, hd1, hd2, hd3⟩ := HRK.out.split (by rw [← Lib.size_eq]; exact hkM)
      have HD2 : Hid (R.data.toList = ch :: d) := by show _ = _; rw [HRD.out]; exact hd2
      obtain ⟨D, hDE⟩ : ∃ D, R.extract 1 R.size = D := ⟨_, rfl⟩
      have HDD : Hid (D.data.toList = d) := by show _ = _; rw [← hDE, ext_data, Lib.size_eq, List.take_length, HD2.out]; rfl
      have hRp : 0 < R.size := by have := HRs.out; omega
      have HDs : Hid (D.size = R.size - 1) := by show _ = _; rw [Lib.size_eq, Lib.size_eq, HDD.out, HD2.out]; simp
      have q3 := str_ne (S := R) hRp
      have HR0 : Hid (R[0].toNat = ch.toNat) := head_byte HD2.out hRp
      obtain ⟨j, hj⟩ := run_ex D.data.toList
      have HJ := Lib.hid hj
      have hjl : j ≤ D.size := by rw [Lib.size_eq]; exact hj.le
      have hDl : D.size ≤ 400 := by have := HDs.out; have := HRs.out; omega
      have HNO : Hid (¬ (ch = 46 ∧ IsDs W0.data.toList ∧ IsDs d) → ¬ (ch = 47 ∧ IsDs W0.data.toList ∧ IsDs d ∧ nu d ≠ 0) → ∀ x y, ¬ Num M.data.toList x y) := by
        intro h h'
        rw [HW.out] at h h'
        exact num_no_sign hd1 HRK.out.dig hd3 h h'
      have HM1 : Hid (M.data.toList = W0.data.toList ++ ch :: d) := by show _ = _; rw [HW.out]; exact hd1
      have m1 : (1 : Int) ≤ (R.size : Int) := by omega
      have m2 : (R.size : Int) ≤ 400 := by have := HRs.out; omega
      have m3 : (0 : Int) < (R.size : Int) := by omega
      have m4 : IntKind.i64.wrap ((R.size : Int) - 1) = (R.size : Int) - 1 := by rw [IntKind.wrap_i64]; omega
      clear hd1 hd2 hd3 hj hkM hk0
      go_wp2_with fail
      refine (run_any D j _ HJ.out (by omega)).mono ?_
      rintro e w3 ⟨rfl, rfl⟩
      by_cases hj0 : j = 0
      · have HNN : Hid (∀ x y, ¬ Num M.data.toList x y) := by
          have key : ¬ IsDs d := fun h => by
            rw [← HDD.out] at h
            have e := HJ.out.all h.dig
            have := List.length_pos_iff.2 h.pos
            omega
          exact HNO.out (fun h => key h.2.2) (fun h => key h.2.2.1)
        have l1 : ((j : Int) == 0) = true := by rw [beq_iff_eq]; omega
        clear hj0
        go_wp2_with fail
        have hl0 := k2.lt
        clear q0 q1 q2 g0 g1 g2
        refine (rInt_c 0 _ (by omega)).mono ?_
        rintro e v13 ⟨z, rfl, hz, hb⟩
        replace k2 := k2.below hb
        replace HB := HB.trans (hb.mono HB.size)
        clear hb
        obtain ⟨q0, q1, q2, g0, g1, g2⟩ := k2.facts
        go_wp2
        refine ret3t (fn := Tryz.f135) Tryz.results135 rfl rfl rfl (k2.put (.bool z.s) (.slice z.A z.n z.c) (.slice z.B z.m z.d)) ?_
        exact ⟨z, 2, rfl, HB.trans (put3_below (Nat.le_refl _) _ _ _), .inr ⟨HNN.out, rfl, (hz.put (by omega) _ _ _).lower (by omega)⟩⟩
      · have l1 : ((j : Int) == 0) = false := by rw [beq_eq_false_iff_ne]; omega
        by_cases hjD : j = D.size
        rotate_left
        · have HNN : Hid (∀ x y, ¬ Num M.data.toList x y) := by
            have key : ¬ IsDs d := fun h => by
              rw [← HDD.out] at h
              have e := HJ.out.all h.dig
              rw [← Lib.size_eq] at e
              omega
            exact HNO.out (fun h => key h.2.2) (fun h => key h.2.2.1)
          have l2 : ((j : Int) != (R.size : Int) - 1) = true := by rw [bne_iff_ne]; have := HDs.out; omega
          clear hj0 hjD
          go_wp2_with fail
          have hl0 := k2.lt
          clear q0 q1 q2 g0 g1 g2
          refine (rInt_c 0 _ (by omega)).mono ?_
          rintro e v14 ⟨z, rfl, hz, hb⟩
          replace k2 := k2.below hb
          replace HB := HB.trans (hb.mono HB.size)
          clear hb
          obtain ⟨q0, q1, q2, g0, g1, g2⟩ := k2.facts
          go_wp2
          refine ret3t (fn := Tryz.f135) Tryz.results135 rfl rfl rfl (k2.put (.bool z.s) (.slice z.A z.n z.c) (.slice z.B z.m z.d)) ?_
          exact ⟨z, 2, rfl, HB.trans (put3_below (Nat.le_refl _) _ _ _), .inr ⟨HNN.out, rfl, (hz.put (by omega) _ _ _).lower (by omega)⟩⟩
        have l2 : ((j : Int) != (R.size : Int) - 1) = false := by rw [bne_eq_false_iff_eq]; have := HDs.out; omega
        have ND : Hid (IsNum D.data.toList) := by
          refine ⟨by rw [← Lib.size_eq]; omega, by rw [← Lib.size_eq]; omega, ?_⟩
          exact HJ.out.full (by rw [← Lib.size_eq]; exact hjD)
        have hly := nu_len' ND.out.dig ND.out.len
        have hj4 : j ≤ 400 := by omega
        have HJS : Hid (j = D.data.toList.length) := by show _ = _; rw [← Lib.size_eq]; exact hjD
        clear hj0 hjD hjl
        by_cases hp : ch = 46
        · have r0 : R[0].toNat = 46 := by rw [HR0.out, hp]; rfl
          have HN : Hid (Num M.data.toList (nu W0.data.toList * 10 ^ j + nu D.data.toList) (10 ^ j)) := by
            show Num _ _ _
            rw [HJS.out, ← nu_append]
            exact .point _ _ (by rw [HM1.out, HDD.out, hp]) (.of NW.out) (.of ND.out)
          have hlen := HN.out.len (by rw [← Lib.size_eq]; exact hms)
          have htl : (lim (10 ^ j)).length ≤ 50 := hlen.2
          have hpl : (lim (nu W0.data.toList * 10 ^ j)).length ≤ 100 := ((Bd.ofL hlx).mul (Bd.ofL htl)).len
          clear hp
          go_wp2_with fail
          refine (rParse_yes D _ ND.out).mono ?_
          rintro e w4 ⟨B, f, rfl, ho, hb⟩
          replace k2 := k2.below hb
          replace HB := HB.trans (hb.mono HB.size)
          replace hr := hr.below hb
          have hr2 := ho.rowz
          have hc2 := ho.capLe
          clear ho hb q0 q1 q2 g0 g1 g2
          obtain ⟨q0, q1, q2, g0, g1, g2⟩ := k2.facts
          go_wp2_with fail
          refine (ten_any j _ (by omega)).mono ?_
          rintro e w5 ⟨T, tc, rfl, ho, hb⟩
          replace k2 := k2.below hb
          replace HB := HB.trans (hb.mono HB.size)
          replace hr := hr.below hb
          replace hr2 := hr2.below hb
          have hr3 := ho.rowz
          have hc3 := ho.capLe
          clear ho hb q0 q1 q2 g0 g1 g2
          obtain ⟨q0, q1, q2, g0, g1, g2⟩ := k2.facts
          go_wp2_with fail
          refine (rMul_v _ _ _ _ _ _ _ _ _ _ _ (val_lim _) (val_lim _) (by omega) (by omega) hr hr3).mono ?_
          rintro e w6 ⟨P, pc, rfl, ho, hb⟩
          replace k2 := k2.below hb
          replace HB := HB.trans (hb.mono HB.size)
          replace hr2 := hr2.below hb
          replace hr3 := hr3.below hb
          have hr4 := ho.rowz
          clear ho hb q0 q1 q2 g0 g1 g2
          obtain ⟨q0, q1, q2, g0, g1, g2⟩ := k2.facts
          go_wp2_with fail
          refine (rAdd_v _ _ _ _ _ _ _ _ _ _ _ (val_lim _) (val_lim _) (by omega) (by omega) hr4 hr2).mono ?_
          rintro e w7 ⟨Q, qc, rfl, ho, hb⟩
          replace k2 := k2.below hb
          replace HB := HB.trans (hb.mono HB.size)
          replace hr3 := hr3.below hb
          have hr5 := ho.rowz
          have hc5 := ho.capLe
          clear ho hb q0 q1 q2 g0 g1 g2
          obtain ⟨q0, q1, q2, g0, g1, g2⟩ := k2.facts
          go_wp2_with fail
          have hl0 := k2.lt
          clear q0 q1 q2 g0 g1 g2
          refine (rOf_n true Q T _ _ qc tc _ _ _ _ (rn true (nu W0.data.toList * 10 ^ j + nu D.data.toList) (10 ^ j)) _ (val_lim _) (val_lim _) (by omega) (by omega) hc5 hc3 hr5 hr3 rfl).mono ?_
          rintro e v15 ⟨z, rfl, hz, hb⟩
          replace k2 := k2.below hb
          replace HB := HB.trans (hb.mono HB.size)
          clear hb
          obtain ⟨q0, q1, q2, g0, g1, g2⟩ := k2.facts
          go_wp2
          refine ret3t (fn := Tryz.f135) Tryz.results135 rfl rfl rfl (k2.put (.bool z.s) (.slice z.A z.n z.c) (.slice z.B z.m z.d)) ?_
          exact ⟨z, 0, rfl, HB.trans (put3_below (Nat.le_refl _) _ _ _), .inl ⟨_, _, HN.out, rfl, (hz.put (by omega) _ _ _).lower (by omega)⟩⟩
        · have r0 : R[0].toNat ≠ 46 := by rw [HR0.out]; intro h; exact hp (UInt8.toNat_inj.1 (by rw [h]; rfl))
          by_cases hp2 : ch = 47
          rotate_left
          · have r1 : R[0].toNat ≠ 47 := by rw [HR0.out]; intro h; exact hp2 (UInt8.toNat_inj.1 (by rw [h]; rfl))
            have HNN : Hid (∀ x y, ¬ Num M.data.toList x y) := HNO.out (fun h => hp h.1) (fun h => hp2 h.1)
            have s0 : (((R[0].toNat : Nat) : Int) != 46) = true := by rw [bne_iff_ne]; omega
            have s1 : (((R[0].toNat : Nat) : Int) != 47) = true := by rw [bne_iff_ne]; omega
            clear hp hp2
            go_wp2_with fail
            have hl0 := k2.lt
            clear q0 q1 q2 g0 g1 g2
            refine (rInt_c 0 _ (by omega)).mono ?_
            rintro e v16 ⟨z, rfl, hz, hb⟩
            replace k2 := k2.below hb
            replace HB := HB.trans (hb.mono HB.size)
            clear hb
            obtain ⟨q0, q1, q2, g0, g1, g2⟩ := k2.facts
            go_wp2
            refine ret3t (fn := Tryz.f135) Tryz.results135 rfl rfl rfl (k2.put (.bool z.s) (.slice z.A z.n z.c) (.slice z.B z.m z.d)) ?_
            exact ⟨z, 2, rfl, HB.trans (put3_below (Nat.le_refl _) _ _ _), .inr ⟨HNN.out, rfl, (hz.put (by omega) _ _ _).lower (by omega)⟩⟩
          clear r0
          have r1 : R[0].toNat = 47 := by rw [HR0.out, hp2]; rfl
          have HC : Hid (ch = 47) := hp2
          clear hp hp2
          go_wp2_with fail
          refine (rParse_yes D _ ND.out).mono ?_
          rintro e w4 ⟨B, f, rfl, ho, hb⟩
          replace k2 := k2.below hb
          replace HB := HB.trans (hb.mono HB.size)
          replace hr := hr.below hb
          have hr2 := ho.rowz
          have hc2 := ho.capLe
          clear ho hb q0 q1 q2 g0 g1 g2
          obtain ⟨q0, q1, q2, g0, g1, g2⟩ := k2.facts
          by_cases hy0 : nu D.data.toList = 0
          · have HNN : Hid (∀ x y, ¬ Num M.data.toList x y) := HNO.out (fun h => by have := h.1; rw [HC.out] at this; exact absurd this (by decide)) (fun h => h.2.2.2 (by rw [← HDD.out]; exact hy0))
            have y0 : (((lim (nu D.data.toList)).length : Int) == 0) = true := by rw [beq_iff_eq, hy0, lim_zero]; rfl
            clear hy0
            go_wp2_with fail
            have hl0 := k2.lt
            clear q0 q1 q2 g0 g1 g2
            refine (rInt_c 0 _ (by omega)).mono ?_
            rintro e v17 ⟨z, rfl, hz, hb⟩
            replace k2 := k2.below hb
            replace HB := HB.trans (hb.mono HB.size)
            clear hb
            obtain ⟨q0, q1, q2, g0, g1, g2⟩ := k2.facts
            go_wp2
            refine ret3t (fn := Tryz.f135) Tryz.results135 rfl rfl rfl (k2.put (.bool z.s) (.slice z.A z.n z.c) (.slice z.B z.m z.d)) ?_
            exact ⟨z, 2, rfl, HB.trans (put3_below (Nat.le_refl _) _ _ _), .inr ⟨HNN.out, rfl, (hz.put (by omega) _ _ _).lower (by omega)⟩⟩
          · have HN : Hid (Num M.data.toList (nu W0.data.toList) (nu D.data.toList)) := by
              show Num _ _ _
              exact .frac _ _ (by rw [HM1.out, HDD.out, HC.out]) (.of NW.out) (.of ND.out) hy0
            have y0 : (((lim (nu D.data.toList)).length : Int) == 0) = false := by
              rw [beq_eq_false_iff_ne, lim_pos hy0]; simp; omega
            clear hy0
            go_wp2_with fail
            have hl0 := k2.lt
            clear q0 q1 q2 g0 g1 g2
            refine (rOf_n true A B _ _ c f _ _ _ _ (rn true (nu W0.data.toList) (nu D.data.toList)) _ (val_lim _) (val_lim _) (by omega) (by omega) hc hc2 hr hr2 rfl).mono ?_
            rintro e v18 ⟨z, rfl, hz, hb⟩
            replace k2 := k2.below hb
            replace HB := HB.trans (hb.mono HB.size)
            clear hb
            obtain ⟨q0, q1, q2, g0, g1, g2⟩ := k2.facts
            go_wp2
            refine ret3t (fn := Tryz.f135) Tryz.results135 rfl rfl rfl (k2.put (.bool z.s) (.slice z.A z.n z.c) (.slice z.B z.m z.d)) ?_
            exact ⟨z, 0, rfl, HB.trans (put3_below (Nat.le_refl _) _ _ _), .inl ⟨_, _, HN.out, rfl, (hz.put (by omega) _ _ _).lower (by omega)⟩⟩

set_option maxRecDepth 100000 in
set_option maxHeartbeats 8000000 in
theorem rfParse_false (S M : ByteArray) (k : Nat) (hpos : 0 < S.size) (w : World) (h1 : S.size ≤ 400) (HS : Hid (Sgn S.data.toList false M.data.toList)) (HRK : Hid (RunAt M.data.toList k)) :
    Calls Tryz.prog 135 #[.string S] w (RParse false M.data.toList w) := by
  have hS := HS.out.no rfl
  have e := ba_ext hS.1
  subst e
  have q := str_ne (S := S) hpos
  have d0 : S[0].toNat ≠ 45 := by
    intro h
    obtain ⟨c, t, e⟩ := List.exists_cons_of_ne_nil (l := S.data.toList) (by intro e; rw [Lib.size_eq, e] at hpos; simp at hpos)
    rw [head_byte e hpos] at h
    refine hS.2 ?_
    rw [e]
    simp
    exact UInt8.toNat_inj.1 (by rw [h]; rfl)
  have i1 : (1 : Int) ≤ (S.size : Int) := by omega
  have i2 : (0 : Int) < (S.size : Int) := by omega
  have hms : S.size ≤ 400 := h1
  clear hS
  have hkm : k ≤ S.size := by rw [Lib.size_eq]; exact HRK.out.le
  obtain ⟨W0, hW0⟩ : ∃ W0, S.extract 0 k = W0 := ⟨_, rfl⟩
  obtain ⟨R, hR⟩ : ∃ R, S.extract k S.size = R := ⟨_, rfl⟩
  have HW : Hid (W0.data.toList = S.data.toList.take k) := by show _ = _; rw [← hW0, ext_data, List.drop_zero]
  have HRD : Hid (R.data.toList = S.data.toList.drop k) := by show _ = _; rw [← hR, ext_data, Lib.size_eq, List.take_length]
  have hRs : R.size = S.size - k := by rw [Lib.size_eq, HRD.out, List.length_drop, ← Lib.size_eq]
  have hWs : W0.size = k := by rw [Lib.size_eq, HW.out, List.length_take, ← Lib.size_eq]; omega
  have HRs := Lib.hid hRs
  have HWs := Lib.hid hWs
  clear hRs hWs
  have j0 : (0 : Int) ≤ (k : Int) := by omega
  have j1 : (k : Int) ≤ (S.size : Int) := by omega
  go_enter Tryz.func135, Tryz.ntmps135
  go_wp2_with fail
  have k2 : C3 (w.alloc (.cells #[.bool false, .slice none 0 0, .slice none 0 0] 24)) w.heap.size (.bool false) (.slice none 0 0) (.slice none 0 0) := C3.new w (.bool false) (.slice none 0 0) (.slice none 0 0)
  have HB := below_alloc w (.cells #[.bool false, .slice none 0 0, .slice none 0 0] 24)
  obtain ⟨q0, q1, q2, g0, g1, g2⟩ := k2.facts
  refine (run_any S k _ HRK.out (by omega)).mono ?_
  rintro e w1 ⟨rfl, rfl⟩
  go_wp2_with fail
  go_quiet (fail)
  replace k2 := k2.below (below_drewN' _ _ nq)
  replace HB := HB.trans ((below_drewN' _ _ nq).mono HB.size)
  clear q0 q1 q2 g0 g1 g2
  generalize (w.alloc (.cells #[.bool false, .slice none 0 0, .slice none 0 0] 24)).drewN nq = W1 at *
  obtain ⟨q0, q1, q2, g0, g1, g2⟩ := k2.facts
  by_cases hk0 : k = 0
  · have HNN : Hid (∀ x y, ¬ Num S.data.toList x y) := num_no_start (hk0 ▸ HRK.out)
    have j2 : ((k : Int) == 0) = true := by rw [beq_iff_eq]; omega
    clear hk0
    go_wp2_with fail
    have hl0 := k2.lt
    clear q0 q1 q2 g0 g1 g2
    refine (rInt_c 0 _ (by omega)).mono ?_
    rintro e v11 ⟨z, rfl, hz, hb⟩
    replace k2 := k2.below hb
    replace HB := HB.trans (hb.mono HB.size)
    clear hb
    obtain ⟨q0, q1, q2, g0, g1, g2⟩ := k2.facts
    go_wp2
    refine ret3t (fn := Tryz.f135) Tryz.results135 rfl rfl rfl (k2.put (.bool z.s) (.slice z.A z.n z.c) (.slice z.B z.m z.d)) ?_
    exact ⟨z, 2, rfl, HB.trans (put3_below (Nat.le_refl _) _ _ _), .inr ⟨HNN.out, rfl, (hz.put (by omega) _ _ _).lower (by omega)⟩⟩
  · have j2 : ((k : Int) == 0) = false := by rw [beq_eq_false_iff_ne]; omega
    have NW : Hid (IsNum W0.data.toList) := by
      refine ⟨by rw [← Lib.size_eq]; have := HWs.out; omega, by rw [← Lib.size_eq]; have := HWs.out; omega, ?_⟩
      rw [HW.out]; exact HRK.out.dig
    have hlx := nu_len' NW.out.dig NW.out.len
    go_wp2_with fail
    refine (rParse_yes W0 _ NW.out).mono ?_
    rintro e w2 ⟨A, c, rfl, ho, hb⟩
    replace k2 := k2.below hb
    replace HB := HB.trans (hb.mono HB.size)
    have hr := ho.rowz
    have hc := ho.capLe
    clear ho hb q0 q1 q2 g0 g1 g2
    obtain ⟨q0, q1, q2, g0, g1, g2⟩ := k2.facts
    by_cases hkM : k = S.size
    · have e := str_nil (S := R) (by have := HRs.out; omega)
      subst e
      have HN : Hid (Num S.data.toList (nu W0.data.toList) 1) := by
        have e : W0.data.toList = S.data.toList := by rw [HW.out]; exact List.take_of_length_le (by rw [← Lib.size_eq]; omega)
        show Num _ _ _
        rw [e]
        have := NW.out
        rw [e] at this
        exact .whole (.of this)
      clear hkM hk0
      go_wp2_with fail
      have hbn := below_alloc w2 (.cells #[.int .u32 1] 82)
      replace k2 := k2.below hbn
      replace HB := HB.trans (hbn.mono HB.size)
      replace hr := hr.below hbn
      have hlit := Row.lit1 w2 1 1 rfl (by omega)
      clear hbn
      have hl0 := k2.lt
      clear q0 q1 q2 g0 g1 g2
      refine (rOf_n false A _ _ 1 c 1 (nu W0.data.toList) 1 _ [1] (rn false (nu W0.data.toList) 1) _ (val_lim _) (val_one 1) (by omega) (by omega) hc (Nat.le_refl _) hr hlit rfl).mono ?_
      rintro e v12 ⟨z, rfl, hz, hb⟩
      replace k2 := k2.below hb
      replace HB := HB.trans (hb.mono HB.size)
      clear hb
      obtain ⟨q0, q1, q2, g0, g1, g2⟩ := k2.facts
      go_wp2
      refine ret3t (fn := Tryz.f135) Tryz.results135 rfl rfl rfl (k2.put (.bool z.s) (.slice z.A z.n z.c) (.slice z.B z.m z.d)) ?_
      exact ⟨z, 0, rfl, HB.trans (put3_below (Nat.le_refl _) _ _ _), .inl ⟨_, _, HN.out, rfl, (hz.put (by omega) _ _ _).lower (by omega)⟩⟩
    · obtain ⟨ch, d, hd1, hd2, hd3⟩ := HRK.out.split (by rw [← Lib.size_eq]; exact hkM)
      have HD2 : Hid (R.data.toList = ch :: d) := by show _ = _; rw [HRD.out]; exact hd2
      obtain ⟨D, hDE⟩ : ∃ D, R.extract 1 R.size = D := ⟨_, rfl⟩
      have HDD : Hid (D.data.toList = d) := by show _ = _; rw [← hDE, ext_data, Lib.size_eq, List.take_length, HD2.out]; rfl
      have hRp : 0 < R.size := by have := HRs.out; omega
      have HDs : Hid (D.size = R.size - 1) := by show _ = _; rw [Lib.size_eq, Lib.size_eq, HDD.out, HD2.out]; simp
      have q3 := str_ne (S := R) hRp
      have HR0 : Hid (R[0].toNat = ch.toNat) := head_byte HD2.out hRp
      obtain ⟨j, hj⟩ := run_ex D.data.toList
      have HJ := Lib.hid hj
      have hjl : j ≤ D.size := by rw [Lib.size_eq]; exact hj.le
      have hDl : D.size ≤ 400 := by have := HDs.out; have := HRs.out; omega
      have HNO : Hid (¬ (ch = 46 ∧ IsDs W0.data.toList ∧ IsDs d) → ¬ (ch = 47 ∧ IsDs W0.data.toList ∧ IsDs d ∧ nu d ≠ 0) → ∀ x y, ¬ Num S.data.toList x y) := by
        intro h h'
        rw [HW.out] at h h'
        exact num_no_sign hd1 HRK.out.dig hd3 h h'
      have HM1 : Hid (S.data.toList = W0.data.toList ++ ch :: d) := by show _ = _; rw [HW.out]; exact hd1
      have m1 : (1 : Int) ≤ (R.size : Int) := by omega
      have m2 : (R.size : Int) ≤ 400 := by have := HRs.out; omega
      have m3 : (0 : Int) < (R.size : Int) := by omega
      have m4 : IntKind.i64.wrap ((R.size : Int) - 1) = (R.size : Int) - 1 := by rw [IntKind.wrap_i64]; omega
      clear hd1 hd2 hd3 hj hkM hk0
      go_wp2_with fail
      refine (run_any D j _ HJ.out (by omega)).mono ?_
      rintro e w3 ⟨rfl, rfl⟩
      by_cases hj0 : j = 0
      · have HNN : Hid (∀ x y, ¬ Num S.data.toList x y) := by
          have key : ¬ IsDs d := fun h => by
            rw [← HDD.out] at h
            have e := HJ.out.all h.dig
            have := List.length_pos_iff.2 h.pos
            omega
          exact HNO.out (fun h => key h.2.2) (fun h => key h.2.2.1)
        have l1 : ((j : Int) == 0) = true := by rw [beq_iff_eq]; omega
        clear hj0
        go_wp2_with fail
        have hl0 := k2.lt
        clear q0 q1 q2 g0 g1 g2
        refine (rInt_c 0 _ (by omega)).mono ?_
        rintro e v13 ⟨z, rfl, hz, hb⟩
        replace k2 := k2.below hb
        replace HB := HB.trans (hb.mono HB.size)
        clear hb
        obtain ⟨q0, q1, q2, g0, g1, g2⟩ := k2.facts
        go_wp2
        refine ret3t (fn := Tryz.f135) Tryz.results135 rfl rfl rfl (k2.put (.bool z.s) (.slice z.A z.n z.c) (.slice z.B z.m z.d)) ?_
        exact ⟨z, 2, rfl, HB.trans (put3_below (Nat.le_refl _) _ _ _), .inr ⟨HNN.out, rfl, (hz.put (by omega) _ _ _).lower (by omega)⟩⟩
      · have l1 : ((j : Int) == 0) = false := by rw [beq_eq_false_iff_ne]; omega
        by_cases hjD : j = D.size
        rotate_left
        · have HNN : Hid (∀ x y, ¬ Num S.data.toList x y) := by
            have key : ¬ IsDs d := fun h => by
              rw [← HDD.out] at h
              have e := HJ.out.all h.dig
              rw [← Lib.size_eq] at e
              omega
            exact HNO.out (fun h => key h.2.2) (fun h => key h.2.2.1)
          have l2 : ((j : Int) != (R.size : Int) - 1) = true := by rw [bne_iff_ne]; have := HDs.out; omega
          clear hj0 hjD
          go_wp2_with fail
          have hl0 := k2.lt
          clear q0 q1 q2 g0 g1 g2
          refine (rInt_c 0 _ (by omega)).mono ?_
          rintro e v14 ⟨z, rfl, hz, hb⟩
          replace k2 := k2.below hb
          replace HB := HB.trans (hb.mono HB.size)
          clear hb
          obtain ⟨q0, q1, q2, g0, g1, g2⟩ := k2.facts
          go_wp2
          refine ret3t (fn := Tryz.f135) Tryz.results135 rfl rfl rfl (k2.put (.bool z.s) (.slice z.A z.n z.c) (.slice z.B z.m z.d)) ?_
          exact ⟨z, 2, rfl, HB.trans (put3_below (Nat.le_refl _) _ _ _), .inr ⟨HNN.out, rfl, (hz.put (by omega) _ _ _).lower (by omega)⟩⟩
        have l2 : ((j : Int) != (R.size : Int) - 1) = false := by rw [bne_eq_false_iff_eq]; have := HDs.out; omega
        have ND : Hid (IsNum D.data.toList) := by
          refine ⟨by rw [← Lib.size_eq]; omega, by rw [← Lib.size_eq]; omega, ?_⟩
          exact HJ.out.full (by rw [← Lib.size_eq]; exact hjD)
        have hly := nu_len' ND.out.dig ND.out.len
        have hj4 : j ≤ 400 := by omega
        have HJS : Hid (j = D.data.toList.length) := by show _ = _; rw [← Lib.size_eq]; exact hjD
        clear hj0 hjD hjl
        by_cases hp : ch = 46
        · have r0 : R[0].toNat = 46 := by rw [HR0.out, hp]; rfl
          have HN : Hid (Num S.data.toList (nu W0.data.toList * 10 ^ j + nu D.data.toList) (10 ^ j)) := by
            show Num _ _ _
            rw [HJS.out, ← nu_append]
            exact .point _ _ (by rw [HM1.out, HDD.out, hp]) (.of NW.out) (.of ND.out)
          have hlen := HN.out.len (by rw [← Lib.size_eq]; exact hms)
          have htl : (lim (10 ^ j)).length ≤ 50 := hlen.2
          have hpl : (lim (nu W0.data.toList * 10 ^ j)).length ≤ 100 := ((Bd.ofL hlx).mul (Bd.ofL htl)).len
          clear hp
          go_wp2_with fail
          refine (rParse_yes D _ ND.out).mono ?_
          rintro e w4 ⟨B, f, rfl, ho, hb⟩
          replace k2 := k2.below hb
          replace HB := HB.trans (hb.mono HB.size)
          replace hr := hr.below hb
          have hr2 := ho.rowz
          have hc2 := ho.capLe
          clear ho hb q0 q1 q2 g0 g1 g2
          obtain ⟨q0, q1, q2, g0, g1, g2⟩ := k2.facts
          go_wp2_with fail
          refine (ten_any j _ (by omega)).mono ?_
          rintro e w5 ⟨T, tc, rfl, ho, hb⟩
          replace k2 := k2.below hb
          replace HB := HB.trans (hb.mono HB.size)
          replace hr := hr.below hb
          replace hr2 := hr2.below hb
          have hr3 := ho.rowz
          have hc3 := ho.capLe
          clear ho hb q0 q1 q2 g0 g1 g2
          obtain ⟨q0, q1, q2, g0, g1, g2⟩ := k2.facts
          go_wp2_with fail
          refine (rMul_v _ _ _ _ _ _ _ _ _ _ _ (val_lim _) (val_lim _) (by omega) (by omega) hr hr3).mono ?_
          rintro e w6 ⟨P, pc, rfl, ho, hb⟩
          replace k2 := k2.below hb
          replace HB := HB.trans (hb.mono HB.size)
          replace hr2 := hr2.below hb
          replace hr3 := hr3.below hb
          have hr4 := ho.rowz
          clear ho hb q0 q1 q2 g0 g1 g2
          obtain ⟨q0, q1, q2, g0, g1, g2⟩ := k2.facts
          go_wp2_with fail
          refine (rAdd_v _ _ _ _ _ _ _ _ _ _ _ (val_lim _) (val_lim _) (by omega) (by omega) hr4 hr2).mono ?_
          rintro e w7 ⟨Q, qc, rfl, ho, hb⟩
          replace k2 := k2.below hb
          replace HB := HB.trans (hb.mono HB.size)
          replace hr3 := hr3.below hb
          have hr5 := ho.rowz
          have hc5 := ho.capLe
          clear ho hb q0 q1 q2 g0 g1 g2
          obtain ⟨q0, q1, q2, g0, g1, g2⟩ := k2.facts
          go_wp2_with fail
          have hl0 := k2.lt
          clear q0 q1 q2 g0 g1 g2
          refine (rOf_n false Q T _ _ qc tc _ _ _ _ (rn false (nu W0.data.toList * 10 ^ j + nu D.data.toList) (10 ^ j)) _ (val_lim _) (val_lim _) (by omega) (by omega) hc5 hc3 hr5 hr3 rfl).mono ?_
          rintro e v15 ⟨z, rfl, hz, hb⟩
          replace k2 := k2.below hb
          replace HB := HB.trans (hb.mono HB.size)
          clear hb
          obtain ⟨q0, q1, q2, g0, g1, g2⟩ := k2.facts
          go_wp2
          refine ret3t (fn := Tryz.f135) Tryz.results135 rfl rfl rfl (k2.put (.bool z.s) (.slice z.A z.n z.c) (.slice z.B z.m z.d)) ?_
          exact ⟨z, 0, rfl, HB.trans (put3_below (Nat.le_refl _) _ _ _), .inl ⟨_, _, HN.out, rfl, (hz.put (by omega) _ _ _).lower (by omega)⟩⟩
        · have r0 : R[0].toNat ≠ 46 := by rw [HR0.out]; intro h; exact hp (UInt8.toNat_inj.1 (by rw [h]; rfl))
          by_cases hp2 : ch = 47
          rotate_left
          · have r1 : R[0].toNat ≠ 47 := by rw [HR0.out]; intro h; exact hp2 (UInt8.toNat_inj.1 (by rw [h]; rfl))
            have HNN : Hid (∀ x y, ¬ Num S.data.toList x y) := HNO.out (fun h => hp h.1) (fun h => hp2 h.1)
            have s0 : (((R[0].toNat : Nat) : Int) != 46) = true := by rw [bne_iff_ne]; omega
            have s1 : (((R[0].toNat : Nat) : Int) != 47) = true := by rw [bne_iff_ne]; omega
            clear hp hp2
            go_wp2_with fail
            have hl0 := k2.lt
            clear q0 q1 q2 g0 g1 g2
            refine (rInt_c 0 _ (by omega)).mono ?_
            rintro e v16 ⟨z, rfl, hz, hb⟩
            replace k2 := k2.below hb
            replace HB := HB.trans (hb.mono HB.size)
            clear hb
            obtain ⟨q0, q1, q2, g0, g1, g2⟩ := k2.facts
            go_wp2
            refine ret3t (fn := Tryz.f135) Tryz.results135 rfl rfl rfl (k2.put (.bool z.s) (.slice z.A z.n z.c) (.slice z.B z.m z.d)) ?_
            exact ⟨z, 2, rfl, HB.trans (put3_below (Nat.le_refl _) _ _ _), .inr ⟨HNN.out, rfl, (hz.put (by omega) _ _ _).lower (by omega)⟩⟩
          clear r0
          have r1 : R[0].toNat = 47 := by rw [HR0.out, hp2]; rfl
          have HC : Hid (ch = 47) := hp2
          clear hp hp2
          go_wp2_with fail
          refine (rParse_yes D _ ND.out).mono ?_
          rintro e w4 ⟨B, f, rfl, ho, hb⟩
          replace k2 := k2.below hb
          replace HB := HB.trans (hb.mono HB.size)
          replace hr := hr.below hb
          have hr2 := ho.rowz
          have hc2 := ho.capLe
          clear ho hb q0 q1 q2 g0 g1 g2
          obtain ⟨q0, q1, q2, g0, g1, g2⟩ := k2.facts
          by_cases hy0 : nu D.data.toList = 0
          · have HNN : Hid (∀ x y, ¬ Num S.data.toList x y) := HNO.out (fun h => by have := h.1; rw [HC.out] at this; exact absurd this (by decide)) (fun h => h.2.2.2 (by rw [← HDD.out]; exact hy0))
            have y0 : (((lim (nu D.data.toList)).length : Int) == 0) = true := by rw [beq_iff_eq, hy0, lim_zero]; rfl
            clear hy0
            go_wp2_with fail
            have hl0 := k2.lt
            clear q0 q1 q2 g0 g1 g2
            refine (rInt_c 0 _ (by omega)).mono ?_
            rintro e v17 ⟨z, rfl, hz, hb⟩
            replace k2 := k2.below hb
            replace HB := HB.trans (hb.mono HB.size)
            clear hb
            obtain ⟨q0, q1, q2, g0, g1, g2⟩ := k2.facts
            go_wp2
            refine ret3t (fn := Tryz.f135) Tryz.results135 rfl rfl rfl (k2.put (.bool z.s) (.slice z.A z.n z.c) (.slice z.B z.m z.d)) ?_
            exact ⟨z, 2, rfl, HB.trans (put3_below (Nat.le_refl _) _ _ _), .inr ⟨HNN.out, rfl, (hz.put (by omega) _ _ _).lower (by omega)⟩⟩
          · have HN : Hid (Num S.data.toList (nu W0.data.toList) (nu D.data.toList)) := by
              show Num _ _ _
              exact .frac _ _ (by rw [HM1.out, HDD.out, HC.out]) (.of NW.out) (.of ND.out) hy0
            have y0 : (((lim (nu D.data.toList)).length : Int) == 0) = false := by
              rw [beq_eq_false_iff_ne, lim_pos hy0]; simp; omega
            clear hy0
            go_wp2_with fail
            have hl0 := k2.lt
            clear q0 q1 q2 g0 g1 g2
            refine (rOf_n false A B _ _ c f _ _ _ _ (rn false (nu W0.data.toList) (nu D.data.toList)) _ (val_lim _) (val_lim _) (by omega) (by omega) hc hc2 hr hr2 rfl).mono ?_
            rintro e v18 ⟨z, rfl, hz, hb⟩
            replace k2 := k2.below hb
            replace HB := HB.trans (hb.mono HB.size)
            clear hb
            obtain ⟨q0, q1, q2, g0, g1, g2⟩ := k2.facts
            go_wp2
            refine ret3t (fn := Tryz.f135) Tryz.results135 rfl rfl rfl (k2.put (.bool z.s) (.slice z.A z.n z.c) (.slice z.B z.m z.d)) ?_
            exact ⟨z, 0, rfl, HB.trans (put3_below (Nat.le_refl _) _ _ _), .inl ⟨_, _, HN.out, rfl, (hz.put (by omega) _ _ _).lower (by omega)⟩⟩

end Go.Proofs.YtcmkgoikmleanaaGreatDoor

namespace Go.Proofs.YtcmkgoikmleanaaGreatDoor
set_option maxRecDepth 20000
open Go.RowKit

set_option maxRecDepth 100000 in
set_option maxHeartbeats 2000000 in
theorem rfParse_empty (w : World) :
    Calls Tryz.prog 135 #[.string ⟨#[]⟩] w (RParse false [] w) := by
  have HR : Hid (RunAt (⟨#[]⟩ : ByteArray).data.toList 0) := ⟨Nat.le_refl _, Dig.nil, .inl rfl⟩
  have HNN : Hid (∀ x y, ¬ Num [] x y) := num_no_start HR.out
  have e1 : (⟨#[]⟩ : ByteArray).extract 0 0 = ⟨#[]⟩ := rfl
  have e2 : (⟨#[]⟩ : ByteArray).size = 0 := rfl
  go_enter Tryz.func135, Tryz.ntmps135
  go_wp2_with fail
  have k2 : C3 (w.alloc (.cells #[.bool false, .slice none 0 0, .slice none 0 0] 24)) w.heap.size (.bool false) (.slice none 0 0) (.slice none 0 0) := C3.new w (.bool false) (.slice none 0 0) (.slice none 0 0)
  have HB := below_alloc w (.cells #[.bool false, .slice none 0 0, .slice none 0 0] 24)
  obtain ⟨q0, q1, q2, g0, g1, g2⟩ := k2.facts
  refine (run_any ⟨#[]⟩ 0 _ HR.out (by rw [e2]; omega)).mono ?_
  rintro e w1 ⟨rfl, rfl⟩
  go_wp2_with fail
  go_quiet (fail)
  replace k2 := k2.below (below_drewN' _ _ nq)
  replace HB := HB.trans ((below_drewN' _ _ nq).mono HB.size)
  clear q0 q1 q2 g0 g1 g2
  generalize (w.alloc (.cells #[.bool false, .slice none 0 0, .slice none 0 0] 24)).drewN nq = W1 at *
  obtain ⟨q0, q1, q2, g0, g1, g2⟩ := k2.facts
  go_wp2_with fail
  have hl0 := k2.lt
  clear q0 q1 q2 g0 g1 g2
  refine (rInt_c 0 _ (by omega)).mono ?_
  rintro e v1 ⟨z, rfl, hz, hb⟩
  replace k2 := k2.below hb
  replace HB := HB.trans (hb.mono HB.size)
  clear hb
  obtain ⟨q0, q1, q2, g0, g1, g2⟩ := k2.facts
  go_wp2
  refine ret3t (fn := Tryz.f135) Tryz.results135 rfl rfl rfl (k2.put (.bool z.s) (.slice z.A z.n z.c) (.slice z.B z.m z.d)) ?_
  exact ⟨z, 2, rfl, HB.trans (put3_below (Nat.le_refl _) _ _ _), .inr ⟨HNN.out, rfl, (hz.put (by omega) _ _ _).lower (by omega)⟩⟩

theorem rfParse_p (S M : ByteArray) (neg : Bool) (w : World) (h1 : S.size ≤ 400) (hs : Sgn S.data.toList neg M.data.toList) :
    Calls Tryz.prog 135 #[.string S] w (RParse neg M.data.toList w) := by
  obtain ⟨k, hk⟩ := run_ex M.data.toList
  cases neg with
  | true => exact rfParse_true S M k w h1 hs hk
  | false =>
    by_cases hpos : 0 < S.size
    · exact rfParse_false S M k hpos w h1 hs hk
    · have e := str_nil (S := S) (by omega)
      subst e
      have e := ba_ext (hs.no rfl).1
      subst e
      exact rfParse_empty w
theorem rfParse_v (F : ByteArray) (r : Rat) (w : World) (h : Txt F r) :
    Calls Tryz.prog 135 #[.string F] w fun e w' => ∃ z : Rv, e = .returned (.tuple #[.agg #[.bool z.s, .slice z.A z.n z.c, .slice z.B z.m z.d], .int .i64 0]) ∧ Rt w' w.heap.size z r ∧ Below w.heap.size w w' := by
  obtain ⟨h1, neg, M, x, y, hs, hn, rfl⟩ := h
  refine (rfParse_p F M neg w h1 hs).mono ?_
  rintro e w' ⟨v, code, rfl, hb, ⟨x', y', hn', rfl, hv⟩ | ⟨hno, _, _⟩⟩
  · obtain ⟨rfl, rfl⟩ := hn.one hn'
    exact ⟨v, rfl, hv, hb⟩
  · exact absurd hn (hno x y)
theorem Txt.sz {F : ByteArray} {r : Rat} (h : Txt F r) : Sz r 50 := by
  obtain ⟨h1, neg, M, x, y, hs, hn, rfl⟩ := h
  have hms : M.data.toList.length ≤ 400 := by
    rw [Lib.size_eq] at h1
    cases neg with
    | true => have := congrArg List.length (hs.yes rfl); rw [List.length_cons] at this; omega
    | false => have := congrArg List.length (hs.no rfl).1; omega
  have hl := hn.len hms
  exact Sz.ofRn rfl (Bd.ofL hl.1) (Bd.ofL hl.2) (by omega)
/-- F is no text of a number: the answer is the code c. -/
def Bad (F : ByteArray) (c : Int) : Prop :=
  (F.size ≤ 400 ∧ c = 2 ∧ ∃ (neg : Bool) (M : ByteArray), Sgn F.data.toList neg M.data.toList ∧ ∀ x y, ¬ Num M.data.toList x y) ∨ (400 < F.size ∧ F.size ≤ 1000000 ∧ c = 3)
theorem txt_or (F : ByteArray) (h : F.size ≤ 1000000) : (∃ r, Txt F r) ∨ Bad F 2 ∨ Bad F 3 := by
  by_cases h1 : F.size ≤ 400
  · obtain ⟨neg, m, hs⟩ := sgn_ex F.data.toList
    obtain ⟨M, rfl⟩ := str_data m
    by_cases h2 : ∃ x y, Num M.data.toList x y
    · obtain ⟨x, y, h2⟩ := h2
      exact .inl ⟨_, h1, neg, M, x, y, hs, h2, rfl⟩
    · exact .inr (.inl (.inl ⟨h1, rfl, neg, M, hs, fun x y h => h2 ⟨x, y, h⟩⟩))
  · exact .inr (.inr (.inr ⟨by omega, h, rfl⟩))
theorem dParse_bad (F : ByteArray) (c : Int) (w : World) (h : Bad F c) (hx : Mx w) :
    Calls Tryz.prog 138 #[.string F] w fun e w' => e = .returned (.tuple #[.agg #[.bool false, .slice none 0 0, .slice none 0 0], .int .i64 c]) ∧ Below w.heap.size w w' := by
  rcases h with ⟨h1, rfl, neg, M, hs, hno⟩ | ⟨h1, h2, rfl⟩
  · refine (dParse_p F M neg w h1 hs hx).mono ?_
    rintro e w' ⟨v, code, rfl, hb, ⟨x', y', hn', _, _⟩ | ⟨_, rfl, rfl⟩⟩
    · exact absurd hn' (hno _ _)
    · exact ⟨rfl, hb⟩
  · exact dParse_long F w h1 h2
theorem rfParse_bad (F : ByteArray) (c : Int) (w : World) (h : Bad F c) :
    Calls Tryz.prog 135 #[.string F] w fun e w' => ∃ z : Rv, e = .returned (.tuple #[.agg #[.bool z.s, .slice z.A z.n z.c, .slice z.B z.m z.d], .int .i64 c]) ∧ Rt w' w.heap.size z 0 ∧ Below w.heap.size w w' := by
  rcases h with ⟨h1, rfl, neg, M, hs, hno⟩ | ⟨h1, h2, rfl⟩
  · refine (rfParse_p F M neg w h1 hs).mono ?_
    rintro e w' ⟨v, code, rfl, hb, ⟨x', y', hn', _, _⟩ | ⟨_, rfl, hv⟩⟩
    · exact absurd hn' (hno _ _)
    · exact ⟨v, rfl, hv, hb⟩
  · exact rParse_long F w h1 h2
theorem Rw.zero (w : World) : Rw w ⟨false, none, 0, 0, none, 0, 0⟩ 0 50 := ⟨Nat.le_refl _, Nat.le_refl _, Nat.zero_le _, Nat.zero_le _, [], [], Row.nil_ _ _ _, Row.nil_ _ _ _, rn_zero (.inl rfl)⟩
end Go.Proofs.YtcmkgoikmleanaaGreatDoor
