/-
  FltInts: the walk of the law.
-/
import Derived.Test.YtmehlbdlllkcgaaFltOrder
namespace Go.Proofs.Ytmehlbdlllkcgaa
set_option maxRecDepth 20000
open Go.RowKit

theorem cut_zero (neg : Bool) (n : Nat) : Ieee.Toward.even.cut neg n 0 = n := by
  unfold Ieee.Toward.cut
  rw [Nat.zero_min]
  show n / 1 + (decide (1 < 2 * (n % 1)) || (1 == 2 * (n % 1) && n / 1 % 2 == 1)).toNat = n
  rw [Nat.mod_one, Nat.div_one]
  rfl
/-- A whole number up to 2^53 is a number of 64 bits. -/
theorem int_place {x : Nat} (h0 : x ≠ 0) (h : x ≤ 9007199254740992) : ∃ E c, E ≤ 1075 ∧ 4503599627370496 ≤ c ∧ c < 9007199254740992 ∧ c * 2 ^ E = x * 2 ^ el ∧ ∀ neg, Ieee.double.nearest neg x 0 = (if neg then 9223372036854775808 else 0) + (4503599627370496 * E + c) := by
  by_cases h1 : x = 9007199254740992
  · subst h1
    refine ⟨1075, 4503599627370496, by omega, by omega, by omega, ?_, ?_⟩
    · rw [show 1075 = el + 1 from rfl, Nat.pow_succ, Nat.mul_left_comm, show (9007199254740992 : Nat) = 4503599627370496 * 2 from rfl, Nat.mul_comm (2 ^ el)]
    · intro neg
      cases neg <;> decide +kernel
  · obtain ⟨L, hL⟩ : ∃ L, L = Nat.log2 x := ⟨_, rfl⟩
    have b1 := (Nat.le_log2 h0).1 (Nat.le_refl _)
    have b2 := (Nat.log2_lt h0).1 (Nat.lt_succ_self _)
    rw [← hL] at b1 b2
    have hL52 : L ≤ 52 := by
      have := (Nat.log2_lt (k := 53) h0).2 (by rw [← p53]; omega)
      omega
    have e52 : (2 : Nat) ^ L * 2 ^ (52 - L) = 4503599627370496 := by
      rw [← Nat.pow_add, show L + (52 - L) = 52 by omega]
    have e53 : (2 : Nat) ^ (L + 1) * 2 ^ (52 - L) = 9007199254740992 := by
      rw [← Nat.pow_add, show L + 1 + (52 - L) = 53 by omega]
    have hp := Nat.pow_pos (n := 52 - L) (show 0 < 2 by omega)
    have c1 : 4503599627370496 ≤ x * 2 ^ (52 - L) := by rw [← e52]; exact Nat.mul_le_mul_right _ b1
    have c2 : x * 2 ^ (52 - L) < 9007199254740992 := by rw [← e53]; exact Nat.mul_lt_mul_of_pos_right b2 hp
    clear e52 e53 b1 b2
    refine ⟨L + 1022, x * 2 ^ (52 - L), by omega, c1, c2, ?_, ?_⟩
    · rw [Nat.mul_assoc, ← Nat.pow_add, show 52 - L + (L + 1022) = el by rw [el_eq]; omega]
    · intro neg
      unfold Ieee.Format.nearest
      rw [if_neg h0, ← hL]
      simp only [w_least, w_inf, w_bin]
      have el1 : max (0 + (L : Int) - (Ieee.double.fractionBits : Nat)) (-1074) = (L : Int) - 52 := by
        rw [show (Ieee.double.fractionBits : Nat) = 52 from rfl]; omega
      rw [el1, show (0 - ((L : Int) - 52)).toNat = 52 - L by omega, show ((L : Int) - 52 - 0).toNat = 0 by omega, show ((L : Int) - 52 - -1074).toNat = L + 1022 by omega, Nat.shiftLeft_eq]
      rw [cut_zero]
      generalize x * 2 ^ (52 - L) = c at *
      have hm : min ((L + 1022) * 4503599627370496 + c) 9218868437227405312 = 4503599627370496 * (L + 1022) + c := by omega
      rw [hm]
      cases neg
      · show 4503599627370496 * (L + 1022) + c = 0 + (4503599627370496 * (L + 1022) + c)
        omega
      · rfl

/-- All that the law asks of a whole number. -/
theorem int_all {i : Int} (h : -9007199254740992 ≤ i ∧ i ≤ 9007199254740992) : ∃ s e m, Parts (tof (i : Rat)) s e m ∧ e ≠ 2047 ∧ frq s e m = (i : Rat) ∧ floatOfInt .f64 i = tof (i : Rat) := by
  have hn : (i : Rat).num = i := rfl
  have hd : (i : Rat).den = 1 := rfl
  by_cases h0 : i = 0
  · subst h0
    have t0 : tof ((0 : Int) : Rat) = 0 := rfl
    refine ⟨false, 0, 0, ⟨by rw [t0]; rfl, by omega, by omega⟩, by omega, ?_, by rw [t0]; rfl⟩
    unfold frq
    rw [show worth (4503599627370496 * 0 + 0) = 0 from rfl, rn_zero (.inl rfl)]
    rfl
  · have hx0 : i.natAbs ≠ 0 := by omega
    obtain ⟨E, c, hE, c1, c2, hc, hnear⟩ := int_place hx0 (by omega)
    have hr0 : (i : Rat) ≠ 0 := by
      intro h1
      have := congrArg Rat.num h1
      rw [hn] at this
      exact h0 this
    have hwv : worth (4503599627370496 * E + c) = i.natAbs * 2 ^ el := by rw [worth_at (by omega) (by omega)]; exact hc
    have hD : dbl i.natAbs 1 = 4503599627370496 * E + c := by
      have h1 := dbl_scale (n := i.natAbs) (d := 1) (k := 2 ^ el) (Nat.pow_pos (by omega))
      rw [Nat.mul_one, Nat.mul_comm, ← hwv, dbl_worth (by omega) (by omega)] at h1
      exact h1.symm
    have ht : tof (i : Rat) = (if decide (i < 0) then 9223372036854775808 else 0) + (4503599627370496 * E + c) := by
      have e1 := tof_ne hr0
      rw [hn, hd, hD, if_neg (by omega)] at e1
      exact e1
    refine ⟨decide (i < 0), E + 1, c - 4503599627370496, ⟨?_, by omega, by omega⟩, by omega, ?_, ?_⟩
    · have e3 : 4503599627370496 * E + c = 4503599627370496 * (E + 1) + (c - 4503599627370496) := by clear hwv hD ht hc hnear; omega
      rw [ht, e3]
    · unfold frq
      rw [show 4503599627370496 * (E + 1) + (c - 4503599627370496) = 4503599627370496 * E + c by omega, hwv, Nat.mul_comm]
      have h1 := rn_scale (decide (i < 0)) (k := 2 ^ el) i.natAbs 1 (Nat.pow_pos (by omega))
      rw [Nat.mul_one] at h1
      rw [h1]
      refine rn_int_eq i _ _ ?_
      by_cases hi : i < 0
      · rw [decide_eq_true hi, if_pos rfl]; omega
      · rw [decide_eq_false hi, if_neg (by decide)]; omega
    · rw [ht]
      exact hnear _
theorem int_sz {i : Int} (h : -9007199254740992 ≤ i ∧ i ≤ 9007199254740992) : Sz (i : Rat) 2 :=
  ⟨show i.natAbs < 4294967296 ^ 2 by omega, show 1 < 4294967296 ^ 2 by omega⟩
theorem order_self {r : Rat} {p : Nat} (hr : Sz r p) (hp : p ≤ 120) : FloatKind.f64.format.order (tof r) (tof r) = some .eq := by
  rw [order_tof hr hr hp, ordI_eq rfl]

set_option maxHeartbeats 2000000 in
theorem FltInts_in (i : Int) (h : -9007199254740992 ≤ i ∧ i ≤ 9007199254740992) (w : World) :
    Calls Try.prog 11 #[.int .i64 i] w fun r w' => r = .returned (.bool true) ∧ Below w.heap.size w w' := by
  obtain ⟨s, e, m, P, he, hF, hN⟩ := int_all h
  have hz := Lib.hid (int_sz h)
  have hO := order_self (int_sz h) (by omega)
  have hfrom := Lib.hid (fun (w : World) => by
    have h1 := From_num _ s e m w P he
    rw [hF] at h1
    exact h1)
  have hint := Lib.hid (fun (w : World) => rInt_c i w (by omega))
  have hto := Lib.hid (fun (w : World) (z : Rv) (hv : Rw w z (i : Rat) 125) => To_c z (i : Rat) w hv)
  clear P he hF
  generalize (i : Rat) = q at *
  generalize tof q = U at *
  go_enter Try.func11, Try.ntmps11
  go_wp2_with fail
  refine (hint.out _).mono ?_
  rintro r w1 ⟨y, rfl, hy, hb1⟩
  have k1 := C3.new w1 (.bool y.s) (.slice y.A y.n y.c) (.slice y.B y.m y.d)
  have hb0 := (Below.refl w1.heap.size w1).alloc (Nat.le_refl _) (.cells #[.bool y.s, .slice y.A y.n y.c, .slice y.B y.m y.d] 24)
  have HB := hb1.trans (hb0.mono hb1.size)
  replace hy := hy.below hb0
  clear hb1 hb0
  obtain ⟨q0, q1, q2, g0, g1, g2⟩ := k1.facts
  go_wp2_with fail
  refine (hto.out _ y ((hy.rw hz.out).more (by omega))).mono ?_
  rintro r w2 ⟨rfl, hb2⟩
  replace k1 := k1.below hb2
  replace hy := hy.below hb2
  replace HB := HB.trans (hb2.mono HB.size)
  clear hb2 q0 q1 q2 g0 g1 g2 hto hint
  go_wp2_with fail
  refine (hfrom.out _).mono ?_
  rintro r w3 ⟨z, rfl, hzz, hb2⟩
  have k2 := C3.new w3 (.bool z.s) (.slice z.A z.n z.c) (.slice z.B z.m z.d)
  have hb3 := (Below.refl w3.heap.size w3).alloc (Nat.le_refl _) (.cells #[.bool z.s, .slice z.A z.n z.c, .slice z.B z.m z.d] 24)
  replace k1 := (k1.below hb2).below hb3
  replace hy := (hy.below hb2).below hb3
  replace hzz := hzz.below hb3
  replace HB := HB.trans (hb2.mono HB.size)
  replace HB := HB.trans (hb3.mono HB.size)
  clear hb2 hb3 hfrom
  obtain ⟨q0, q1, q2, g0, g1, g2⟩ := k1.facts
  obtain ⟨p0, p1, p2, o0, o1, o2⟩ := k2.facts
  have l1 := (hzz.rw hz.out).numLe
  have l2 := (hzz.rw hz.out).denLe
  go_wp2_with fail
  refine (one4_yes z y _ _ _ _ _ hzz hy rfl (by omega) (by omega)).mono ?_
  rintro r w4 ⟨rfl, hb4⟩
  replace HB := HB.trans (hb4.mono HB.size)
  clear hb4 hy hzz k1 k2 q0 q1 q2 g0 g1 g2 p0 p1 p2 o0 o1 o2 l1 l2
  go_wp2_with fail
  refine (known4_any _).mono ?_
  rintro r w5 ⟨rfl, hb5⟩
  replace HB := HB.trans (hb5.mono HB.size)
  clear hb5
  go_wp2
  go_ret
  exact ⟨rfl, HB⟩

set_option maxHeartbeats 800000 in
theorem FltInts_any (i : Int) (w : World) (hi : -9223372036854775808 ≤ i ∧ i ≤ 9223372036854775807) :
    Calls Try.prog 11 #[.int .i64 i] w fun r w' => r = .returned (.bool true) ∧ Below w.heap.size w w' := by
  by_cases h0 : i < -9007199254740992
  · go_enter Try.func11, Try.ntmps11
    go_wp2_with fail
    refine (known4_any _).mono ?_
    rintro r w5 ⟨rfl, HB⟩
    go_wp2
    go_ret
    exact ⟨rfl, HB⟩
  · by_cases h1 : 9007199254740992 < i
    · go_enter Try.func11, Try.ntmps11
      go_wp2_with fail
      refine (known4_any _).mono ?_
      rintro r w5 ⟨rfl, HB⟩
      go_wp2
      go_ret
      exact ⟨rfl, HB⟩
    · exact FltInts_in i (by omega) w
end Go.Proofs.Ytmehlbdlllkcgaa
