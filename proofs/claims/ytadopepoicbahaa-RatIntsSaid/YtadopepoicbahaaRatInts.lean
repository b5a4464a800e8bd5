/-
  RatInts: the walk of the law over two whole numbers.
-/
import Derived.Test.YtadopepoicbahaaRatFloors
namespace Go.Proofs.Ytadopepoicbahaa
open Go.RowKit

theorem Sz.big {i : Int} (h : i.natAbs < 18446744073709551616) : Sz (i : Rat) 2 := ⟨show i.natAbs < 4294967296 ^ 2 by omega, show 1 < 4294967296 ^ 2 by omega⟩
theorem sgn_int {a b : Int} (h : a < b) : sgn ((a : Rat) - (b : Rat)) = -1 := sgn_lt (Rat.intCast_lt_intCast.2 h)
theorem sgn_int' {a b : Int} (h : b < a) : sgn ((a : Rat) - (b : Rat)) = 1 := by rw [sgn_turn, sgn_int h]; rfl
theorem sgn_int0 {a b : Int} (h : a = b) : sgn ((a : Rat) - (b : Rat)) = 0 := sgn_sub_zero.2 (by rw [h])
theorem mul_bound {a b : Int} (ha : -1073741824 ≤ a ∧ a ≤ 1073741824) (hb : -1073741824 ≤ b ∧ b ≤ 1073741824) : -1152921504606846976 ≤ a * b ∧ a * b ≤ 1152921504606846976 := by
  have h1 : (a * b).natAbs ≤ 1073741824 * 1073741824 := by
    rw [Int.natAbs_mul]
    exact Nat.mul_le_mul (by omega) (by omega)
  omega

set_option maxRecDepth 100000 in
set_option maxHeartbeats 8000000 in
theorem RatInts_small (a b : Int) (w : World) (ha : -1073741824 ≤ a ∧ a ≤ 1073741824) (hb0 : -1073741824 ≤ b ∧ b ≤ 1073741824) :
    Calls Try.prog 9 #[.int .i64 a, .int .i64 b] w fun e w' => e = .returned (.bool true) ∧ Below w.heap.size w w' := by
  obtain ⟨m1, m2⟩ := mul_bound ha hb0
  obtain ⟨a1, a2⟩ := ha
  obtain ⟨b1, b2⟩ := hb0
  have z_a : Sz (a : Rat) 1 := Sz.int (by omega)
  have z_b : Sz (b : Rat) 1 := Sz.int (by omega)
  have s_ab := z_a.add z_b
  have d_ab := z_a.sub z_b
  have p_ab := z_a.mul z_b
  have z_s : Sz ((a + b : Int) : Rat) 2 := Sz.big (by omega)
  have z_d : Sz ((a - b : Int) : Rat) 2 := Sz.big (by omega)
  have z_p : Sz ((a * b : Int) : Rat) 2 := Sz.big (by omega)
  have HB := Below.refl w.heap.size w
  go_enter Try.func9, Try.ntmps9
  go_wp2_with fail
  refine (Int_any a _ (by omega)).mono ?_
  rintro e W1 ⟨x, rfl, ht_x, hb⟩
  replace HB := HB.trans (hb.mono HB.size)
  have h_x := (ht_x.rw z_a).more (show _ ≤ 2000 by omega)
  clear hb
  go_wp2_with fail
  refine (Int_any b _ (by omega)).mono ?_
  rintro e W2 ⟨y, rfl, ht_y, hb⟩
  replace HB := HB.trans (hb.mono HB.size)
  replace h_x := h_x.below hb
  replace ht_x := ht_x.below hb
  have h_y := (ht_y.rw z_b).more (show _ ≤ 2000 by omega)
  clear hb
  have k_x := (C3.new W2 (.bool x.s) (.slice x.A x.n x.c) (.slice x.B x.m x.d)).alloc (.cells #[.bool y.s, .slice y.A y.n y.c, .slice y.B y.m y.d] 24)
  have k_y := C3.new (W2.alloc (.cells #[.bool x.s, .slice x.A x.n x.c, .slice x.B x.m x.d] 24)) (.bool y.s) (.slice y.A y.n y.c) (.slice y.B y.m y.d)
  have e1 : (W2.alloc (.cells #[.bool x.s, .slice x.A x.n x.c, .slice x.B x.m x.d] 24)).heap.size = W2.heap.size + 1 := by simp
  rw [e1] at k_y
  have hb := ((Below.refl W2.heap.size W2).alloc (Nat.le_refl _) (.cells #[.bool x.s, .slice x.A x.n x.c, .slice x.B x.m x.d] 24)).alloc (by simp) (.cells #[.bool y.s, .slice y.A y.n y.c, .slice y.B y.m y.d] 24)
  replace HB := HB.trans (hb.mono HB.size)
  replace h_x := h_x.below hb
  replace ht_x := ht_x.below hb
  replace h_y := h_y.below hb
  replace ht_y := ht_y.below hb
  clear hb e1
  have tri : (a < b ∧ sgn ((a : Rat) - (b : Rat)) = -1) ∨ (b < a ∧ sgn ((a : Rat) - (b : Rat)) = 1) ∨ (a = b ∧ sgn ((a : Rat) - (b : Rat)) = 0) := by
    rcases Int.lt_trichotomy a b with h | h | h
    · exact .inl ⟨h, sgn_int h⟩
    · exact .inr (.inr ⟨h, sgn_int0 h⟩)
    · exact .inr (.inl ⟨h, sgn_int' h⟩)
  rcases tri with ⟨hab, hsg⟩ | ⟨hab, hsg⟩ | ⟨hab, hsg⟩
  · have HS := Lib.hid hsg
    clear hsg
    obtain ⟨x_0, x_1, x_2, x_3, x_4, x_5⟩ := k_x.facts
    obtain ⟨y_0, y_1, y_2, y_3, y_4, y_5⟩ := k_y.facts
    go_wp2_with fail
    refine (Add_c x y _ _ _ h_x h_y).mono ?_
    rintro e W3 ⟨u1, rfl, ht_u1, hb⟩
    replace HB := HB.trans (hb.mono HB.size)
    replace k_x := k_x.below hb
    replace k_y := k_y.below hb
    replace h_x := h_x.below hb
    replace ht_x := ht_x.below hb
    replace h_y := h_y.below hb
    replace ht_y := ht_y.below hb
    have h_u1 := (ht_u1.rw s_ab).more (show _ ≤ 2000 by omega)
    clear hb
    clear x_0 x_1 x_2 x_3 x_4 x_5 y_0 y_1 y_2 y_3 y_4 y_5
    obtain ⟨x_0, x_1, x_2, x_3, x_4, x_5⟩ := k_x.facts
    obtain ⟨y_0, y_1, y_2, y_3, y_4, y_5⟩ := k_y.facts
    go_wp2_with fail
    refine (Int_any (a + b) _ (by omega)).mono ?_
    rintro e W4 ⟨u2, rfl, ht_u2, hb⟩
    replace HB := HB.trans (hb.mono HB.size)
    replace k_x := k_x.below hb
    replace k_y := k_y.below hb
    replace h_x := h_x.below hb
    replace ht_x := ht_x.below hb
    replace h_y := h_y.below hb
    replace ht_y := ht_y.below hb
    replace h_u1 := h_u1.below hb
    replace ht_u1 := ht_u1.below hb
    have h_u2 := (ht_u2.rw z_s).more (show _ ≤ 2000 by omega)
    clear hb
    clear x_0 x_1 x_2 x_3 x_4 x_5 y_0 y_1 y_2 y_3 y_4 y_5
    obtain ⟨x_0, x_1, x_2, x_3, x_4, x_5⟩ := k_x.facts
    obtain ⟨y_0, y_1, y_2, y_3, y_4, y_5⟩ := k_y.facts
    go_wp2_with fail
    refine (one_yes u1 u2 _ _ _ _ _ ht_u1 ht_u2 (Rat.intCast_add a b).symm (ht_u1.len s_ab (by omega)).1 (ht_u1.len s_ab (by omega)).2).mono ?_
    rintro e W5 ⟨rfl, hb⟩
    replace HB := HB.trans (hb.mono HB.size)
    replace k_x := k_x.below hb
    replace k_y := k_y.below hb
    replace h_x := h_x.below hb
    replace ht_x := ht_x.below hb
    replace h_y := h_y.below hb
    replace ht_y := ht_y.below hb
    replace h_u1 := h_u1.below hb
    replace ht_u1 := ht_u1.below hb
    replace h_u2 := h_u2.below hb
    replace ht_u2 := ht_u2.below hb
    clear hb
    clear x_0 x_1 x_2 x_3 x_4 x_5 y_0 y_1 y_2 y_3 y_4 y_5
    obtain ⟨x_0, x_1, x_2, x_3, x_4, x_5⟩ := k_x.facts
    obtain ⟨y_0, y_1, y_2, y_3, y_4, y_5⟩ := k_y.facts
    clear h_u1 ht_u1 h_u2 ht_u2
    go_wp2_with fail
    refine (Sub_c x y _ _ _ h_x h_y).mono ?_
    rintro e W6 ⟨u3, rfl, ht_u3, hb⟩
    replace HB := HB.trans (hb.mono HB.size)
    replace k_x := k_x.below hb
    replace k_y := k_y.below hb
    replace h_x := h_x.below hb
    replace ht_x := ht_x.below hb
    replace h_y := h_y.below hb
    replace ht_y := ht_y.below hb
    have h_u3 := (ht_u3.rw d_ab).more (show _ ≤ 2000 by omega)
    clear hb
    clear x_0 x_1 x_2 x_3 x_4 x_5 y_0 y_1 y_2 y_3 y_4 y_5
    obtain ⟨x_0, x_1, x_2, x_3, x_4, x_5⟩ := k_x.facts
    obtain ⟨y_0, y_1, y_2, y_3, y_4, y_5⟩ := k_y.facts
    go_wp2_with fail
    refine (Int_any (a - b) _ (by omega)).mono ?_
    rintro e W7 ⟨u4, rfl, ht_u4, hb⟩
    replace HB := HB.trans (hb.mono HB.size)
    replace k_x := k_x.below hb
    replace k_y := k_y.below hb
    replace h_x := h_x.below hb
    replace ht_x := ht_x.below hb
    replace h_y := h_y.below hb
    replace ht_y := ht_y.below hb
    replace h_u3 := h_u3.below hb
    replace ht_u3 := ht_u3.below hb
    have h_u4 := (ht_u4.rw z_d).more (show _ ≤ 2000 by omega)
    clear hb
    clear x_0 x_1 x_2 x_3 x_4 x_5 y_0 y_1 y_2 y_3 y_4 y_5
    obtain ⟨x_0, x_1, x_2, x_3, x_4, x_5⟩ := k_x.facts
    obtain ⟨y_0, y_1, y_2, y_3, y_4, y_5⟩ := k_y.facts
    go_wp2_with fail
    refine (one_yes u3 u4 _ _ _ _ _ ht_u3 ht_u4 (Rat.intCast_sub a b).symm (ht_u3.len d_ab (by omega)).1 (ht_u3.len d_ab (by omega)).2).mono ?_
    rintro e W8 ⟨rfl, hb⟩
    replace HB := HB.trans (hb.mono HB.size)
    replace k_x := k_x.below hb
    replace k_y := k_y.below hb
    replace h_x := h_x.below hb
    replace ht_x := ht_x.below hb
    replace h_y := h_y.below hb
    replace ht_y := ht_y.below hb
    replace h_u3 := h_u3.below hb
    replace ht_u3 := ht_u3.below hb
    replace h_u4 := h_u4.below hb
    replace ht_u4 := ht_u4.below hb
    clear hb
    clear x_0 x_1 x_2 x_3 x_4 x_5 y_0 y_1 y_2 y_3 y_4 y_5
    obtain ⟨x_0, x_1, x_2, x_3, x_4, x_5⟩ := k_x.facts
    obtain ⟨y_0, y_1, y_2, y_3, y_4, y_5⟩ := k_y.facts
    clear h_u3 ht_u3 h_u4 ht_u4
    go_wp2_with fail
    refine (Mul_c x y _ _ _ h_x h_y).mono ?_
    rintro e W9 ⟨u5, rfl, ht_u5, hb⟩
    replace HB := HB.trans (hb.mono HB.size)
    replace k_x := k_x.below hb
    replace k_y := k_y.below hb
    replace h_x := h_x.below hb
    replace ht_x := ht_x.below hb
    replace h_y := h_y.below hb
    replace ht_y := ht_y.below hb
    have h_u5 := (ht_u5.rw p_ab).more (show _ ≤ 2000 by omega)
    clear hb
    clear x_0 x_1 x_2 x_3 x_4 x_5 y_0 y_1 y_2 y_3 y_4 y_5
    obtain ⟨x_0, x_1, x_2, x_3, x_4, x_5⟩ := k_x.facts
    obtain ⟨y_0, y_1, y_2, y_3, y_4, y_5⟩ := k_y.facts
    go_wp2_with fail
    refine (Int_any (a * b) _ (by omega)).mono ?_
    rintro e W10 ⟨u6, rfl, ht_u6, hb⟩
    replace HB := HB.trans (hb.mono HB.size)
    replace k_x := k_x.below hb
    replace k_y := k_y.below hb
    replace h_x := h_x.below hb
    replace ht_x := ht_x.below hb
    replace h_y := h_y.below hb
    replace ht_y := ht_y.below hb
    replace h_u5 := h_u5.below hb
    replace ht_u5 := ht_u5.below hb
    have h_u6 := (ht_u6.rw z_p).more (show _ ≤ 2000 by omega)
    clear hb
    clear x_0 x_1 x_2 x_3 x_4 x_5 y_0 y_1 y_2 y_3 y_4 y_5
    obtain ⟨x_0, x_1, x_2, x_3, x_4, x_5⟩ := k_x.facts
    obtain ⟨y_0, y_1, y_2, y_3, y_4, y_5⟩ := k_y.facts
    go_wp2_with fail
    refine (one_yes u5 u6 _ _ _ _ _ ht_u5 ht_u6 (Rat.intCast_mul a b).symm (ht_u5.len p_ab (by omega)).1 (ht_u5.len p_ab (by omega)).2).mono ?_
    rintro e W11 ⟨rfl, hb⟩
    replace HB := HB.trans (hb.mono HB.size)
    replace k_x := k_x.below hb
    replace k_y := k_y.below hb
    replace h_x := h_x.below hb
    replace ht_x := ht_x.below hb
    replace h_y := h_y.below hb
    replace ht_y := ht_y.below hb
    replace h_u5 := h_u5.below hb
    replace ht_u5 := ht_u5.below hb
    replace h_u6 := h_u6.below hb
    replace ht_u6 := ht_u6.below hb
    clear hb
    clear x_0 x_1 x_2 x_3 x_4 x_5 y_0 y_1 y_2 y_3 y_4 y_5
    obtain ⟨x_0, x_1, x_2, x_3, x_4, x_5⟩ := k_x.facts
    obtain ⟨y_0, y_1, y_2, y_3, y_4, y_5⟩ := k_y.facts
    clear h_u5 ht_u5 h_u6 ht_u6
    go_wp2_with fail
    refine (Cmp_v x y _ _ (-1) _ h_x h_y HS.out).mono ?_
    rintro e W12 ⟨rfl, hb⟩
    replace HB := HB.trans (hb.mono HB.size)
    replace k_x := k_x.below hb
    replace k_y := k_y.below hb
    replace h_x := h_x.below hb
    replace ht_x := ht_x.below hb
    replace h_y := h_y.below hb
    replace ht_y := ht_y.below hb
    clear hb
    clear x_0 x_1 x_2 x_3 x_4 x_5 y_0 y_1 y_2 y_3 y_4 y_5
    obtain ⟨x_0, x_1, x_2, x_3, x_4, x_5⟩ := k_x.facts
    obtain ⟨y_0, y_1, y_2, y_3, y_4, y_5⟩ := k_y.facts
    go_wp2_with fail
    refine (known_any _).mono ?_
    rintro e W13 ⟨rfl, hb⟩
    replace HB := HB.trans (hb.mono HB.size)
    replace k_x := k_x.below hb
    replace k_y := k_y.below hb
    replace h_x := h_x.below hb
    replace ht_x := ht_x.below hb
    replace h_y := h_y.below hb
    replace ht_y := ht_y.below hb
    clear hb
    clear x_0 x_1 x_2 x_3 x_4 x_5 y_0 y_1 y_2 y_3 y_4 y_5
    obtain ⟨x_0, x_1, x_2, x_3, x_4, x_5⟩ := k_x.facts
    obtain ⟨y_0, y_1, y_2, y_3, y_4, y_5⟩ := k_y.facts
    go_wp2
    go_ret
    exact ⟨rfl, HB⟩
  · have HS := Lib.hid hsg
    clear hsg
    obtain ⟨x_0, x_1, x_2, x_3, x_4, x_5⟩ := k_x.facts
    obtain ⟨y_0, y_1, y_2, y_3, y_4, y_5⟩ := k_y.facts
    go_wp2_with fail
    refine (Add_c x y _ _ _ h_x h_y).mono ?_
    rintro e W3 ⟨u1, rfl, ht_u1, hb⟩
    replace HB := HB.trans (hb.mono HB.size)
    replace k_x := k_x.below hb
    replace k_y := k_y.below hb
    replace h_x := h_x.below hb
    replace ht_x := ht_x.below hb
    replace h_y := h_y.below hb
    replace ht_y := ht_y.below hb
    have h_u1 := (ht_u1.rw s_ab).more (show _ ≤ 2000 by omega)
    clear hb
    clear x_0 x_1 x_2 x_3 x_4 x_5 y_0 y_1 y_2 y_3 y_4 y_5
    obtain ⟨x_0, x_1, x_2, x_3, x_4, x_5⟩ := k_x.facts
    obtain ⟨y_0, y_1, y_2, y_3, y_4, y_5⟩ := k_y.facts
    go_wp2_with fail
    refine (Int_any (a + b) _ (by omega)).mono ?_
    rintro e W4 ⟨u2, rfl, ht_u2, hb⟩
    replace HB := HB.trans (hb.mono HB.size)
    replace k_x := k_x.below hb
    replace k_y := k_y.below hb
    replace h_x := h_x.below hb
    replace ht_x := ht_x.below hb
    replace h_y := h_y.below hb
    replace ht_y := ht_y.below hb
    replace h_u1 := h_u1.below hb
    replace ht_u1 := ht_u1.below hb
    have h_u2 := (ht_u2.rw z_s).more (show _ ≤ 2000 by omega)
    clear hb
    clear x_0 x_1 x_2 x_3 x_4 x_5 y_0 y_1 y_2 y_3 y_4 y_5
    obtain ⟨x_0, x_1, x_2, x_3, x_4, x_5⟩ := k_x.facts
    obtain ⟨y_0, y_1, y_2, y_3, y_4, y_5⟩ := k_y.facts
    go_wp2_with fail
    refine (one_yes u1 u2 _ _ _ _ _ ht_u1 ht_u2 (Rat.intCast_add a b).symm (ht_u1.len s_ab (by omega)).1 (ht_u1.len s_ab (by omega)).2).mono ?_
    rintro e W5 ⟨rfl, hb⟩
    replace HB := HB.trans (hb.mono HB.size)
    replace k_x := k_x.below hb
    replace k_y := k_y.below hb
    replace h_x := h_x.below hb
    replace ht_x := ht_x.below hb
    replace h_y := h_y.below hb
    replace ht_y := ht_y.below hb
    replace h_u1 := h_u1.below hb
    replace ht_u1 := ht_u1.below hb
    replace h_u2 := h_u2.below hb
    replace ht_u2 := ht_u2.below hb
    clear hb
    clear x_0 x_1 x_2 x_3 x_4 x_5 y_0 y_1 y_2 y_3 y_4 y_5
    obtain ⟨x_0, x_1, x_2, x_3, x_4, x_5⟩ := k_x.facts
    obtain ⟨y_0, y_1, y_2, y_3, y_4, y_5⟩ := k_y.facts
    clear h_u1 ht_u1 h_u2 ht_u2
    go_wp2_with fail
    refine (Sub_c x y _ _ _ h_x h_y).mono ?_
    rintro e W6 ⟨u3, rfl, ht_u3, hb⟩
    replace HB := HB.trans (hb.mono HB.size)
    replace k_x := k_x.below hb
    replace k_y := k_y.below hb
    replace h_x := h_x.below hb
    replace ht_x := ht_x.below hb
    replace h_y := h_y.below hb
    replace ht_y := ht_y.below hb
    have h_u3 := (ht_u3.rw d_ab).more (show _ ≤ 2000 by omega)
    clear hb
    clear x_0 x_1 x_2 x_3 x_4 x_5 y_0 y_1 y_2 y_3 y_4 y_5
    obtain ⟨x_0, x_1, x_2, x_3, x_4, x_5⟩ := k_x.facts
    obtain ⟨y_0, y_1, y_2, y_3, y_4, y_5⟩ := k_y.facts
    go_wp2_with fail
    refine (Int_any (a - b) _ (by omega)).mono ?_
    rintro e W7 ⟨u4, rfl, ht_u4, hb⟩
    replace HB := HB.trans (hb.mono HB.size)
    replace k_x := k_x.below hb
    replace k_y := k_y.below hb
    replace h_x := h_x.below hb
    replace ht_x := ht_x.below hb
    replace h_y := h_y.below hb
    replace ht_y := ht_y.below hb
    replace h_u3 := h_u3.below hb
    replace ht_u3 := ht_u3.below hb
    have h_u4 := (ht_u4.rw z_d).more (show _ ≤ 2000 by omega)
    clear hb
    clear x_0 x_1 x_2 x_3 x_4 x_5 y_0 y_1 y_2 y_3 y_4 y_5
    obtain ⟨x_0, x_1, x_2, x_3, x_4, x_5⟩ := k_x.facts
    obtain ⟨y_0, y_1, y_2, y_3, y_4, y_5⟩ := k_y.facts
    go_wp2_with fail
    refine (one_yes u3 u4 _ _ _ _ _ ht_u3 ht_u4 (Rat.intCast_sub a b).symm (ht_u3.len d_ab (by omega)).1 (ht_u3.len d_ab (by omega)).2).mono ?_
    rintro e W8 ⟨rfl, hb⟩
    replace HB := HB.trans (hb.mono HB.size)
    replace k_x := k_x.below hb
    replace k_y := k_y.below hb
    replace h_x := h_x.below hb
    replace ht_x := ht_x.below hb
    replace h_y := h_y.below hb
    replace ht_y := ht_y.below hb
    replace h_u3 := h_u3.below hb
    replace ht_u3 := ht_u3.below hb
    replace h_u4 := h_u4.below hb
    replace ht_u4 := ht_u4.below hb
    clear hb
    clear x_0 x_1 x_2 x_3 x_4 x_5 y_0 y_1 y_2 y_3 y_4 y_5
    obtain ⟨x_0, x_1, x_2, x_3, x_4, x_5⟩ := k_x.facts
    obtain ⟨y_0, y_1, y_2, y_3, y_4, y_5⟩ := k_y.facts
    clear h_u3 ht_u3 h_u4 ht_u4
    go_wp2_with fail
    refine (Mul_c x y _ _ _ h_x h_y).mono ?_
    rintro e W9 ⟨u5, rfl, ht_u5, hb⟩
    replace HB := HB.trans (hb.mono HB.size)
    replace k_x := k_x.below hb
    replace k_y := k_y.below hb
    replace h_x := h_x.below hb
    replace ht_x := ht_x.below hb
    replace h_y := h_y.below hb
    replace ht_y := ht_y.below hb
    have h_u5 := (ht_u5.rw p_ab).more (show _ ≤ 2000 by omega)
    clear hb
    clear x_0 x_1 x_2 x_3 x_4 x_5 y_0 y_1 y_2 y_3 y_4 y_5
    obtain ⟨x_0, x_1, x_2, x_3, x_4, x_5⟩ := k_x.facts
    obtain ⟨y_0, y_1, y_2, y_3, y_4, y_5⟩ := k_y.facts
    go_wp2_with fail
    refine (Int_any (a * b) _ (by omega)).mono ?_
    rintro e W10 ⟨u6, rfl, ht_u6, hb⟩
    replace HB := HB.trans (hb.mono HB.size)
    replace k_x := k_x.below hb
    replace k_y := k_y.below hb
    replace h_x := h_x.below hb
    replace ht_x := ht_x.below hb
    replace h_y := h_y.below hb
    replace ht_y := ht_y.below hb
    replace h_u5 := h_u5.below hb
    replace ht_u5 := ht_u5.below hb
    have h_u6 := (ht_u6.rw z_p).more (show _ ≤ 2000 by omega)
    clear hb
    clear x_0 x_1 x_2 x_3 x_4 x_5 y_0 y_1 y_2 y_3 y_4 y_5
    obtain ⟨x_0, x_1, x_2, x_3, x_4, x_5⟩ := k_x.facts
    obtain ⟨y_0, y_1, y_2, y_3, y_4, y_5⟩ := k_y.facts
    go_wp2_with fail
    refine (one_yes u5 u6 _ _ _ _ _ ht_u5 ht_u6 (Rat.intCast_mul a b).symm (ht_u5.len p_ab (by omega)).1 (ht_u5.len p_ab (by omega)).2).mono ?_
    rintro e W11 ⟨rfl, hb⟩
    replace HB := HB.trans (hb.mono HB.size)
    replace k_x := k_x.below hb
    replace k_y := k_y.below hb
    replace h_x := h_x.below hb
    replace ht_x := ht_x.below hb
    replace h_y := h_y.below hb
    replace ht_y := ht_y.below hb
    replace h_u5 := h_u5.below hb
    replace ht_u5 := ht_u5.below hb
    replace h_u6 := h_u6.below hb
    replace ht_u6 := ht_u6.below hb
    clear hb
    clear x_0 x_1 x_2 x_3 x_4 x_5 y_0 y_1 y_2 y_3 y_4 y_5
    obtain ⟨x_0, x_1, x_2, x_3, x_4, x_5⟩ := k_x.facts
    obtain ⟨y_0, y_1, y_2, y_3, y_4, y_5⟩ := k_y.facts
    clear h_u5 ht_u5 h_u6 ht_u6
    go_wp2_with fail
    refine (Cmp_v x y _ _ 1 _ h_x h_y HS.out).mono ?_
    rintro e W12 ⟨rfl, hb⟩
    replace HB := HB.trans (hb.mono HB.size)
    replace k_x := k_x.below hb
    replace k_y := k_y.below hb
    replace h_x := h_x.below hb
    replace ht_x := ht_x.below hb
    replace h_y := h_y.below hb
    replace ht_y := ht_y.below hb
    clear hb
    clear x_0 x_1 x_2 x_3 x_4 x_5 y_0 y_1 y_2 y_3 y_4 y_5
    obtain ⟨x_0, x_1, x_2, x_3, x_4, x_5⟩ := k_x.facts
    obtain ⟨y_0, y_1, y_2, y_3, y_4, y_5⟩ := k_y.facts
    go_wp2_with fail
    refine (known_any _).mono ?_
    rintro e W13 ⟨rfl, hb⟩
    replace HB := HB.trans (hb.mono HB.size)
    replace k_x := k_x.below hb
    replace k_y := k_y.below hb
    replace h_x := h_x.below hb
    replace ht_x := ht_x.below hb
    replace h_y := h_y.below hb
    replace ht_y := ht_y.below hb
    clear hb
    clear x_0 x_1 x_2 x_3 x_4 x_5 y_0 y_1 y_2 y_3 y_4 y_5
    obtain ⟨x_0, x_1, x_2, x_3, x_4, x_5⟩ := k_x.facts
    obtain ⟨y_0, y_1, y_2, y_3, y_4, y_5⟩ := k_y.facts
    go_wp2
    go_ret
    exact ⟨rfl, HB⟩
  · have HS := Lib.hid hsg
    clear hsg
    obtain ⟨x_0, x_1, x_2, x_3, x_4, x_5⟩ := k_x.facts
    obtain ⟨y_0, y_1, y_2, y_3, y_4, y_5⟩ := k_y.facts
    have hab1 : ¬ a < b := by omega
    have hab2 : ¬ b < a := by omega
    clear hab
    go_wp2_with fail
    refine (Add_c x y _ _ _ h_x h_y).mono ?_
    rintro e W3 ⟨u1, rfl, ht_u1, hb⟩
    replace HB := HB.trans (hb.mono HB.size)
    replace k_x := k_x.below hb
    replace k_y := k_y.below hb
    replace h_x := h_x.below hb
    replace ht_x := ht_x.below hb
    replace h_y := h_y.below hb
    replace ht_y := ht_y.below hb
    have h_u1 := (ht_u1.rw s_ab).more (show _ ≤ 2000 by omega)
    clear hb
    clear x_0 x_1 x_2 x_3 x_4 x_5 y_0 y_1 y_2 y_3 y_4 y_5
    obtain ⟨x_0, x_1, x_2, x_3, x_4, x_5⟩ := k_x.facts
    obtain ⟨y_0, y_1, y_2, y_3, y_4, y_5⟩ := k_y.facts
    go_wp2_with fail
    refine (Int_any (a + b) _ (by omega)).mono ?_
    rintro e W4 ⟨u2, rfl, ht_u2, hb⟩
    replace HB := HB.trans (hb.mono HB.size)
    replace k_x := k_x.below hb
    replace k_y := k_y.below hb
    replace h_x := h_x.below hb
    replace ht_x := ht_x.below hb
    replace h_y := h_y.below hb
    replace ht_y := ht_y.below hb
    replace h_u1 := h_u1.below hb
    replace ht_u1 := ht_u1.below hb
    have h_u2 := (ht_u2.rw z_s).more (show _ ≤ 2000 by omega)
    clear hb
    clear x_0 x_1 x_2 x_3 x_4 x_5 y_0 y_1 y_2 y_3 y_4 y_5
    obtain ⟨x_0, x_1, x_2, x_3, x_4, x_5⟩ := k_x.facts
    obtain ⟨y_0, y_1, y_2, y_3, y_4, y_5⟩ := k_y.facts
    go_wp2_with fail
    refine (one_yes u1 u2 _ _ _ _ _ ht_u1 ht_u2 (Rat.intCast_add a b).symm (ht_u1.len s_ab (by omega)).1 (ht_u1.len s_ab (by omega)).2).mono ?_
    rintro e W5 ⟨rfl, hb⟩
    replace HB := HB.trans (hb.mono HB.size)
    replace k_x := k_x.below hb
    replace k_y := k_y.below hb
    replace h_x := h_x.below hb
    replace ht_x := ht_x.below hb
    replace h_y := h_y.below hb
    replace ht_y := ht_y.below hb
    replace h_u1 := h_u1.below hb
    replace ht_u1 := ht_u1.below hb
    replace h_u2 := h_u2.below hb
    replace ht_u2 := ht_u2.below hb
    clear hb
    clear x_0 x_1 x_2 x_3 x_4 x_5 y_0 y_1 y_2 y_3 y_4 y_5
    obtain ⟨x_0, x_1, x_2, x_3, x_4, x_5⟩ := k_x.facts
    obtain ⟨y_0, y_1, y_2, y_3, y_4, y_5⟩ := k_y.facts
    clear h_u1 ht_u1 h_u2 ht_u2
    go_wp2_with fail
    refine (Sub_c x y _ _ _ h_x h_y).mono ?_
    rintro e W6 ⟨u3, rfl, ht_u3, hb⟩
    replace HB := HB.trans (hb.mono HB.size)
    replace k_x := k_x.below hb
    replace k_y := k_y.below hb
    replace h_x := h_x.below hb
    replace ht_x := ht_x.below hb
    replace h_y := h_y.below hb
    replace ht_y := ht_y.below hb
    have h_u3 := (ht_u3.rw d_ab).more (show _ ≤ 2000 by omega)
    clear hb
    clear x_0 x_1 x_2 x_3 x_4 x_5 y_0 y_1 y_2 y_3 y_4 y_5
    obtain ⟨x_0, x_1, x_2, x_3, x_4, x_5⟩ := k_x.facts
    obtain ⟨y_0, y_1, y_2, y_3, y_4, y_5⟩ := k_y.facts
    go_wp2_with fail
    refine (Int_any (a - b) _ (by omega)).mono ?_
    rintro e W7 ⟨u4, rfl, ht_u4, hb⟩
    replace HB := HB.trans (hb.mono HB.size)
    replace k_x := k_x.below hb
    replace k_y := k_y.below hb
    replace h_x := h_x.below hb
    replace ht_x := ht_x.below hb
    replace h_y := h_y.below hb
    replace ht_y := ht_y.below hb
    replace h_u3 := h_u3.below hb
    replace ht_u3 := ht_u3.below hb
    have h_u4 := (ht_u4.rw z_d).more (show _ ≤ 2000 by omega)
    clear hb
    clear x_0 x_1 x_2 x_3 x_4 x_5 y_0 y_1 y_2 y_3 y_4 y_5
    obtain ⟨x_0, x_1, x_2, x_3, x_4, x_5⟩ := k_x.facts
    obtain ⟨y_0, y_1, y_2, y_3, y_4, y_5⟩ := k_y.facts
    go_wp2_with fail
    refine (one_yes u3 u4 _ _ _ _ _ ht_u3 ht_u4 (Rat.intCast_sub a b).symm (ht_u3.len d_ab (by omega)).1 (ht_u3.len d_ab (by omega)).2).mono ?_
    rintro e W8 ⟨rfl, hb⟩
    replace HB := HB.trans (hb.mono HB.size)
    replace k_x := k_x.below hb
    replace k_y := k_y.below hb
    replace h_x := h_x.below hb
    replace ht_x := ht_x.below hb
    replace h_y := h_y.below hb
    replace ht_y := ht_y.below hb
    replace h_u3 := h_u3.below hb
    replace ht_u3 := ht_u3.below hb
    replace h_u4 := h_u4.below hb
    replace ht_u4 := ht_u4.below hb
    clear hb
    clear x_0 x_1 x_2 x_3 x_4 x_5 y_0 y_1 y_2 y_3 y_4 y_5
    obtain ⟨x_0, x_1, x_2, x_3, x_4, x_5⟩ := k_x.facts
    obtain ⟨y_0, y_1, y_2, y_3, y_4, y_5⟩ := k_y.facts
    clear h_u3 ht_u3 h_u4 ht_u4
    go_wp2_with fail
    refine (Mul_c x y _ _ _ h_x h_y).mono ?_
    rintro e W9 ⟨u5, rfl, ht_u5, hb⟩
    replace HB := HB.trans (hb.mono HB.size)
    replace k_x := k_x.below hb
    replace k_y := k_y.below hb
    replace h_x := h_x.below hb
    replace ht_x := ht_x.below hb
    replace h_y := h_y.below hb
    replace ht_y := ht_y.below hb
    have h_u5 := (ht_u5.rw p_ab).more (show _ ≤ 2000 by omega)
    clear hb
    clear x_0 x_1 x_2 x_3 x_4 x_5 y_0 y_1 y_2 y_3 y_4 y_5
    obtain ⟨x_0, x_1, x_2, x_3, x_4, x_5⟩ := k_x.facts
    obtain ⟨y_0, y_1, y_2, y_3, y_4, y_5⟩ := k_y.facts
    go_wp2_with fail
    refine (Int_any (a * b) _ (by omega)).mono ?_
    rintro e W10 ⟨u6, rfl, ht_u6, hb⟩
    replace HB := HB.trans (hb.mono HB.size)
    replace k_x := k_x.below hb
    replace k_y := k_y.below hb
    replace h_x := h_x.below hb
    replace ht_x := ht_x.below hb
    replace h_y := h_y.below hb
    replace ht_y := ht_y.below hb
    replace h_u5 := h_u5.below hb
    replace ht_u5 := ht_u5.below hb
    have h_u6 := (ht_u6.rw z_p).more (show _ ≤ 2000 by omega)
    clear hb
    clear x_0 x_1 x_2 x_3 x_4 x_5 y_0 y_1 y_2 y_3 y_4 y_5
    obtain ⟨x_0, x_1, x_2, x_3, x_4, x_5⟩ := k_x.facts
    obtain ⟨y_0, y_1, y_2, y_3, y_4, y_5⟩ := k_y.facts
    go_wp2_with fail
    refine (one_yes u5 u6 _ _ _ _ _ ht_u5 ht_u6 (Rat.intCast_mul a b).symm (ht_u5.len p_ab (by omega)).1 (ht_u5.len p_ab (by omega)).2).mono ?_
    rintro e W11 ⟨rfl, hb⟩
    replace HB := HB.trans (hb.mono HB.size)
    replace k_x := k_x.below hb
    replace k_y := k_y.below hb
    replace h_x := h_x.below hb
    replace ht_x := ht_x.below hb
    replace h_y := h_y.below hb
    replace ht_y := ht_y.below hb
    replace h_u5 := h_u5.below hb
    replace ht_u5 := ht_u5.below hb
    replace h_u6 := h_u6.below hb
    replace ht_u6 := ht_u6.below hb
    clear hb
    clear x_0 x_1 x_2 x_3 x_4 x_5 y_0 y_1 y_2 y_3 y_4 y_5
    obtain ⟨x_0, x_1, x_2, x_3, x_4, x_5⟩ := k_x.facts
    obtain ⟨y_0, y_1, y_2, y_3, y_4, y_5⟩ := k_y.facts
    clear h_u5 ht_u5 h_u6 ht_u6
    go_wp2_with fail
    refine (Cmp_v x y _ _ 0 _ h_x h_y HS.out).mono ?_
    rintro e W12 ⟨rfl, hb⟩
    replace HB := HB.trans (hb.mono HB.size)
    replace k_x := k_x.below hb
    replace k_y := k_y.below hb
    replace h_x := h_x.below hb
    replace ht_x := ht_x.below hb
    replace h_y := h_y.below hb
    replace ht_y := ht_y.below hb
    clear hb
    clear x_0 x_1 x_2 x_3 x_4 x_5 y_0 y_1 y_2 y_3 y_4 y_5
    obtain ⟨x_0, x_1, x_2, x_3, x_4, x_5⟩ := k_x.facts
    obtain ⟨y_0, y_1, y_2, y_3, y_4, y_5⟩ := k_y.facts
    go_wp2_with fail
    refine (known_any _).mono ?_
    rintro e W13 ⟨rfl, hb⟩
    replace HB := HB.trans (hb.mono HB.size)
    replace k_x := k_x.below hb
    replace k_y := k_y.below hb
    replace h_x := h_x.below hb
    replace ht_x := ht_x.below hb
    replace h_y := h_y.below hb
    replace ht_y := ht_y.below hb
    clear hb
    clear x_0 x_1 x_2 x_3 x_4 x_5 y_0 y_1 y_2 y_3 y_4 y_5
    obtain ⟨x_0, x_1, x_2, x_3, x_4, x_5⟩ := k_x.facts
    obtain ⟨y_0, y_1, y_2, y_3, y_4, y_5⟩ := k_y.facts
    go_wp2
    go_ret
    exact ⟨rfl, HB⟩

set_option maxHeartbeats 1600000 in
theorem RatInts_far (a b : Int) (w : World) (h : ¬ ((-1073741824 ≤ a ∧ a ≤ 1073741824) ∧ (-1073741824 ≤ b ∧ b ≤ 1073741824))) :
    Calls Try.prog 9 #[.int .i64 a, .int .i64 b] w fun e w' => e = .returned (.bool true) ∧ Below w.heap.size w w' := by
  have HK := Lib.hid (fun w => known_any w)
  by_cases h1 : a < -1073741824
  · clear h
    go_enter Try.func9, Try.ntmps9
    go_wp2_with fail
    refine (HK.out _).mono ?_
    rintro e w' ⟨rfl, hb⟩
    go_wp2
    go_ret
    exact ⟨rfl, hb⟩
  · by_cases h2 : 1073741824 < a
    · clear h
      go_enter Try.func9, Try.ntmps9
      go_wp2_with fail
      refine (HK.out _).mono ?_
      rintro e w' ⟨rfl, hb⟩
      go_wp2
      go_ret
      exact ⟨rfl, hb⟩
    · by_cases h3 : b < -1073741824
      · clear h
        go_enter Try.func9, Try.ntmps9
        go_wp2_with fail
        refine (HK.out _).mono ?_
        rintro e w' ⟨rfl, hb⟩
        go_wp2
        go_ret
        exact ⟨rfl, hb⟩
      · have h4 : 1073741824 < b := by omega
        clear h
        go_enter Try.func9, Try.ntmps9
        go_wp2_with fail
        refine (HK.out _).mono ?_
        rintro e w' ⟨rfl, hb⟩
        go_wp2
        go_ret
        exact ⟨rfl, hb⟩
theorem RatInts_any (a b : Int) (w : World) :
    Calls Try.prog 9 #[.int .i64 a, .int .i64 b] w fun e w' => e = .returned (.bool true) ∧ Below w.heap.size w w' := by
  by_cases h : (-1073741824 ≤ a ∧ a ≤ 1073741824) ∧ (-1073741824 ≤ b ∧ b ≤ 1073741824)
  · exact RatInts_small a b w h.1 h.2
  · exact RatInts_far a b w h
end Go.Proofs.Ytadopepoicbahaa
