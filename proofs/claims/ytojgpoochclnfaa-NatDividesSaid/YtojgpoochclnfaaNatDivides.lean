/-
  NatDivides: how often one is in the other, and what is left; their greatest common divisor: as the document says.
-/
import Derived.Test.YtojgpoochclnfaaNatGcds
import Derived.Test.YtojgpoochclnfaaRGcd
namespace Go.Proofs.Ytojgpoochclnfaa
open Go.RowKit

set_option maxHeartbeats 1600000 in
theorem NatDivides_zero (A B : Option Addr) (n m ka kb x y g : Nat) (a b : List Nat) (w : World) (h_a_n : n ≤ 8) (h_b_n : m ≤ 8) (h_a_c : n ≤ ka) (h_b_c : m ≤ kb) (h_a : Row w 0 A n a) (h_b : Row w 0 B m b) (HX : Hid (val a = x)) (HY : Hid (val b = y)) (HG : Hid (Nat.gcd x y = g)) (HGB : Hid (Bd g 8)) (H0 : Hid (y = 0)) :
    Calls Try.prog 4 #[.slice A n ka, .slice B m kb] w fun e w' => e = .returned (.bool true) ∧ Below w.heap.size w w' := by
  have h_a_b : Bd x 8 := by rw [← HX.out]; exact h_a.bd h_a_n
  have h_b_b : Bd y 8 := by rw [← HY.out]; exact h_b.bd h_b_n
  have HB := Below.refl w.heap.size w
  go_enter Try.func4, Try.ntmps4
  go_wp2_with fail
  refine (DivMod_zero A B n m ka kb a b _ (by omega) (by omega) h_a_c h_b_c h_a h_b (HY.out.trans H0.out)).mono ?_
  rintro e w' ⟨rfl, rfl⟩
  go_wp2_with fail
  refine (rDivMod_zero A B n m ka kb b _ (by omega) h_b_c h_b (HY.out.trans H0.out)).mono ?_
  rintro e w1 ⟨rfl, hb⟩
  replace h_a := h_a.below hb
  replace h_b := h_b.below hb
  replace HB := HB.trans (hb.mono HB.size)
  clear hb
  go_wp2_with fail
  refine (limbs_yes none none 0 0 0 [] _ (by omega) (Row.nil_ _ _ _) (Row.nil_ _ _ _)).mono ?_
  rintro e w2 ⟨rfl, q2, hq⟩
  have hb : Below w1.heap.size w1 w2 := by rw [hq]; exact below_drewN _ _ _
  clear hq
  replace h_a := h_a.below hb
  replace h_b := h_b.below hb
  replace HB := HB.trans (hb.mono HB.size)
  clear hb
  go_wp2_with fail
  refine (limbs_yes none none 0 0 0 [] _ (by omega) (Row.nil_ _ _ _) (Row.nil_ _ _ _)).mono ?_
  rintro e w3 ⟨rfl, q3, hq⟩
  have hb : Below w2.heap.size w2 w3 := by rw [hq]; exact below_drewN _ _ _
  clear hq
  replace h_a := h_a.below hb
  replace h_b := h_b.below hb
  replace HB := HB.trans (hb.mono HB.size)
  clear hb
  go_wp2_with fail
  refine (Gcd_z (x) (y) (g) A B n m ka kb a b _ (HX.out) (HY.out) (HG.out) (by omega) (by omega) h_a_c h_b_c h_a h_b).mono ?_
  rintro e w4 ⟨X4, c4, rfl, hc, hr, hb⟩
  replace h_a := h_a.below hb
  replace h_b := h_b.below hb
  have h_t4 := hr
  have h_t4_c := hc
  have h_t4_b : Bd (g) 8 := HGB.out
  have h_t4_n := h_t4_b.len
  replace HB := HB.trans (hb.mono HB.size)
  clear hc hr hb
  go_wp2_with fail
  refine (rGcd_any A B n m ka kb (x) (y) a b _ (by omega) (by omega) h_a_c h_b_c h_a h_b (HX.out) (HY.out)).mono ?_
  rintro e w5 ⟨X5, c5, rfl, ho, hb⟩
  replace h_a := h_a.below hb
  replace h_b := h_b.below hb
  replace h_t4 := h_t4.below hb
  have h_t5 := ho.row.lower (Nat.zero_le _)
  have h_t5_c := ho.capLe
  have h_t5_b : Bd (Nat.gcd x y) 8 := by rw [HG.out]; exact HGB.out
  have h_t5_n := h_t5_b.len
  replace HB := HB.trans (hb.mono HB.size)
  clear ho hb
  go_wp2_with fail
  refine (limbs_v (g) (Nat.gcd x y) X4 X5 c4 c5 _ (HG.out.symm) (by omega) h_t4 h_t5).mono ?_
  rintro e w6 ⟨rfl, hb⟩
  replace h_a := h_a.below hb
  replace h_b := h_b.below hb
  replace h_t4 := h_t4.below hb
  replace h_t5 := h_t5.below hb
  replace HB := HB.trans (hb.mono HB.size)
  clear hb
  go_wp2_with fail
  refine (known_any _).mono ?_
  rintro e w7 ⟨rfl, hb⟩
  replace HB := HB.trans (hb.mono HB.size)
  clear hb
  go_wp2
  go_ret
  exact ⟨rfl, HB⟩

set_option maxHeartbeats 1600000 in
theorem NatDivides_pos (A B : Option Addr) (n m ka kb x y g : Nat) (a b : List Nat) (w : World) (h_a_n : n ≤ 8) (h_b_n : m ≤ 8) (h_a_c : n ≤ ka) (h_b_c : m ≤ kb) (h_a : Row w 0 A n a) (h_b : Row w 0 B m b) (HX : Hid (val a = x)) (HY : Hid (val b = y)) (HG : Hid (Nat.gcd x y = g)) (HGB : Hid (Bd g 8)) (H0 : Hid (0 < y)) :
    Calls Try.prog 4 #[.slice A n ka, .slice B m kb] w fun e w' => e = .returned (.bool true) ∧ Below w.heap.size w w' := by
  have h_a_b : Bd x 8 := by rw [← HX.out]; exact h_a.bd h_a_n
  have h_b_b : Bd y 8 := by rw [← HY.out]; exact h_b.bd h_b_n
  have HB := Below.refl w.heap.size w
  go_enter Try.func4, Try.ntmps4
  go_wp2_with fail
  refine (DivMod_pos A B n m ka kb (x) (y) a b _ (by omega) (by omega) h_a_c h_b_c h_a h_b (HX.out) (HY.out) H0.out).mono ?_
  rintro e w1 ⟨X1, c1, Y1, d1, rfl, ho, ho', hb⟩
  replace h_a := h_a.below hb
  replace h_b := h_b.below hb
  have h_q1 := ho.row.lower (Nat.zero_le _)
  have h_q1_c := ho.capLe
  have h_q1_b : Bd (x / y) 8 := h_a_b.le (Nat.div_le_self _ _)
  have h_q1_n := h_q1_b.len
  have h_r1 := ho'.row.lower (Nat.zero_le _)
  have h_r1_c := ho'.capLe
  have h_r1_b : Bd (x % y) 8 := h_a_b.le (Nat.mod_le _ _)
  have h_r1_n := h_r1_b.len
  replace HB := HB.trans (hb.mono HB.size)
  clear ho ho' hb
  go_wp2_with fail
  refine (rDivMod_pos A B n m ka kb (x) (y) a b _ (by omega) (by omega) h_a_c h_b_c h_a h_b (HX.out) (HY.out) H0.out).mono ?_
  rintro e w2 ⟨X2, c2, Y2, d2, rfl, ho, ho', hb⟩
  replace h_a := h_a.below hb
  replace h_b := h_b.below hb
  replace h_q1 := h_q1.below hb
  replace h_r1 := h_r1.below hb
  have h_q2 := ho.row.lower (Nat.zero_le _)
  have h_q2_c := ho.capLe
  have h_q2_b : Bd (x / y) 8 := h_a_b.le (Nat.div_le_self _ _)
  have h_q2_n := h_q2_b.len
  have h_r2 := ho'.row.lower (Nat.zero_le _)
  have h_r2_c := ho'.capLe
  have h_r2_b : Bd (x % y) 8 := h_a_b.le (Nat.mod_le _ _)
  have h_r2_n := h_r2_b.len
  replace HB := HB.trans (hb.mono HB.size)
  clear ho ho' hb
  go_wp2_with fail
  refine (limbs_v (x / y) (x / y) X1 X2 c1 c2 _ (rfl) (by omega) h_q1 h_q2).mono ?_
  rintro e w3 ⟨rfl, hb⟩
  replace h_a := h_a.below hb
  replace h_b := h_b.below hb
  replace h_q1 := h_q1.below hb
  replace h_r1 := h_r1.below hb
  replace h_q2 := h_q2.below hb
  replace h_r2 := h_r2.below hb
  replace HB := HB.trans (hb.mono HB.size)
  clear hb
  clear h_q1
  clear h_q2
  go_wp2_with fail
  refine (limbs_v (x % y) (x % y) Y1 Y2 d1 d2 _ (rfl) (by omega) h_r1 h_r2).mono ?_
  rintro e w4 ⟨rfl, hb⟩
  replace h_a := h_a.below hb
  replace h_b := h_b.below hb
  replace h_r1 := h_r1.below hb
  replace h_r2 := h_r2.below hb
  replace HB := HB.trans (hb.mono HB.size)
  clear hb
  clear h_r1
  clear h_r2
  go_wp2_with fail
  refine (Gcd_z (x) (y) (g) A B n m ka kb a b _ (HX.out) (HY.out) (HG.out) (by omega) (by omega) h_a_c h_b_c h_a h_b).mono ?_
  rintro e w5 ⟨X5, c5, rfl, hc, hr, hb⟩
  replace h_a := h_a.below hb
  replace h_b := h_b.below hb
  have h_t5 := hr
  have h_t5_c := hc
  have h_t5_b : Bd (g) 8 := HGB.out
  have h_t5_n := h_t5_b.len
  replace HB := HB.trans (hb.mono HB.size)
  clear hc hr hb
  go_wp2_with fail
  refine (rGcd_any A B n m ka kb (x) (y) a b _ (by omega) (by omega) h_a_c h_b_c h_a h_b (HX.out) (HY.out)).mono ?_
  rintro e w6 ⟨X6, c6, rfl, ho, hb⟩
  replace h_a := h_a.below hb
  replace h_b := h_b.below hb
  replace h_t5 := h_t5.below hb
  have h_t6 := ho.row.lower (Nat.zero_le _)
  have h_t6_c := ho.capLe
  have h_t6_b : Bd (Nat.gcd x y) 8 := by rw [HG.out]; exact HGB.out
  have h_t6_n := h_t6_b.len
  replace HB := HB.trans (hb.mono HB.size)
  clear ho hb
  go_wp2_with fail
  refine (limbs_v (g) (Nat.gcd x y) X5 X6 c5 c6 _ (HG.out.symm) (by omega) h_t5 h_t6).mono ?_
  rintro e w7 ⟨rfl, hb⟩
  replace h_a := h_a.below hb
  replace h_b := h_b.below hb
  replace h_t5 := h_t5.below hb
  replace h_t6 := h_t6.below hb
  replace HB := HB.trans (hb.mono HB.size)
  clear hb
  go_wp2_with fail
  refine (known_any _).mono ?_
  rintro e w8 ⟨rfl, hb⟩
  replace HB := HB.trans (hb.mono HB.size)
  clear hb
  go_wp2
  go_ret
  exact ⟨rfl, HB⟩

end Go.Proofs.Ytojgpoochclnfaa
