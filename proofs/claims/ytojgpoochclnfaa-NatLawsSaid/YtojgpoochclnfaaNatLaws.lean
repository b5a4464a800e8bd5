/-
  NatLaws: sums and products may be turned round; a product of a sum is the sum of products; products may be put together otherwise.
-/
import Derived.Test.YtojgpoochclnfaaLawKit
namespace Go.Proofs.Ytojgpoochclnfaa
open Go.RowKit

set_option maxHeartbeats 1000000 in
theorem NatLaws_small (A B C : Option Addr) (n m q ka kb kc : Nat) (a b c : List Nat) (w : World) (h_a_n : n ≤ 20) (h_b_n : m ≤ 20) (h_c_n : q ≤ 20) (h_a_c : n ≤ ka) (h_b_c : m ≤ kb) (h_c_c : q ≤ kc) (h_a : Row w 0 A n a) (h_b : Row w 0 B m b) (h_c : Row w 0 C q c) :
    Calls Try.prog 7 #[.slice A n ka, .slice B m kb, .slice C q kc] w fun e w' => e = .returned (.bool true) ∧ Below w.heap.size w w' := by
  have h_a_b := h_a.bd h_a_n
  have h_b_b := h_b.bd h_b_n
  have h_c_b := h_c.bd h_c_n
  have HB := Below.refl w.heap.size w
  go_enter Try.func7, Try.ntmps7
  go_wp2_with fail
  refine (Add_v (val a) (val b) A B n m ka kb a b _ (rfl) (rfl) (by omega) (by omega) h_a_c h_b_c h_a h_b).mono ?_
  rintro e w1 ⟨X1, c1, rfl, ho, hb⟩
  replace h_a := h_a.below hb
  replace h_b := h_b.below hb
  replace h_c := h_c.below hb
  have h_t1 := ho.row.lower (Nat.zero_le _)
  have h_t1_c := ho.capLe
  have h_t1_b : Bd (val a + val b) (max 20 20 + 1) := h_a_b.add h_b_b
  have h_t1_n := h_t1_b.len
  replace HB := HB.trans (hb.mono HB.size)
  clear ho hb
  go_wp2_with fail
  refine (Mul_v (val a + val b) (val c) X1 C (lim (val a + val b)).length q c1 kc (lim (val a + val b)) c _ (val_lim _) (rfl) (by omega) (by omega) h_t1_c h_c_c h_t1 h_c).mono ?_
  rintro e w2 ⟨X2, c2, rfl, ho, hb⟩
  replace h_a := h_a.below hb
  replace h_b := h_b.below hb
  replace h_c := h_c.below hb
  replace h_t1 := h_t1.below hb
  have h_t2 := ho.row.lower (Nat.zero_le _)
  have h_t2_c := ho.capLe
  have h_t2_b : Bd ((val a + val b) * val c) (max 20 20 + 1 + 20) := h_t1_b.mul h_c_b
  have h_t2_n := h_t2_b.len
  replace HB := HB.trans (hb.mono HB.size)
  clear ho hb
  go_wp2_with fail
  refine (Mul_v (val a) (val c) A C n q ka kc a c _ (rfl) (rfl) (by omega) (by omega) h_a_c h_c_c h_a h_c).mono ?_
  rintro e w3 ⟨X3, c3, rfl, ho, hb⟩
  replace h_a := h_a.below hb
  replace h_b := h_b.below hb
  replace h_c := h_c.below hb
  replace h_t1 := h_t1.below hb
  replace h_t2 := h_t2.below hb
  have h_t3 := ho.row.lower (Nat.zero_le _)
  have h_t3_c := ho.capLe
  have h_t3_b : Bd (val a * val c) (20 + 20) := h_a_b.mul h_c_b
  have h_t3_n := h_t3_b.len
  replace HB := HB.trans (hb.mono HB.size)
  clear ho hb
  go_wp2_with fail
  refine (Mul_v (val b) (val c) B C m q kb kc b c _ (rfl) (rfl) (by omega) (by omega) h_b_c h_c_c h_b h_c).mono ?_
  rintro e w4 ⟨X4, c4, rfl, ho, hb⟩
  replace h_a := h_a.below hb
  replace h_b := h_b.below hb
  replace h_c := h_c.below hb
  replace h_t1 := h_t1.below hb
  replace h_t2 := h_t2.below hb
  replace h_t3 := h_t3.below hb
  have h_t4 := ho.row.lower (Nat.zero_le _)
  have h_t4_c := ho.capLe
  have h_t4_b : Bd (val b * val c) (20 + 20) := h_b_b.mul h_c_b
  have h_t4_n := h_t4_b.len
  replace HB := HB.trans (hb.mono HB.size)
  clear ho hb
  go_wp2_with fail
  refine (Add_v (val a * val c) (val b * val c) X3 X4 (lim (val a * val c)).length (lim (val b * val c)).length c3 c4 (lim (val a * val c)) (lim (val b * val c)) _ (val_lim _) (val_lim _) (by omega) (by omega) h_t3_c h_t4_c h_t3 h_t4).mono ?_
  rintro e w5 ⟨X5, c5, rfl, ho, hb⟩
  replace h_a := h_a.below hb
  replace h_b := h_b.below hb
  replace h_c := h_c.below hb
  replace h_t1 := h_t1.below hb
  replace h_t2 := h_t2.below hb
  replace h_t3 := h_t3.below hb
  replace h_t4 := h_t4.below hb
  have h_t5 := ho.row.lower (Nat.zero_le _)
  have h_t5_c := ho.capLe
  have h_t5_b : Bd (val a * val c + val b * val c) (max (20 + 20) (20 + 20) + 1) := h_t3_b.add h_t4_b
  have h_t5_n := h_t5_b.len
  replace HB := HB.trans (hb.mono HB.size)
  clear ho hb
  clear h_t1
  clear h_t3
  clear h_t4
  go_wp2_with fail
  refine (Add_v (val a) (val b) A B n m ka kb a b _ (rfl) (rfl) (by omega) (by omega) h_a_c h_b_c h_a h_b).mono ?_
  rintro e w6 ⟨X6, c6, rfl, ho, hb⟩
  replace h_a := h_a.below hb
  replace h_b := h_b.below hb
  replace h_c := h_c.below hb
  replace h_t2 := h_t2.below hb
  replace h_t5 := h_t5.below hb
  have h_t6 := ho.row.lower (Nat.zero_le _)
  have h_t6_c := ho.capLe
  have h_t6_b : Bd (val a + val b) (max 20 20 + 1) := h_a_b.add h_b_b
  have h_t6_n := h_t6_b.len
  replace HB := HB.trans (hb.mono HB.size)
  clear ho hb
  go_wp2_with fail
  refine (Add_v (val b) (val a) B A m n kb ka b a _ (rfl) (rfl) (by omega) (by omega) h_b_c h_a_c h_b h_a).mono ?_
  rintro e w7 ⟨X7, c7, rfl, ho, hb⟩
  replace h_a := h_a.below hb
  replace h_b := h_b.below hb
  replace h_c := h_c.below hb
  replace h_t2 := h_t2.below hb
  replace h_t5 := h_t5.below hb
  replace h_t6 := h_t6.below hb
  have h_t7 := ho.row.lower (Nat.zero_le _)
  have h_t7_c := ho.capLe
  have h_t7_b : Bd (val b + val a) (max 20 20 + 1) := h_b_b.add h_a_b
  have h_t7_n := h_t7_b.len
  replace HB := HB.trans (hb.mono HB.size)
  clear ho hb
  go_wp2_with fail
  refine (limbs_v (val a + val b) (val b + val a) X6 X7 c6 c7 _ (Nat.add_comm _ _) (by omega) h_t6 h_t7).mono ?_
  rintro e w8 ⟨rfl, hb⟩
  replace h_a := h_a.below hb
  replace h_b := h_b.below hb
  replace h_c := h_c.below hb
  replace h_t2 := h_t2.below hb
  replace h_t5 := h_t5.below hb
  replace h_t6 := h_t6.below hb
  replace h_t7 := h_t7.below hb
  replace HB := HB.trans (hb.mono HB.size)
  clear hb
  clear h_t6
  clear h_t7
  go_wp2_with fail
  refine (Mul_v (val a) (val b) A B n m ka kb a b _ (rfl) (rfl) (by omega) (by omega) h_a_c h_b_c h_a h_b).mono ?_
  rintro e w9 ⟨X9, c9, rfl, ho, hb⟩
  replace h_a := h_a.below hb
  replace h_b := h_b.below hb
  replace h_c := h_c.below hb
  replace h_t2 := h_t2.below hb
  replace h_t5 := h_t5.below hb
  have h_t9 := ho.row.lower (Nat.zero_le _)
  have h_t9_c := ho.capLe
  have h_t9_b : Bd (val a * val b) (20 + 20) := h_a_b.mul h_b_b
  have h_t9_n := h_t9_b.len
  replace HB := HB.trans (hb.mono HB.size)
  clear ho hb
  go_wp2_with fail
  refine (Mul_v (val b) (val a) B A m n kb ka b a _ (rfl) (rfl) (by omega) (by omega) h_b_c h_a_c h_b h_a).mono ?_
  rintro e w10 ⟨X10, c10, rfl, ho, hb⟩
  replace h_a := h_a.below hb
  replace h_b := h_b.below hb
  replace h_c := h_c.below hb
  replace h_t2 := h_t2.below hb
  replace h_t5 := h_t5.below hb
  replace h_t9 := h_t9.below hb
  have h_t10 := ho.row.lower (Nat.zero_le _)
  have h_t10_c := ho.capLe
  have h_t10_b : Bd (val b * val a) (20 + 20) := h_b_b.mul h_a_b
  have h_t10_n := h_t10_b.len
  replace HB := HB.trans (hb.mono HB.size)
  clear ho hb
  go_wp2_with fail
  refine (limbs_v (val a * val b) (val b * val a) X9 X10 c9 c10 _ (Nat.mul_comm _ _) (by omega) h_t9 h_t10).mono ?_
  rintro e w11 ⟨rfl, hb⟩
  replace h_a := h_a.below hb
  replace h_b := h_b.below hb
  replace h_c := h_c.below hb
  replace h_t2 := h_t2.below hb
  replace h_t5 := h_t5.below hb
  replace h_t9 := h_t9.below hb
  replace h_t10 := h_t10.below hb
  replace HB := HB.trans (hb.mono HB.size)
  clear hb
  clear h_t9
  clear h_t10
  go_wp2_with fail
  refine (limbs_v ((val a + val b) * val c) (val a * val c + val b * val c) X2 X5 c2 c5 _ (Nat.add_mul _ _ _) (by omega) h_t2 h_t5).mono ?_
  rintro e w12 ⟨rfl, hb⟩
  replace h_a := h_a.below hb
  replace h_b := h_b.below hb
  replace h_c := h_c.below hb
  replace h_t2 := h_t2.below hb
  replace h_t5 := h_t5.below hb
  replace HB := HB.trans (hb.mono HB.size)
  clear hb
  clear h_t2
  clear h_t5
  go_wp2_with fail
  refine (Mul_v (val a) (val b) A B n m ka kb a b _ (rfl) (rfl) (by omega) (by omega) h_a_c h_b_c h_a h_b).mono ?_
  rintro e w13 ⟨X13, c13, rfl, ho, hb⟩
  replace h_a := h_a.below hb
  replace h_b := h_b.below hb
  replace h_c := h_c.below hb
  have h_t13 := ho.row.lower (Nat.zero_le _)
  have h_t13_c := ho.capLe
  have h_t13_b : Bd (val a * val b) (20 + 20) := h_a_b.mul h_b_b
  have h_t13_n := h_t13_b.len
  replace HB := HB.trans (hb.mono HB.size)
  clear ho hb
  go_wp2_with fail
  refine (Mul_v (val a * val b) (val c) X13 C (lim (val a * val b)).length q c13 kc (lim (val a * val b)) c _ (val_lim _) (rfl) (by omega) (by omega) h_t13_c h_c_c h_t13 h_c).mono ?_
  rintro e w14 ⟨X14, c14, rfl, ho, hb⟩
  replace h_a := h_a.below hb
  replace h_b := h_b.below hb
  replace h_c := h_c.below hb
  replace h_t13 := h_t13.below hb
  have h_t14 := ho.row.lower (Nat.zero_le _)
  have h_t14_c := ho.capLe
  have h_t14_b : Bd (val a * val b * val c) (20 + 20 + 20) := h_t13_b.mul h_c_b
  have h_t14_n := h_t14_b.len
  replace HB := HB.trans (hb.mono HB.size)
  clear ho hb
  go_wp2_with fail
  refine (Mul_v (val b) (val c) B C m q kb kc b c _ (rfl) (rfl) (by omega) (by omega) h_b_c h_c_c h_b h_c).mono ?_
  rintro e w15 ⟨X15, c15, rfl, ho, hb⟩
  replace h_a := h_a.below hb
  replace h_b := h_b.below hb
  replace h_c := h_c.below hb
  replace h_t13 := h_t13.below hb
  replace h_t14 := h_t14.below hb
  have h_t15 := ho.row.lower (Nat.zero_le _)
  have h_t15_c := ho.capLe
  have h_t15_b : Bd (val b * val c) (20 + 20) := h_b_b.mul h_c_b
  have h_t15_n := h_t15_b.len
  replace HB := HB.trans (hb.mono HB.size)
  clear ho hb
  go_wp2_with fail
  refine (Mul_v (val a) (val b * val c) A X15 n (lim (val b * val c)).length ka c15 a (lim (val b * val c)) _ (rfl) (val_lim _) (by omega) (by omega) h_a_c h_t15_c h_a h_t15).mono ?_
  rintro e w16 ⟨X16, c16, rfl, ho, hb⟩
  replace h_a := h_a.below hb
  replace h_b := h_b.below hb
  replace h_c := h_c.below hb
  replace h_t13 := h_t13.below hb
  replace h_t14 := h_t14.below hb
  replace h_t15 := h_t15.below hb
  have h_t16 := ho.row.lower (Nat.zero_le _)
  have h_t16_c := ho.capLe
  have h_t16_b : Bd (val a * (val b * val c)) (20 + (20 + 20)) := h_a_b.mul h_t15_b
  have h_t16_n := h_t16_b.len
  replace HB := HB.trans (hb.mono HB.size)
  clear ho hb
  go_wp2_with fail
  refine (limbs_v (val a * val b * val c) (val a * (val b * val c)) X14 X16 c14 c16 _ (Nat.mul_assoc _ _ _) (by omega) h_t14 h_t16).mono ?_
  rintro e w17 ⟨rfl, hb⟩
  replace h_a := h_a.below hb
  replace h_b := h_b.below hb
  replace h_c := h_c.below hb
  replace h_t13 := h_t13.below hb
  replace h_t14 := h_t14.below hb
  replace h_t15 := h_t15.below hb
  replace h_t16 := h_t16.below hb
  replace HB := HB.trans (hb.mono HB.size)
  clear hb
  go_wp2_with fail
  refine (known_any _).mono ?_
  rintro e w18 ⟨rfl, hb⟩
  replace HB := HB.trans (hb.mono HB.size)
  clear hb
  go_wp2
  go_ret
  exact ⟨rfl, HB⟩
end Go.Proofs.Ytojgpoochclnfaa
