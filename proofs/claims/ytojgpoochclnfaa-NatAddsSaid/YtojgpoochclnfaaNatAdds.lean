/-
  NatAdds: any two together, one less the other, multiplied, which is greater: as the document says.
-/
import Derived.Test.YtojgpoochclnfaaLawKit
import Derived.Test.YtojgpoochclnfaaNSub
import Derived.Test.YtojgpoochclnfaaRMul
namespace Go.Proofs.Ytojgpoochclnfaa
open Go.RowKit

set_option maxHeartbeats 1000000 in
theorem NatAdds_no (A B : Option Addr) (n m ka kb : Nat) (a b : List Nat) (w : World) (h_a_n : n ≤ 20) (h_b_n : m ≤ 20) (h_a_c : n ≤ ka) (h_b_c : m ≤ kb) (h_a : Row w 0 A n a) (h_b : Row w 0 B m b) (hle : Hid (val a < val b)) :
    Calls Try.prog 3 #[.slice A n ka, .slice B m kb] w fun e w' => e = .returned (.bool true) ∧ Below w.heap.size w w' := by
  have h_a_b := h_a.bd h_a_n
  have h_b_b := h_b.bd h_b_n
  have HB := Below.refl w.heap.size w
  go_enter Try.func3, Try.ntmps3
  go_wp2_with fail
  refine (Sub_no A B n m ka kb a b _ (by omega) (by omega) h_a_c h_b_c h_a h_b hle.out).mono ?_
  rintro e w1 ⟨rfl, hb⟩
  replace h_a := h_a.below hb
  replace h_b := h_b.below hb
  replace HB := HB.trans (hb.mono HB.size)
  clear hb
  go_wp2_with fail
  refine (rSub_no A B n m ka kb a b _ (by omega) (by omega) h_a_c h_b_c h_a h_b hle.out).mono ?_
  rintro e w2 ⟨rfl, hb⟩
  replace h_a := h_a.below hb
  replace h_b := h_b.below hb
  replace HB := HB.trans (hb.mono HB.size)
  clear hb
  go_wp2_with fail
  refine (Add_any A B n m ka kb a b _ (by omega) (by omega) h_a_c h_b_c h_a h_b ).mono ?_
  rintro e w3 ⟨X3, c3, rfl, ho, hb⟩
  replace h_a := h_a.below hb
  replace h_b := h_b.below hb
  have h_t3 := ho.row.lower (Nat.zero_le _)
  have h_t3_c := ho.capLe
  have h_t3_b : Bd (val a + val b) (max 20 20 + 1) := h_a_b.add h_b_b
  have h_t3_n := h_t3_b.len
  replace HB := HB.trans (hb.mono HB.size)
  clear ho hb
  go_wp2_with fail
  refine (rAdd_any A B n m ka kb a b _ (by omega) (by omega)  h_a h_b ).mono ?_
  rintro e w4 ⟨X4, c4, rfl, ho, hb⟩
  replace h_a := h_a.below hb
  replace h_b := h_b.below hb
  replace h_t3 := h_t3.below hb
  have h_t4 := ho.row.lower (Nat.zero_le _)
  have h_t4_c := ho.capLe
  have h_t4_b : Bd (val a + val b) (max 20 20 + 1) := h_a_b.add h_b_b
  have h_t4_n := h_t4_b.len
  replace HB := HB.trans (hb.mono HB.size)
  clear ho hb
  go_wp2_with fail
  refine (limbs_v (val a + val b) (val a + val b) X3 X4 c3 c4 _ (rfl) (by omega) h_t3 h_t4).mono ?_
  rintro e w5 ⟨rfl, hb⟩
  replace h_a := h_a.below hb
  replace h_b := h_b.below hb
  replace h_t3 := h_t3.below hb
  replace h_t4 := h_t4.below hb
  replace HB := HB.trans (hb.mono HB.size)
  clear hb
  clear h_t3
  clear h_t4
  go_wp2_with fail
  refine (limbs_yes none none 0 0 0 [] _ (by omega) (Row.nil_ _ _ _) (Row.nil_ _ _ _)).mono ?_
  rintro e w6 ⟨rfl, q6, hq⟩
  have hb : Below w5.heap.size w5 w6 := by rw [hq]; exact below_drewN _ _ _
  clear hq
  replace h_a := h_a.below hb
  replace h_b := h_b.below hb
  replace HB := HB.trans (hb.mono HB.size)
  clear hb
  go_wp2_with fail
  refine (Mul_any A B n m ka kb a b _ (by omega) (by omega) h_a_c h_b_c h_a h_b ).mono ?_
  rintro e w7 ⟨X7, c7, rfl, ho, hb⟩
  replace h_a := h_a.below hb
  replace h_b := h_b.below hb
  have h_t7 := ho.row.lower (Nat.zero_le _)
  have h_t7_c := ho.capLe
  have h_t7_b : Bd (val a * val b) (20 + 20) := h_a_b.mul h_b_b
  have h_t7_n := h_t7_b.len
  replace HB := HB.trans (hb.mono HB.size)
  clear ho hb
  go_wp2_with fail
  refine (rMul_any A B n m ka kb a b _ (by omega) (by omega)  h_a h_b ).mono ?_
  rintro e w8 ⟨X8, c8, rfl, ho, hb⟩
  replace h_a := h_a.below hb
  replace h_b := h_b.below hb
  replace h_t7 := h_t7.below hb
  have h_t8 := ho.row.lower (Nat.zero_le _)
  have h_t8_c := ho.capLe
  have h_t8_b : Bd (val a * val b) (20 + 20) := h_a_b.mul h_b_b
  have h_t8_n := h_t8_b.len
  replace HB := HB.trans (hb.mono HB.size)
  clear ho hb
  go_wp2_with fail
  refine (limbs_v (val a * val b) (val a * val b) X7 X8 c7 c8 _ (rfl) (by omega) h_t7 h_t8).mono ?_
  rintro e w9 ⟨rfl, hb⟩
  replace h_a := h_a.below hb
  replace h_b := h_b.below hb
  replace h_t7 := h_t7.below hb
  replace h_t8 := h_t8.below hb
  replace HB := HB.trans (hb.mono HB.size)
  clear hb
  clear h_t7
  clear h_t8
  go_wp2_with fail
  refine (Cmp_any A B n m ka kb a b _ (by omega) (by omega) h_a_c h_b_c h_a h_b ).mono ?_
  rintro e w10 ⟨rfl, q10, hq⟩
  have hb : Below w9.heap.size w9 w10 := by rw [hq]; exact below_drewN _ _ _
  clear hq
  replace h_a := h_a.below hb
  replace h_b := h_b.below hb
  replace HB := HB.trans (hb.mono HB.size)
  clear hb
  go_wp2_with fail
  refine (rCmp_any A B n m ka kb a b _ (by omega) (by omega) h_a_c h_b_c h_a h_b ).mono ?_
  rintro e w11 ⟨rfl, hb⟩
  replace h_a := h_a.below hb
  replace h_b := h_b.below hb
  replace HB := HB.trans (hb.mono HB.size)
  clear hb
  go_wp2_with fail
  refine (known_any _).mono ?_
  rintro e w12 ⟨rfl, hb⟩
  replace HB := HB.trans (hb.mono HB.size)
  clear hb
  go_wp2
  go_ret
  exact ⟨rfl, HB⟩

set_option maxHeartbeats 1000000 in
theorem NatAdds_yes (A B : Option Addr) (n m ka kb : Nat) (a b : List Nat) (w : World) (h_a_n : n ≤ 20) (h_b_n : m ≤ 20) (h_a_c : n ≤ ka) (h_b_c : m ≤ kb) (h_a : Row w 0 A n a) (h_b : Row w 0 B m b) (hle : Hid (val b ≤ val a)) :
    Calls Try.prog 3 #[.slice A n ka, .slice B m kb] w fun e w' => e = .returned (.bool true) ∧ Below w.heap.size w w' := by
  have h_a_b := h_a.bd h_a_n
  have h_b_b := h_b.bd h_b_n
  have HB := Below.refl w.heap.size w
  go_enter Try.func3, Try.ntmps3
  go_wp2_with fail
  refine (Sub_yes A B n m ka kb a b _ (by omega) (by omega) h_a_c h_b_c h_a h_b hle.out).mono ?_
  rintro e w1 ⟨X1, c1, rfl, ho, hb⟩
  replace h_a := h_a.below hb
  replace h_b := h_b.below hb
  have h_t1 := ho.row.lower (Nat.zero_le _)
  have h_t1_c := ho.capLe
  have h_t1_b : Bd (val a - val b) 20 := h_a_b.le (Nat.sub_le _ _)
  have h_t1_n := h_t1_b.len
  replace HB := HB.trans (hb.mono HB.size)
  clear ho hb
  go_wp2_with fail
  refine (rSub_yes A B n m ka kb a b _ (by omega) (by omega) h_a_c h_b_c h_a h_b hle.out).mono ?_
  rintro e w2 ⟨X2, c2, rfl, ho, hb⟩
  replace h_a := h_a.below hb
  replace h_b := h_b.below hb
  replace h_t1 := h_t1.below hb
  have h_t2 := ho.row.lower (Nat.zero_le _)
  have h_t2_c := ho.capLe
  have h_t2_b : Bd (val a - val b) 20 := h_a_b.le (Nat.sub_le _ _)
  have h_t2_n := h_t2_b.len
  replace HB := HB.trans (hb.mono HB.size)
  clear ho hb
  go_wp2_with fail
  refine (Add_any A B n m ka kb a b _ (by omega) (by omega) h_a_c h_b_c h_a h_b ).mono ?_
  rintro e w3 ⟨X3, c3, rfl, ho, hb⟩
  replace h_a := h_a.below hb
  replace h_b := h_b.below hb
  replace h_t1 := h_t1.below hb
  replace h_t2 := h_t2.below hb
  have h_t3 := ho.row.lower (Nat.zero_le _)
  have h_t3_c := ho.capLe
  have h_t3_b : Bd (val a + val b) (max 20 20 + 1) := h_a_b.add h_b_b
  have h_t3_n := h_t3_b.len
  replace HB := HB.trans (hb.mono HB.size)
  clear ho hb
  go_wp2_with fail
  refine (rAdd_any A B n m ka kb a b _ (by omega) (by omega)  h_a h_b ).mono ?_
  rintro e w4 ⟨X4, c4, rfl, ho, hb⟩
  replace h_a := h_a.below hb
  replace h_b := h_b.below hb
  replace h_t1 := h_t1.below hb
  replace h_t2 := h_t2.below hb
  replace h_t3 := h_t3.below hb
  have h_t4 := ho.row.lower (Nat.zero_le _)
  have h_t4_c := ho.capLe
  have h_t4_b : Bd (val a + val b) (max 20 20 + 1) := h_a_b.add h_b_b
  have h_t4_n := h_t4_b.len
  replace HB := HB.trans (hb.mono HB.size)
  clear ho hb
  go_wp2_with fail
  refine (limbs_v (val a + val b) (val a + val b) X3 X4 c3 c4 _ (rfl) (by omega) h_t3 h_t4).mono ?_
  rintro e w5 ⟨rfl, hb⟩
  replace h_a := h_a.below hb
  replace h_b := h_b.below hb
  replace h_t1 := h_t1.below hb
  replace h_t2 := h_t2.below hb
  replace h_t3 := h_t3.below hb
  replace h_t4 := h_t4.below hb
  replace HB := HB.trans (hb.mono HB.size)
  clear hb
  clear h_t3
  clear h_t4
  go_wp2_with fail
  refine (limbs_v (val a - val b) (val a - val b) X1 X2 c1 c2 _ (rfl) (by omega) h_t1 h_t2).mono ?_
  rintro e w6 ⟨rfl, hb⟩
  replace h_a := h_a.below hb
  replace h_b := h_b.below hb
  replace h_t1 := h_t1.below hb
  replace h_t2 := h_t2.below hb
  replace HB := HB.trans (hb.mono HB.size)
  clear hb
  clear h_t1
  clear h_t2
  go_wp2_with fail
  refine (Mul_any A B n m ka kb a b _ (by omega) (by omega) h_a_c h_b_c h_a h_b ).mono ?_
  rintro e w7 ⟨X7, c7, rfl, ho, hb⟩
  replace h_a := h_a.below hb
  replace h_b := h_b.below hb
  have h_t7 := ho.row.lower (Nat.zero_le _)
  have h_t7_c := ho.capLe
  have h_t7_b : Bd (val a * val b) (20 + 20) := h_a_b.mul h_b_b
  have h_t7_n := h_t7_b.len
  replace HB := HB.trans (hb.mono HB.size)
  clear ho hb
  go_wp2_with fail
  refine (rMul_any A B n m ka kb a b _ (by omega) (by omega)  h_a h_b ).mono ?_
  rintro e w8 ⟨X8, c8, rfl, ho, hb⟩
  replace h_a := h_a.below hb
  replace h_b := h_b.below hb
  replace h_t7 := h_t7.below hb
  have h_t8 := ho.row.lower (Nat.zero_le _)
  have h_t8_c := ho.capLe
  have h_t8_b : Bd (val a * val b) (20 + 20) := h_a_b.mul h_b_b
  have h_t8_n := h_t8_b.len
  replace HB := HB.trans (hb.mono HB.size)
  clear ho hb
  go_wp2_with fail
  refine (limbs_v (val a * val b) (val a * val b) X7 X8 c7 c8 _ (rfl) (by omega) h_t7 h_t8).mono ?_
  rintro e w9 ⟨rfl, hb⟩
  replace h_a := h_a.below hb
  replace h_b := h_b.below hb
  replace h_t7 := h_t7.below hb
  replace h_t8 := h_t8.below hb
  replace HB := HB.trans (hb.mono HB.size)
  clear hb
  clear h_t7
  clear h_t8
  go_wp2_with fail
  refine (Cmp_any A B n m ka kb a b _ (by omega) (by omega) h_a_c h_b_c h_a h_b ).mono ?_
  rintro e w10 ⟨rfl, q10, hq⟩
  have hb : Below w9.heap.size w9 w10 := by rw [hq]; exact below_drewN _ _ _
  clear hq
  replace h_a := h_a.below hb
  replace h_b := h_b.below hb
  replace HB := HB.trans (hb.mono HB.size)
  clear hb
  go_wp2_with fail
  refine (rCmp_any A B n m ka kb a b _ (by omega) (by omega) h_a_c h_b_c h_a h_b ).mono ?_
  rintro e w11 ⟨rfl, hb⟩
  replace h_a := h_a.below hb
  replace h_b := h_b.below hb
  replace HB := HB.trans (hb.mono HB.size)
  clear hb
  go_wp2_with fail
  refine (known_any _).mono ?_
  rintro e w12 ⟨rfl, hb⟩
  replace HB := HB.trans (hb.mono HB.size)
  clear hb
  go_wp2
  go_ret
  exact ⟨rfl, HB⟩

end Go.Proofs.Ytojgpoochclnfaa
