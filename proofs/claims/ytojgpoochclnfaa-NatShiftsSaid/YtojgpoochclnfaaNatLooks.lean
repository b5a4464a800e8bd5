/-
  NatLooks: any limbs trimmed, how many bits they take, as 64 bits and back, shifted: as the document says.
-/
import Derived.Test.YtojgpoochclnfaaLawKit
import Derived.Test.YtojgpoochclnfaaTo
import Derived.Test.YtojgpoochclnfaaRShiftN
namespace Go.Proofs.Ytojgpoochclnfaa
open Go.RowKit

theorem two_le {k s : Nat} (h : k ≤ 32 * s) : 2 ^ k ≤ 4294967296 ^ s := by
  have e := pow_32 s 0
  rw [Nat.pow_zero, Nat.mul_one, Nat.add_zero] at e
  rw [e]
  exact Nat.pow_le_pow_right (by omega) h
theorem Bd_sh {x p : Nat} (hx : Bd x p) (i : Int) : Bd (sh x i) (p + 128) := by
  unfold sh
  have hk : held i ≤ 4096 := by unfold held; omega
  split
  · exact (hx.more (by omega)).le (Nat.div_le_self _ _)
  · unfold Bd at *
    rw [Nat.pow_add]
    have h1 : 2 ^ (held i).toNat ≤ 4294967296 ^ 128 := two_le (by omega)
    exact Nat.lt_of_le_of_lt (Nat.mul_le_mul_left _ h1) (Nat.mul_lt_mul_of_pos_right hx (Nat.pow_pos (by omega)))
theorem is_len {l : List Nat} {n : Nat} (hl : L32 l) (hn : l.length = n) (h : n = 0 ∨ dg l (n - 1) ≠ 0) : (lim (val l)).length = n := by
  rw [lim_val hl (by unfold Tr; rw [hn]; exact h), hn]
theorem not_len {l : List Nat} {n : Nat} (hl : L32 l) (hn : l.length = n) (h0 : 0 < n) (h : dg l (n - 1) = 0) : (lim (val l)).length < n := by
  have h1 := val_take_pred l n h0 h
  rw [List.take_of_length_le (Nat.le_of_eq hn)] at h1
  have h2 := lim_len_le (hl.take (n - 1))
  rw [h1, List.length_take] at h2
  omega

set_option maxHeartbeats 1000000 in
theorem NatLooks_sy (A : Option Addr) (n ka : Nat) (a : List Nat) (x : Nat) (i : Int) (w : World) (hx : x < 18446744073709551616) (hi : -9223372036854775808 ≤ i ∧ i ≤ 9223372036854775807) (h_a_n : n ≤ 20) (h_a_c : n ≤ ka) (h_a : Row w 0 A n a) (hl2 : (lim (val a)).length ≤ 2) (his : n = 0 ∨ dg a (n - 1) ≠ 0) :
    Calls Try.prog 5 #[.slice A n ka, .int .u64 (x : Int), .int .i64 i] w fun e w' => e = .returned (.bool true) ∧ Below w.heap.size w w' := by
  have h_a_b := h_a.bd h_a_n
  have hxb : Bd x 2 := hx
  have HB := Below.refl w.heap.size w
  have hlen := is_len h_a.l32 h_a.len his
  have heq : ((n : Int) == ((lim (val a)).length : Int)) = true := by rw [beq_iff_eq]; omega
  clear hlen
  go_enter Try.func5, Try.ntmps5
  go_wp2_with fail
  refine (rTrim_any A n ka a _ (by omega) h_a_c h_a).mono ?_
  rintro e w1 ⟨X1, c1, rfl, ho, hb⟩
  replace h_a := h_a.below hb
  have h_t1 := ho.row.lower (Nat.zero_le _)
  have h_t1_c := ho.capLe
  have h_t1_b : Bd (val a) 20 := h_a_b
  have h_t1_n := h_t1_b.len
  replace HB := HB.trans (hb.mono HB.size)
  clear ho hb
  go_wp2_with fail
  refine (To_yes A n ka a _ (by omega) h_a_c h_a hl2).mono ?_
  rintro e w' ⟨rfl, rfl⟩
  go_wp2_with fail
  refine (rTo_yes A n ka a _ (by omega) h_a_c h_a hl2).mono ?_
  rintro e w2 ⟨rfl, hb⟩
  replace h_a := h_a.below hb
  replace h_t1 := h_t1.below hb
  replace HB := HB.trans (hb.mono HB.size)
  clear hb
  go_wp2_with fail
  refine (Trim_any A n ka a _ (by omega) h_a_c h_a).mono ?_
  rintro e w3 ⟨g3, rfl, ho, hb⟩
  replace h_a := h_a.below hb
  replace h_t1 := h_t1.below hb
  have h_t3 := ho.row.lower (Nat.zero_le _)
  have h_t3_c := ho.capLe
  have h_t3_b : Bd (val a) 20 := h_a_b
  have h_t3_n := h_t3_b.len
  replace HB := HB.trans (hb.mono HB.size)
  clear ho hb
  go_wp2_with fail
  refine (limbs_v (val a) (val a) (some ⟨g3, 0, none⟩) X1 (lim (val a)).length c1 _ (rfl) (by omega) h_t3 h_t1).mono ?_
  rintro e w4 ⟨rfl, hb⟩
  replace h_a := h_a.below hb
  replace h_t1 := h_t1.below hb
  replace h_t3 := h_t3.below hb
  replace HB := HB.trans (hb.mono HB.size)
  clear hb
  clear h_t3
  go_wp2_with fail
  refine (Is_yes A n ka a _ (by omega) h_a his).mono ?_
  rintro e w' ⟨rfl, rfl⟩
  go_wp2_with fail
  refine (Bits_any A n ka a _ (by omega) h_a_c h_a).mono ?_
  rintro e w' ⟨rfl, rfl⟩
  go_wp2_with fail
  refine (rBits_any A n ka a _ (by omega) h_a_c h_a).mono ?_
  rintro e w5 ⟨rfl, hb⟩
  replace h_a := h_a.below hb
  replace h_t1 := h_t1.below hb
  replace HB := HB.trans (hb.mono HB.size)
  clear hb
  go_wp2_with fail
  refine (Of_any x _ hx).mono ?_
  rintro e w6 ⟨X6, c6, rfl, ho, hb⟩
  replace h_a := h_a.below hb
  replace h_t1 := h_t1.below hb
  have h_t6 := ho.row.lower (Nat.zero_le _)
  have h_t6_c := ho.capLe
  have h_t6_b : Bd (x) 2 := hxb
  have h_t6_n := h_t6_b.len
  replace HB := HB.trans (hb.mono HB.size)
  clear ho hb
  go_wp2_with fail
  refine (rOf_any x _ hx).mono ?_
  rintro e w7 ⟨X7, c7, rfl, ho, hb⟩
  replace h_a := h_a.below hb
  replace h_t1 := h_t1.below hb
  replace h_t6 := h_t6.below hb
  have h_t7 := ho.row.lower (Nat.zero_le _)
  have h_t7_c := ho.capLe
  have h_t7_b : Bd (x) 2 := hxb
  have h_t7_n := h_t7_b.len
  replace HB := HB.trans (hb.mono HB.size)
  clear ho hb
  go_wp2_with fail
  refine (limbs_v (x) (x) X6 X7 c6 c7 _ (rfl) (by omega) h_t6 h_t7).mono ?_
  rintro e w8 ⟨rfl, hb⟩
  replace h_a := h_a.below hb
  replace h_t1 := h_t1.below hb
  replace h_t6 := h_t6.below hb
  replace h_t7 := h_t7.below hb
  replace HB := HB.trans (hb.mono HB.size)
  clear hb
  clear h_t6
  clear h_t7
  go_wp2_with fail
  refine (Shift_any A n ka a i _ (by omega) h_a_c h_a hi).mono ?_
  rintro e w9 ⟨X9, c9, rfl, ho, hb⟩
  replace h_a := h_a.below hb
  replace h_t1 := h_t1.below hb
  have h_t9 := ho.row.lower (Nat.zero_le _)
  have h_t9_c := ho.capLe
  have h_t9_b : Bd (sh (val a) i) (20 + 128) := Bd_sh h_a_b i
  have h_t9_n := h_t9_b.len
  replace HB := HB.trans (hb.mono HB.size)
  clear ho hb
  go_wp2_with fail
  refine (rShift_any A n ka a i _ (by omega) h_a_c h_a hi).mono ?_
  rintro e w10 ⟨X10, c10, rfl, ho, hb⟩
  replace h_a := h_a.below hb
  replace h_t1 := h_t1.below hb
  replace h_t9 := h_t9.below hb
  have h_t10 := ho.row.lower (Nat.zero_le _)
  have h_t10_c := ho.capLe
  have h_t10_b : Bd (sh (val a) i) (20 + 128) := Bd_sh h_a_b i
  have h_t10_n := h_t10_b.len
  replace HB := HB.trans (hb.mono HB.size)
  clear ho hb
  go_wp2_with fail
  refine (limbs_v (sh (val a) i) (sh (val a) i) X9 X10 c9 c10 _ (rfl) (by omega) h_t9 h_t10).mono ?_
  rintro e w11 ⟨rfl, hb⟩
  replace h_a := h_a.below hb
  replace h_t1 := h_t1.below hb
  replace h_t9 := h_t9.below hb
  replace h_t10 := h_t10.below hb
  replace HB := HB.trans (hb.mono HB.size)
  clear hb
  clear h_t9
  clear h_t10
  go_wp2_with fail
  refine (known_any _).mono ?_
  rintro e w12 ⟨rfl, hb⟩
  replace HB := HB.trans (hb.mono HB.size)
  clear hb
  go_wp2
  go_ret
  exact ⟨rfl, HB⟩

set_option maxHeartbeats 1000000 in
theorem NatLooks_sn (A : Option Addr) (n ka : Nat) (a : List Nat) (x : Nat) (i : Int) (w : World) (hx : x < 18446744073709551616) (hi : -9223372036854775808 ≤ i ∧ i ≤ 9223372036854775807) (h_a_n : n ≤ 20) (h_a_c : n ≤ ka) (h_a : Row w 0 A n a) (hl2 : (lim (val a)).length ≤ 2) (hn0 : 0 < n) (his : dg a (n - 1) = 0) :
    Calls Try.prog 5 #[.slice A n ka, .int .u64 (x : Int), .int .i64 i] w fun e w' => e = .returned (.bool true) ∧ Below w.heap.size w w' := by
  have h_a_b := h_a.bd h_a_n
  have hxb : Bd x 2 := hx
  have HB := Below.refl w.heap.size w
  have hlen := not_len h_a.l32 h_a.len hn0 his
  have heq : ((n : Int) == ((lim (val a)).length : Int)) = false := by rw [beq_eq_false_iff_ne]; omega
  go_enter Try.func5, Try.ntmps5
  go_wp2_with fail
  refine (rTrim_any A n ka a _ (by omega) h_a_c h_a).mono ?_
  rintro e w1 ⟨X1, c1, rfl, ho, hb⟩
  replace h_a := h_a.below hb
  have h_t1 := ho.row.lower (Nat.zero_le _)
  have h_t1_c := ho.capLe
  have h_t1_b : Bd (val a) 20 := h_a_b
  have h_t1_n := h_t1_b.len
  replace HB := HB.trans (hb.mono HB.size)
  clear ho hb
  go_wp2_with fail
  refine (To_yes A n ka a _ (by omega) h_a_c h_a hl2).mono ?_
  rintro e w' ⟨rfl, rfl⟩
  go_wp2_with fail
  refine (rTo_yes A n ka a _ (by omega) h_a_c h_a hl2).mono ?_
  rintro e w2 ⟨rfl, hb⟩
  replace h_a := h_a.below hb
  replace h_t1 := h_t1.below hb
  replace HB := HB.trans (hb.mono HB.size)
  clear hb
  go_wp2_with fail
  refine (Trim_any A n ka a _ (by omega) h_a_c h_a).mono ?_
  rintro e w3 ⟨g3, rfl, ho, hb⟩
  replace h_a := h_a.below hb
  replace h_t1 := h_t1.below hb
  have h_t3 := ho.row.lower (Nat.zero_le _)
  have h_t3_c := ho.capLe
  have h_t3_b : Bd (val a) 20 := h_a_b
  have h_t3_n := h_t3_b.len
  replace HB := HB.trans (hb.mono HB.size)
  clear ho hb
  go_wp2_with fail
  refine (limbs_v (val a) (val a) (some ⟨g3, 0, none⟩) X1 (lim (val a)).length c1 _ (rfl) (by omega) h_t3 h_t1).mono ?_
  rintro e w4 ⟨rfl, hb⟩
  replace h_a := h_a.below hb
  replace h_t1 := h_t1.below hb
  replace h_t3 := h_t3.below hb
  replace HB := HB.trans (hb.mono HB.size)
  clear hb
  clear h_t3
  go_wp2_with fail
  refine (Is_no A n ka a _ (by omega) h_a hn0 his).mono ?_
  rintro e w' ⟨rfl, rfl⟩
  go_wp2_with fail
  refine (Bits_any A n ka a _ (by omega) h_a_c h_a).mono ?_
  rintro e w' ⟨rfl, rfl⟩
  go_wp2_with fail
  refine (rBits_any A n ka a _ (by omega) h_a_c h_a).mono ?_
  rintro e w5 ⟨rfl, hb⟩
  replace h_a := h_a.below hb
  replace h_t1 := h_t1.below hb
  replace HB := HB.trans (hb.mono HB.size)
  clear hb
  go_wp2_with fail
  refine (Of_any x _ hx).mono ?_
  rintro e w6 ⟨X6, c6, rfl, ho, hb⟩
  replace h_a := h_a.below hb
  replace h_t1 := h_t1.below hb
  have h_t6 := ho.row.lower (Nat.zero_le _)
  have h_t6_c := ho.capLe
  have h_t6_b : Bd (x) 2 := hxb
  have h_t6_n := h_t6_b.len
  replace HB := HB.trans (hb.mono HB.size)
  clear ho hb
  go_wp2_with fail
  refine (rOf_any x _ hx).mono ?_
  rintro e w7 ⟨X7, c7, rfl, ho, hb⟩
  replace h_a := h_a.below hb
  replace h_t1 := h_t1.below hb
  replace h_t6 := h_t6.below hb
  have h_t7 := ho.row.lower (Nat.zero_le _)
  have h_t7_c := ho.capLe
  have h_t7_b : Bd (x) 2 := hxb
  have h_t7_n := h_t7_b.len
  replace HB := HB.trans (hb.mono HB.size)
  clear ho hb
  go_wp2_with fail
  refine (limbs_v (x) (x) X6 X7 c6 c7 _ (rfl) (by omega) h_t6 h_t7).mono ?_
  rintro e w8 ⟨rfl, hb⟩
  replace h_a := h_a.below hb
  replace h_t1 := h_t1.below hb
  replace h_t6 := h_t6.below hb
  replace h_t7 := h_t7.below hb
  replace HB := HB.trans (hb.mono HB.size)
  clear hb
  clear h_t6
  clear h_t7
  go_wp2_with fail
  refine (Shift_any A n ka a i _ (by omega) h_a_c h_a hi).mono ?_
  rintro e w9 ⟨X9, c9, rfl, ho, hb⟩
  replace h_a := h_a.below hb
  replace h_t1 := h_t1.below hb
  have h_t9 := ho.row.lower (Nat.zero_le _)
  have h_t9_c := ho.capLe
  have h_t9_b : Bd (sh (val a) i) (20 + 128) := Bd_sh h_a_b i
  have h_t9_n := h_t9_b.len
  replace HB := HB.trans (hb.mono HB.size)
  clear ho hb
  go_wp2_with fail
  refine (rShift_any A n ka a i _ (by omega) h_a_c h_a hi).mono ?_
  rintro e w10 ⟨X10, c10, rfl, ho, hb⟩
  replace h_a := h_a.below hb
  replace h_t1 := h_t1.below hb
  replace h_t9 := h_t9.below hb
  have h_t10 := ho.row.lower (Nat.zero_le _)
  have h_t10_c := ho.capLe
  have h_t10_b : Bd (sh (val a) i) (20 + 128) := Bd_sh h_a_b i
  have h_t10_n := h_t10_b.len
  replace HB := HB.trans (hb.mono HB.size)
  clear ho hb
  go_wp2_with fail
  refine (limbs_v (sh (val a) i) (sh (val a) i) X9 X10 c9 c10 _ (rfl) (by omega) h_t9 h_t10).mono ?_
  rintro e w11 ⟨rfl, hb⟩
  replace h_a := h_a.below hb
  replace h_t1 := h_t1.below hb
  replace h_t9 := h_t9.below hb
  replace h_t10 := h_t10.below hb
  replace HB := HB.trans (hb.mono HB.size)
  clear hb
  clear h_t9
  clear h_t10
  go_wp2_with fail
  refine (known_any _).mono ?_
  rintro e w12 ⟨rfl, hb⟩
  replace HB := HB.trans (hb.mono HB.size)
  clear hb
  go_wp2
  go_ret
  exact ⟨rfl, HB⟩

set_option maxHeartbeats 1000000 in
theorem NatLooks_ly (A : Option Addr) (n ka : Nat) (a : List Nat) (x : Nat) (i : Int) (w : World) (hx : x < 18446744073709551616) (hi : -9223372036854775808 ≤ i ∧ i ≤ 9223372036854775807) (h_a_n : n ≤ 20) (h_a_c : n ≤ ka) (h_a : Row w 0 A n a) (hl2 : 2 < (lim (val a)).length) (his : n = 0 ∨ dg a (n - 1) ≠ 0) :
    Calls Try.prog 5 #[.slice A n ka, .int .u64 (x : Int), .int .i64 i] w fun e w' => e = .returned (.bool true) ∧ Below w.heap.size w w' := by
  have h_a_b := h_a.bd h_a_n
  have hxb : Bd x 2 := hx
  have HB := Below.refl w.heap.size w
  have hlen := is_len h_a.l32 h_a.len his
  have heq : ((n : Int) == ((lim (val a)).length : Int)) = true := by rw [beq_iff_eq]; omega
  clear hlen
  go_enter Try.func5, Try.ntmps5
  go_wp2_with fail
  refine (rTrim_any A n ka a _ (by omega) h_a_c h_a).mono ?_
  rintro e w1 ⟨X1, c1, rfl, ho, hb⟩
  replace h_a := h_a.below hb
  have h_t1 := ho.row.lower (Nat.zero_le _)
  have h_t1_c := ho.capLe
  have h_t1_b : Bd (val a) 20 := h_a_b
  have h_t1_n := h_t1_b.len
  replace HB := HB.trans (hb.mono HB.size)
  clear ho hb
  go_wp2_with fail
  refine (To_no A n ka a _ (by omega) h_a_c h_a hl2).mono ?_
  rintro e w' ⟨rfl, rfl⟩
  go_wp2_with fail
  refine (rTo_no A n ka a _ (by omega) h_a_c h_a hl2).mono ?_
  rintro e w2 ⟨rfl, hb⟩
  replace h_a := h_a.below hb
  replace h_t1 := h_t1.below hb
  replace HB := HB.trans (hb.mono HB.size)
  clear hb
  go_wp2_with fail
  refine (Trim_any A n ka a _ (by omega) h_a_c h_a).mono ?_
  rintro e w3 ⟨g3, rfl, ho, hb⟩
  replace h_a := h_a.below hb
  replace h_t1 := h_t1.below hb
  have h_t3 := ho.row.lower (Nat.zero_le _)
  have h_t3_c := ho.capLe
  have h_t3_b : Bd (val a) 20 := h_a_b
  have h_t3_n := h_t3_b.len
  replace HB := HB.trans (hb.mono HB.size)
  clear ho hb
  go_wp2_with fail
  refine (limbs_v (val a) (val a) (some ⟨g3, 0, none⟩) X1 (lim (val a)).length c1 _ (rfl) (by omega) h_t3 h_t1).mono ?_
  rintro e w4 ⟨rfl, hb⟩
  replace h_a := h_a.below hb
  replace h_t1 := h_t1.below hb
  replace h_t3 := h_t3.below hb
  replace HB := HB.trans (hb.mono HB.size)
  clear hb
  clear h_t3
  go_wp2_with fail
  refine (Is_yes A n ka a _ (by omega) h_a his).mono ?_
  rintro e w' ⟨rfl, rfl⟩
  go_wp2_with fail
  refine (Bits_any A n ka a _ (by omega) h_a_c h_a).mono ?_
  rintro e w' ⟨rfl, rfl⟩
  go_wp2_with fail
  refine (rBits_any A n ka a _ (by omega) h_a_c h_a).mono ?_
  rintro e w5 ⟨rfl, hb⟩
  replace h_a := h_a.below hb
  replace h_t1 := h_t1.below hb
  replace HB := HB.trans (hb.mono HB.size)
  clear hb
  go_wp2_with fail
  refine (Of_any x _ hx).mono ?_
  rintro e w6 ⟨X6, c6, rfl, ho, hb⟩
  replace h_a := h_a.below hb
  replace h_t1 := h_t1.below hb
  have h_t6 := ho.row.lower (Nat.zero_le _)
  have h_t6_c := ho.capLe
  have h_t6_b : Bd (x) 2 := hxb
  have h_t6_n := h_t6_b.len
  replace HB := HB.trans (hb.mono HB.size)
  clear ho hb
  go_wp2_with fail
  refine (rOf_any x _ hx).mono ?_
  rintro e w7 ⟨X7, c7, rfl, ho, hb⟩
  replace h_a := h_a.below hb
  replace h_t1 := h_t1.below hb
  replace h_t6 := h_t6.below hb
  have h_t7 := ho.row.lower (Nat.zero_le _)
  have h_t7_c := ho.capLe
  have h_t7_b : Bd (x) 2 := hxb
  have h_t7_n := h_t7_b.len
  replace HB := HB.trans (hb.mono HB.size)
  clear ho hb
  go_wp2_with fail
  refine (limbs_v (x) (x) X6 X7 c6 c7 _ (rfl) (by omega) h_t6 h_t7).mono ?_
  rintro e w8 ⟨rfl, hb⟩
  replace h_a := h_a.below hb
  replace h_t1 := h_t1.below hb
  replace h_t6 := h_t6.below hb
  replace h_t7 := h_t7.below hb
  replace HB := HB.trans (hb.mono HB.size)
  clear hb
  clear h_t6
  clear h_t7
  go_wp2_with fail
  refine (Shift_any A n ka a i _ (by omega) h_a_c h_a hi).mono ?_
  rintro e w9 ⟨X9, c9, rfl, ho, hb⟩
  replace h_a := h_a.below hb
  replace h_t1 := h_t1.below hb
  have h_t9 := ho.row.lower (Nat.zero_le _)
  have h_t9_c := ho.capLe
  have h_t9_b : Bd (sh (val a) i) (20 + 128) := Bd_sh h_a_b i
  have h_t9_n := h_t9_b.len
  replace HB := HB.trans (hb.mono HB.size)
  clear ho hb
  go_wp2_with fail
  refine (rShift_any A n ka a i _ (by omega) h_a_c h_a hi).mono ?_
  rintro e w10 ⟨X10, c10, rfl, ho, hb⟩
  replace h_a := h_a.below hb
  replace h_t1 := h_t1.below hb
  replace h_t9 := h_t9.below hb
  have h_t10 := ho.row.lower (Nat.zero_le _)
  have h_t10_c := ho.capLe
  have h_t10_b : Bd (sh (val a) i) (20 + 128) := Bd_sh h_a_b i
  have h_t10_n := h_t10_b.len
  replace HB := HB.trans (hb.mono HB.size)
  clear ho hb
  go_wp2_with fail
  refine (limbs_v (sh (val a) i) (sh (val a) i) X9 X10 c9 c10 _ (rfl) (by omega) h_t9 h_t10).mono ?_
  rintro e w11 ⟨rfl, hb⟩
  replace h_a := h_a.below hb
  replace h_t1 := h_t1.below hb
  replace h_t9 := h_t9.below hb
  replace h_t10 := h_t10.below hb
  replace HB := HB.trans (hb.mono HB.size)
  clear hb
  clear h_t9
  clear h_t10
  go_wp2_with fail
  refine (known_any _).mono ?_
  rintro e w12 ⟨rfl, hb⟩
  replace HB := HB.trans (hb.mono HB.size)
  clear hb
  go_wp2
  go_ret
  exact ⟨rfl, HB⟩

set_option maxHeartbeats 1000000 in
theorem NatLooks_ln (A : Option Addr) (n ka : Nat) (a : List Nat) (x : Nat) (i : Int) (w : World) (hx : x < 18446744073709551616) (hi : -9223372036854775808 ≤ i ∧ i ≤ 9223372036854775807) (h_a_n : n ≤ 20) (h_a_c : n ≤ ka) (h_a : Row w 0 A n a) (hl2 : 2 < (lim (val a)).length) (hn0 : 0 < n) (his : dg a (n - 1) = 0) :
    Calls Try.prog 5 #[.slice A n ka, .int .u64 (x : Int), .int .i64 i] w fun e w' => e = .returned (.bool true) ∧ Below w.heap.size w w' := by
  have h_a_b := h_a.bd h_a_n
  have hxb : Bd x 2 := hx
  have HB := Below.refl w.heap.size w
  have hlen := not_len h_a.l32 h_a.len hn0 his
  have heq : ((n : Int) == ((lim (val a)).length : Int)) = false := by rw [beq_eq_false_iff_ne]; omega
  go_enter Try.func5, Try.ntmps5
  go_wp2_with fail
  refine (rTrim_any A n ka a _ (by omega) h_a_c h_a).mono ?_
  rintro e w1 ⟨X1, c1, rfl, ho, hb⟩
  replace h_a := h_a.below hb
  have h_t1 := ho.row.lower (Nat.zero_le _)
  have h_t1_c := ho.capLe
  have h_t1_b : Bd (val a) 20 := h_a_b
  have h_t1_n := h_t1_b.len
  replace HB := HB.trans (hb.mono HB.size)
  clear ho hb
  go_wp2_with fail
  refine (To_no A n ka a _ (by omega) h_a_c h_a hl2).mono ?_
  rintro e w' ⟨rfl, rfl⟩
  go_wp2_with fail
  refine (rTo_no A n ka a _ (by omega) h_a_c h_a hl2).mono ?_
  rintro e w2 ⟨rfl, hb⟩
  replace h_a := h_a.below hb
  replace h_t1 := h_t1.below hb
  replace HB := HB.trans (hb.mono HB.size)
  clear hb
  go_wp2_with fail
  refine (Trim_any A n ka a _ (by omega) h_a_c h_a).mono ?_
  rintro e w3 ⟨g3, rfl, ho, hb⟩
  replace h_a := h_a.below hb
  replace h_t1 := h_t1.below hb
  have h_t3 := ho.row.lower (Nat.zero_le _)
  have h_t3_c := ho.capLe
  have h_t3_b : Bd (val a) 20 := h_a_b
  have h_t3_n := h_t3_b.len
  replace HB := HB.trans (hb.mono HB.size)
  clear ho hb
  go_wp2_with fail
  refine (limbs_v (val a) (val a) (some ⟨g3, 0, none⟩) X1 (lim (val a)).length c1 _ (rfl) (by omega) h_t3 h_t1).mono ?_
  rintro e w4 ⟨rfl, hb⟩
  replace h_a := h_a.below hb
  replace h_t1 := h_t1.below hb
  replace h_t3 := h_t3.below hb
  replace HB := HB.trans (hb.mono HB.size)
  clear hb
  clear h_t3
  go_wp2_with fail
  refine (Is_no A n ka a _ (by omega) h_a hn0 his).mono ?_
  rintro e w' ⟨rfl, rfl⟩
  go_wp2_with fail
  refine (Bits_any A n ka a _ (by omega) h_a_c h_a).mono ?_
  rintro e w' ⟨rfl, rfl⟩
  go_wp2_with fail
  refine (rBits_any A n ka a _ (by omega) h_a_c h_a).mono ?_
  rintro e w5 ⟨rfl, hb⟩
  replace h_a := h_a.below hb
  replace h_t1 := h_t1.below hb
  replace HB := HB.trans (hb.mono HB.size)
  clear hb
  go_wp2_with fail
  refine (Of_any x _ hx).mono ?_
  rintro e w6 ⟨X6, c6, rfl, ho, hb⟩
  replace h_a := h_a.below hb
  replace h_t1 := h_t1.below hb
  have h_t6 := ho.row.lower (Nat.zero_le _)
  have h_t6_c := ho.capLe
  have h_t6_b : Bd (x) 2 := hxb
  have h_t6_n := h_t6_b.len
  replace HB := HB.trans (hb.mono HB.size)
  clear ho hb
  go_wp2_with fail
  refine (rOf_any x _ hx).mono ?_
  rintro e w7 ⟨X7, c7, rfl, ho, hb⟩
  replace h_a := h_a.below hb
  replace h_t1 := h_t1.below hb
  replace h_t6 := h_t6.below hb
  have h_t7 := ho.row.lower (Nat.zero_le _)
  have h_t7_c := ho.capLe
  have h_t7_b : Bd (x) 2 := hxb
  have h_t7_n := h_t7_b.len
  replace HB := HB.trans (hb.mono HB.size)
  clear ho hb
  go_wp2_with fail
  refine (limbs_v (x) (x) X6 X7 c6 c7 _ (rfl) (by omega) h_t6 h_t7).mono ?_
  rintro e w8 ⟨rfl, hb⟩
  replace h_a := h_a.below hb
  replace h_t1 := h_t1.below hb
  replace h_t6 := h_t6.below hb
  replace h_t7 := h_t7.below hb
  replace HB := HB.trans (hb.mono HB.size)
  clear hb
  clear h_t6
  clear h_t7
  go_wp2_with fail
  refine (Shift_any A n ka a i _ (by omega) h_a_c h_a hi).mono ?_
  rintro e w9 ⟨X9, c9, rfl, ho, hb⟩
  replace h_a := h_a.below hb
  replace h_t1 := h_t1.below hb
  have h_t9 := ho.row.lower (Nat.zero_le _)
  have h_t9_c := ho.capLe
  have h_t9_b : Bd (sh (val a) i) (20 + 128) := Bd_sh h_a_b i
  have h_t9_n := h_t9_b.len
  replace HB := HB.trans (hb.mono HB.size)
  clear ho hb
  go_wp2_with fail
  refine (rShift_any A n ka a i _ (by omega) h_a_c h_a hi).mono ?_
  rintro e w10 ⟨X10, c10, rfl, ho, hb⟩
  replace h_a := h_a.below hb
  replace h_t1 := h_t1.below hb
  replace h_t9 := h_t9.below hb
  have h_t10 := ho.row.lower (Nat.zero_le _)
  have h_t10_c := ho.capLe
  have h_t10_b : Bd (sh (val a) i) (20 + 128) := Bd_sh h_a_b i
  have h_t10_n := h_t10_b.len
  replace HB := HB.trans (hb.mono HB.size)
  clear ho hb
  go_wp2_with fail
  refine (limbs_v (sh (val a) i) (sh (val a) i) X9 X10 c9 c10 _ (rfl) (by omega) h_t9 h_t10).mono ?_
  rintro e w11 ⟨rfl, hb⟩
  replace h_a := h_a.below hb
  replace h_t1 := h_t1.below hb
  replace h_t9 := h_t9.below hb
  replace h_t10 := h_t10.below hb
  replace HB := HB.trans (hb.mono HB.size)
  clear hb
  clear h_t9
  clear h_t10
  go_wp2_with fail
  refine (known_any _).mono ?_
  rintro e w12 ⟨rfl, hb⟩
  replace HB := HB.trans (hb.mono HB.size)
  clear hb
  go_wp2
  go_ret
  exact ⟨rfl, HB⟩

end Go.Proofs.Ytojgpoochclnfaa
