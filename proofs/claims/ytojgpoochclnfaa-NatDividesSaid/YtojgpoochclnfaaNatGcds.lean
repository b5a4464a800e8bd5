/-
  NatGcds: the greatest common divisor divides both, and what they are by it have none but 1.
-/
import Derived.Test.YtojgpoochclnfaaGcd
namespace Go.Proofs.Ytojgpoochclnfaa
open Go.RowKit

theorem lim_one' : lim 1 = [1] := by rw [lim_pos (by omega), lim_zero_of (by omega)]
theorem len_zero {x : Nat} (h : x = 0) : (lim x).length = 0 := by rw [h, lim_zero]; rfl
theorem len_pos {x : Nat} (h : 0 < x) : 0 < (lim x).length := by
  rcases Nat.eq_zero_or_pos (lim x).length with h0 | h0
  · have := val_lim x
    rw [List.eq_nil_of_length_eq_zero h0] at this
    simp [val] at this
    omega
  · exact h0
theorem Gcd_z (x y z : Nat) (A B : Option Addr) (n m c d : Nat) (a b : List Nat) (w : World) (hx : val a = x) (hy : val b = y) (hz : Nat.gcd x y = z) (hn : n ≤ 10000) (hm : m ≤ 10000) (hcn : n ≤ c) (hdm : m ≤ d) (ha : Row w 0 A n a) (hb : Row w 0 B m b) :
    Calls Try.prog 23 #[.slice A n c, .slice B m d] w fun e w' => ∃ X2 c2, e = .returned (.slice X2 (lim z).length c2) ∧ (lim z).length ≤ c2 ∧ Row w' 0 X2 (lim z).length (lim z) ∧ Below w.heap.size w w' := by
  subst hz; exact Gcd_any A B n m c d x y a b w hn hm hcn hdm ha hb hx hy

set_option maxHeartbeats 400000 in
theorem NatGcds_a0 (A B : Option Addr) (n m ka kb : Nat) (a : List Nat) (w : World) (h_a_n : n ≤ 8) (h_b_n : m ≤ 8) (h_a_c : n ≤ ka) (h_a : Row w 0 A n a) (h0 : val a = 0) :
    Calls Try.prog 8 #[.slice A n ka, .slice B m kb] w fun e w' => e = .returned (.bool true) ∧ Below w.heap.size w w' := by
  have hbl : (((lim (val a)).length : Int) == 0) = true := by rw [beq_iff_eq]; have := len_zero h0; omega
  clear h0
  go_enter Try.func8, Try.ntmps8
  go_wp2_with fail
  refine (rTrim_any A n ka a _ (by omega) h_a_c h_a).mono ?_
  rintro e w1 ⟨X, cx, rfl, ho, hb1⟩
  clear ho
  go_wp2
  go_ret
  exact ⟨rfl, hb1⟩

set_option maxHeartbeats 400000 in
theorem NatGcds_b0 (A B : Option Addr) (n m ka kb : Nat) (a b : List Nat) (w : World) (h_a_n : n ≤ 8) (h_b_n : m ≤ 8) (h_a_c : n ≤ ka) (h_b_c : m ≤ kb) (h_a : Row w 0 A n a) (h_b : Row w 0 B m b) (ha0 : 0 < val a) (h0 : val b = 0) :
    Calls Try.prog 8 #[.slice A n ka, .slice B m kb] w fun e w' => e = .returned (.bool true) ∧ Below w.heap.size w w' := by
  have hbl : (((lim (val b)).length : Int) == 0) = true := by rw [beq_iff_eq]; have := len_zero h0; omega
  have hbl2 : (((lim (val a)).length : Int) == 0) = false := by rw [beq_eq_false_iff_ne]; have := len_pos ha0; omega
  clear h0 ha0
  go_enter Try.func8, Try.ntmps8
  go_wp2_with fail
  refine (rTrim_any A n ka a _ (by omega) h_a_c h_a).mono ?_
  rintro e w1 ⟨X, cx, rfl, ho, hb1⟩
  replace h_b := h_b.below hb1
  clear ho
  go_wp2_with fail
  refine (rTrim_any B m kb b _ (by omega) h_b_c h_b).mono ?_
  rintro e w2 ⟨X2, cx2, rfl, ho, hb2⟩
  have HB := hb1.trans (hb2.mono hb1.size)
  clear ho hb1 hb2
  go_wp2
  go_ret
  exact ⟨rfl, HB⟩

set_option maxHeartbeats 1600000 in
theorem NatGcds_pos (A B : Option Addr) (n m ka kb : Nat) (a b : List Nat) (x y g : Nat) (w : World) (h_a_n : n ≤ 8) (h_b_n : m ≤ 8) (h_a_c : n ≤ ka) (h_b_c : m ≤ kb) (h_a : Row w 0 A n a) (h_b : Row w 0 B m b) (HX : Hid (val a = x)) (HY : Hid (val b = y)) (HG : Hid (Nat.gcd x y = g)) (hx : 0 < x) (hy : 0 < y) :
    Calls Try.prog 8 #[.slice A n ka, .slice B m kb] w fun e w' => e = .returned (.bool true) ∧ Below w.heap.size w w' := by
  have h_a_b : Bd x 8 := by rw [← HX.out]; exact h_a.bd h_a_n
  have h_b_b : Bd y 8 := by rw [← HY.out]; exact h_b.bd h_b_n
  have HB := Below.refl w.heap.size w
  have hg : Nat.gcd x y = g := HG
  have HGP : Hid (0 < g) := by show _ < _; rw [← hg]; exact Nat.gcd_pos_of_pos_left _ hx
  have HGB : Hid (Bd g 8) := by show Bd g 8; rw [← hg]; exact h_a_b.le (Nat.le_of_dvd hx (Nat.gcd_dvd_left _ _))
  have HG1 : Hid (Nat.gcd (x / g) (y / g) = 1) := by
    show _ = _
    have d1 : g ∣ x := by rw [← hg]; exact Nat.gcd_dvd_left _ _
    have d2 : g ∣ y := by rw [← hg]; exact Nat.gcd_dvd_right _ _
    rw [Nat.gcd_div d1 d2, hg]
    exact Nat.div_self HGP
  have HB1 : Hid (Bd 1 1) := by show (1 : Nat) < 4294967296 ^ 1; omega
  have z1 : (lim (x % g)).length = 0 := len_zero (by rw [← hg]; exact Nat.mod_eq_zero_of_dvd (Nat.gcd_dvd_left _ _))
  have z2 : (lim (y % g)).length = 0 := len_zero (by rw [← hg]; exact Nat.mod_eq_zero_of_dvd (Nat.gcd_dvd_right _ _))
  have hbz : (((lim (x % g)).length : Int) + ((lim (y % g)).length : Int) == 0) = true := by rw [beq_iff_eq]; omega
  have hbl : (((lim (val a)).length : Int) == 0) = false := by rw [beq_eq_false_iff_ne, HX.out]; have := len_pos hx; omega
  have hbl2 : (((lim (val b)).length : Int) == 0) = false := by rw [beq_eq_false_iff_ne, HY.out]; have := len_pos hy; omega
  clear z1 z2 hg hx hy
  go_enter Try.func8, Try.ntmps8
  go_wp2_with fail
  refine (rTrim_any A n ka a _ (by omega) h_a_c h_a).mono ?_
  rintro e w1 ⟨X1, c1, rfl, ho, hb⟩
  replace h_a := h_a.below hb
  replace h_b := h_b.below hb
  replace HB := HB.trans (hb.mono HB.size)
  clear ho hb
  go_wp2_with fail
  refine (rTrim_any B m kb b _ (by omega) h_b_c h_b).mono ?_
  rintro e w2 ⟨X2, c2, rfl, ho, hb⟩
  replace h_a := h_a.below hb
  replace h_b := h_b.below hb
  replace HB := HB.trans (hb.mono HB.size)
  clear ho hb
  go_wp2_with fail
  refine (Gcd_z (x) (y) (g) A B n m ka kb a b _ (HX.out) (HY.out) (HG.out) (by omega) (by omega) h_a_c h_b_c h_a h_b).mono ?_
  rintro e w3 ⟨X3, c3, rfl, hc, hr, hb⟩
  replace h_a := h_a.below hb
  replace h_b := h_b.below hb
  have h_t3 := hr
  have h_t3_c := hc
  have h_t3_b : Bd (g) 8 := HGB.out
  have h_t3_n := h_t3_b.len
  replace HB := HB.trans (hb.mono HB.size)
  clear hc hr hb
  go_wp2_with fail
  refine (DivMod_pos A X3 n (lim (g)).length ka c3 (x) (g) a (lim (g)) _ (by omega) (by omega) h_a_c h_t3_c h_a h_t3 (HX.out) (val_lim _) HGP.out).mono ?_
  rintro e w4 ⟨X4, c4, Y4, d4, rfl, ho, ho', hb⟩
  replace h_a := h_a.below hb
  replace h_b := h_b.below hb
  replace h_t3 := h_t3.below hb
  have h_q4 := ho.row.lower (Nat.zero_le _)
  have h_q4_c := ho.capLe
  have h_q4_b : Bd (x / g) 8 := h_a_b.le (Nat.div_le_self _ _)
  have h_q4_n := h_q4_b.len
  have h_r4 := ho'.row.lower (Nat.zero_le _)
  have h_r4_c := ho'.capLe
  have h_r4_b : Bd (x % g) 8 := h_a_b.le (Nat.mod_le _ _)
  have h_r4_n := h_r4_b.len
  replace HB := HB.trans (hb.mono HB.size)
  clear ho ho' hb
  go_wp2_with fail
  refine (DivMod_pos B X3 m (lim (g)).length kb c3 (y) (g) b (lim (g)) _ (by omega) (by omega) h_b_c h_t3_c h_b h_t3 (HY.out) (val_lim _) HGP.out).mono ?_
  rintro e w5 ⟨X5, c5, Y5, d5, rfl, ho, ho', hb⟩
  replace h_a := h_a.below hb
  replace h_b := h_b.below hb
  replace h_t3 := h_t3.below hb
  replace h_q4 := h_q4.below hb
  replace h_r4 := h_r4.below hb
  have h_q5 := ho.row.lower (Nat.zero_le _)
  have h_q5_c := ho.capLe
  have h_q5_b : Bd (y / g) 8 := h_b_b.le (Nat.div_le_self _ _)
  have h_q5_n := h_q5_b.len
  have h_r5 := ho'.row.lower (Nat.zero_le _)
  have h_r5_c := ho'.capLe
  have h_r5_b : Bd (y % g) 8 := h_b_b.le (Nat.mod_le _ _)
  have h_r5_n := h_r5_b.len
  replace HB := HB.trans (hb.mono HB.size)
  clear ho ho' hb
  go_wp2_with fail
  refine (Gcd_z (x / g) (y / g) (1) X4 X5 (lim (x / g)).length (lim (y / g)).length c4 c5 (lim (x / g)) (lim (y / g)) _ (val_lim _) (val_lim _) (HG1.out) (by omega) (by omega) h_q4_c h_q5_c h_q4 h_q5).mono ?_
  rintro e w6 ⟨X6, c6, rfl, hc, hr, hb⟩
  replace h_a := h_a.below hb
  replace h_b := h_b.below hb
  replace h_t3 := h_t3.below hb
  replace h_q4 := h_q4.below hb
  replace h_r4 := h_r4.below hb
  replace h_q5 := h_q5.below hb
  replace h_r5 := h_r5.below hb
  have h_t6 := hr
  have h_t6_c := hc
  have h_t6_b : Bd (1) 1 := HB1.out
  have h_t6_n := h_t6_b.len
  replace HB := HB.trans (hb.mono HB.size)
  clear hc hr hb
  rw [lim_one'] at h_t6 h_t6_c ⊢
  go_wp2_with fail
  refine (limbs_yes _ _ 1 _ _ [1] _ (by omega) (h_t6.alloc _) (Row.one (by rfl) (by omega) (Nat.zero_le _))).mono ?_
  rintro e w7 ⟨rfl, qq, hq⟩
  have hb : Below w6.heap.size w6 w7 := by rw [hq]; exact (below_alloc _ _).trans (below_drewN' _ _ _)
  clear hq
  replace HB := HB.trans (hb.mono HB.size)
  clear hb
  go_wp2_with fail
  refine (known_any _).mono ?_
  rintro e w8 ⟨rfl, hb⟩
  replace HB := HB.trans (hb.mono HB.size)
  clear hb
  go_wp2
  go_ret
  exact ⟨rfl, HB⟩
end Go.Proofs.Ytojgpoochclnfaa
