/-
  FltEdges: the walk of the law.
-/
import Derived.Test.YtmehlbdlllkcgaaFltShift
namespace Go.Proofs.Ytmehlbdlllkcgaa
set_option maxRecDepth 20000
open Go.RowKit

theorem lg_pow {a b : Nat} (h : b ≤ a + em) : lg (2 ^ a) (2 ^ b) = a + em - b := by
  have e : a + em = b + (a + em - b) := by omega
  refine lg_is (Nat.pow_pos (by omega)) ?_ ?_
  · rw [← Nat.pow_add, ← Nat.pow_add, ← e]; exact Nat.le_refl _
  · rw [← Nat.pow_add, ← Nat.pow_add]
    exact Nat.pow_lt_pow_right (by omega) (by omega)
theorem dbl_far {n : Nat} (h : 32 ≤ n) : dbl (4294967296 ^ n) 1 = 9218868437227405312 := by
  have hl : lg (4294967296 ^ n) 1 = 32 * n + em := by
    have := lg_pow (a := 32 * n) (b := 0) (by omega)
    rw [Nat.pow_zero] at this
    rw [pow_limb, this]; omega
  unfold dbl
  rw [hl, if_pos (by rw [em_eq]; omega)]
theorem rq_nought {a b : Nat} (h : 2 * a < b) : rq a b = 0 := by
  unfold rq
  rw [Nat.mod_eq_of_lt (by omega), Nat.div_eq_of_lt (by omega), if_neg (by omega)]
theorem dbl_low {n : Nat} (h : 34 ≤ n) (h2 : n ≤ 100) : dbl 1 (4294967296 ^ n) = 0 := by
  have hl : lg 1 (4294967296 ^ n) = em - 32 * n := by
    have := lg_pow (a := 0) (b := 32 * n) (by rw [em_eq]; omega)
    rw [Nat.pow_zero, Nat.zero_add] at this
    rw [pow_limb, this]
  have hu : un (em - 32 * n) = eb := by rw [un_eq, em_eq, eb_eq]; omega
  unfold dbl
  rw [hl, if_neg (by rw [em_eq]; omega), hu, Nat.sub_self, Nat.mul_zero, Nat.zero_add, Nat.one_mul]
  refine rq_nought ?_
  rw [pow_limb, ← Nat.pow_add, Nat.mul_comm, ← Nat.pow_succ]
  exact Nat.pow_lt_pow_right (by omega) (by rw [em_eq, eb_eq]; omega)
theorem parts_inf (s : Bool) : Parts ((if s then 9223372036854775808 else 0) + 9218868437227405312) s 2047 0 := ⟨rfl, by omega, by omega⟩
theorem parts_0 : Parts 0 false 0 0 := ⟨rfl, by omega, by omega⟩

set_option maxHeartbeats 2000000 in
theorem FltEdges_in (n : Nat) (hn : n ≤ 60) (s : Bool) (w : World) :
    Calls Try.prog 9 #[.int .i64 (n : Int), .bool s] w fun r w' => r = .returned (.bool true) ∧ Below w.heap.size w w' := by
  have E1 : Hid (tof (rn s (4294967296 ^ (32 + n)) 1) = (if s then 9223372036854775808 else 0) + 9218868437227405312) := by
    show _ = _
    have hp : (4294967296 : Nat) ^ (32 + n) ≠ 0 := by have := Nat.pow_pos (n := 32 + n) (show 0 < 4294967296 by omega); omega
    rw [tof_rn]
    unfold tf
    rw [if_neg (fun h => h.elim hp (by decide)), dbl_far (by omega), if_neg (by decide)]
  have E2 : Hid (tof (rn s 1 (4294967296 ^ (34 + n))) = 0) := by
    show _ = _
    rw [tof_rn]
    unfold tf
    rw [dbl_low (by omega) (by omega)]
    split <;> rfl
  have hk1 := Lib.hid (fun (w : World) => Kind_c _ s 2047 0 w (parts_inf s))
  have hk2 : Hid (∀ w : World, Calls Try.prog 33 #[.float .f64 0] w fun r w' => r = .returned (.int .i64 1) ∧ w = w') := by
    intro w
    have h := Kind_c _ _ _ _ w parts_0
    rw [show kd false 0 0 = 1 from rfl] at h
    exact h
  have hk : kd s 2047 0 = if s then 4 else 3 := rfl
  have hsh1 := Lib.hid (fun (w : World) => shifted_c (32 + n) (32 + (n : Int)) (by omega) (by omega) w)
  have hsh2 := Lib.hid (fun (w : World) => shifted_c (34 + n) (34 + (n : Int)) (by omega) (by omega) w)
  generalize hI : (if s then 9223372036854775808 else 0) + 9218868437227405312 = I at *
  have hI' := Lib.hid hI
  clear hI
  go_enter Try.func9, Try.ntmps9
  go_wp2_with fail
  refine (hsh1.out _).mono ?_
  rintro r w1 ⟨A1, c1, l, rfl, r1, v1, k1, hb1⟩
  go_wp2_with fail
  have r2 := one_row w1 0 (Nat.zero_le _)
  have hbn := (Below.refl w1.heap.size w1).alloc (Nat.le_refl _) (.cells #[.int .u32 1] 25)
  replace r1 := r1.below hbn
  have HB := hb1.trans (hbn.mono hb1.size)
  have hv : Rw (w1.alloc (.cells #[.int .u32 1] 25)) ⟨s, A1, 32 + n + 1, c1, some ⟨w1.heap.size, 0, none⟩, 1, 1⟩ (rn s (4294967296 ^ (32 + n)) 1) 125 :=
    ⟨k1, Nat.le_refl _, by show 32 + n + 1 ≤ 125; omega, by show 1 ≤ 125; omega, l, [1], r1, r2, by rw [v1]; rfl⟩
  clear hb1 hbn r1 r2 v1 k1
  refine (To_c ⟨s, A1, 32 + n + 1, c1, some ⟨w1.heap.size, 0, none⟩, 1, 1⟩ _ _ hv).mono ?_
  rintro r w2 ⟨rfl, hb2⟩
  rw [E1.out]
  replace HB := HB.trans (hb2.mono HB.size)
  clear hb2 hv
  go_wp2_with fail
  have r2 := one_row w2 0 (Nat.zero_le _)
  have hbn := (Below.refl w2.heap.size w2).alloc (Nat.le_refl _) (.cells #[.int .u32 1] 25)
  replace HB := HB.trans (hbn.mono HB.size)
  refine (hsh2.out _).mono ?_
  rintro r w3 ⟨A2, c2, l2, rfl, r3, v3, k3, hb3⟩
  replace r2 := r2.below hb3
  replace HB := HB.trans (hb3.mono HB.size)
  have hv : Rw w3 ⟨s, some ⟨w2.heap.size, 0, none⟩, 1, 1, A2, 34 + n + 1, c2⟩ (rn s 1 (4294967296 ^ (34 + n))) 125 :=
    ⟨Nat.le_refl _, k3, by show 1 ≤ 125; omega, by show 34 + n + 1 ≤ 125; omega, [1], l2, r2, r3, by rw [v3]; rfl⟩
  clear hb3 hbn r2 r3 v3 k3
  go_wp2_with fail
  refine (To_c ⟨s, some ⟨w2.heap.size, 0, none⟩, 1, 1, A2, 34 + n + 1, c2⟩ _ _ hv).mono ?_
  rintro r w4 ⟨rfl, hb4⟩
  rw [E2.out]
  replace HB := HB.trans (hb4.mono HB.size)
  clear hb4 hv E1 E2 hsh1 hsh2
  rw [hk] at hk1
  cases s
  all_goals
    have hk1' := Lib.hid hk1.out
    clear hk1 hk
    go_wp2_with fail
    refine (hk1'.out _).mono ?_
    rintro r w' ⟨rfl, rfl⟩
    go_wp2_with fail
    refine (hk2.out _).mono ?_
    rintro r w' ⟨rfl, rfl⟩
    go_wp2_with fail
    refine (known4_any _).mono ?_
    rintro r w5 ⟨rfl, hb5⟩
    replace HB := HB.trans (hb5.mono HB.size)
    clear hb5
    go_wp2
    go_ret
    exact ⟨rfl, HB⟩

set_option maxHeartbeats 800000 in
theorem FltEdges_any (i : Int) (s : Bool) (w : World) (hi : -9223372036854775808 ≤ i ∧ i ≤ 9223372036854775807) :
    Calls Try.prog 9 #[.int .i64 i, .bool s] w fun r w' => r = .returned (.bool true) ∧ Below w.heap.size w w' := by
  by_cases h0 : i < 0
  · go_enter Try.func9, Try.ntmps9
    go_wp2_with fail
    refine (known4_any _).mono ?_
    rintro r w5 ⟨rfl, HB⟩
    go_wp2
    go_ret
    exact ⟨rfl, HB⟩
  · by_cases h1 : 60 < i
    · go_enter Try.func9, Try.ntmps9
      go_wp2_with fail
      refine (known4_any _).mono ?_
      rintro r w5 ⟨rfl, HB⟩
      go_wp2
      go_ret
      exact ⟨rfl, HB⟩
    · obtain ⟨n, rfl⟩ := Int.eq_ofNat_of_zero_le (show 0 ≤ i by omega)
      exact FltEdges_in n (by omega) s w
end Go.Proofs.Ytmehlbdlllkcgaa
