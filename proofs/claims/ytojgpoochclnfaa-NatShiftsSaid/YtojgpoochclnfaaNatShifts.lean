/-
  NatShifts: a shift to the left, and back, is the number; it is so often multiplied by two.
-/
import Derived.Test.YtojgpoochclnfaaNatLooks
namespace Go.Proofs.Ytojgpoochclnfaa
open Go.RowKit

theorem Shift_v (x : Nat) (i : Int) (A : Option Addr) (n c : Nat) (a : List Nat) (w : World) (hx : val a = x) (hn : n ≤ 100000) (hcn : n ≤ c) (ha : Row w 0 A n a) (hi : -9223372036854775808 ≤ i ∧ i ≤ 9223372036854775807) :
    Calls Try.prog 34 #[.slice A n c, .int .i64 i] w fun e w' => ∃ A2 c2, e = .returned (.slice A2 (lim (sh x i)).length c2) ∧ Own w' w.heap.size A2 c2 (lim (sh x i)).length (lim (sh x i)) ∧ Below w.heap.size w w' := by
  subst hx; exact Shift_any A n c a i w hn hcn ha hi
theorem lim_one : lim 1 = [1] := by rw [lim_pos (by omega), lim_zero_of (by omega)]
theorem sh_up (x : Nat) {k : Nat} (hk : k ≤ 200) : sh x (k : Int) = x * 2 ^ k := by
  have e : held (k : Int) = (k : Int) := by unfold held; omega
  unfold sh
  rw [e, if_neg (by omega)]
  rfl
theorem sh_dn (x : Nat) {k : Nat} (hk : k ≤ 200) : sh (x * 2 ^ k) (-(k : Int)) = x := by
  rcases Nat.eq_zero_or_pos k with h0 | h0
  · subst h0
    have := sh_up (x * 2 ^ 0) (k := 0) (by omega)
    simp at this ⊢
    exact this
  · have e : held (-(k : Int)) = -(k : Int) := by unfold held; omega
    unfold sh
    rw [e, if_pos (by omega)]
    have e2 : (- -(k : Int)).toNat = k := by omega
    rw [e2]
    exact Nat.mul_div_cancel x (pow_pos2 k)
theorem Bd_two {k : Nat} (hk : k ≤ 200) : Bd (2 ^ k) 8 := by
  unfold Bd
  have h1 : 2 ^ (k + 1) ≤ 4294967296 ^ 8 := two_le (by omega)
  have h2 : 2 ^ k < 2 ^ (k + 1) := Nat.pow_lt_pow_right (by omega) (by omega)
  omega

set_option maxHeartbeats 1000000 in
theorem NatShifts_small (A : Option Addr) (n ka : Nat) (a : List Nat) (k : Nat) (w : World) (hk : k ≤ 200) (h_a_n : n ≤ 20) (h_a_c : n ≤ ka) (ha : Row w 0 A n a) :
    Calls Try.prog 9 #[.slice A n ka, .int .i64 (k : Int)] w fun e w' => e = .returned (.bool true) ∧ Below w.heap.size w w' := by
  have h_a_b := ha.bd h_a_n
  have E1 : Hid (sh (val a) (k : Int) = val a * 2 ^ k) := sh_up _ hk
  have E2 : Hid (sh (sh (val a) (k : Int)) (-(k : Int)) = val a) := by show _ = _; rw [sh_up _ hk, sh_dn _ hk]
  have h1 : Row (w.alloc (.cells #[.int .u32 1] 41)) 0 (some ⟨w.heap.size, 0, none⟩) (lim (2 ^ 0)).length (lim (2 ^ 0)) := by
    rw [Nat.pow_zero, lim_one]
    exact Row.one (by rfl) (by omega) (Nat.zero_le _)
  have hc1 : (lim (2 ^ 0)).length = 1 := by rw [Nat.pow_zero, lim_one]; rfl
  have H1 := Lib.hid h1
  have HC1 := Lib.hid hc1
  clear h1 hc1
  go_enter Try.func9, Try.ntmps9
  go_wp2
  go_loopw [5, 6] (fun tv iv wr => ∃ (j : Nat) (X : Option Addr) (m cx : Nat), j ≤ k ∧ iv = .int .i64 j ∧ tv = .slice X m cx ∧ m ≤ cx ∧ Hid (m = (lim (2 ^ j)).length) ∧ Hid (Row wr 0 X (lim (2 ^ j)).length (lim (2 ^ j))) ∧ Hid (Below w.heap.size w wr)) (fun _ iv _ => k - (intOf iv).toNat)
  case atStart => exact ⟨0, _, 1, 1, by omega, rfl, rfl, by omega, HC1.out.symm, H1.out, below_alloc _ _⟩
  case round =>
    obtain ⟨j, X, m, cx, hj, rfl, rfl, hmc, HM, HX, HB0⟩ := hrel
    have hm : m = (lim (2 ^ j)).length := HM.out
    subst hm
    by_cases h0 : j < k
    · have hx2 := HX.out.alloc (.cells #[.int .u32 2] 41)
      have h2 : Row (wr.alloc (.cells #[.int .u32 2] 41)) 0 (some ⟨wr.heap.size, 0, none⟩) 1 [2] := Row.one (by rfl) (by omega) (Nat.zero_le _)
      have hl := (Bd_two (k := j) (by omega)).len
      have HR := Lib.hid (rMul_any X _ (lim (2 ^ j)).length 1 cx 1 (lim (2 ^ j)) [2] _ (by omega) (by omega) hx2 h2)
      have HB1 := Lib.hid (HB0.out.trans ((below_alloc wr (.cells #[.int .u32 2] 41)).mono HB0.out.size))
      have e : Hid (val (lim (2 ^ j)) * val [2] = 2 ^ (j + 1)) := by show _ = _; rw [val_lim, Nat.pow_succ]; simp [val]
      clear hx2 h2
      go_wp2_with fail
      refine HR.out.mono ?_
      rintro e' w3 ⟨A3, c3, rfl, ho3, hb3⟩
      have hcap := ho3.capLe
      rw [e.out] at ho3 hcap ⊢
      have HX2 := Lib.hid (ho3.row.lower (Nat.zero_le _))
      have HB2 := Lib.hid (HB1.out.trans (hb3.mono HB1.out.size))
      clear ho3 hb3 HR
      go_wp2
      go_roundw
      case rel => exact ⟨j + 1, A3, _, c3, by omega, by go_num, rfl, hcap, rfl, HX2, HB2⟩
      case measure => simp [intOf]; omega
    · have hjk : j = k := by omega
      subst hjk
      have HB := HB0.out
      have h_a := ha.below HB
      have h_two := HX.out
      have h_two_c := hmc
      have h_two_b := Bd_two hk
      have h_two_n := h_two_b.len
      clear HX HB0 H1 HC1 ha
      go_wp2_with fail
      revert HB h_a h_two
      generalize wr = w0
      intro HB h_a h_two
      refine (Shift_v (val a) (j : Int) A n ka a _ rfl (by omega) h_a_c h_a (by omega)).mono ?_
      rintro e w1 ⟨X1, c1, rfl, ho, hb⟩
      replace h_a := h_a.below hb
      replace h_two := h_two.below hb
      have h_t1 := ho.row.lower (Nat.zero_le _)
      have h_t1_c := ho.capLe
      have h_t1_b : Bd (sh (val a) (j : Int)) (20 + 128) := Bd_sh h_a_b _
      have h_t1_n := h_t1_b.len
      replace HB := HB.trans (hb.mono HB.size)
      clear ho hb
      go_wp2_with fail
      refine (Mul_v (val a) (2 ^ j) A X n (lim (2 ^ j)).length ka cx a (lim (2 ^ j)) _ (rfl) (val_lim _) (by omega) (by omega) h_a_c h_two_c h_a h_two).mono ?_
      rintro e w2 ⟨X2, c2, rfl, ho, hb⟩
      replace h_a := h_a.below hb
      replace h_two := h_two.below hb
      replace h_t1 := h_t1.below hb
      have h_t2 := ho.row.lower (Nat.zero_le _)
      have h_t2_c := ho.capLe
      have h_t2_b : Bd (val a * 2 ^ j) (20 + 8) := h_a_b.mul h_two_b
      have h_t2_n := h_t2_b.len
      replace HB := HB.trans (hb.mono HB.size)
      clear ho hb
      go_wp2_with fail
      refine (limbs_v (sh (val a) (j : Int)) (val a * 2 ^ j) X1 X2 c1 c2 _ (E1.out) (by omega) h_t1 h_t2).mono ?_
      rintro e w3 ⟨rfl, hb⟩
      replace h_a := h_a.below hb
      replace h_two := h_two.below hb
      replace h_t1 := h_t1.below hb
      replace h_t2 := h_t2.below hb
      replace HB := HB.trans (hb.mono HB.size)
      clear hb
      clear h_t2
      go_wp2_with fail
      refine (Shift_v (sh (val a) (j : Int)) (-(j : Int)) X1 (lim (sh (val a) (j : Int))).length c1 (lim (sh (val a) (j : Int))) _ (val_lim _) (by omega) h_t1_c h_t1 (by omega)).mono ?_
      rintro e w4 ⟨X4, c4, rfl, ho, hb⟩
      replace h_a := h_a.below hb
      replace h_two := h_two.below hb
      replace h_t1 := h_t1.below hb
      have h_t4 := ho.row.lower (Nat.zero_le _)
      have h_t4_c := ho.capLe
      have h_t4_b : Bd (sh (sh (val a) (j : Int)) (-(j : Int))) (20 + 128 + 128) := Bd_sh h_t1_b _
      have h_t4_n := h_t4_b.len
      replace HB := HB.trans (hb.mono HB.size)
      clear ho hb
      go_wp2_with fail
      refine (rTrim_any A n ka a _ (by omega) h_a_c h_a).mono ?_
      rintro e w5 ⟨X5, c5, rfl, ho, hb⟩
      replace h_a := h_a.below hb
      replace h_two := h_two.below hb
      replace h_t1 := h_t1.below hb
      replace h_t4 := h_t4.below hb
      have h_t5 := ho.row.lower (Nat.zero_le _)
      have h_t5_c := ho.capLe
      have h_t5_b : Bd (val a) 20 := h_a_b
      have h_t5_n := h_t5_b.len
      replace HB := HB.trans (hb.mono HB.size)
      clear ho hb
      go_wp2_with fail
      refine (limbs_v (sh (sh (val a) (j : Int)) (-(j : Int))) (val a) X4 X5 c4 c5 _ (E2.out) (by omega) h_t4 h_t5).mono ?_
      rintro e w6 ⟨rfl, hb⟩
      replace h_a := h_a.below hb
      replace h_two := h_two.below hb
      replace h_t1 := h_t1.below hb
      replace h_t4 := h_t4.below hb
      replace h_t5 := h_t5.below hb
      replace HB := HB.trans (hb.mono HB.size)
      clear hb
      go_wp2_with fail
      refine (known_any _).mono ?_
      rintro e w7 ⟨rfl, hb⟩
      replace HB := HB.trans (hb.mono HB.size)
      clear hb
      go_wp2
      go_ret
      exact ⟨rfl, HB⟩

set_option maxHeartbeats 400000 in
theorem NatShifts_out (A : Option Addr) (n ka : Nat) (i : Int) (w : World) (h : i < 0 ∨ 200 < i) (h_a_n : n ≤ 20) :
    Calls Try.prog 9 #[.slice A n ka, .int .i64 i] w fun e w' => e = .returned (.bool true) ∧ Below w.heap.size w w' := by
  by_cases h1 : i < 0
  · clear h
    go_enter Try.func9, Try.ntmps9
    go_wp2
    go_ret
    exact ⟨rfl, Below.refl _ _⟩
  · have h2 : 200 < i := by omega
    clear h
    go_enter Try.func9, Try.ntmps9
    go_wp2
    go_ret
    exact ⟨rfl, Below.refl _ _⟩
end Go.Proofs.Ytojgpoochclnfaa
