/-
  NatBack: what is divided comes back: so often the divisor, and what is left, which is less.
-/
import Derived.Test.YtojgpoochclnfaaLawKit
import Derived.Test.YtojgpoochclnfaaDivMod
import Derived.Test.YtojgpoochclnfaaRMul
namespace Go.Proofs.Ytojgpoochclnfaa
open Go.RowKit

theorem rCmp_v (x y : Nat) (s : Int) (A B : Option Addr) (n m c d : Nat) (a b : List Nat) (w : World) (hx : val a = x) (hy : val b = y) (hs : cmpI x y = s) (hn : n ≤ 1000000) (hm : m ≤ 1000000) (hcn : n ≤ c) (hdm : m ≤ d) (ha : Row w 0 A n a) (hb : Row w 0 B m b) :
    Calls Try.prog 19 #[.slice A n c, .slice B m d] w fun e w' => e = .returned (.int .i64 s) ∧ Below w.heap.size w w' := by
  subst hx hy hs; exact rCmp_any A B n m c d a b w hn hm hcn hdm ha hb
theorem rMul_v (x y : Nat) (A B : Option Addr) (n m c d : Nat) (a b : List Nat) (w : World) (hx : val a = x) (hy : val b = y) (hn : n ≤ 100000) (hm : m ≤ 100000) (ha : Row w 0 A n a) (hb : Row w 0 B m b) :
    Calls Try.prog 17 #[.slice A n c, .slice B m d] w fun e w' => ∃ A2 c2, e = .returned (.slice A2 (lim (x * y)).length c2) ∧ Own w' w.heap.size A2 c2 (lim (x * y)).length (lim (x * y)) ∧ Below w.heap.size w w' := by
  subst hx hy; exact rMul_any A B n m c d a b w hn hm ha hb
theorem rAdd_v (x y : Nat) (A B : Option Addr) (n m c d : Nat) (a b : List Nat) (w : World) (hx : val a = x) (hy : val b = y) (hn : n ≤ 100000) (hm : m ≤ 100000) (ha : Row w 0 A n a) (hb : Row w 0 B m b) :
    Calls Try.prog 15 #[.slice A n c, .slice B m d] w fun e w' => ∃ A2 c2, e = .returned (.slice A2 (lim (x + y)).length c2) ∧ Own w' w.heap.size A2 c2 (lim (x + y)).length (lim (x + y)) ∧ Below w.heap.size w w' := by
  subst hx hy; exact rAdd_any A B n m c d a b w hn hm ha hb

set_option maxHeartbeats 1000000 in
theorem NatBack_zero (A B : Option Addr) (n m ka kb : Nat) (a b : List Nat) (w : World) (h_a_n : n ≤ 40) (h_b_n : m ≤ 40) (h_a_c : n ≤ ka) (h_b_c : m ≤ kb) (h_a : Row w 0 A n a) (h_b : Row w 0 B m b) (h0 : val b = 0) :
    Calls Try.prog 6 #[.slice A n ka, .slice B m kb] w fun e w' => e = .returned (.bool true) ∧ Below w.heap.size w w' := by
  have hz : Hid ((lim (val b)).length = 0) := by show _ = _; rw [h0, lim_zero]; rfl
  have hbl : (((lim (val b)).length : Int) == 0) = true := by rw [beq_iff_eq]; have := hz.out; omega
  have hd := Lib.hid (DivMod_zero A B n m ka kb a b w (by omega) (by omega) h_a_c h_b_c h_a h_b h0)
  clear h0
  go_enter Try.func6, Try.ntmps6
  go_wp2_with fail
  refine hd.out.mono ?_
  rintro e w' ⟨rfl, rfl⟩
  clear hd
  go_wp2_with fail
  refine (rTrim_any B m kb b _ (by omega) h_b_c h_b).mono ?_
  rintro e w1 ⟨X, cx, rfl, ho, hb1⟩
  clear ho
  go_wp2_with fail
  refine (known_any _).mono ?_
  rintro e w2 ⟨rfl, hb2⟩
  have HB := hb1.trans (hb2.mono hb1.size)
  go_wp2
  go_ret
  exact ⟨rfl, HB⟩

set_option maxHeartbeats 1000000 in
theorem NatBack_pos (A B : Option Addr) (n m ka kb : Nat) (a b : List Nat) (w : World) (h_a_n : n ≤ 40) (h_b_n : m ≤ 40) (h_a_c : n ≤ ka) (h_b_c : m ≤ kb) (h_a : Row w 0 A n a) (h_b : Row w 0 B m b) (h0 : Hid (0 < val b)) :
    Calls Try.prog 6 #[.slice A n ka, .slice B m kb] w fun e w' => e = .returned (.bool true) ∧ Below w.heap.size w w' := by
  have h_a_b := h_a.bd h_a_n
  have h_b_b := h_b.bd h_b_n
  have E : Hid (val a / val b * val b + val a % val b = val a) := by show _ = _; rw [Nat.mul_comm]; exact Nat.div_add_mod _ _
  have HB := Below.refl w.heap.size w
  go_enter Try.func6, Try.ntmps6
  go_wp2_with fail
  refine (DivMod_pos A B n m ka kb (val a) (val b) a b _ (by omega) (by omega) h_a_c h_b_c h_a h_b (rfl) (rfl) h0.out).mono ?_
  rintro e w1 ⟨X1, c1, Y1, d1, rfl, ho, ho', hb⟩
  replace h_a := h_a.below hb
  replace h_b := h_b.below hb
  have h_q1 := ho.row.lower (Nat.zero_le _)
  have h_q1_c := ho.capLe
  have h_q1_b : Bd (val a / val b) 40 := h_a_b.le (Nat.div_le_self _ _)
  have h_q1_n := h_q1_b.len
  have h_r1 := ho'.row.lower (Nat.zero_le _)
  have h_r1_c := ho'.capLe
  have h_r1_b : Bd (val a % val b) 40 := h_a_b.le (Nat.mod_le _ _)
  have h_r1_n := h_r1_b.len
  replace HB := HB.trans (hb.mono HB.size)
  clear ho ho' hb
  go_wp2_with fail
  refine (rCmp_v (val a % val b) (val b) (-1) Y1 B (lim (val a % val b)).length m d1 kb (lim (val a % val b)) b _ (val_lim _) (rfl) (cmpI_lt (Nat.mod_lt _ h0.out)) (by omega) (by omega) h_r1_c h_b_c h_r1 h_b).mono ?_
  rintro e w2 ⟨rfl, hb⟩
  replace h_a := h_a.below hb
  replace h_b := h_b.below hb
  replace h_q1 := h_q1.below hb
  replace h_r1 := h_r1.below hb
  replace HB := HB.trans (hb.mono HB.size)
  clear hb
  go_wp2_with fail
  refine (rMul_v (val a / val b) (val b) X1 B (lim (val a / val b)).length m c1 kb (lim (val a / val b)) b _ (val_lim _) (rfl) (by omega) (by omega) h_q1 h_b).mono ?_
  rintro e w3 ⟨X3, c3, rfl, ho, hb⟩
  replace h_a := h_a.below hb
  replace h_b := h_b.below hb
  replace h_q1 := h_q1.below hb
  replace h_r1 := h_r1.below hb
  have h_t3 := ho.row.lower (Nat.zero_le _)
  have h_t3_c := ho.capLe
  have h_t3_b : Bd (val a / val b * val b) (40 + 40) := h_q1_b.mul h_b_b
  have h_t3_n := h_t3_b.len
  replace HB := HB.trans (hb.mono HB.size)
  clear ho hb
  go_wp2_with fail
  refine (rAdd_v (val a / val b * val b) (val a % val b) X3 Y1 (lim (val a / val b * val b)).length (lim (val a % val b)).length c3 d1 (lim (val a / val b * val b)) (lim (val a % val b)) _ (val_lim _) (val_lim _) (by omega) (by omega) h_t3 h_r1).mono ?_
  rintro e w4 ⟨X4, c4, rfl, ho, hb⟩
  replace h_a := h_a.below hb
  replace h_b := h_b.below hb
  replace h_q1 := h_q1.below hb
  replace h_r1 := h_r1.below hb
  replace h_t3 := h_t3.below hb
  have h_t4 := ho.row.lower (Nat.zero_le _)
  have h_t4_c := ho.capLe
  have h_t4_b : Bd (val a / val b * val b + val a % val b) (max (40 + 40) 40 + 1) := h_t3_b.add h_r1_b
  have h_t4_n := h_t4_b.len
  replace HB := HB.trans (hb.mono HB.size)
  clear ho hb
  go_wp2_with fail
  refine (rCmp_v (val a / val b * val b + val a % val b) (val a) (0) X4 A (lim (val a / val b * val b + val a % val b)).length n c4 ka (lim (val a / val b * val b + val a % val b)) a _ (val_lim _) (rfl) (cmpI_eq E.out) (by omega) (by omega) h_t4_c h_a_c h_t4 h_a).mono ?_
  rintro e w5 ⟨rfl, hb⟩
  replace h_a := h_a.below hb
  replace h_b := h_b.below hb
  replace h_q1 := h_q1.below hb
  replace h_r1 := h_r1.below hb
  replace h_t3 := h_t3.below hb
  replace h_t4 := h_t4.below hb
  replace HB := HB.trans (hb.mono HB.size)
  clear hb
  go_wp2_with fail
  refine (Is_yes X1 (lim (val a / val b)).length c1 (lim (val a / val b)) _ (by omega) h_q1 (lim_tr _)).mono ?_
  rintro e w' ⟨rfl, rfl⟩
  go_wp2_with fail
  refine (Is_yes Y1 (lim (val a % val b)).length d1 (lim (val a % val b)) _ (by omega) h_r1 (lim_tr _)).mono ?_
  rintro e w' ⟨rfl, rfl⟩
  go_wp2_with fail
  refine (known_any _).mono ?_
  rintro e w6 ⟨rfl, hb⟩
  replace HB := HB.trans (hb.mono HB.size)
  clear hb
  go_wp2
  go_ret
  exact ⟨rfl, HB⟩
end Go.Proofs.Ytojgpoochclnfaa
