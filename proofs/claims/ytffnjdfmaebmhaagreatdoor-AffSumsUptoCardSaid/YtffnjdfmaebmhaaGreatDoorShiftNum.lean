/-
  Plain numbers: what a shift does to the limbs.
-/
import Derived.Test.YtffnjdfmaebmhaaGreatDoorMul
namespace Go.Proofs.YtffnjdfmaebmhaaGreatDoor
set_option maxRecDepth 20000

theorem two_split {t : Nat} (ht : t < 32) : 2 ^ t * 2 ^ (32 - t) = 4294967296 := by
  rw [← Nat.pow_add, show t + (32 - t) = 32 by omega]
theorem pow_32 (s t : Nat) : 4294967296 ^ s * 2 ^ t = 2 ^ (32 * s + t) := by
  rw [Nat.pow_add, Nat.pow_mul]
theorem pow_lt_32 {t : Nat} (ht : t < 32) : 2 ^ t < 4294967296 := by
  have := Nat.pow_lt_pow_right (show 1 < 2 by omega) ht
  omega
theorem pow_pos2 (t : Nat) : 0 < 2 ^ t := Nat.pow_pos (by omega)

/-- A limb to the left: what stays, what goes up. -/
theorem up_low {x t : Nat} (hx : x < 4294967296) (ht : t < 32) : x * 2 ^ t < 18446744073709551616 ∧ x * 2 ^ t / 4294967296 < 2 ^ t ∧ (x * 2 ^ t % 4294967296) % 2 ^ t = 0 := by
  have h1 := two_split ht
  have h2 := pow_lt_32 ht
  have h3 := pow_pos2 t
  refine ⟨?_, ?_, ?_⟩
  · calc x * 2 ^ t ≤ 4294967295 * 4294967295 := Nat.mul_le_mul (by omega) (by omega)
      _ < 18446744073709551616 := by decide
  · rw [Nat.div_lt_iff_lt_mul (by omega), Nat.mul_comm]
    exact Nat.mul_lt_mul_of_pos_left hx h3
  · rw [← h1, Nat.mul_comm x, Nat.mul_mod_mul_left, Nat.mul_mod_right]
theorem or_low {d m t : Nat} (hd : d < 2 ^ t) (hm : m % 2 ^ t = 0) : d ||| m = d + m := by
  rw [Nat.or_comm, nat_join t m d hm hd, Nat.add_comm]
theorem mod_low {x d t : Nat} (hx : x % 2 ^ t = 0) (ht : t < 32) (hd : d < 2 ^ t) (hlt : x < 4294967296) : x + d < 4294967296 := by
  have h1 := two_split ht
  obtain ⟨q, rfl⟩ : ∃ q, x = 2 ^ t * q := ⟨x / 2 ^ t, by have := Nat.div_add_mod x (2 ^ t); omega⟩
  have h3 := pow_pos2 t
  have hq : q < 2 ^ (32 - t) := by
    rw [← h1] at hlt
    exact Nat.lt_of_mul_lt_mul_left hlt
  have h4 : 2 ^ t * (q + 1) ≤ 2 ^ t * 2 ^ (32 - t) := Nat.mul_le_mul_left _ hq
  rw [Nat.mul_add] at h4
  omega

/-- What the loop of a shift to the left keeps: s noughts, the first k limbs moved; what is above is 0. -/
structure UpAt (a : List Nat) (s t k : Nat) (L : List Nat) : Prop where
  sum : val L = 4294967296 ^ s * (S (fun j => dg a j) k * 2 ^ t)
  low : dg L (s + k) < 2 ^ t
  rest : ∀ j, s + k < j → dg L j = 0

theorem dg_set_eq (L : List Nat) (k x : Nat) (hk : k < L.length) : dg (L.set k x) k = x := by
  rw [dg_eq, List.getElem?_set_self hk]; rfl

theorem UpAt.step {a L : List Nat} {s t k : Nat} (h : UpAt a s t k L) (hlen : s + k + 1 < L.length) (hx : dg a k < 4294967296) (ht : t < 32) :
    UpAt a s t (k + 1) ((L.set (s + k) (dg L (s + k) ||| (dg a k * 2 ^ t % 4294967296))).set (s + k + 1) (dg a k * 2 ^ t / 4294967296)) ∧ dg L (s + k) ||| (dg a k * 2 ^ t % 4294967296) < 4294967296 ∧ dg a k * 2 ^ t / 4294967296 < 4294967296 := by
  obtain ⟨h1, h2, h3⟩ := up_low hx ht
  have h4 := pow_lt_32 ht
  have h5 := or_low h.low h3
  rw [h5]
  refine ⟨⟨?_, ?_, ?_⟩, ?_, by omega⟩
  · have e1 := val_set L (s + k) (dg L (s + k) + dg a k * 2 ^ t % 4294967296) (by omega)
    have e2 := val_set (L.set (s + k) (dg L (s + k) + dg a k * 2 ^ t % 4294967296)) (s + k + 1) (dg a k * 2 ^ t / 4294967296) (by simp; omega)
    have hz : dg L (s + k + 1) = 0 := h.rest _ (by omega)
    rw [dg_set_ne _ _ _ _ (show s + k ≠ s + k + 1 by omega), hz, Nat.mul_zero, Nat.add_zero] at e2
    rw [e2]
    rw [Nat.mul_add] at e1
    rw [S, Nat.add_mul, Nat.mul_add, ← h.sum, Nat.pow_succ]
    have e3 : 4294967296 ^ s * (4294967296 ^ k * dg a k * 2 ^ t) = 4294967296 ^ (s + k) * (dg a k * 2 ^ t) := by
      rw [Nat.pow_add, Nat.mul_assoc, Nat.mul_assoc]
    rw [e3]
    have e4 : 4294967296 ^ (s + k) * (dg a k * 2 ^ t) = 4294967296 ^ (s + k) * (dg a k * 2 ^ t % 4294967296) + 4294967296 ^ (s + k) * 4294967296 * (dg a k * 2 ^ t / 4294967296) := by
      rw [Nat.mul_assoc, ← Nat.mul_add, Nat.mod_add_div]
    omega
  · rw [show s + (k + 1) = s + k + 1 by omega, dg_set_eq _ _ _ (by simp; omega)]; exact h2
  · intro j hj
    rw [dg_set_ne _ _ _ _ (by omega), dg_set_ne _ _ _ _ (by omega)]
    exact h.rest j (by omega)
  · have := mod_low h3 ht h.low (by omega)
    omega

theorem shl_eq {x t : Nat} (h : x * 2 ^ t < 18446744073709551616) : IntKind.u64.wrap ((x : Int) * 2 ^ t) = ((x * 2 ^ t : Nat) : Int) := by
  have e : (x : Int) * 2 ^ t = ((x * 2 ^ t : Nat) : Int) := by rw [Int.natCast_mul, Int.natCast_pow]; rfl
  rw [e]
  exact IntWalk.u64_in _ (by omega)
theorem up_or {x d t : Nat} (hd : d < 4294967296) (h : x * 2 ^ t < 18446744073709551616) : bits BinOp.or IntKind.u32 (d : Int) (IntKind.u64.wrap ((x : Int) * 2 ^ t) % 4294967296) = ((d ||| (x * 2 ^ t % 4294967296) : Nat) : Int) := by
  rw [shl_eq h]
  exact u32_or_nat d (x * 2 ^ t % 4294967296) hd (Nat.mod_lt _ (by omega))
theorem up_hi {x t : Nat} (h : x * 2 ^ t < 18446744073709551616) : IntKind.u64.wrap ((x : Int) * 2 ^ t) / 4294967296 % 4294967296 = ((x * 2 ^ t / 4294967296 : Nat) : Int) := by
  rw [shl_eq h]; omega

/-- A limb to the right: its digit. -/
def dn (t x y : Nat) : Nat := (y * 4294967296 + x) / 2 ^ t % 4294967296
theorem dn_eq {t x y : Nat} (ht : t < 32) (hx : x < 4294967296) : 2 ^ t * dn t x y + x % 2 ^ t = x + 4294967296 * (y % 2 ^ t) := by
  have h1 := two_split ht
  have h3 := pow_pos2 t
  have e1 : (y * 4294967296 + x) / 2 ^ t = y * 2 ^ (32 - t) + x / 2 ^ t := by
    rw [← h1, show y * (2 ^ t * 2 ^ (32 - t)) = 2 ^ t * (y * 2 ^ (32 - t)) by rw [Nat.mul_left_comm], Nat.mul_add_div h3]
  have e2 : x / 2 ^ t < 2 ^ (32 - t) := by
    rw [Nat.div_lt_iff_lt_mul h3, Nat.mul_comm, h1]; exact hx
  have hy := Nat.div_add_mod y (2 ^ t)
  have e3 : y * 2 ^ (32 - t) = 4294967296 * (y / 2 ^ t) + (y % 2 ^ t) * 2 ^ (32 - t) := by
    have : y * 2 ^ (32 - t) = (2 ^ t * (y / 2 ^ t) + y % 2 ^ t) * 2 ^ (32 - t) := by rw [hy]
    rw [this, Nat.add_mul, Nat.mul_right_comm, h1]
  have e4 : y % 2 ^ t < 2 ^ t := Nat.mod_lt _ h3
  have e5 : (y % 2 ^ t) * 2 ^ (32 - t) + x / 2 ^ t < 4294967296 := by
    have : (y % 2 ^ t + 1) * 2 ^ (32 - t) ≤ 2 ^ t * 2 ^ (32 - t) := Nat.mul_le_mul_right _ e4
    rw [Nat.add_mul, h1] at this
    omega
  have e6 : dn t x y = (y % 2 ^ t) * 2 ^ (32 - t) + x / 2 ^ t := by
    unfold dn
    rw [e1, e3, Nat.add_assoc, Nat.mul_add_mod, Nat.mod_eq_of_lt e5]
  rw [e6, Nat.mul_add]
  have e7 : 2 ^ t * ((y % 2 ^ t) * 2 ^ (32 - t)) = 4294967296 * (y % 2 ^ t) := by
    rw [Nat.mul_left_comm, h1, Nat.mul_comm]
  rw [e7]
  have := Nat.div_add_mod x (2 ^ t)
  omega
theorem dn_lt (t x y : Nat) : dn t x y < 4294967296 := Nat.mod_lt _ (by omega)

/-- The digits of a shift to the right: e's k limbs. -/
theorem down_sum {e : List Nat} {t : Nat} (ht : t < 32) (he : L32 e) : ∀ k, 2 ^ t * S (fun j => dn t (dg e j) (dg e (j + 1))) k + dg e 0 % 2 ^ t = S (fun j => dg e j) k + 4294967296 ^ k * (dg e k % 2 ^ t) := by
  intro k
  induction k with
  | zero => simp [S]
  | succ k ih =>
    rw [S, S, Nat.mul_add, Nat.pow_succ]
    have h := congrArg (4294967296 ^ k * ·) (dn_eq (y := dg e (k + 1)) ht (he k))
    simp only [Nat.mul_add] at h
    rw [Nat.mul_left_comm, ← Nat.mul_assoc (4294967296 ^ k) 4294967296] at h
    omega
theorem down_end {e r : List Nat} {t : Nat} (ht : t < 32) (he : L32 e) (hlen : r.length = e.length) (hr : ∀ j, j < r.length → dg r j = dn t (dg e j) (dg e (j + 1))) : val r = val e / 2 ^ t := by
  have h := down_sum ht he e.length
  rw [S_val e, dg_out (Nat.le_refl _), Nat.zero_mod, Nat.mul_zero, Nat.add_zero] at h
  have e1 : S (fun j => dn t (dg e j) (dg e (j + 1))) e.length = val r := by
    rw [← S_val r, hlen]
    exact S_congr fun i hi => (hr i (by omega)).symm
  rw [e1] at h
  have h2 : dg e 0 % 2 ^ t < 2 ^ t := Nat.mod_lt _ (pow_pos2 t)
  rw [← h, Nat.mul_add_div (pow_pos2 t), Nat.div_eq_of_lt h2]; rfl
theorem val_drop (l : List Nat) (s : Nat) (hl : L32 l) (hs : s ≤ l.length) : val (l.drop s) = val l / 4294967296 ^ s := by
  have h := val_take_drop l s hs
  have h2 := val_lt (hl.take s)
  rw [List.length_take, Nat.min_eq_left hs] at h2
  rw [h, Nat.add_comm, Nat.mul_add_div (Nat.pow_pos (by omega)), Nat.div_eq_of_lt h2]; rfl
theorem dg_drop (l : List Nat) (s j : Nat) : dg (l.drop s) j = dg l (s + j) := by
  rw [dg_eq, dg_eq, List.getElem?_drop]

/-- A number times a power of two; of n below 0 by that of -n, rounded down; n is held. -/
def held (i : Int) : Int := min (max i (-4096)) 4096
def sh (x : Nat) (i : Int) : Nat := if held i < 0 then x / 2 ^ (-held i).toNat else x * 2 ^ (held i).toNat
end Go.Proofs.YtffnjdfmaebmhaaGreatDoor
