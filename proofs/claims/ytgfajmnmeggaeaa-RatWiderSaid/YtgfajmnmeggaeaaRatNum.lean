/-
  Rationals, no program: what a sign and two naturals are worth; sums, products, quotients, floors of these.
-/
import Derived.Test.YtgfajmnmeggaeaaLawKit
namespace Go.Proofs.Ytgfajmnmeggaeaa
set_option maxRecDepth 20000

def rn (s : Bool) (x y : Nat) : Rat := mkRat (if s then -(x : Int) else (x : Int)) y
theorem rn_zero {s : Bool} {x y : Nat} (h : x = 0 ∨ y = 0) : rn s x y = 0 := by
  unfold rn
  rcases h with rfl | rfl
  · cases s <;> simp
  · simp
theorem rn_absI (s : Bool) (x : Nat) : (if s then -(x : Int) else (x : Int)).natAbs = x := by cases s <;> simp
theorem rn_abs {s : Bool} {x y : Nat} (hy : y ≠ 0) : (rn s x y).num.natAbs = x / Nat.gcd x y := by
  unfold rn
  rw [Rat.num_mkRat, if_neg hy, rn_absI, Int.natAbs_ediv_of_dvd, rn_absI, Nat.gcd_comm]
  · rfl
  · rw [Int.ofNat_dvd_left, rn_absI]; exact Nat.gcd_dvd_right _ _
theorem rn_den {s : Bool} {x y : Nat} (hy : y ≠ 0) : (rn s x y).den = y / Nat.gcd x y := by
  unfold rn
  rw [Rat.den_mkRat, if_neg hy, rn_absI, Nat.gcd_comm]
theorem rn_neg (s : Bool) (x y : Nat) : -rn s x y = rn (!s) x y := by
  unfold rn; rw [Rat.neg_mkRat]; cases s <;> simp
theorem mkRat_nonneg {x y : Nat} : 0 ≤ (mkRat (x : Int) y).num := by
  rw [Rat.num_mkRat]
  split
  · exact Int.le_refl _
  · exact Int.ediv_nonneg (by omega) (by omega)
theorem rn_pos (x y : Nat) : 0 ≤ (rn false x y).num := mkRat_nonneg
theorem rn_ne {s : Bool} {x y : Nat} (hx : x ≠ 0) (hy : y ≠ 0) : rn s x y ≠ 0 := by
  unfold rn
  rw [Rat.mkRat_ne_zero hy]; cases s <;> simp <;> omega
theorem rn_eq_zero {s : Bool} {x y : Nat} : rn s x y = 0 ↔ (x = 0 ∨ y = 0) := by
  constructor
  · intro h
    by_cases hx : x = 0
    · exact .inl hx
    · by_cases hy : y = 0
      · exact .inr hy
      · exact absurd h (rn_ne hx hy)
  · exact rn_zero
theorem num_ne {r : Rat} (h : r ≠ 0) : r.num ≠ 0 := fun e => h (Rat.num_eq_zero.1 e)
theorem rn_sign {s : Bool} {x y : Nat} (hx : x ≠ 0) (hy : y ≠ 0) : decide ((rn s x y).num < 0) = s := by
  cases s
  · have := rn_pos x y
    rw [decide_eq_false_iff_not]; omega
  · have e : rn true x y = -rn false x y := by rw [rn_neg]; rfl
    have h1 := rn_pos x y
    have h2 := num_ne (rn_ne (s := false) hx hy)
    rw [e, decide_eq_true_iff, Rat.neg_num]; omega
theorem rn_self (r : Rat) : rn (decide (r.num < 0)) r.num.natAbs r.den = r := by
  unfold rn
  have : (if decide (r.num < 0) = true then -((r.num.natAbs : Nat) : Int) else (r.num.natAbs : Int)) = r.num := by
    split
    · rename_i h; rw [decide_eq_true_iff] at h; omega
    · rename_i h; rw [decide_eq_true_iff] at h; omega
  rw [this, Rat.mkRat_self]
theorem rn_mul (s t : Bool) (x y u v : Nat) : rn s x y * rn t u v = rn (s != t) (x * u) (y * v) := by
  unfold rn
  rw [Rat.mkRat_mul_mkRat]
  cases s <;> cases t <;> simp [Int.neg_mul, Int.mul_neg]
theorem rn_add (s : Bool) {x y u v : Nat} (hy : y ≠ 0) (hv : v ≠ 0) : rn s x y + rn s u v = rn s (x * v + u * y) (y * v) := by
  unfold rn
  rw [Rat.mkRat_add_mkRat _ _ hy hv]
  cases s <;> simp [Int.neg_mul, Int.neg_add]
theorem rn_sub {s t : Bool} {x y u v : Nat} (hst : t = !s) (hy : y ≠ 0) (hv : v ≠ 0) (h : u * y ≤ x * v) : rn s x y + rn t u v = rn s (x * v - u * y) (y * v) := by
  subst hst
  unfold rn
  rw [Rat.mkRat_add_mkRat _ _ hy hv]
  have e : ((x * v - u * y : Nat) : Int) = (x : Int) * v - (u : Int) * y := by rw [Int.ofNat_sub h]; simp
  rw [e]
  cases s <;> simp [Int.neg_mul] <;> congr 1 <;> omega
theorem rn_sub' {s t : Bool} {x y u v : Nat} (hst : t = !s) (hy : y ≠ 0) (hv : v ≠ 0) (h : x * v ≤ u * y) : rn s x y + rn t u v = rn t (u * y - x * v) (y * v) := by
  rw [Rat.add_comm, rn_sub (by subst hst; simp) hv hy h, Nat.mul_comm v y]
theorem rn_inv (t : Bool) {u v : Nat} (hu : u ≠ 0) (hv : v ≠ 0) : (rn t u v)⁻¹ = rn t v u := by
  apply Rat.inv_eq_of_mul_eq_one
  rw [rn_mul]
  have : (t != t) = false := by cases t <;> rfl
  rw [this]
  unfold rn
  have e : (v * u) = u * v := Nat.mul_comm _ _
  have h1 : (u * v : Nat) ≠ 0 := Nat.mul_ne_zero hu hv
  have : (1 : Rat) = mkRat 1 1 := rfl
  rw [this, Rat.mkRat_eq_iff (by rw [e]; exact h1) (by omega)]
  simp [Int.mul_comm]
theorem rn_div (s t : Bool) {x y u v : Nat} (hu : u ≠ 0) (hv : v ≠ 0) : rn s x y / rn t u v = rn (s != t) (x * v) (y * u) := by
  rw [Rat.div_def, rn_inv t hu hv, rn_mul]
theorem rn_int (s : Bool) (x : Nat) : rn s x 1 = (((if s then -(x : Int) else (x : Int)) : Int) : Rat) := by
  unfold rn
  exact Rat.mkRat_self (((if s then -(x : Int) else (x : Int)) : Int) : Rat)

theorem rn_floor (s : Bool) {x y : Nat} (hy : y ≠ 0) : (((rn s x y).floor : Int) : Rat) = rn s (x / y + (if s = true ∧ x % y ≠ 0 then 1 else 0)) 1 := by
  rw [rn_int]
  congr 1
  have hr : rn s x y = mkRat (if s then -(x : Int) else (x : Int)) y := rfl
  have hyp : (0 : Int) < (y : Int) := by omega
  have key : ∀ z : Int, (mkRat z y).floor = z / y := by
    intro z
    obtain ⟨d, hd, h1, h2⟩ := Rat.normalize_num_den' z y hy
    rw [Rat.normalize_eq_mkRat] at h1 h2
    generalize mkRat z y = r at *
    rw [Rat.floor_def, h1, h2]
    rw [Int.natCast_mul, Int.mul_ediv_mul_of_pos_left _ _ (by omega)]
  rw [hr, key]
  cases s
  · simp
  · simp only [if_true, true_and]
    by_cases h : x % y = 0
    · have hd : (y : Int) ∣ (x : Int) := Int.ofNat_dvd.2 (Nat.dvd_of_mod_eq_zero h)
      rw [if_neg (by simp [h]), Int.neg_ediv_of_dvd hd]; simp
    · rw [if_pos h]
      have h1 := Nat.div_add_mod x y
      have h2 := Nat.mod_lt x (Nat.pos_of_ne_zero hy)
      have e : -(x : Int) = -((x / y + 1 : Nat) : Int) * y + ((y : Int) - ((x % y : Nat) : Int)) := by
        have : (x : Int) = (y : Int) * ((x / y : Nat) : Int) + ((x % y : Nat) : Int) := by
          rw [← Int.natCast_mul, ← Int.natCast_add, h1]
        rw [Int.natCast_add, Int.neg_mul, Int.add_mul, Int.mul_comm ((x / y : Nat) : Int)]
        simp
        simp at this
        omega
      rw [e, Int.add_comm, Int.add_mul_ediv_right _ _ (by omega), Int.ediv_eq_zero_of_lt (by omega) (by omega)]
      simp
def sgn (r : Rat) : Int := if r = 0 then 0 else if r.num < 0 then -1 else 1
theorem sgn_rn {s : Bool} {x y : Nat} (hy : y ≠ 0) : sgn (rn s x y) = if x = 0 then 0 else if s then -1 else 1 := by
  unfold sgn
  by_cases hx : x = 0
  · rw [if_pos (rn_zero (.inl hx)), if_pos hx]
  · rw [if_neg (rn_ne hx hy), if_neg hx]
    have := rn_sign (s := s) hx hy
    cases s
    · rw [decide_eq_false_iff_not] at this; rw [if_neg this]; rfl
    · rw [decide_eq_true_iff] at this; rw [if_pos this]; rfl
theorem rn_abs_le {s : Bool} {x y : Nat} : (rn s x y).num.natAbs ≤ x := by
  by_cases hy : y = 0
  · rw [rn_zero (.inr hy)]; simp
  · rw [rn_abs hy]; exact Nat.div_le_self _ _
theorem rn_den_le {s : Bool} {x y : Nat} : (rn s x y).den ≤ max y 1 := by
  by_cases hy : y = 0
  · rw [rn_zero (.inr hy)]; simp; omega
  · rw [rn_den hy]; have := Nat.div_le_self y (Nat.gcd x y); omega
theorem Bd.ofLen {x p : Nat} (h : (lim x).length ≤ p) : Bd x p := by
  have h6 := val_lt (L32_lim x)
  rw [val_lim] at h6
  exact Nat.lt_of_lt_of_le h6 (Nat.pow_le_pow_right (by omega) h)
theorem Bd.num {r : Rat} {s : Bool} {x y p : Nat} (h : rn s x y = r) (hx : Bd x p) : Bd r.num.natAbs p := by
  subst h; exact hx.le rn_abs_le
theorem Bd.den {r : Rat} {s : Bool} {x y p : Nat} (h : rn s x y = r) (hy : Bd y p) (hp : 0 < p) : Bd r.den p := by
  subst h
  have h1 : Bd 1 p := Nat.lt_of_lt_of_le (by omega) (Nat.pow_le_pow_right (show 0 < 4294967296 by omega) hp)
  unfold Bd at *
  have := rn_den_le (s := s) (x := x) (y := y)
  omega
end Go.Proofs.Ytgfajmnmeggaeaa
