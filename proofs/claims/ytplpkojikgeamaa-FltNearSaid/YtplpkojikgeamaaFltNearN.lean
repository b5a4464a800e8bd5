/-
  FltNear, no program: no neighbour of the bits that are told is nearer.
-/
import Derived.Test.YtplpkojikgeamaaFltQ
import Derived.Test.YtplpkojikgeamaaRefP
namespace Go.Proofs.Ytplpkojikgeamaa
set_option maxRecDepth 20000
open Go.RowKit

/-- The bits are bits. -/
theorem tof_lt {r : Rat} {p : Nat} (h : Sz r p) (hp : p ≤ 120) : tof r < 18446744073709551616 := by
  by_cases h0 : r = 0
  · subst h0; decide
  · rw [tof_ne h0]
    have hd := dbl_lt (x := r.num.natAbs) (by have := num_ne h0; omega) r.den_nz (h.den.more (by omega))
    generalize dbl r.num.natAbs r.den = D at *
    split
    · omega
    · split <;> omega
theorem near_sgn {a b : Rat} (h : b ≤ a) : sgn (a - b) ≠ -1 := by
  have h0 := (Rat.le_iff_sub_nonneg b a).1 h
  have h1 := Rat.num_nonneg.2 h0
  unfold sgn
  split
  · decide
  · rw [if_neg (by omega)]; decide
theorem rnE {s : Bool} {x y x' y' : Nat} (hy : y ≠ 0) (hy' : y' ≠ 0) (h : x * y' = x' * y) : rn s x y = rn s x' y' := by
  unfold rn
  have h2 : (x : Int) * (y' : Int) = (x' : Int) * (y : Int) := by rw [← Int.natCast_mul, ← Int.natCast_mul, h]
  rw [Rat.mkRat_eq_iff hy hy']
  cases s
  · simpa using h2
  · simp [Int.neg_mul, h2]
theorem rnLe {x x' y : Nat} (hy : 0 < y) (h : x ≤ x') : rn false x y ≤ rn false x' y := by
  obtain ⟨d, rfl⟩ : ∃ d, x' = d + x := ⟨x' - x, by omega⟩
  have e : rn false (d + x) y = rn false d y + rn false x y := by
    rw [rn_add false (by omega) (by omega)]
    exact rnE (by omega) (Nat.ne_of_gt (Nat.mul_pos hy hy)) (by rw [← Nat.add_mul, Nat.mul_assoc])
  rw [Rat.le_iff_sub_nonneg, e, Rat.add_sub_cancel]
  exact Rat.num_nonneg.1 (rn_pos d y)
/-- Without its sign. -/
def ab (x : Rat) : Rat := rn false x.num.natAbs x.den
theorem ab_rn (s : Bool) (a b : Nat) : ab (rn s a b) = rn false a b := by
  have h1 : ab (rn false a b) = rn false a b := by
    have h := rn_self (rn false a b)
    rw [decide_eq_false (by have := rn_pos a b; omega)] at h
    exact h
  cases s with
  | false => exact h1
  | true =>
    have e : rn true a b = -(rn false a b) := by rw [rn_neg]; rfl
    rw [e]
    unfold ab at h1 ⊢
    rw [Rat.neg_num, Int.natAbs_neg, Rat.neg_den]
    exact h1
theorem ab_same (s : Bool) {x y n d : Nat} (hy : y ≠ 0) (hd : d ≠ 0) : ab (rn s x y - rn s n d) = rn false (dist (x * d) (n * y)) (y * d) := by
  rw [Rat.sub_eq_add_neg, rn_neg]
  rcases Nat.le_total (n * y) (x * d) with h | h
  · rw [rn_sub rfl hy hd h, ab_rn]
    have e : dist (x * d) (n * y) = x * d - n * y := by unfold dist; omega
    rw [e]
  · rw [rn_sub' rfl hy hd h, ab_rn]
    have e : dist (x * d) (n * y) = n * y - x * d := by unfold dist; omega
    rw [e]
theorem ab_other {x y n d : Nat} (hy : y ≠ 0) (hd : d ≠ 0) : ab (rn false x y - rn true n d) = rn false (x * d + n * y) (y * d) := by
  rw [Rat.sub_eq_add_neg, rn_neg]
  show ab (rn false x y + rn false n d) = _
  rw [rn_add false hy hd, ab_rn]
theorem Parts.one {u : Nat} {s t : Bool} {e m V : Nat} (h : Parts u s e m) (hu : u = (if t then 9223372036854775808 else 0) + V) (hV : V < 9223372036854775808) : s = t ∧ 4503599627370496 * e + m = V := by
  have h1 := h.exp
  have h2 := h.frac
  have h3 := h.eq
  rw [hu] at h3
  cases s <;> cases t <;> simp only [Bool.false_eq_true, if_true, if_false] at h3
  · exact ⟨rfl, by omega⟩
  · omega
  · omega
  · exact ⟨rfl, by omega⟩
theorem near_ok {r : Rat} (hz : Sz r 16) {v : Nat} {s s' : Bool} {e m e' m' : Nat} (hu : Parts (tof r) s e m) (he : e ≠ 2047) (hv : Parts v s' e' m')
    (hn : v = tof r + 1 ∨ (v + 1 = tof r ∧ tof r ≠ 9223372036854775808)) : sgn (ab (frq s' e' m' - r) - ab (frq s e m - r)) ≠ -1 := by
  have hd := r.den_pos
  have hdz := r.den_nz
  have hrs := rn_self r
  have hexp := hu.exp
  have hfrac := hu.frac
  have hy : 0 < 2 ^ el := Nat.pow_pos (by omega)
  unfold frq
  by_cases hr0 : r = 0
  · have ht0 : tof r = 0 := by rw [hr0]; rfl
    rw [ht0] at hu hn
    obtain ⟨rfl, h1⟩ := hu.one (t := false) (V := 0) rfl (by omega)
    have hv1 : v = 1 := by omega
    obtain ⟨rfl, h2⟩ := hv.one (t := false) (V := 1) hv1 (by omega)
    have e0 : r = rn false 0 1 := by rw [hr0, rn_zero (.inl rfl)]
    rw [e0, h1, h2, ab_same false (by omega) (by omega), ab_same false (by omega) (by omega)]
    refine near_sgn (rnLe (by omega) ?_)
    have hw : worth 0 = 0 := rfl
    rw [hw]
    unfold dist; omega
  · have hn0 : r.num.natAbs ≠ 0 := by have := num_ne hr0; omega
    have hto := tof_ne hr0
    have hem : r.den ≤ r.num.natAbs * 2 ^ em := Bd.em hn0 hz.den (by omega)
    have hlt := dbl_lt hn0 hdz (hz.den.more (show 16 ≤ 125 by omega))
    have hnear := fun h v => dbl_near hd hem h v
    generalize r.num.natAbs = n at *
    generalize r.den = d at *
    generalize hD : dbl n d = D at *
    generalize 2 ^ el = y at *
    by_cases hD0 : D = 0
    · rw [if_pos hD0] at hto
      rw [hto] at hu hn
      obtain ⟨rfl, h1⟩ := hu.one (t := false) (V := 0) rfl (by omega)
      have hv1 : v = 1 := by omega
      obtain ⟨rfl, h2⟩ := hv.one (t := false) (V := 1) hv1 (by omega)
      have hne := hnear (by omega) 1
      rw [hD0] at hne
      rw [h1, h2]
      by_cases ht : r.num < 0
      · rw [decide_eq_true ht] at hrs
        rw [← hrs, ab_other (by omega) hdz, ab_other (by omega) hdz]
        refine near_sgn (rnLe (Nat.mul_pos hy hd) ?_)
        have hw := worth_mono (show 0 ≤ 1 by omega)
        exact Nat.add_le_add_right (Nat.mul_le_mul_right _ hw) _
      · rw [decide_eq_false ht] at hrs
        rw [← hrs, ab_same false (by omega) hdz, ab_same false (by omega) hdz]
        exact near_sgn (rnLe (Nat.mul_pos hy hd) hne)
    · rw [if_neg hD0] at hto
      generalize decide (r.num < 0) = t at *
      obtain ⟨rfl, h1⟩ := hu.one hto hlt
      have hD1 : D < 9218868437227405312 := by omega
      have key : s' = s ∧ (4503599627370496 * e' + m' = D + 1 ∨ 4503599627370496 * e' + m' = D - 1) := by
        rcases hn with h | ⟨h, h63⟩
        · obtain ⟨a, b⟩ := hv.one (t := s) (V := D + 1) (by rw [h, hto]; omega) (by omega)
          exact ⟨a, .inl b⟩
        · obtain ⟨a, b⟩ := hv.one (t := s) (V := D - 1) (by omega) (by omega)
          exact ⟨a, .inr b⟩
      obtain ⟨rfl, h2⟩ := key
      rw [h1, ← hrs, ab_same _ (by omega) hdz, ab_same _ (by omega) hdz]
      refine near_sgn (rnLe (Nat.mul_pos hy hd) ?_)
      exact hnear hD1 _
end Go.Proofs.Ytplpkojikgeamaa
