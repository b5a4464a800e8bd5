/-
  Rounding keeps the order. No program.
-/
import Derived.Test.YtcmomoalohibiaaGreatDoorDecR
namespace Go.Proofs.YtcmomoalohibiaaGreatDoor
set_option maxRecDepth 20000
open Go.RowKit

/-- The nearest whole number to x by y; from the middle, the even one. -/
def near (x y : Nat) : Nat := if y < 2 * (x % y) ∨ (2 * (x % y) = y ∧ (x / y) % 2 = 1) then x / y + 1 else x / y
theorem un_near (r : Rat) (k : Nat) : un r k = near (r.num.natAbs * 10 ^ k) r.den := rfl
theorem near_le (x y : Nat) : near x y ≤ x / y + 1 := by unfold near; split <;> omega
theorem le_near (x y : Nat) : x / y ≤ near x y := by unfold near; split <;> omega
theorem near_mono {x y x' y' : Nat} (hy : 0 < y) (hy' : 0 < y') (h : x * y' ≤ x' * y) : near x y ≤ near x' y' := by
  have e := Nat.div_add_mod x y
  have e' := Nat.div_add_mod x' y'
  have l := Nat.mod_lt x hy
  have l' := Nat.mod_lt x' hy'
  have hq : x / y ≤ x' / y' := by
    rw [Nat.le_div_iff_mul_le hy']
    have h1 : x / y * y' * y ≤ x' * y := by
      have : x / y * y ≤ x := Nat.div_mul_le_self x y
      calc x / y * y' * y = (x / y * y) * y' := by rw [Nat.mul_assoc, Nat.mul_comm y' y, ← Nat.mul_assoc]
        _ ≤ x * y' := Nat.mul_le_mul_right _ this
        _ ≤ x' * y := h
    exact Nat.le_of_mul_le_mul_right h1 hy
  by_cases hlt : x / y < x' / y'
  · have := near_le x y
    have := le_near x' y'
    omega
  · have hqe : x / y = x' / y' := by omega
    -- the rests
    have hr : (x % y) * y' ≤ (x' % y') * y := by
      have a1 : x * y' = (x / y) * (y * y') + (x % y) * y' := by
        rw [← Nat.mul_assoc, ← Nat.add_mul, Nat.mul_comm (x / y) y, e]
      have a2 : x' * y = (x / y) * (y * y') + (x' % y') * y := by
        rw [hqe, Nat.mul_comm y y', ← Nat.mul_assoc, ← Nat.add_mul, Nat.mul_comm (x' / y') y', e']
      rw [a1, a2] at h
      omega
    unfold near
    rw [← hqe]
    by_cases c : y < 2 * (x % y) ∨ (2 * (x % y) = y ∧ (x / y) % 2 = 1)
    · have c' : y' < 2 * (x' % y') ∨ (2 * (x' % y') = y' ∧ (x / y) % 2 = 1) := by
        have key : y' * y ≤ 2 * (x' % y') * y := by
          have h1 : y * y' ≤ 2 * (x % y) * y' := Nat.mul_le_mul_right _ (by omega)
          rw [Nat.mul_assoc] at h1 ⊢
          rw [Nat.mul_comm y' y]
          omega
        have k1 : y' ≤ 2 * (x' % y') := Nat.le_of_mul_le_mul_right key hy
        rcases c with c | ⟨c, c2⟩
        · left
          have h1 : y * y' < 2 * (x % y) * y' := Nat.mul_lt_mul_of_pos_right c hy'
          have h2 : y' * y < 2 * (x' % y') * y := by
            rw [Nat.mul_assoc] at h1 ⊢
            rw [Nat.mul_comm y' y]
            omega
          exact Nat.lt_of_mul_lt_mul_right h2
        · by_cases k2 : y' < 2 * (x' % y')
          · exact .inl k2
          · exact .inr ⟨by omega, c2⟩
      rw [if_pos c, if_pos c']; exact Nat.le_refl _
    · rw [if_neg c]; split <;> omega
theorem rn_eq' {s : Bool} {x y x' y' : Nat} (hy : y ≠ 0) (hy' : y' ≠ 0) (h : x * y' = x' * y) : rn s x y = rn s x' y' := by
  unfold rn
  have h2 : (x : Int) * (y' : Int) = (x' : Int) * (y : Int) := by rw [← Int.natCast_mul, ← Int.natCast_mul, h]
  rw [Rat.mkRat_eq_iff hy hy']
  cases s
  · simpa using h2
  · simp [Int.neg_mul, h2]
theorem rn_le {x x' y : Nat} (hy : 0 < y) (h : x ≤ x') : rn false x y ≤ rn false x' y := by
  obtain ⟨d, rfl⟩ : ∃ d, x' = d + x := ⟨x' - x, by omega⟩
  have e : rn false (d + x) y = rn false d y + rn false x y := by
    rw [rn_add false (by omega) (by omega)]
    exact rn_eq' (by omega) (Nat.ne_of_gt (Nat.mul_pos hy hy)) (by rw [← Nat.add_mul, Nat.mul_assoc])
  rw [Rat.le_iff_sub_nonneg, e, Rat.add_sub_cancel]
  exact Rat.num_nonneg.1 (rn_pos d y)
theorem rn_le' {x x' y : Nat} (hy : 0 < y) (h : x ≤ x') : rn true x' y ≤ rn true x y := by
  have := Rat.neg_le_neg (rn_le hy h)
  rwa [rn_neg, rn_neg] at this
theorem rn_le0 {x x' y : Nat} (hy : 0 < y) : rn true x y ≤ rn false x' y := by
  have h1 : rn true x y ≤ rn true 0 y := rn_le' hy (Nat.zero_le _)
  have h2 : rn false 0 y ≤ rn false x' y := rn_le hy (Nat.zero_le _)
  rw [rn_zero (.inl rfl)] at h1 h2
  exact Rat.le_trans h1 h2
theorem rnd_mono {r s : Rat} (h : r ≤ s) (k : Nat) : rnd r k ≤ rnd s k := by
  have hp := ten_pos k
  rw [Rat.le_iff] at h
  unfold rnd
  by_cases h1 : r.num < 0
  · rw [decide_eq_true h1]
    by_cases h2 : s.num < 0
    · rw [decide_eq_true h2]
      refine rn_le' hp ?_
      rw [un_near, un_near]
      refine near_mono s.den_pos r.den_pos ?_
      have h3 : s.num.natAbs * r.den ≤ r.num.natAbs * s.den := by
        have e1 : (s.num.natAbs : Int) = -s.num := by omega
        have e2 : (r.num.natAbs : Int) = -r.num := by omega
        have : ((s.num.natAbs * r.den : Nat) : Int) ≤ ((r.num.natAbs * s.den : Nat) : Int) := by
          rw [Int.natCast_mul, Int.natCast_mul, e1, e2, Int.neg_mul, Int.neg_mul]
          omega
        exact Int.ofNat_le.1 this
      rw [Nat.mul_right_comm, Nat.mul_right_comm r.num.natAbs]
      exact Nat.mul_le_mul_right _ h3
    · rw [decide_eq_false h2]; exact rn_le0 hp
  · have h2 : ¬ s.num < 0 := by
      intro h2
      have h3 : s.num * r.den < 0 := Int.mul_neg_of_neg_of_pos h2 (by have := r.den_pos; omega)
      have h4 : 0 ≤ r.num * s.den := Int.mul_nonneg (by omega) (by omega)
      omega
    rw [decide_eq_false h1, decide_eq_false h2]
    refine rn_le hp ?_
    rw [un_near, un_near]
    refine near_mono r.den_pos s.den_pos ?_
    have h3 : r.num.natAbs * s.den ≤ s.num.natAbs * r.den := by
      have e1 : (s.num.natAbs : Int) = s.num := by omega
      have e2 : (r.num.natAbs : Int) = r.num := by omega
      have : ((r.num.natAbs * s.den : Nat) : Int) ≤ ((s.num.natAbs * r.den : Nat) : Int) := by
        rw [Int.natCast_mul, Int.natCast_mul, e1, e2]
        exact h
      exact Int.ofNat_le.1 this
    rw [Nat.mul_right_comm, Nat.mul_right_comm s.num.natAbs]
    exact Nat.mul_le_mul_right _ h3
theorem sgn_neg' (r : Rat) : sgn (-r) = -sgn r := by
  unfold sgn
  by_cases h : r = 0
  · subst h; rfl
  · rw [if_neg h, if_neg (fun e => h (by rw [← Rat.neg_neg r, e]; rfl)), Rat.neg_num]
    have : r.num ≠ 0 := fun e => h (Rat.num_eq_zero.1 e)
    by_cases h1 : r.num < 0
    · rw [if_pos h1, if_neg (by omega)]; rfl
    · rw [if_neg h1, if_pos (by omega)]
theorem sgn_turn' (r s : Rat) : sgn (s - r) = -sgn (r - s) := by rw [← Rat.neg_sub r s, sgn_neg']
theorem sgn_three (r : Rat) : sgn r = -1 ∨ sgn r = 0 ∨ sgn r = 1 := by
  unfold sgn
  split
  · exact .inr (.inl rfl)
  · split
    · exact .inl rfl
    · exact .inr (.inr rfl)
theorem ge_sgn {a b : Rat} (h : b ≤ a) : sgn (a - b) ≠ -1 := by
  have h0 := (Rat.le_iff_sub_nonneg b a).1 h
  have h1 := Rat.num_nonneg.2 h0
  unfold sgn
  split
  · decide
  · rw [if_neg (by omega)]; decide
theorem le_sgn {a b : Rat} (h : a ≤ b) : sgn (a - b) ≠ 1 := by
  intro e
  rw [sgn_turn'] at e
  exact ge_sgn h (by omega)
/-- Of two numbers and what they are, rounded: how they compare. -/
theorem cmp_case (r s : Rat) (n : Nat) : ∃ K J, sgn (r - s) = K ∧ sgn (rnd r n - rnd s n) = J ∧ ((K = -1 ∧ J = -1) ∨ (K = -1 ∧ J = 0) ∨ (K = 0 ∧ J = 0) ∨ (K = 1 ∧ J = 0) ∨ (K = 1 ∧ J = 1)) := by
  refine ⟨_, _, rfl, rfl, ?_⟩
  rcases Rat.le_total (a := r) (b := s) with h | h
  · have h1 := le_sgn h
    have h2 := le_sgn (rnd_mono h n)
    rcases sgn_three (r - s) with a | a | a
    · rcases sgn_three (rnd r n - rnd s n) with b | b | b
      · exact .inl ⟨a, b⟩
      · exact .inr (.inl ⟨a, b⟩)
      · exact absurd b h2
    · have e : r = s := sgn_sub_zero.1 a
      subst e
      exact .inr (.inr (.inl ⟨a, sgn_sub_zero.2 rfl⟩))
    · exact absurd a h1
  · have h1 := ge_sgn h
    have h2 := ge_sgn (rnd_mono h n)
    rcases sgn_three (r - s) with a | a | a
    · exact absurd a h1
    · have e : r = s := sgn_sub_zero.1 a
      subst e
      exact .inr (.inr (.inl ⟨a, sgn_sub_zero.2 rfl⟩))
    · rcases sgn_three (rnd r n - rnd s n) with b | b | b
      · exact absurd b h2
      · exact .inr (.inr (.inr (.inl ⟨a, b⟩)))
      · exact .inr (.inr (.inr (.inr ⟨a, b⟩)))
end Go.Proofs.YtcmomoalohibiaaGreatDoor
