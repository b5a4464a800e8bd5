/-
  A rounded number: it is itself when it is rounded again; it is as near as half of its last digit. No program.
-/
import Derived.Test.YtcmomoalohibiaaGreatDoorDecX
import Derived.Test.YtcmomoalohibiaaGreatDoorDecPl
namespace Go.Proofs.YtcmomoalohibiaaGreatDoor
set_option maxRecDepth 20000
open Go.RowKit

theorem cross {q t : Nat} : q / Nat.gcd q t * t = q * (t / Nat.gcd q t) := by
  obtain ⟨a, ha⟩ := Nat.gcd_dvd_left q t
  obtain ⟨b, hb⟩ := Nat.gcd_dvd_right q t
  rcases Nat.eq_zero_or_pos (Nat.gcd q t) with h | h
  · rw [h, Nat.zero_mul] at ha hb
    rw [ha, hb]; rfl
  · have e1 : q / Nat.gcd q t = a := Nat.div_eq_of_eq_mul_right h ha
    have e2 : t / Nat.gcd q t = b := Nat.div_eq_of_eq_mul_right h hb
    rw [e1, e2]
    calc a * t = a * (Nat.gcd q t * b) := by rw [← hb]
      _ = Nat.gcd q t * a * b := by rw [← Nat.mul_assoc, Nat.mul_comm a]
      _ = q * b := by rw [← ha]
theorem near_exact {q y : Nat} (hy : 0 < y) : near (q * y) y = q := by
  unfold near
  rw [Nat.mul_mod_left, Nat.mul_div_cancel _ hy, if_neg (by omega)]
theorem rnd_again (r : Rat) (n : Nat) : rnd (rnd r n) n = rnd r n := by
  have hp := ten_pos n
  obtain ⟨s, hs⟩ : ∃ s, s = decide (r.num < 0) := ⟨_, rfl⟩
  obtain ⟨q, hq⟩ : ∃ q, q = un r n := ⟨_, rfl⟩
  have e : rnd r n = rn s q (10 ^ n) := by unfold rnd; rw [hs, hq]
  rw [e]
  obtain ⟨t, ht⟩ : ∃ t, t = 10 ^ n := ⟨_, rfl⟩
  have hu : un (rn s q (10 ^ n)) n = q := by
    rw [un_near, rn_abs (by omega), cross]
    have h1 : (rn s q (10 ^ n)).den = 10 ^ n / Nat.gcd q (10 ^ n) := rn_den (by omega)
    rw [h1]
    exact near_exact (by rw [← h1]; exact (rn s q (10 ^ n)).den_pos)
  unfold rnd
  rw [hu]
  by_cases h0 : q = 0
  · rw [rn_zero (.inl h0), rn_zero (.inl h0)]
  · rw [rn_sign h0 (by omega)]
theorem half_aux {m d t q : Nat} {s : Bool} (hd : 0 < d) (ht : 0 < t) (hqn : q = near (m * t) d) : ∃ e σ, rn s q t + rn (!s) m d = rn σ e (t * d) ∧ 2 * e ≤ d := by
  have hdm := Nat.div_add_mod (m * t) d
  have hlt := Nat.mod_lt (m * t) hd
  by_cases c : d < 2 * (m * t % d) ∨ (2 * (m * t % d) = d ∧ (m * t / d) % 2 = 1)
  · have hq1 : q = m * t / d + 1 := by rw [hqn]; unfold near; rw [if_pos c]
    have e1 : q * d = m * t + (d - m * t % d) := by
      rw [hq1, Nat.add_mul, Nat.one_mul, Nat.mul_comm (m * t / d) d]; omega
    refine ⟨d - m * t % d, s, ?_, by omega⟩
    rw [rn_sub (by rfl) (by omega) (by omega) (by omega), e1]
    congr 1
    omega
  · have hq1 : q = m * t / d := by rw [hqn]; unfold near; rw [if_neg c]
    have e1 : q * d + m * t % d = m * t := by rw [hq1, Nat.mul_comm]; exact hdm
    refine ⟨m * t % d, !s, ?_, by omega⟩
    rw [rn_sub' (by rfl) (by omega) (by omega) (by omega)]
    congr 1
    omega
/-- The size of what is lost by rounding. -/
theorem half (r : Rat) (n : Nat) : ∃ e, rn false (rnd r n - r).num.natAbs (rnd r n - r).den = rn false e (10 ^ n * r.den) ∧ 2 * e ≤ r.den := by
  have hp := ten_pos n
  have hd := r.den_pos
  have hpd : 0 < 10 ^ n * r.den := Nat.mul_pos hp hd
  obtain ⟨e, σ, h1, h2⟩ := half_aux (s := decide (r.num < 0)) (m := r.num.natAbs) hd hp (un_near r n)
  have hsub : rnd r n - r = rn σ e (10 ^ n * r.den) := by
    rw [← h1, Rat.sub_eq_add_neg]
    congr 1
    rw [← rn_neg, rn_self]
  refine ⟨e, ?_, h2⟩
  have hden : (rn σ e (10 ^ n * r.den)).den ≠ 0 := (rn σ e (10 ^ n * r.den)).den_nz
  rw [hsub]
  refine rn_same hden (by omega) ?_
  rw [rn_abs (by omega), rn_den (by omega)]
  exact cross
theorem rn_le_of {x y x' y' : Nat} (hy : 0 < y) (hy' : 0 < y') (h : x * y' ≤ x' * y) : rn false x y ≤ rn false x' y' := by
  have hyy : 0 < y * y' := Nat.mul_pos hy hy'
  rw [rn_same (x := x) (y := y) (x' := x * y') (y' := y * y') (by omega) (by omega) (by rw [Nat.mul_assoc, Nat.mul_comm y' y]), rn_same (x := x') (y := y') (x' := x' * y) (y' := y * y') (by omega) (by omega) (by rw [Nat.mul_assoc])]
  exact rn_le hyy h
/-- Twice what is lost is no more than the last digit's unit. -/
theorem twice {r : Rat} {n p : Nat} (sz : Sz r p) (hn : n ≤ 9) : ∃ A K, rn false (rnd r n - r).num.natAbs (rnd r n - r).den = A ∧ sgn (A + A - rn false 1 (10 ^ n)) = K ∧ K ≤ 0 ∧ Sz A (p + 2) ∧ Sz (A + A) (p + 2) ∧ Sz (rnd r n - r) (p + 2) := by
  obtain ⟨e, he, h2⟩ := half r n
  have hp := ten_pos n
  have hd := r.den_pos
  have hpd : 0 < 10 ^ n * r.den := Nat.mul_pos hp hd
  have hbt : Bd (10 ^ n) 2 := Bd.ofL (ten_len (k := n) (m := 9) hn)
  have hbd : Bd (10 ^ n * r.den) (p + 2) := (hbt.mul sz.den).more (by omega)
  have hpp : 0 < p := by
    rcases Nat.eq_zero_or_pos p with h | h
    · subst h; have h3 := sz.den; simp only [Bd, Nat.pow_zero] at h3; omega
    · exact h
  have hbe : Bd (e + e) (p + 2) := (sz.den.le (show e + e ≤ r.den by omega)).more (by omega)
  have e2 : rn false e (10 ^ n * r.den) + rn false e (10 ^ n * r.den) = rn false (e + e) (10 ^ n * r.den) := by
    rw [rn_add false (by omega) (by omega)]
    refine rn_same (Nat.ne_of_gt (Nat.mul_pos hpd hpd)) (by omega) ?_
    rw [← Nat.add_mul, Nat.mul_assoc]
  have hle : rn false (e + e) (10 ^ n * r.den) ≤ rn false 1 (10 ^ n) := by
    refine rn_le_of hpd hp ?_
    rw [Nat.one_mul, Nat.mul_comm (10 ^ n) r.den]
    exact Nat.mul_le_mul_right _ (by omega)
  have hA : Sz (rn false e (10 ^ n * r.den)) (p + 2) := Sz.ofRn rfl (hbe.le (by omega)) hbd (by omega)
  refine ⟨_, _, rfl, rfl, ?_, ?_, ?_, ?_⟩
  · rw [he, e2]
    have h1 := le_sgn hle
    rcases sgn_three (rn false (e + e) (10 ^ n * r.den) - rn false 1 (10 ^ n)) with a | a | a
    · omega
    · omega
    · exact absurd a h1
  · rw [he]; exact hA
  · rw [he, e2]; exact Sz.ofRn rfl hbe hbd (by omega)
  · rw [he.symm] at hA
    have h3 : (rn false (rnd r n - r).num.natAbs (rnd r n - r).den).num.natAbs = (rnd r n - r).num.natAbs := by
      rw [rn_abs (rnd r n - r).den_nz, (rnd r n - r).reduced.gcd_eq_one, Nat.div_one]
    have h4 : (rn false (rnd r n - r).num.natAbs (rnd r n - r).den).den = (rnd r n - r).den := by
      rw [rn_den (rnd r n - r).den_nz, (rnd r n - r).reduced.gcd_eq_one, Nat.div_one]
    exact ⟨by rw [← h3]; exact hA.num, by rw [← h4]; exact hA.den⟩
theorem one_rn : ((1 : Int) : Rat) = rn false 1 (10 ^ 0) := by rw [Nat.pow_zero, rn_int]; rfl
/-- A number without its sign. -/
theorem Rt.abs {w : World} {lo p : Nat} {v : Rv} {r A : Rat} (h : Rt w lo v r) (sz : Sz r p) (hA : rn false r.num.natAbs r.den = A) : Rw w ⟨false, v.A, v.n, v.c, v.B, v.m, v.d⟩ A p := by
  have hw := h.rw sz
  exact ⟨hw.numCap, hw.denCap, hw.numLe, hw.denLe, _, _, h.num.lower (Nat.zero_le _), h.den.lower (Nat.zero_le _), by rw [val_lim, val_lim]; exact hA⟩
end Go.Proofs.YtcmomoalohibiaaGreatDoor
