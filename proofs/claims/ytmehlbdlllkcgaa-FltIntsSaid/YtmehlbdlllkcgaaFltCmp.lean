/-
  How two numbers of 64 bits stand to each other; a whole number as one.
-/
import Derived.Test.YtmehlbdlllkcgaaFltQ
import Derived.Test.YtmehlbdlllkcgaaFltSigns
import Derived.Laws.Cover2
namespace Go.Proofs.Ytmehlbdlllkcgaa
set_option maxRecDepth 20000
open Go.RowKit

def sg (s : Bool) (x : Nat) : Int := if s then -(x : Int) else x
theorem signed_is (s : Bool) (m k : Nat) : Ieee.signed s m k = sg s (m * 2 ^ k) := by
  unfold Ieee.signed sg
  rw [Nat.shiftLeft_eq]
theorem sg_mul (s : Bool) (x k : Nat) : sg s (x * k) = sg s x * (k : Int) := by
  unfold sg
  cases s
  · rw [if_neg (by decide), if_neg (by decide), Int.natCast_mul]
  · rw [if_pos rfl, if_pos rfl, Int.natCast_mul, Int.neg_mul]
/-- How two whole numbers stand to each other. -/
def ordI (x y : Int) : Ordering := if x < y then .lt else if x = y then .eq else .gt
theorem compare_is (x y : Int) : compare x y = ordI x y := rfl
theorem ordI_mul (x y : Int) {k : Nat} (hk : 0 < k) : ordI (x * (k : Int)) (y * (k : Int)) = ordI x y := by
  have hk' : (0 : Int) < (k : Int) := by omega
  unfold ordI
  by_cases h : x < y
  · rw [if_pos h, if_pos (Int.mul_lt_mul_of_pos_right h hk')]
  · have h1 : ¬ x * (k : Int) < y * (k : Int) := fun h2 => h (Int.lt_of_mul_lt_mul_right h2 (Int.le_of_lt hk'))
    rw [if_neg h, if_neg h1]
    by_cases h2 : x = y
    · rw [if_pos h2, if_pos (by rw [h2])]
    · rw [if_neg h2, if_neg (fun h3 => h2 (Int.eq_of_mul_eq_mul_right (by omega) h3))]

theorem ordI_lt {x y : Int} (h : x < y) : ordI x y = .lt := if_pos h
theorem ordI_gt {x y : Int} (h : y < x) : ordI x y = .gt := by unfold ordI; rw [if_neg (by omega), if_neg (by omega)]
theorem ordI_eq {x y : Int} (h : x = y) : ordI x y = .eq := by unfold ordI; rw [if_neg (by omega), if_pos h]
theorem sg_f (x : Nat) : sg false x = x := rfl
theorem sg_t (x : Nat) : sg true x = -(x : Int) := rfl
theorem w_sign : Ieee.double.signWeight = 9223372036854775808 := rfl
theorem w_bin : Ieee.double.binade = 4503599627370496 := rfl
theorem w_inf : Ieee.double.infRung = 9218868437227405312 := rfl
theorem w_least : Ieee.double.leastPlace = -1074 := rfl
theorem rung_of {u : Nat} {s : Bool} {e m : Nat} (h : Parts u s e m) : u % 9223372036854775808 = 4503599627370496 * e + m := by
  have h1 := h.exp
  have h2 := h.frac
  rw [h.eq]
  cases s
  · rw [if_neg (by decide)]; omega
  · rw [if_pos rfl]; omega
theorem neg_of {u : Nat} {s : Bool} {e m : Nat} (h : Parts u s e m) : (u / 9223372036854775808 % 2 == 1) = s := by
  rw [h.sign]
  cases s <;> rfl
theorem read_is (u : Nat) : Ieee.double.read u = if u % 9223372036854775808 < 4503599627370496 then .number (u / 9223372036854775808 % 2 == 1) (u % 9223372036854775808) (-1074)
    else if u % 9223372036854775808 < 9218868437227405312 then .number (u / 9223372036854775808 % 2 == 1) (4503599627370496 + u % 9223372036854775808 % 4503599627370496) (-1074 + ((u % 9223372036854775808 / 4503599627370496 - 1 : Nat) : Int))
    else if u % 9223372036854775808 = 9218868437227405312 then .infinity (u / 9223372036854775808 % 2 == 1) else .nan (u / 9223372036854775808 % 2 == 1) (u % 9223372036854775808 - 9218868437227405312) := rfl
theorem read_num {u : Nat} {s : Bool} {e m : Nat} (h : Parts u s e m) (he : e ≠ 2047) : ∃ c a : Nat, Ieee.double.read u = .number s c ((a : Int) - 1074) ∧ c * 2 ^ a = worth (4503599627370496 * e + m) := by
  have h1 := h.exp
  have h2 := h.frac
  rw [read_is, rung_of h, neg_of h]
  have hlt : 4503599627370496 * e + m < 9218868437227405312 := by omega
  generalize 4503599627370496 * e + m = R at *
  unfold worth
  by_cases h3 : R < 4503599627370496
  · rw [if_pos h3, if_pos h3]
    exact ⟨R, 0, rfl, by simp⟩
  · rw [if_neg h3, if_neg h3, if_pos hlt]
    exact ⟨4503599627370496 + R % 4503599627370496, R / 4503599627370496 - 1, by rw [Int.add_comm]; rfl, rfl⟩
theorem read_inf {u : Nat} {s : Bool} (h : Parts u s 2047 0) : Ieee.double.read u = .infinity s := by
  rw [read_is, rung_of h, neg_of h]
  rfl

theorem worth_inf {R : Nat} (h : R < 9218868437227405312) : worth R < worth 9218868437227405312 := worth_lt h
/-- The order of two numbers of 64 bits is that of what they are worth. -/
theorem order_is {u v : Nat} {s t : Bool} {e m f n : Nat} (hu : Parts u s e m) (hv : Parts v t f n) (he : e = 2047 → m = 0) (hf : f = 2047 → n = 0) :
    Ieee.double.order u v = some (ordI (sg s (worth (4503599627370496 * e + m))) (sg t (worth (4503599627370496 * f + n)))) := by
  unfold Ieee.Format.order
  have W0 : 0 < worth 9218868437227405312 := by have := worth_lt (show 0 < 9218868437227405312 by omega); omega
  by_cases h1 : e = 2047
  · have h2 := he h1
    subst h1 h2
    rw [read_inf hu]
    by_cases h3 : f = 2047
    · have h4 := hf h3
      subst h3 h4
      rw [read_inf hv]
      show some (compare t.toNat s.toNat) = _
      rw [show 4503599627370496 * 2047 + 0 = 9218868437227405312 from rfl]
      generalize worth 9218868437227405312 = W at *
      cases s <;> cases t
      · rw [ordI_eq rfl]; rfl
      · rw [sg_f, sg_t, ordI_gt (by omega)]; rfl
      · rw [sg_t, sg_f, ordI_lt (by omega)]; rfl
      · rw [ordI_eq rfl]; rfl
    · obtain ⟨c, a, hr, _⟩ := read_num hv h3
      rw [hr]
      have hlt := worth_inf (R := 4503599627370496 * f + n) (by have := hv.exp; have := hv.frac; omega)
      show some (if s then Ordering.lt else Ordering.gt) = _
      rw [show 4503599627370496 * 2047 + 0 = 9218868437227405312 from rfl]
      generalize worth 9218868437227405312 = W at *
      generalize worth (4503599627370496 * f + n) = V at *
      cases s <;> cases t
      · rw [sg_f, sg_f, ordI_gt (by omega)]; rfl
      · rw [sg_f, sg_t, ordI_gt (by omega)]; rfl
      · rw [sg_t, sg_f, ordI_lt (by omega)]; rfl
      · rw [sg_t, sg_t, ordI_lt (by omega)]; rfl
  · obtain ⟨c, a, hr, hw⟩ := read_num hu h1
    rw [hr]
    by_cases h3 : f = 2047
    · have h4 := hf h3
      subst h3 h4
      rw [read_inf hv]
      have hlt := worth_inf (R := 4503599627370496 * e + m) (by have := hu.exp; have := hu.frac; omega)
      show some (if t then Ordering.gt else Ordering.lt) = _
      rw [show 4503599627370496 * 2047 + 0 = 9218868437227405312 from rfl]
      generalize worth 9218868437227405312 = W at *
      generalize worth (4503599627370496 * e + m) = V at *
      cases s <;> cases t
      · rw [sg_f, sg_f, ordI_lt (by omega)]; rfl
      · rw [sg_f, sg_t, ordI_gt (by omega)]; rfl
      · rw [sg_t, sg_f, ordI_lt (by omega)]; rfl
      · rw [sg_t, sg_t, ordI_gt (by omega)]; rfl
    · obtain ⟨d, b, hr2, hw2⟩ := read_num hv h3
      rw [hr2]
      show some (compare (Ieee.signed s c ((a : Int) - 1074 - min ((a : Int) - 1074) ((b : Int) - 1074)).toNat) (Ieee.signed t d ((b : Int) - 1074 - min ((a : Int) - 1074) ((b : Int) - 1074)).toNat)) = _
      rw [signed_is, signed_is, compare_is, ← hw, ← hw2]
      congr 1
      rw [show ((a : Int) - 1074 - min ((a : Int) - 1074) ((b : Int) - 1074)).toNat = a - min a b by omega, show ((b : Int) - 1074 - min ((a : Int) - 1074) ((b : Int) - 1074)).toNat = b - min a b by omega]
      have ea : c * 2 ^ a = c * 2 ^ (a - min a b) * 2 ^ min a b := by rw [Nat.mul_assoc, ← Nat.pow_add]; congr 2; omega
      have eb : d * 2 ^ b = d * 2 ^ (b - min a b) * 2 ^ min a b := by rw [Nat.mul_assoc, ← Nat.pow_add]; congr 2; omega
      rw [ea, eb, sg_mul s (c * 2 ^ (a - min a b)), sg_mul t (d * 2 ^ (b - min a b)), ordI_mul _ _ (Nat.pow_pos (by omega))]

theorem dbl_zero : dbl 0 1 = 0 := by
  have h : lg 0 1 = 0 := by unfold lg; rw [Nat.zero_mul]; rfl
  unfold dbl
  rw [h, if_neg (by omega), Nat.zero_mul, show un 0 = eb from rfl, Nat.sub_self, Nat.mul_zero, Nat.zero_add]
  have := rq_exact (a := 0) (b := 1 * 2 ^ eb) (Nat.mul_pos (by omega) (Nat.pow_pos (by omega)))
  rw [Nat.zero_mul] at this
  exact this
/-- What the number that is told is worth, with its sign. -/
def wv (r : Rat) : Int := sg (decide (r.num < 0)) (worth (dbl r.num.natAbs r.den))
theorem tof_val {r : Rat} {s : Bool} {e m p : Nat} (h : Parts (tof r) s e m) (hz : Sz r p) (hp : p ≤ 120) : sg s (worth (4503599627370496 * e + m)) = wv r ∧ (e = 2047 → m = 0) := by
  have h1 := h.exp
  have h2 := h.frac
  have h3 := h.eq
  have hw0 : worth 0 = 0 := rfl
  have nought : tof r = 0 → worth (dbl r.num.natAbs r.den) = 0 → sg s (worth (4503599627370496 * e + m)) = wv r ∧ (e = 2047 → m = 0) := by
    intro h4 h5
    rw [h4] at h3
    have hs : s = false := by cases s; rfl; rw [if_pos rfl] at h3; omega
    subst hs
    rw [if_neg (by decide)] at h3
    have h6 : 4503599627370496 * e + m = 0 := by omega
    refine ⟨?_, by omega⟩
    rw [h6, hw0]
    unfold wv
    rw [h5]
    cases decide (r.num < 0) <;> rfl
  by_cases h0 : r = 0
  · exact nought (by subst h0; decide) (by subst h0; rw [show (0 : Rat).num.natAbs = 0 from rfl, show (0 : Rat).den = 1 from rfl, dbl_zero]; rfl)
  · have e1 := tof_ne h0
    have hd := dbl_le (n := r.num.natAbs) (Nat.pos_of_ne_zero r.den_nz) (Bd.em (by have := num_ne h0; omega) (hz.den.more (show p ≤ 125 by omega)) (by omega))
    by_cases hD : dbl r.num.natAbs r.den = 0
    · rw [if_pos hD] at e1
      exact nought e1 (by rw [hD]; exact hw0)
    · rw [if_neg hD] at e1
      unfold wv
      generalize dbl r.num.natAbs r.den = D at *
      rw [e1] at h3
      have hsD : decide (r.num < 0) = s ∧ D = 4503599627370496 * e + m := by
        cases s <;> cases hq : decide (r.num < 0)
        · rw [hq, if_neg (by decide)] at h3
          exact ⟨rfl, by omega⟩
        · rw [hq, if_pos rfl, if_neg (by decide)] at h3
          omega
        · rw [hq, if_neg (by decide), if_pos rfl] at h3
          omega
        · rw [hq, if_pos rfl] at h3
          exact ⟨rfl, by omega⟩
      refine ⟨?_, by omega⟩
      rw [hsD.1, hsD.2]
theorem wv_mono {r s : Rat} {p : Nat} (h : r ≤ s) (hr : Sz r p) (hs : Sz s p) (hp : p ≤ 120) : wv r ≤ wv s := by
  have hle : r.num * (s.den : Int) ≤ s.num * (r.den : Int) := (Rat.le_iff _ _).1 h
  have dr := r.den_pos
  have ds := s.den_pos
  have sr := hr.den
  have ss := hs.den
  unfold wv sg
  have em1 : r.num ≠ 0 → r.den ≤ r.num.natAbs * 2 ^ em := fun h => Bd.em (by omega) (sr.more (show p ≤ 125 by omega)) (by omega)
  have em2 : s.num ≠ 0 → s.den ≤ s.num.natAbs * 2 ^ em := fun h => Bd.em (by omega) (ss.more (show p ≤ 125 by omega)) (by omega)
  have zero1 : r.num = 0 → dbl r.num.natAbs r.den = 0 := by
    intro h0
    have : r = 0 := Rat.num_eq_zero.1 h0
    subst this
    exact dbl_zero
  clear hr hs sr ss h
  generalize r.num = a at *
  generalize s.num = b at *
  generalize r.den = x at *
  generalize s.den = y at *
  by_cases ha : a < 0
  · rw [decide_eq_true ha, if_pos rfl]
    by_cases hb : b < 0
    · rw [decide_eq_true hb, if_pos rfl]
      have hab : b.natAbs * x ≤ a.natAbs * y := by
        have e1 : (a.natAbs : Int) = -a := by omega
        have e2 : (b.natAbs : Int) = -b := by omega
        have : ((b.natAbs * x : Nat) : Int) ≤ ((a.natAbs * y : Nat) : Int) := by
          rw [Int.natCast_mul, Int.natCast_mul, e1, e2, Int.neg_mul, Int.neg_mul]; omega
        omega
      have := worth_mono (dbl_mono ds dr (em2 (by omega)) (em1 (by omega)) hab)
      omega
    · rw [decide_eq_false hb, if_neg (by decide)]
      omega
  · rw [decide_eq_false ha, if_neg (by decide)]
    by_cases hb : b < 0
    · exfalso
      have h1 : 0 ≤ a * (y : Int) := Int.mul_nonneg (by omega) (by omega)
      have h2 : b * (x : Int) < 0 := Int.mul_neg_of_neg_of_pos hb (by omega)
      omega
    · rw [decide_eq_false hb, if_neg (by decide)]
      by_cases h0 : a = 0
      · rw [zero1 h0]
        have : worth 0 = 0 := rfl
        omega
      · have hb0 : b ≠ 0 := by
          intro hb1
          subst hb1
          have : 0 < a * (y : Int) := Int.mul_pos (by omega) (by omega)
          omega
        have hab : a.natAbs * y ≤ b.natAbs * x := by
          have e1 : (a.natAbs : Int) = a := by omega
          have e2 : (b.natAbs : Int) = b := by omega
          have : ((a.natAbs * y : Nat) : Int) ≤ ((b.natAbs * x : Nat) : Int) := by
            rw [Int.natCast_mul, Int.natCast_mul, e1, e2]; exact hle
          omega
        have := worth_mono (dbl_mono dr ds (em1 h0) (em2 hb0) hab)
        omega
end Go.Proofs.Ytmehlbdlllkcgaa
