/-
  Whole numbers: their texts, their roundings. No program.
-/
import Derived.Test.YtcmomoalohibiaaGreatDoorDecR
namespace Go.Proofs.YtcmomoalohibiaaGreatDoor
set_option maxRecDepth 20000
open Go.RowKit

theorem un_int {r : Rat} (h : r.den = 1) (k : Nat) : un r k = r.num.natAbs * 10 ^ k := by
  unfold un
  rw [h, Nat.mod_one, Nat.div_one, if_neg (by omega)]
theorem int_dpr {r : Rat} (h : r.den = 1) : dpr r = sgnd (decide (r.num < 0)) (Lib.decDigits r.num.natAbs) := by
  unfold dpr; rw [if_pos h, List.append_nil]
theorem int_fxd {r : Rat} (h : r.den = 1) : fxd r 0 = sgnd (decide (r.num < 0)) (Lib.decDigits r.num.natAbs) := by
  unfold fxd
  rw [un_int h, Nat.pow_zero, Nat.mul_one]
  unfold fx
  rw [if_pos rfl]
  by_cases h1 : r.num < 0
  · rw [decide_eq_true h1, decide_eq_true (show r.num.natAbs ≠ 0 by omega)]; rfl
  · rw [decide_eq_false h1]; rfl
theorem int_exW {r : Rat} {F : ByteArray} (h : r.den = 1) (hF : F.data.toList = sgnd (decide (r.num < 0)) (Lib.decDigits r.num.natAbs)) : ExW F true r := by
  refine .inl ⟨rfl, 0, by omega, ⟨by rw [h]; exact Nat.one_dvd _, fun j hj => absurd hj (by omega)⟩, ?_⟩
  rw [hF]
  unfold ext fx
  rw [if_pos rfl, h, Nat.pow_zero, Nat.mul_one, Nat.div_one]
theorem rnd_int {r : Rat} (h : r.den = 1) (k : Nat) : rnd r k = r := by
  unfold rnd
  rw [un_int h]
  refine Eq.trans (rn_same (x' := r.num.natAbs) (y' := r.den) (by have := ten_pos k; omega) r.den_nz ?_) (rn_self r)
  rw [h, Nat.mul_one]
theorem rn_one {s : Bool} {x : Nat} : (rn s x 1).den = 1 ∧ (rn s x 1).num.natAbs = x := by
  rw [rn_den (by omega), rn_abs (by omega), Nat.gcd_one_right, Nat.div_one, Nat.div_one]; exact ⟨rfl, rfl⟩
end Go.Proofs.YtcmomoalohibiaaGreatDoor
