/-
  Plain numbers: which of two rows is the greater.
-/
import Derived.Test.YtffnjdfmaebmhaaGreatDoorNum
namespace Go.Proofs.YtffnjdfmaebmhaaGreatDoor
set_option maxRecDepth 20000

/-- -1, 0 or 1, as x is below, is, is above y. -/
def cmpI (x y : Nat) : Int := if x < y then -1 else if x = y then 0 else 1
theorem cmpI_lt {x y : Nat} (h : x < y) : cmpI x y = -1 := by unfold cmpI; rw [if_pos h]
theorem cmpI_gt {x y : Nat} (h : y < x) : cmpI x y = 1 := by unfold cmpI; rw [if_neg (by omega), if_neg (by omega)]
theorem cmpI_eq {x y : Nat} (h : x = y) : cmpI x y = 0 := by unfold cmpI; rw [if_neg (by omega), if_pos h]
theorem lim_len_mono {x y : Nat} (h : y ≤ x) : (lim y).length ≤ (lim x).length := by
  refine lim_len_lt ?_
  have := val_lt (L32_lim x)
  rw [val_lim] at this
  omega
theorem lt_of_len {x y : Nat} (h : (lim x).length < (lim y).length) : x < y := by
  rcases Nat.lt_or_ge x y with h1 | h1
  · exact h1
  · have := lim_len_mono h1; omega
theorem S_lt_of {f g : Nat → Nat} {i : Nat} (hf : ∀ j, f j < 4294967296) (h : f i < g i) : ∀ k, i < k → (∀ j, i < j → j < k → f j = g j) → S f k < S g k := by
  intro k
  induction k with
  | zero => intro h0; omega
  | succ k ih =>
    intro hk he
    by_cases h0 : i = k
    · subst h0
      rw [S, S]
      have h1 := S_lt (f := f) (k := i) fun j _ => hf j
      have h2 : 4294967296 ^ i * (f i + 1) ≤ 4294967296 ^ i * g i := Nat.mul_le_mul_left _ h
      rw [Nat.mul_add] at h2
      omega
    · have h1 := ih (by omega) (fun j hj hk' => he j hj (by omega))
      rw [S, S, he k (by omega) (by omega)]
      omega
theorem val_lt_of {l m : List Nat} {i : Nat} (hl : L32 l) (hlen : l.length = m.length) (hi : i < l.length) (h : dg l i < dg m i) (he : ∀ j, i < j → dg l j = dg m j) : val l < val m := by
  rw [← S_val l, ← S_val m, ← hlen]
  exact S_lt_of (f := fun j => dg l j) (g := fun j => dg m j) (fun j => hl j) h _ hi (fun j hj _ => he j hj)
theorem val_eq_of {l m : List Nat} (hlen : l.length = m.length) (he : ∀ j, dg l j = dg m j) : val l = val m := by
  rw [← S_val l, ← S_val m, ← hlen]
  exact S_congr fun i _ => he i
end Go.Proofs.YtffnjdfmaebmhaaGreatDoor
