/-
  Expressions, no program: so many brackets, or signs, within one another.
-/
import Derived.Test.YtjjblmaljegfjaaGreatDoorMEd
namespace Go.Proofs.YtjjblmaljegfjaaGreatDoor
set_option maxRecDepth 20000
set_option maxRecDepth 100000
def dL (n : Nat) (s : Bool) : List UInt8 := if s then List.replicate n 45 ++ [97] else List.replicate n 40 ++ [97] ++ List.replicate n 41
def dS (n : Nat) (s : Bool) : ByteArray := ⟨(dL n s).toArray⟩
def dN : Nat → Ex | 0 => .nm ⟨#[97]⟩ | n + 1 => .neg (dN n)
def dT (n : Nat) (s : Bool) : Ex := if s then dN n else .nm ⟨#[97]⟩
def dR (n : Nat) (s : Bool) : PR := if 32 ≤ n then .err 31 4 else .ok (dT n s) (dT n s) (if s then n + 1 else n + n + 1) (if s then n + 1 else 1) false
theorem dp (f : ByteArray → Rat) : ∀ n, n ≤ 60 → ∀ s, parse f (dS n s) = dR n s
  | 0, _, true => by rfl
  | 0, _, false => by rfl
  | 1, _, true => by rfl
  | 1, _, false => by rfl
  | 2, _, true => by rfl
  | 2, _, false => by rfl
  | 3, _, true => by rfl
  | 3, _, false => by rfl
  | 4, _, true => by rfl
  | 4, _, false => by rfl
  | 5, _, true => by rfl
  | 5, _, false => by rfl
  | 6, _, true => by rfl
  | 6, _, false => by rfl
  | 7, _, true => by rfl
  | 7, _, false => by rfl
  | 8, _, true => by rfl
  | 8, _, false => by rfl
  | 9, _, true => by rfl
  | 9, _, false => by rfl
  | 10, _, true => by rfl
  | 10, _, false => by rfl
  | 11, _, true => by rfl
  | 11, _, false => by rfl
  | 12, _, true => by rfl
  | 12, _, false => by rfl
  | 13, _, true => by rfl
  | 13, _, false => by rfl
  | 14, _, true => by rfl
  | 14, _, false => by rfl
  | 15, _, true => by rfl
  | 15, _, false => by rfl
  | 16, _, true => by rfl
  | 16, _, false => by rfl
  | 17, _, true => by rfl
  | 17, _, false => by rfl
  | 18, _, true => by rfl
  | 18, _, false => by rfl
  | 19, _, true => by rfl
  | 19, _, false => by rfl
  | 20, _, true => by rfl
  | 20, _, false => by rfl
  | 21, _, true => by rfl
  | 21, _, false => by rfl
  | 22, _, true => by rfl
  | 22, _, false => by rfl
  | 23, _, true => by rfl
  | 23, _, false => by rfl
  | 24, _, true => by rfl
  | 24, _, false => by rfl
  | 25, _, true => by rfl
  | 25, _, false => by rfl
  | 26, _, true => by rfl
  | 26, _, false => by rfl
  | 27, _, true => by rfl
  | 27, _, false => by rfl
  | 28, _, true => by rfl
  | 28, _, false => by rfl
  | 29, _, true => by rfl
  | 29, _, false => by rfl
  | 30, _, true => by rfl
  | 30, _, false => by rfl
  | 31, _, true => by rfl
  | 31, _, false => by rfl
  | 32, _, true => by rfl
  | 32, _, false => by rfl
  | 33, _, true => by rfl
  | 33, _, false => by rfl
  | 34, _, true => by rfl
  | 34, _, false => by rfl
  | 35, _, true => by rfl
  | 35, _, false => by rfl
  | 36, _, true => by rfl
  | 36, _, false => by rfl
  | 37, _, true => by rfl
  | 37, _, false => by rfl
  | 38, _, true => by rfl
  | 38, _, false => by rfl
  | 39, _, true => by rfl
  | 39, _, false => by rfl
  | 40, _, true => by rfl
  | 40, _, false => by rfl
  | 41, _, true => by rfl
  | 41, _, false => by rfl
  | 42, _, true => by rfl
  | 42, _, false => by rfl
  | 43, _, true => by rfl
  | 43, _, false => by rfl
  | 44, _, true => by rfl
  | 44, _, false => by rfl
  | 45, _, true => by rfl
  | 45, _, false => by rfl
  | 46, _, true => by rfl
  | 46, _, false => by rfl
  | 47, _, true => by rfl
  | 47, _, false => by rfl
  | 48, _, true => by rfl
  | 48, _, false => by rfl
  | 49, _, true => by rfl
  | 49, _, false => by rfl
  | 50, _, true => by rfl
  | 50, _, false => by rfl
  | 51, _, true => by rfl
  | 51, _, false => by rfl
  | 52, _, true => by rfl
  | 52, _, false => by rfl
  | 53, _, true => by rfl
  | 53, _, false => by rfl
  | 54, _, true => by rfl
  | 54, _, false => by rfl
  | 55, _, true => by rfl
  | 55, _, false => by rfl
  | 56, _, true => by rfl
  | 56, _, false => by rfl
  | 57, _, true => by rfl
  | 57, _, false => by rfl
  | 58, _, true => by rfl
  | 58, _, false => by rfl
  | 59, _, true => by rfl
  | 59, _, false => by rfl
  | 60, _, true => by rfl
  | 60, _, false => by rfl
  | n + 61, h, _ => absurd h (by omega)
theorem dN_fine : ∀ n, (dN n).fine ∧ (dN n).deep = n + 1 ∧ (dN n).nodes = n + 1 ∧ (dN n).wf := by
  intro n
  induction n with
  | zero => exact ⟨by show isName _ = true; decide, rfl, rfl, trivial⟩
  | succ n ih => exact ⟨ih.1, by show (dN n).deep + 1 = _; omega, by show 1 + (dN n).nodes = _; omega, ih.2.2.2⟩
theorem dT_deep (n : Nat) (s : Bool) : (dT n s).deep = if s then n + 1 else 1 := by
  cases s
  · rfl
  · exact (dN_fine n).2.1
theorem dT_nodes (n : Nat) (s : Bool) : (dT n s).nodes ≤ n + 1 := by
  cases s
  · exact Nat.le_add_left _ _
  · exact Nat.le_of_eq (dN_fine n).2.2.1
theorem dfin_ok {n : Nat} (s : Bool) (h : n < 32) : fin (dS n s) = .ok (dT n s) := by
  unfold fin
  rw [dp tv n (by omega) s]
  unfold dR
  rw [if_neg (by omega)]
  refine fin1_yes ?_
  cases s
  · exact ⟨by show isName _ = true; decide, by show 1 ≤ 32; omega, by show 1 ≤ 256; omega⟩
  · have := dN_fine n
    exact ⟨this.1, by show (dN n).deep ≤ 32; omega, by show (dN n).nodes ≤ 256; omega⟩
theorem dfin_err {n : Nat} (s : Bool) (h : 32 ≤ n) (h2 : n ≤ 60) : fin (dS n s) = .err 31 4 := by
  unfold fin
  rw [dp tv n h2 s]
  unfold dR
  rw [if_pos h]
  rfl
end Go.Proofs.YtjjblmaljegfjaaGreatDoor
