/-
  Whether sums are more than is looked at.
-/
import Derived.Test.YtkfkjdpkkagjgaaGreatMAa
import Derived.BigQuiet
namespace Go.Proofs.YtkfkjdpkkagjgaaGreat
set_option maxRecDepth 20000
open Go.RowKit
def costK (l : List Tv) : Nat → Nat
 | 0 => 0
 | k + 1 => costK l k + (match l[k]? with | some x => 1 + x.r.n + x.r.m | none => 0)
theorem costK_succ {l : List Tv} {k : Nat} {x : Tv} (h : l[k]? = some x) : costK l (k + 1) = costK l k + (1 + x.r.n + x.r.m) := by
 rw [costK, h]
theorem costK_mono (l : List Tv) {i j : Nat} (h : i ≤ j) : costK l i ≤ costK l j := by
 induction j with
 | zero => rw [show i = 0 by omega]; exact Nat.le_refl _
 |
  succ j ih =>
  by_cases e : i = j + 1
  · rw [e]; exact Nat.le_refl _
  · exact Nat.le_trans (ih (by omega)) (by rw [costK]; omega)
theorem costK_le (l : List Tv) (B : Nat) (hB : ∀ x ∈ l, x.r.n ≤ B ∧ x.r.m ≤ B) (k : Nat) : costK l k ≤ k * (1 + 2 * B) := by
 induction k with
 | zero => exact Nat.zero_le _
 |
  succ k ih =>
  rw [costK, Nat.succ_mul]
  cases hx : l[k]? with
  | none => show _ + 0 ≤ _; omega
  |
   some x =>
   have := hB x (List.mem_of_getElem? hx)
   show _ + (1 + x.r.n + x.r.m) ≤ _
   omega
def cost (v : Cv) (l : List Tv) : Nat := 2 + v.K.n + v.K.m + costK l v.n
theorem cost_get {v : Cv} {l : List Tv} {i : Nat} {x : Tv} (hl : l.length = v.n) (h : l[i]? = some x) : x.r.n ≤ cost v l ∧ x.r.m ≤ cost v l := by
 have hi := (List.getElem?_eq_some_iff.1 h).1
 have h1 := costK_mono l (show i + 1 ≤ v.n by omega)
 rw [costK_succ h] at h1
 unfold cost
 omega
theorem costK_len (l : List Tv) : ∀ k, k ≤ l.length → k ≤ costK l k
 | 0, _ => Nat.zero_le _
 |
  k + 1, h => by
  have := costK_len l k (by omega)
  rw [costK_succ (List.getElem?_eq_getElem (by omega))]
  omega
structure Fit (w : World) (v : Cv) (l : List Tv) : Prop where
 row : Tms w 0 v.A v.n l
 n : v.n ≤ 1048576
 kn : v.K.n ≤ 1048576
 km : v.K.m ≤ 1048576
 cap : v.n ≤ v.c
 each : ∀ x ∈ l, x.r.n ≤ 1048576 ∧ x.r.m ≤ 1048576
def HPost (S : Nat) (w : World) (e : Ending) (w' : World) : Prop := ∃ r : Bool, e = .returned (.bool r) ∧ (r = false → S ≤ 150) ∧ Below w.heap.size w w'
end Go.Proofs.YtkfkjdpkkagjgaaGreat
