/-
  What a look through an expression sees, said of a plain tree: whether one of some names stands in it, and whether it is linear in them.
-/
import Derived.Test.YtcmkgoikmleanaaRows
namespace Go.Proofs.Ytcmkgoikmleanaa
set_option maxRecDepth 20000

/-- A tree as it comes in: its kind, its name, its kids. -/
inductive Tr where
  | leaf
  | node (k : Int) (s : ByteArray) (n : Nat) (f : Nat → Tr)

/-- One kid more. -/
def stepS (K : Int) (i : Nat) (s k : Bool × Bool) : Bool × Bool := (s.1 || k.1, s.2 && k.2 && !(decide (K = 5) && s.1 && k.1) && !(decide (K = 6) && decide (0 < i) && k.1))
def loopS (K : Int) (f : Nat → Bool × Bool) (s0 : Bool × Bool) : Nat → Bool × Bool
  | 0 => s0
  | i + 1 => stepS K i (loopS K f s0 i) (f i)
def sees (F : ByteArray → Bool) : Tr → Bool × Bool
  | .leaf => (false, true)
  | .node k s n f => loopS k (fun i => sees F (f i)) (decide (k = 2) && F s, true) n

theorem step_mono (K : Int) (i : Nat) (s k s' k' : Bool × Bool) (h1 : s'.1 = true → s.1 = true) (h2 : s.2 = true → s'.2 = true) (h3 : k'.1 = true → k.1 = true) (h4 : k.2 = true → k'.2 = true) :
    ((stepS K i s' k').1 = true → (stepS K i s k).1 = true) ∧ ((stepS K i s k).2 = true → (stepS K i s' k').2 = true) := by
  obtain ⟨a, b⟩ := s
  obtain ⟨c, d⟩ := k
  obtain ⟨a', b'⟩ := s'
  obtain ⟨c', d'⟩ := k'
  unfold stepS
  generalize decide (K = 5) = p
  generalize decide (K = 6) = q
  generalize decide (0 < i) = r
  dsimp only at *
  revert h1 h2 h3 h4
  cases a <;> cases b <;> cases c <;> cases d <;> cases a' <;> cases b' <;> cases c' <;> cases d' <;> simp <;> cases p <;> cases q <;> cases r <;> simp
theorem loop_mono (K : Int) (f f' : Nat → Bool × Bool) (s s' : Bool × Bool) (h1 : s'.1 = true → s.1 = true) (h2 : s.2 = true → s'.2 = true) :
    ∀ n, (∀ i, i < n → ((f' i).1 = true → (f i).1 = true) ∧ ((f i).2 = true → (f' i).2 = true)) →
    ((loopS K f' s' n).1 = true → (loopS K f s n).1 = true) ∧ ((loopS K f s n).2 = true → (loopS K f' s' n).2 = true) := by
  intro n
  induction n with
  | zero => exact fun _ => ⟨h1, h2⟩
  | succ n ih =>
    intro h
    obtain ⟨a, b⟩ := ih (fun i hi => h i (by omega))
    obtain ⟨c, d⟩ := h n (by omega)
    exact step_mono K n _ _ _ _ a b c d
theorem sees_mono (F F' : ByteArray → Bool) (hF : ∀ s, F' s = true → F s = true) : ∀ t, ((sees F' t).1 = true → (sees F t).1 = true) ∧ ((sees F t).2 = true → (sees F' t).2 = true) := by
  intro t
  induction t with
  | leaf => exact ⟨fun h => h, fun h => h⟩
  | node k s n f ih =>
    refine loop_mono k (fun i => sees F (f i)) (fun i => sees F' (f i)) (decide (k = 2) && F s, true) (decide (k = 2) && F' s, true) ?_ (fun h => h) n (fun i _ => ih i)
    intro h
    simp only [Bool.and_eq_true] at h ⊢
    exact ⟨h.1, hF s h.2⟩
theorem loop_none (K : Int) (f : Nat → Bool × Bool) : ∀ n, (∀ i, i < n → f i = (false, true)) → loopS K f (false, true) n = (false, true) := by
  intro n
  induction n with
  | zero => exact fun _ => rfl
  | succ n ih =>
    intro h
    show stepS K n (loopS K f (false, true) n) (f n) = _
    rw [ih (fun i hi => h i (by omega)), h n (by omega)]
    simp [stepS]
theorem sees_none (F : ByteArray → Bool) (hF : ∀ s, F s = false) : ∀ t, sees F t = (false, true) := by
  intro t
  induction t with
  | leaf => rfl
  | node k s n f ih =>
    show loopS k _ (decide (k = 2) && F s, true) n = _
    rw [hF s, Bool.and_false]
    exact loop_none k _ n (fun i _ => ih i)
/-- A difference is linear just if both sides are. -/
theorem loop_sub (f : Nat → Bool × Bool) (s0 : Bool) : (loopS 4 f (s0, true) 2).2 = ((f 0).2 && (f 1).2) := by
  simp [loopS, stepS]
end Go.Proofs.Ytcmkgoikmleanaa
