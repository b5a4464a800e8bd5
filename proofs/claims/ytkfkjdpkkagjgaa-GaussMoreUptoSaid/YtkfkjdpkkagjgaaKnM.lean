/-
  Two sums of two variables, in numbers.
-/
import Derived.Test.YtkfkjdpkkagjgaaGsI
namespace Go.Proofs.Ytkfkjdpkkagjgaa
set_option maxRecDepth 20000
open Go.RowKit

/-- The two sums' rows. -/
def fa2 : Nat → Rat := fn 2 [((0 : Int), ((1 : Int) : Rat)), ((1 : Int), ((1 : Int) : Rat))] ((-3 : Int) : Rat)
def fb2 : Nat → Rat := fn 2 [((0 : Int), ((1 : Int) : Rat)), ((1 : Int), ((-1 : Int) : Rat))] ((-1 : Int) : Rat)
theorem fa2_0 : fa2 0 = 1 := by decide +kernel
theorem fa2_1 : fa2 1 = 1 := by decide +kernel
theorem fa2_2 : fa2 2 = -3 := by decide +kernel
theorem fb2_0 : fb2 0 = 1 := by decide +kernel
theorem fb2_1 : fb2 1 = -1 := by decide +kernel
theorem fb2_2 : fb2 2 = -1 := by decide +kernel
theorem dot_two (f x : Nat → Rat) : dot 2 f x = 0 + f 0 * x 0 + f 1 * x 1 + f 2 := rfl
theorem known_sat (x : Nat → Rat) : Sat 2 [fa2, fb2] x ↔ x 0 = 2 ∧ x 1 = 1 := by
  constructor
  · intro h
    have h1 := h fa2 (by simp)
    have h2 := h fb2 (by simp)
    rw [dot_two, fa2_0, fa2_1, fa2_2] at h1
    rw [dot_two, fb2_0, fb2_1, fb2_2] at h2
    constructor <;> grind
  · rintro ⟨h1, h2⟩ f hf
    rw [dot_two, h1, h2]
    rcases List.mem_cons.1 hf with rfl | hf
    · rw [fa2_0, fa2_1, fa2_2]; decide +kernel
    · rw [List.mem_singleton.1 hf, fb2_0, fb2_1, fb2_2]; decide +kernel
theorem known_basis : Basis 2 [fa2, fb2, fa2] [fa2, fb2] := by
  have hm : ∀ (S : List (Nat → Rat)) (f : Nat → Rat), f ∈ S → Sp 2 S f := fun S f hf => Sp.mem hf
  refine ⟨fun u hu i hi => ?_, fun r hr => hm _ _ ?_, fun s hs => hm _ _ ?_⟩
  · have h0 : 0 + u 0 * fa2 0 + u 1 * fb2 0 = 0 := hu 0 (by omega)
    have h1 : 0 + u 0 * fa2 1 + u 1 * fb2 1 = 0 := hu 1 (by omega)
    rw [fa2_0, fb2_0] at h0
    rw [fa2_1, fb2_1] at h1
    have hi2 : i < 2 := hi
    have : i = 0 ∨ i = 1 := by omega
    rcases this with rfl | rfl <;> grind
  · rcases List.mem_cons.1 hr with rfl | hr
    · simp
    · rw [List.mem_singleton.1 hr]; simp
  · rcases List.mem_cons.1 hs with rfl | hs
    · simp
    · rcases List.mem_cons.1 hs with rfl | hs
      · simp
      · rw [List.mem_singleton.1 hs]; simp
theorem known_rank {R : List (Nat → Rat)} (h : Basis 2 [fa2, fb2, fa2] R) : R.length = 2 :=
  h.same known_basis (fun _ hs => Sp.mem hs) (fun _ hs => Sp.mem hs)
end Go.Proofs.Ytkfkjdpkkagjgaa
