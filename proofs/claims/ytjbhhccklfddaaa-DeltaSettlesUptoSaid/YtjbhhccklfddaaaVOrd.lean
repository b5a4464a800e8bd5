/-
  The document's order: strength by strength; no program.
-/
import Derived.Test.YtjbhhccklfddaaaVNones
namespace Go.Proofs.Ytjbhhccklfddaaa
set_option maxRecDepth 20000
def ordK (s : Nat → Nat) (l : List Nat) : Nat → List Nat
 | 0 => []
 | K + 1 => ordK s l K ++ l.filter fun i => s i == K
theorem ordK_mem {s : Nat → Nat} {l : List Nat} : ∀ {K a}, a ∈ ordK s l K → a ∈ l ∧ s a < K
 | 0, _, h => by simp [ordK] at h
 |
  K + 1, a, h => by
  rcases List.mem_append.1 h with h | h
  · have := ordK_mem h; exact ⟨this.1, by omega⟩
  ·
   have := List.mem_filter.1 h
   have e : s a = K := by simpa using this.2
   exact ⟨this.1, by omega⟩
theorem ordK_perm (s : Nat → Nat) (l : List Nat) : ∀ K, (ordK s l K).Perm (l.filter fun i => decide (s i < K))
 |
  0 => by
  have : (l.filter fun i => decide (s i < 0)) = [] := List.filter_eq_nil_iff.2 fun a _ => by simp
  rw [this]; exact List.Perm.refl _
 |
  K + 1 => by
  have ih := ordK_perm s l K
  have h := List.filter_append_perm (fun i => decide (s i < K)) (l.filter fun i => decide (s i < K + 1))
  rw [List.filter_filter, List.filter_filter] at h
  have e1 : (l.filter fun a => decide (s a < K) && decide (s a < K + 1)) = l.filter fun i => decide (s i < K) := List.filter_congr fun a _ => by
   by_cases q : s a < K <;> simp [q]; omega
  have e2 : (l.filter fun a => !decide (s a < K) && decide (s a < K + 1)) = l.filter fun i => s i == K := List.filter_congr fun a _ => by
   by_cases q : s a = K
   · simp [q]
   ·
    by_cases q2 : s a < K
    · simp [q, q2]
    ·
     have : ¬ s a < K + 1 := by omega
     simp [q, this]
  rw [e1, e2] at h
  exact (List.Perm.append_right _ ih).trans h
theorem ordK_pair (s : Nat → Nat) {l : List Nat} (hl : l.Pairwise (· < ·)) : ∀ K, (ordK s l K).Pairwise (SR s)
 | 0 => List.Pairwise.nil
 |
  K + 1 => by
  refine List.pairwise_append.2 ⟨ordK_pair s hl K, ?_, fun a ha b hb => ?_⟩
  ·
   have h := hl.filter (fun i => s i == K)
   refine List.Pairwise.imp_of_mem (fun {a b} ha hb hab => ?_) h
   have h1 := (List.mem_filter.1 ha).2
   have h2 := (List.mem_filter.1 hb).2
   right
   have e1 : s a = K := by simpa using h1
   have e2 : s b = K := by simpa using h2
   exact ⟨by omega, hab⟩
  ·
   left
   have h1 := (ordK_mem ha).2
   have h2 := (List.mem_filter.1 hb).2
   have e2 : s b = K := by simpa using h2
   omega
theorem ord_perm {s : Nat → Nat} {N : Nat} (h4 : ∀ k, k < N → s k ≤ 4) : (ordK s (List.range N) 5).Perm (List.range N) := by
 have h := ordK_perm s (List.range N) 5
 have e : ((List.range N).filter fun i => decide (s i < 5)) = List.range N := List.filter_eq_self.2 fun a ha => by
  have := h4 a (List.mem_range.1 ha)
  simp; omega
 rw [e] at h; exact h
theorem ord_pair (s : Nat → Nat) (N : Nat) : (ordK s (List.range N) 5).Pairwise (SR s) := ordK_pair s List.pairwise_lt_range 5
def segK (s : Nat → Nat) (K i : Nat) : List Nat := (List.range i).filter fun a => s a == K
theorem segK_yes {s : Nat → Nat} {K i : Nat} (h : s i = K) : segK s K (i + 1) = segK s K i ++ [i] := by
 unfold segK; rw [List.range_succ, List.filter_append]; simp [h]
theorem segK_no {s : Nat → Nat} {K i : Nat} (h : s i ≠ K) : segK s K (i + 1) = segK s K i := by
 unfold segK; rw [List.range_succ, List.filter_append]; simp [h]
theorem Rnd.app {N : Nat} {vs : Nat → List Nat} {s : Nat → Nat} {l1 l2 : List Nat} {o o1 o2 : Nat → Option Nat} (h : Rnd N vs s l1 o o1) (g : Rnd N vs s l2 o1 o2) : Rnd N vs s (l1 ++ l2) o o2 := by
 induction h with
 | nil o => exact g
 | skip i l o o' h1 _ ih => exact .skip _ _ _ _ h1 (ih g)
 | one i l o oo o' h1 h2 _ ih => exact .one _ _ _ _ _ h1 h2 (ih g)
end Go.Proofs.Ytjbhhccklfddaaa
