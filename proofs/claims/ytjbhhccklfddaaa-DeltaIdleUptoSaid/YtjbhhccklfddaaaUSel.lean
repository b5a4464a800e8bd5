/-
  What is left of a choice without those that tell none; no program.
-/
import Derived.Test.YtjbhhccklfddaaaUDlO
namespace Go.Proofs.Ytjbhhccklfddaaa
set_option maxRecDepth 20000
open Go.RowKit
def selQ (ps : List (Cv × List Tv)) (o : Nat → Option Nat) : Nat → List (Cv × List Tv)
 | 0 => []
 |
  k + 1 => match o k, ps[k]? with
  | some _, some x => selQ ps o k ++ [x]
  | _, _ => selQ ps o k
def selO (o : Nat → Option Nat) : Nat → List Nat
 | 0 => []
 |
  k + 1 => match o k with
  | some u => selO o k ++ [u]
  | none => selO o k
section
variable {ps : List (Cv × List Tv)} {o : Nat → Option Nat}
theorem selQ_some {k u : Nat} {x : Cv × List Tv} (h : o k = some u) (hx : ps[k]? = some x) : selQ ps o (k + 1) = selQ ps o k ++ [x] := by rw [selQ, h, hx]
theorem selQ_none {k : Nat} (h : o k = none) : selQ ps o (k + 1) = selQ ps o k := by rw [selQ, h]
theorem selO_some {k u : Nat} (h : o k = some u) : selO o (k + 1) = selO o k ++ [u] := by rw [selO, h]
theorem selO_none {k : Nat} (h : o k = none) : selO o (k + 1) = selO o k := by rw [selO, h]
theorem sel_len : ∀ k, k ≤ ps.length → (selQ ps o k).length = (selO o k).length
 | 0, _ => rfl
 |
  k + 1, h => by
  have ih := sel_len k (by omega)
  have hx : ps[k]? = some ps[k] := List.getElem?_eq_getElem (by omega)
  cases ho : o k with
  | none => rw [selQ_none ho, selO_none ho, ih]
  | some u => rw [selQ_some ho hx, selO_some ho, List.length_append, List.length_append, ih]; rfl
theorem selO_le : ∀ k, (selO o k).length ≤ k
 | 0 => Nat.le_refl _
 |
  k + 1 => by
  have ih := selO_le k
  cases ho : o k with
  | none => rw [selO_none ho]; omega
  | some u => rw [selO_some ho, List.length_append]; show _ + 1 ≤ _; omega
theorem selQ_sub : ∀ k, k ≤ ps.length → (selQ ps o k).Sublist (ps.take k)
 | 0, _ => by rw [List.take_zero]; exact List.Sublist.slnil
 |
  k + 1, h => by
  have ih := selQ_sub k (by omega)
  have hx : ps[k]? = some ps[k] := List.getElem?_eq_getElem (by omega)
  have e : ps.take (k + 1) = ps.take k ++ [ps[k]] := by rw [List.take_add_one, hx]; rfl
  rw [e]
  cases ho : o k with
  | none => rw [selQ_none ho]; exact ih.trans (List.sublist_append_left _ _)
  | some u => rw [selQ_some ho hx]; exact List.Sublist.append ih (List.Sublist.refl _)
theorem sel_at : ∀ k, k ≤ ps.length → ∀ (j : Nat) (x : Cv × List Tv) (u : Nat), (selQ ps o k)[j]? = some x → (selO o k)[j]? = some u → ∃ i, i < k ∧ ps[i]? = some x ∧ o i = some u
 | 0, _, _, _, _, h, _ => by simp [selQ] at h
 |
  k + 1, hk, j, x, u, h1, h2 => by
  have hx : ps[k]? = some ps[k] := List.getElem?_eq_getElem (by omega)
  have hl := sel_len (ps := ps) (o := o) k (by omega)
  cases ho : o k with
  |
   none =>
   rw [selQ_none ho] at h1
   rw [selO_none ho] at h2
   obtain ⟨i, hi, g⟩ := sel_at k (by omega) j x u h1 h2
   exact ⟨i, by omega, g⟩
  |
   some v =>
   rw [selQ_some ho hx] at h1
   rw [selO_some ho] at h2
   by_cases l : j < (selO o k).length
   ·
    rw [List.getElem?_append_left (by omega)] at h1
    rw [List.getElem?_append_left l] at h2
    obtain ⟨i, hi, g⟩ := sel_at k (by omega) j x u h1 h2
    exact ⟨i, by omega, g⟩
   ·
    rw [List.getElem?_append_right (by omega)] at h1 h2
    have e1 : j - (selO o k).length = 0 := by
     have := (List.getElem?_eq_some_iff.1 h2).1
     simp at this
     omega
    rw [hl, e1] at h1
    rw [e1] at h2
    injection h1 with h1
    injection h2 with h2
    exact ⟨k, by omega, by rw [hx, h1], by rw [ho, h2]⟩
theorem selO_mem : ∀ k u, u ∈ selO o k → ∃ i, i < k ∧ o i = some u
 | 0, _, h => by simp [selO] at h
 |
  k + 1, u, h => by
  cases ho : o k with
  |
   none =>
   rw [selO_none ho] at h
   obtain ⟨i, hi, g⟩ := selO_mem k u h
   exact ⟨i, by omega, g⟩
  |
   some v =>
   rw [selO_some ho] at h
   rcases List.mem_append.1 h with h | h
   ·
    obtain ⟨i, hi, g⟩ := selO_mem k u h
    exact ⟨i, by omega, g⟩
   · rw [List.mem_singleton.1 h]; exact ⟨k, by omega, ho⟩
theorem selO_nodup {N : Nat} (hi : ∀ i j v, i < N → j < N → o i = some v → o j = some v → i = j) : ∀ k, k ≤ N → (selO o k).Nodup
 | 0, _ => List.nodup_nil
 |
  k + 1, h => by
  have ih := selO_nodup hi k (by omega)
  cases ho : o k with
  | none => rw [selO_none ho]; exact ih
  |
   some v =>
   rw [selO_some ho]
   refine List.nodup_append.2 ⟨ih, List.nodup_cons.2 ⟨List.not_mem_nil, List.nodup_nil⟩, ?_⟩
   intro a ha b hb e
   rw [List.mem_singleton.1 hb] at e
   rw [e] at ha
   obtain ⟨i, hi2, g⟩ := selO_mem k v ha
   have := hi i k v (by omega) (by omega) g ho
   omega
end
theorem failN_sub {M : Nat} {a b : List (List Nat)} (hb : bnd M b) (h : a.Sublist b) (h0 : failN M b = 0) : failN M a = 0 := by
 obtain ⟨l, hp⟩ := h.exists_perm_append
 have h1 := fail_perm hb hp
 have h2 : failN M (a ++ l) = failN M a + failL (runN M a) l := failL_app _ _ _
 omega
theorem May.sel {w : World} {n : Int} {N m : Nat} {ps : List (Cv × List Tv)} {L : List Int} {o : Nat → Option Nat} (g : May w n N ps m L o) (hl : ps.length = N) :
  May w n (selO o N).length (selQ ps o N) (selO o N).length ((selO o N).map fun (u : Nat) => (u : Int)) fun j => (selO o N)[j]? := by
 have hs := sel_len (ps := ps) (o := o) N (by omega)
 have hsub := selQ_sub (ps := ps) (o := o) N (by omega)
 refine ⟨g.n1, g.n64, rfl, fun x hx => g.ok x (List.mem_of_mem_take (hsub.subset hx)), ⟨fun i v hi hv => ?_, fun i j v hi hj h1 h2 => ?_, fun i hi => List.getElem?_eq_none hi⟩, ?_, ?_⟩
 ·
  have hx : (selQ ps o N)[i]? = some (selQ ps o N)[i] := List.getElem?_eq_getElem (by omega)
  obtain ⟨k, hk, hx2, ho⟩ := sel_at N (by omega) i _ v hx hv
  have := g.cho.mem k v hk ho
  rw [vsOf_get hx2] at this
  rw [vsOf_get hx]; exact this
 ·
  have hn := selO_nodup (o := o) (N := N) g.cho.inj N (Nat.le_refl _)
  exact (List.getElem?_inj hi hn).1 (h1.trans h2.symm)
 ·
  apply List.ext_getElem?
  intro j
  unfold outsL
  rw [List.getElem?_map, List.getElem?_map]
  by_cases l : j < (selO o N).length
  ·
   rw [List.getElem?_range l, List.getElem?_eq_getElem l]
   show some _ = some (oi (selO o N)[j]?)
   rw [List.getElem?_eq_getElem l]; rfl
  · rw [List.getElem?_eq_none (by omega), List.getElem?_eq_none (by simp; omega)]; rfl
 ·
  refine failN_sub (csOf_bnd w n.toNat ps) ?_ g.tree
  exact (hsub.trans (List.take_sublist _ _)).map _
end Go.Proofs.Ytjbhhccklfddaaa
