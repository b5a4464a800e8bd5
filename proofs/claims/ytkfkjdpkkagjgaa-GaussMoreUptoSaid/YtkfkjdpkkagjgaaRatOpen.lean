/-
  A row's arguments opened: a struct of a sign and two slices of uint32 that is read as data reads as a rational.
-/
import Derived.Test.YtkfkjdpkkagjgaaOpen
import Derived.Test.YtkfkjdpkkagjgaaMRa
import Derived.Lib.SmallJoins
import Derived.SizedLaws
namespace Go.Proofs.Ytkfkjdpkkagjgaa
set_option maxRecDepth 20000
open Go.Joins Go.ChangeShapes Go.WideShapes Go.ChangeAt Go.RowKit

theorem Try.cells26 : Try.prog.cellsOf 26 = 3 := by kernel_rfl
theorem Try.bytes73 : Try.prog.bytesOf 73 = 4 := by kernel_rfl

theorem open_limbs {H : Type} {enc : TypeId × Value → H} {W : World} {v : Value} {y : DataW H × List MemPlace} {fuel : Nat} (hf : DataW.trod enc Try.prog W 0 (fun _ => true) true fuel 24 [v] = some y)
    (hlt : ∀ x ∈ y.2, x.block < W.heap.size) (hsz : ∀ n ∈ y.1.weights Try.prog 24, n ≤ reachBytes) :
    ∃ A n c l, v = .slice A n c ∧ n ≤ c ∧ c ≤ 100000000000000 ∧ Row W 0 A n l := by
  rcases open_ints Try.underlying24 Try.underlying73 Try.cells73 hf with ⟨hcs, hx⟩ | ⟨a, len', cap', zs, hcs, _, hl, hm, hz, hx, hcell, hwz⟩
  · simp at hcs
    subst hcs
    exact ⟨none, 0, 0, [], rfl, Nat.le_refl _, by omega, Row.nil_ _ _ _⟩
  · simp at hcs
    subst hcs
    subst hx
    simp only [if_true] at hz
    have hr : ∀ z ∈ zs, 0 ≤ z ∧ z < 4294967296 := by
      intro z hz
      have := hwz z hz
      simp only [Lit.wf, Bool.and_eq_true, decide_eq_true_eq] at this
      have h1 : IntKind.u32.min = 0 := rfl
      have h2 : IntKind.u32.max = 4294967295 := rfl
      omega
    have hcap : cap' ≤ 100000000000000 := by
      have h1 := hsz ((lits (H := H) IntKind.u32 (List.take len' zs)).length * 4 + (lits (H := H) IntKind.u32 (List.drop len' zs)).length * 4) (by
        simp [DataW.weights, Try.underlying24, Try.bytes73, Nat.add_mul])
      have h2 : reachBytes < 2 ^ 47 := reachBytes_lt
      simp [lits] at h1
      omega
    have hlen : (zs.take len').length = len' := by simp; omega
    refine ⟨some a, len', cap', (zs.take len').map Int.toNat, rfl, hl, hcap, by simp; omega, ?_, ?_⟩
    · intro i
      rw [dg_eq, List.getElem?_map]
      cases hq : (zs.take len')[i]? with
      | none => simp
      | some z =>
        have hmem : z ∈ zs := List.mem_of_mem_take (List.mem_of_getElem? hq)
        have := hr z hmem
        simp; omega
    · intro hn
      obtain ⟨b, off, spot⟩ := a
      have hspot : spot = none := by simpa [Addr.add] using World.cell?_spot (hcell 0 (by omega))
      subst hspot
      have hbW : b < W.heap.size := hlt (.cell b off) (MemPlace.mem_row.2 ⟨0, by omega, by simp⟩)
      refine ⟨b, off, rfl, Nat.zero_le _, hbW, fun j hj => ?_⟩
      rw [← add_plain, hcell j (by omega), dg_map zs len' j (by omega)]
      have hj2 : j < zs.length := by omega
      have : zs.getD j 0 = zs[j] := by simp [List.getD, hj2]
      rw [this]
      exact (hr _ (List.getElem_mem hj2)).1

theorem open_rat {H : Type} {enc : TypeId × Value → H} {W : World} {v : Value} {d : DataW H} {p : List MemPlace} (h0 : DataW.Trod enc Try.prog W 0 (fun _ => true) true 26 v d p)
    {base : Nat} (hval : Value.okWide Try.prog W .any base 26 v) (hlt : ∀ x ∈ p, x.block < W.heap.size) (hsz : ∀ n ∈ d.weights Try.prog 26, n ≤ reachBytes) :
    ∃ rv : Rv, v = .agg #[.bool rv.s, .slice rv.A rv.n rv.c, .slice rv.B rv.m rv.d] ∧ rv.n ≤ rv.c ∧ rv.m ≤ rv.d ∧ rv.n ≤ 100000000000000 ∧ rv.m ≤ 100000000000000 ∧ ∃ a b, Row W 0 rv.A rv.n a ∧ Row W 0 rv.B rv.m b := by
  obtain ⟨v0, v1, v2, y0, y1, y2, n, rfl, rfl, rfl, t0, t1, t2⟩ := open_agg3 Try.underlying26 (by kernel_rfl) Try.cells26 hval h0
  obtain ⟨s, hs, _⟩ := DataW.trod_bool Try.underlying4 t0
  simp at hs
  subst hs
  have hw : ∀ k, k ∈ y1.1.weights Try.prog 24 ∨ k ∈ y2.1.weights Try.prog 24 → k ≤ reachBytes := by
    intro k hk
    refine hsz k ?_
    simp only [DataW.weights, Try.underlying26, DataW.weightsEach, List.map, List.mem_append]
    rcases hk with h | h
    · exact .inr (.inl h)
    · exact .inr (.inr (.inl h))
  obtain ⟨A, n1, c1, a, rfl, e1, e2, ra⟩ := open_limbs t1 (fun x hx => hlt x (by simp [hx])) (fun k hk => hw k (.inl hk))
  obtain ⟨B, m1, d1, b, rfl, g1, g2, rb⟩ := open_limbs t2 (fun x hx => hlt x (by simp [hx])) (fun k hk => hw k (.inr hk))
  exact ⟨⟨s, A, n1, c1, B, m1, d1⟩, rfl, e1, g1, by show n1 ≤ _; omega, by show m1 ≤ _; omega, a, b, ra, rb⟩
end Go.Proofs.Ytkfkjdpkkagjgaa
