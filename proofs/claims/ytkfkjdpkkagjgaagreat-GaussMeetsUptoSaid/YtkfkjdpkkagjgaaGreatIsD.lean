/-
  Sums that may be: their numbers are normal, their variables rise.
-/
import Derived.Test.YtkfkjdpkkagjgaaGreatMAa
import Derived.Test.YtkfkjdpkkagjgaaGreatLookD
import Derived.Test.YtkfkjdpkkagjgaaGreatMRb
import Derived.Deep.RegionHeld3
import Derived.Sort.AtCall
import Derived.BigQuiet
namespace Go.Proofs.YtkfkjdpkkagjgaaGreat
set_option maxRecDepth 20000
open Go.RowKit
theorem Row.det {w : World} {lo lo' n : Nat} {A : Option Addr} {l l' : List Nat} (h : Row w lo A n l) (h' : Row w lo' A n l') : l = l' := by
 apply List.ext_getElem (by rw [h.len, h'.len])
 intro i h1 h2
 have hi : i < n := by rw [← h.len]; exact h1
 obtain ⟨b, off, e, _, _, hc⟩ := h.mem (by omega)
 obtain ⟨b', off', e', _, _, hc'⟩ := h'.mem (by omega)
 rw [e] at e'
 injection e' with e'
 injection e' with e1 e2 _
 subst e1 e2
 have g := (hc i hi).symm.trans (hc' i hi)
 injection g with g
 injection g with _ g
 have g2 : dg l i = dg l' i := by omega
 rw [dg_eq, dg_eq, List.getElem?_eq_getElem h1, List.getElem?_eq_getElem h2] at g2
 exact g2
def Nrm (w : World) (v : Rv) : Prop := ∃ a b, Row w 0 v.A v.n a ∧ Row w 0 v.B v.m b ∧ IsN v.s a b
theorem Nrm.iff {w w' : World} {v : Rv} {r : Rat} {p : Nat} (hv : Rw w v r p) (hb : Below w.heap.size w w') : Nrm w v ↔ Nrm w' v := by
 obtain ⟨_, _, _, _, a, b, ha, hb', _⟩ := hv
 constructor
 ·
  rintro ⟨a', b', h1, h2, h3⟩
  exact ⟨a', b', h1.below hb, h2.below hb, h3⟩
 ·
  rintro ⟨a', b', h1, h2, h3⟩
  have e1 := (ha.below hb).det h1
  have e2 := (hb'.below hb).det h2
  subst e1 e2
  exact ⟨_, _, ha, hb', h3⟩
def TOk (w : World) (N : Int) (l : List Tv) (i : Nat) : Prop := ∀ j x, j < i → l[j]? = some x → 0 ≤ x.v ∧ x.v < N ∧ (∀ y, 0 < j → l[j - 1]? = some y → y.v < x.v) ∧ Nrm w x.r ∧ x.r.n ≠ 0
def IsS (w : World) (v : Cv) (l : List Tv) (N : Int) : Prop := (0 ≤ v.s ∧ v.s ≤ 4) ∧ Nrm w v.K ∧ TOk w N l l.length
theorem TOk.step {w : World} {N : Int} {l : List Tv} {i : Nat} {x : Tv} (h : TOk w N l i) (hx : l[i]? = some x) (h1 : 0 ≤ x.v) (h2 : x.v < N) (h3 : ∀ y, 0 < i → l[i - 1]? = some y → y.v < x.v) (h4 : Nrm w x.r) (h5 : x.r.n ≠ 0) : TOk w N l (i + 1) := by
 intro j y hj hy
 by_cases e : j = i
 ·
  subst e
  rw [hx] at hy
  injection hy with hy
  subst hy
  exact ⟨h1, h2, h3, h4, h5⟩
 · exact h j y (by omega) hy
end Go.Proofs.YtkfkjdpkkagjgaaGreat
