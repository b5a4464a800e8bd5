/-
  DeltaWalks: how strong each variable is.
-/
import Derived.Test.YtjbhhccklfddaaaUNones
import Derived.Test.YtjbhhccklfddaaaUBRow
namespace Go.Proofs.Ytjbhhccklfddaaa
set_option maxRecDepth 20000
open Go.RowKit
theorem May.turn {w w' : World} {n : Int} {N m : Nat} {A : Option Addr} {ps : List (Cv × List Tv)} {L : List Int} {o : Nat → Option Nat} (g : May w n N ps m L o) (hg : Gns w A N ps) (hb : Below w.heap.size w w') : May w' n N ps m L o := by
 have hc : ∀ N, csOf w' N ps = csOf w N ps := fun N => csOf_turn hg.each hb
 have hv : ∀ N, vsOf w' N ps = vsOf w N ps := fun N => by funext i; unfold vsOf; rw [hc]
 exact ⟨g.n1, g.n64, g.len, fun x hx => ((hg.each x hx).turn hb n).1 (g.ok x hx), by rw [hv]; exact g.cho, g.outs, by rw [hc]; exact g.tree⟩
end Go.Proofs.Ytjbhhccklfddaaa
