/-
  A row of rationals that is read as data, of a bulk that is bounded.
-/
import Derived.Test.YtgffkaconhonlaaGreatVOpenG
import Derived.Test.YtgffkaconhonlaaGreatVPick
namespace Go.Proofs.YtgffkaconhonlaaGreat
set_option maxRecDepth 20000
open Go.Deep Go.Joins Go.ChangeShapes Go.WideShapes Go.ChangeAt Go.RowKit
theorem open_ratN {H : Type} {enc : TypeId × Value → H} {W : World} {cs : List Value} {y : DataW H × List MemPlace} {fuel : Nat} (hf : DataW.trod enc Tryz.prog W 0 (fun _ => true) true fuel 26 cs = some y)
  (hlt : ∀ x ∈ y.2, x.block < W.heap.size) (hb : Rows.uptoBulk y.1 ≤ 1048576) :
  ∃ r : Rv, cs = [.bool r.s, .slice r.A r.n r.c, .slice r.B r.m r.d] ∧ RdR W r ∧ r.n ≤ 1048576 ∧ r.m ≤ 1048576 := by
 have hl : cs.length = 3 := by
  obtain ⟨_, _, _, _, _, hl, _⟩ := trod_struct3 Tryz.underlying26 hf
  rw [hl]; exact Tryz.cells26
 match cs, hl with
 |
  [c0, c1, c2], _ =>
  obtain ⟨r, e1, e2, e3, h⟩ := open_ratU hf hlt hb
  exact ⟨r, by rw [e1, e2, e3], h⟩
end Go.Proofs.YtgffkaconhonlaaGreat
