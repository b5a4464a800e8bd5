/-
  No cell of these rows narrows 'for every input' (looked for: loops, veiled, ifaces, maps, wideKeys, modest, calm, conditions, laid).
  DERIVED. THE GIVEN ROWS OF THIS SEAT. 6 by the template 'for every input the law returns true; each argument reads behind the call as it read before'; 0 by the template 'total and deterministic' (their statements: YtkfkjdpkkagjgaaTotals.lean).
  GIVEN WITH THE SEED: the statements are not yours to turn. If you find one false, say at which input.
  Laid BY PROGRAM, IN A SANDBOX (cutbox-rows.mjs): the forced cells as the released guide's own fill.sh prints them over the translation 289b9537078267ba… (all of the seat's roots in one cut). By AI agents, Wed Nov 11 2026. No macro, syntax, notation, axiom, sorry.
-/
import Derived.Test.YtkfkjdpkkagjgaaChecked
import GoSem.Claim
import GoSem.ClaimJoined
import GoSem.ClaimMapViews
import Derived.JoinedTies
import Derived.KernelRfl
namespace Go.Proofs.Ytkfkjdpkkagjgaa
/- THE CELL 'sum', in the pinned program and in every row, IS THE sha256 OF THE DUMP (.gsa) THAT YtkfkjdpkkagjgaaProg.lean LOADS. Nothing in Lean hashes anything: it is a label: what it is worth is what the hold of that sum in a sandbox is worth. -/
noncomputable def Try.pinned : Pinned := { name := "ytkfkjdpkkagjgaa", sum := "289b9537078267ba840be7bac890f85452bbd8bda2c81d1c98b5ab21cfbd6840", checked := Try.checked }
namespace Rows
def none {H : Type} : Left H := { results := [], args := [] }

/-- 'pantographlaw10.GaussMore': WHATEVER THE INPUT: true; the input reads as it did. -/
def gaussMoreSpec : ChangeSpec := { name := "gaussMore", fn := fun _ => fun
  | [d1, d2, d3] => { results := [.lit (.bool true)], args := [d1, d2, d3] }
  | _ => none }
def gaussMoreRow : OpenClaim := { program := "ytkfkjdpkkagjgaa", sum := "289b9537078267ba840be7bac890f85452bbd8bda2c81d1c98b5ab21cfbd6840", func := "pantograph/pantographlaw10.GaussMore", spec := "gaussMore", unfollowed := true, recurses := true, named := ["math/bits.overflowError"], apart := false }
def GaussMoreSaid : Prop := gaussMoreRow.holds Try.pinned (OpenSpec.ofChange gaussMoreSpec)

/-- ITS FALSE NEIGHBOUR: 'it returns false'. Refute it at one input. -/
def gaussMoreWrong : ChangeSpec := { name := "gaussMore", fn := fun _ => fun
  | [d1, d2, d3] => { results := [.lit (.bool false)], args := [d1, d2, d3] }
  | _ => none }
def GaussMoreWrongFalsely : Prop := gaussMoreRow.holds Try.pinned (OpenSpec.ofChange gaussMoreWrong)

/-- 'pantographlaw11.GraphTells': WHATEVER THE INPUT: true; the input reads as it did. -/
def graphTellsSpec : ChangeSpec := { name := "graphTells", fn := fun _ => fun
  | [d1, d2] => { results := [.lit (.bool true)], args := [d1, d2] }
  | _ => none }
def graphTellsRow : OpenClaim := { program := "ytkfkjdpkkagjgaa", sum := "289b9537078267ba840be7bac890f85452bbd8bda2c81d1c98b5ab21cfbd6840", func := "pantograph/pantographlaw11.GraphTells", spec := "graphTells", named := ["math/bits.overflowError"], apart := false }
def GraphTellsSaid : Prop := graphTellsRow.holds Try.pinned (OpenSpec.ofChange graphTellsSpec)

/-- ITS FALSE NEIGHBOUR: 'it returns false'. Refute it at one input. -/
def graphTellsWrong : ChangeSpec := { name := "graphTells", fn := fun _ => fun
  | [d1, d2] => { results := [.lit (.bool false)], args := [d1, d2] }
  | _ => none }
def GraphTellsWrongFalsely : Prop := graphTellsRow.holds Try.pinned (OpenSpec.ofChange graphTellsWrong)

/-- 'pantographlaw11.GraphTurns': WHATEVER THE INPUT: true; the input reads as it did. -/
def graphTurnsSpec : ChangeSpec := { name := "graphTurns", fn := fun _ => fun
  | [d1, d2] => { results := [.lit (.bool true)], args := [d1, d2] }
  | _ => none }
def graphTurnsRow : OpenClaim := { program := "ytkfkjdpkkagjgaa", sum := "289b9537078267ba840be7bac890f85452bbd8bda2c81d1c98b5ab21cfbd6840", func := "pantograph/pantographlaw11.GraphTurns", spec := "graphTurns", named := ["math/bits.overflowError"], apart := false }
def GraphTurnsSaid : Prop := graphTurnsRow.holds Try.pinned (OpenSpec.ofChange graphTurnsSpec)

/-- ITS FALSE NEIGHBOUR: 'it returns false'. Refute it at one input. -/
def graphTurnsWrong : ChangeSpec := { name := "graphTurns", fn := fun _ => fun
  | [d1, d2] => { results := [.lit (.bool false)], args := [d1, d2] }
  | _ => none }
def GraphTurnsWrongFalsely : Prop := graphTurnsRow.holds Try.pinned (OpenSpec.ofChange graphTurnsWrong)

/-- 'pantographlaw11.GraphCounts': WHATEVER THE INPUT: true; the input reads as it did. -/
def graphCountsSpec : ChangeSpec := { name := "graphCounts", fn := fun _ => fun
  | [d1, d2] => { results := [.lit (.bool true)], args := [d1, d2] }
  | _ => none }
def graphCountsRow : OpenClaim := { program := "ytkfkjdpkkagjgaa", sum := "289b9537078267ba840be7bac890f85452bbd8bda2c81d1c98b5ab21cfbd6840", func := "pantograph/pantographlaw11.GraphCounts", spec := "graphCounts", named := ["math/bits.overflowError"], apart := false }
def GraphCountsSaid : Prop := graphCountsRow.holds Try.pinned (OpenSpec.ofChange graphCountsSpec)

/-- ITS FALSE NEIGHBOUR: 'it returns false'. Refute it at one input. -/
def graphCountsWrong : ChangeSpec := { name := "graphCounts", fn := fun _ => fun
  | [d1, d2] => { results := [.lit (.bool false)], args := [d1, d2] }
  | _ => none }
def GraphCountsWrongFalsely : Prop := graphCountsRow.holds Try.pinned (OpenSpec.ofChange graphCountsWrong)

/-- 'pantographlaw11.GraphRings': WHATEVER THE INPUT: true; the input reads as it did. -/
def graphRingsSpec : ChangeSpec := { name := "graphRings", fn := fun _ => fun
  | [d] => { results := [.lit (.bool true)], args := [d] }
  | _ => none }
def graphRingsRow : OpenClaim := { program := "ytkfkjdpkkagjgaa", sum := "289b9537078267ba840be7bac890f85452bbd8bda2c81d1c98b5ab21cfbd6840", func := "pantograph/pantographlaw11.GraphRings", spec := "graphRings", named := ["math/bits.overflowError"], apart := false }
def GraphRingsSaid : Prop := graphRingsRow.holds Try.pinned (OpenSpec.ofChange graphRingsSpec)

/-- ITS FALSE NEIGHBOUR: 'it returns false'. Refute it at one input. -/
def graphRingsWrong : ChangeSpec := { name := "graphRings", fn := fun _ => fun
  | [d] => { results := [.lit (.bool false)], args := [d] }
  | _ => none }
def GraphRingsWrongFalsely : Prop := graphRingsRow.holds Try.pinned (OpenSpec.ofChange graphRingsWrong)

/-- 'pantographlaw11.GraphFewer': WHATEVER THE INPUT: true; the input reads as it did. -/
def graphFewerSpec : ChangeSpec := { name := "graphFewer", fn := fun _ => fun
  | [d1, d2, d3, d4] => { results := [.lit (.bool true)], args := [d1, d2, d3, d4] }
  | _ => none }
def graphFewerRow : OpenClaim := { program := "ytkfkjdpkkagjgaa", sum := "289b9537078267ba840be7bac890f85452bbd8bda2c81d1c98b5ab21cfbd6840", func := "pantograph/pantographlaw11.GraphFewer", spec := "graphFewer", named := ["math/bits.overflowError"], apart := false }
def GraphFewerSaid : Prop := graphFewerRow.holds Try.pinned (OpenSpec.ofChange graphFewerSpec)

/-- ITS FALSE NEIGHBOUR: 'it returns false'. Refute it at one input. -/
def graphFewerWrong : ChangeSpec := { name := "graphFewer", fn := fun _ => fun
  | [d1, d2, d3, d4] => { results := [.lit (.bool false)], args := [d1, d2, d3, d4] }
  | _ => none }
def GraphFewerWrongFalsely : Prop := graphFewerRow.holds Try.pinned (OpenSpec.ofChange graphFewerWrong)

/- THE SECOND FORM. 'bulk': how many values and letters a reading holds, each counted each time it is reached (what is shared counts as often as it is met; a slice's spare places count too). A statement '..UptoSaid' is the law's where the arguments, and the package variables that the reading takes, are together of bulk at most 1048576: NARROWER than '..Said'. Prove '..Said' where nothing that the law and all that it calls make is longer than what came in: it says more and counts as full. Else prove '..UptoSaid'. A law counts once. -/
mutual
def uptoBulk {H : Type} : DataW H → Nat
  | .lit (.string bytes) => bytes.length + 1
  | .lit _ => 1
  | .nil => 1
  | .ptr d => uptoBulk d + 1
  | .slice elems spare => uptoBulkAll elems + uptoBulkAll spare + 1
  | .agg parts => uptoBulkAll parts + 1
  | .iface _ d => uptoBulk d + 1
  | .map entries => uptoBulkEntries entries + 1
  | .held _ => 1
def uptoBulkAll {H : Type} : List (DataW H) → Nat
  | [] => 0
  | d :: r => uptoBulk d + uptoBulkAll r
def uptoBulkEntries {H : Type} : List (Lit × DataW H) → Nat
  | [] => 0
  | x :: r => uptoBulkEntry x + uptoBulkEntries r
def uptoBulkEntry {H : Type} : Lit × DataW H → Nat
  | (.string bytes, d) => bytes.length + uptoBulk d + 1
  | (_, d) => uptoBulk d + 1
 end
def uptoSmall : (H : Type) → List (DataW H) → Bool := fun _ ds => decide (uptoBulkAll ds ≤ 1048576)
def OpenSpec.upto (s : _root_.Go.ChangeSpec) : _root_.Go.OpenSpec := { _root_.Go.OpenSpec.ofChange s with cond := some uptoSmall }

/-- 'pantographlaw10.GaussMore', WHERE WHAT IT READS IS OF BULK AT MOST 1048576: true; the input reads as it did. -/
def gaussMoreUptoRow : OpenClaim := { program := "ytkfkjdpkkagjgaa", sum := "289b9537078267ba840be7bac890f85452bbd8bda2c81d1c98b5ab21cfbd6840", func := "pantograph/pantographlaw10.GaussMore", spec := "gaussMore", unfollowed := true, recurses := true, named := ["math/bits.overflowError"], apart := false, narrowed := true }
def GaussMoreUptoSaid : Prop := gaussMoreUptoRow.holds Try.pinned (OpenSpec.upto gaussMoreSpec)

/-- 'pantographlaw11.GraphTells', WHERE WHAT IT READS IS OF BULK AT MOST 1048576: true; the input reads as it did. -/
def graphTellsUptoRow : OpenClaim := { program := "ytkfkjdpkkagjgaa", sum := "289b9537078267ba840be7bac890f85452bbd8bda2c81d1c98b5ab21cfbd6840", func := "pantograph/pantographlaw11.GraphTells", spec := "graphTells", named := ["math/bits.overflowError"], apart := false, narrowed := true }
def GraphTellsUptoSaid : Prop := graphTellsUptoRow.holds Try.pinned (OpenSpec.upto graphTellsSpec)

/-- 'pantographlaw11.GraphTurns', WHERE WHAT IT READS IS OF BULK AT MOST 1048576: true; the input reads as it did. -/
def graphTurnsUptoRow : OpenClaim := { program := "ytkfkjdpkkagjgaa", sum := "289b9537078267ba840be7bac890f85452bbd8bda2c81d1c98b5ab21cfbd6840", func := "pantograph/pantographlaw11.GraphTurns", spec := "graphTurns", named := ["math/bits.overflowError"], apart := false, narrowed := true }
def GraphTurnsUptoSaid : Prop := graphTurnsUptoRow.holds Try.pinned (OpenSpec.upto graphTurnsSpec)

/-- 'pantographlaw11.GraphCounts', WHERE WHAT IT READS IS OF BULK AT MOST 1048576: true; the input reads as it did. -/
def graphCountsUptoRow : OpenClaim := { program := "ytkfkjdpkkagjgaa", sum := "289b9537078267ba840be7bac890f85452bbd8bda2c81d1c98b5ab21cfbd6840", func := "pantograph/pantographlaw11.GraphCounts", spec := "graphCounts", named := ["math/bits.overflowError"], apart := false, narrowed := true }
def GraphCountsUptoSaid : Prop := graphCountsUptoRow.holds Try.pinned (OpenSpec.upto graphCountsSpec)

/-- 'pantographlaw11.GraphRings', WHERE WHAT IT READS IS OF BULK AT MOST 1048576: true; the input reads as it did. -/
def graphRingsUptoRow : OpenClaim := { program := "ytkfkjdpkkagjgaa", sum := "289b9537078267ba840be7bac890f85452bbd8bda2c81d1c98b5ab21cfbd6840", func := "pantograph/pantographlaw11.GraphRings", spec := "graphRings", named := ["math/bits.overflowError"], apart := false, narrowed := true }
def GraphRingsUptoSaid : Prop := graphRingsUptoRow.holds Try.pinned (OpenSpec.upto graphRingsSpec)

/-- 'pantographlaw11.GraphFewer', WHERE WHAT IT READS IS OF BULK AT MOST 1048576: true; the input reads as it did. -/
def graphFewerUptoRow : OpenClaim := { program := "ytkfkjdpkkagjgaa", sum := "289b9537078267ba840be7bac890f85452bbd8bda2c81d1c98b5ab21cfbd6840", func := "pantograph/pantographlaw11.GraphFewer", spec := "graphFewer", named := ["math/bits.overflowError"], apart := false, narrowed := true }
def GraphFewerUptoSaid : Prop := graphFewerUptoRow.holds Try.pinned (OpenSpec.upto graphFewerSpec)

end Rows
end Go.Proofs.Ytkfkjdpkkagjgaa
