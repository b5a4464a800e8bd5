/-
  Rows of none told, by the law; what stands in another slice of the same sums.
-/
import Derived.Test.YtjbhhccklfddaaaUHvH
import Derived.Test.YtjbhhccklfddaaaUGnB
import Derived.Test.YtjbhhccklfddaaaURIs13
import Derived.Test.YtjbhhccklfddaaaUDlS
import Derived.Test.YtjbhhccklfddaaaUKnG3
namespace Go.Proofs.Ytjbhhccklfddaaa
set_option maxRecDepth 20000
open Go.RowKit
theorem below_rowZ {w0 w w' : World} {B : Nat} {A : Option Addr} {c n : Nat} {l : List Int} (h : Below B w0 w) (ho : OwnZ w B A c n l) (hg : w.grownBy w' (A.map (·.block))) (hB : B ≤ w.heap.size) : Below B w0 w' := by
 refine h.trans ⟨hg.os, hg.tape, hg.output, hg.size, fun q hq => hg.block q (by omega) ?_⟩
 cases A with
 | none => simp
 |
  some ad =>
  have := (ho.lt' ad rfl).1
  simp; omega
theorem none_row {w : World} (x : Int) : ZRow (w.alloc (.cells #[.int .i64 x] 3)) (some ⟨w.heap.size, 0, none⟩) 1 [x] := ZRow.one x
theorem repl_succ (k : Nat) : List.replicate k (-1 : Int) ++ [-1] = List.replicate (k + 1) (-1) := by
 rw [show [(-1 : Int)] = List.replicate 1 (-1) from rfl, List.replicate_append_replicate]
theorem Sys.s4' {w0 : World} {n : Int} {N m : Nat} {A : Option Addr} {ps : List (Cv × List Tv)} {L : List Int} {o : Nat → Option Nat} (g : May w0 n N ps m L o) (hg : Gns w0 A N ps) : ∀ k, k < N → ssOf ps k ≤ 4 := (g.sys hg).s4
theorem May.settled {w0 : World} {n : Int} {N m : Nat} {A : Option Addr} {ps : List (Cv × List Tv)} {L : List Int} {o o' : Nat → Option Nat} {l : List Nat} (g : May w0 n N ps m L o) (hg : Gns w0 A N ps) (hl : l.Perm (List.range N)) (hs : Stl N (vsOf w0 n.toNat ps) (ssOf ps) l o o') :
  May w0 n N ps N (outsL N o') o' ∧ LexLe (lv N (ssOf ps) o) (lv N (ssOf ps) o') ∧ Stl N (vsOf w0 n.toNat ps) (ssOf ps) l o' o' ∧ ∀ i, i < N → o' i = none → ∀ u ∈ vsOf w0 n.toNat ps i, wk N (vsOf w0 n.toNat ps) (ssOf ps) o' u ≤ ssOf ps i := by
 obtain ⟨h1, h2, h3, h4⟩ := hs.better (g.bridge hg) (Sys.s4' g hg) (fun i hi => List.mem_range.1 (hl.mem_iff.1 hi)) g.cho
 exact ⟨⟨g.n1, g.n64, rfl, g.ok, h1, rfl, g.tree⟩, h2, .done _ h3, fun i hi => h4 i (hl.mem_iff.2 (List.mem_range.2 hi))⟩
end Go.Proofs.Ytjbhhccklfddaaa
