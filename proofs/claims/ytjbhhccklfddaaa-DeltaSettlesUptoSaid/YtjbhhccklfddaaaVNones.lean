/-
  Rows of none told, by the law; what stands in another slice of the same sums.
-/
import Derived.Test.YtjbhhccklfddaaaVHvH
import Derived.Test.YtjbhhccklfddaaaVGnB
import Derived.Test.YtjbhhccklfddaaaVRIs13
import Derived.Test.YtjbhhccklfddaaaVDlS
import Derived.Test.YtjbhhccklfddaaaVKnG3
namespace Go.Proofs.Ytjbhhccklfddaaa
set_option maxRecDepth 20000
open Go.RowKit
theorem below_rowZ {w0 w w' : World} {B : Nat} {A : Option Addr} {c n : Nat} {l : List Int} (h : Below B w0 w) (ho : OwnZ w B A c n l) (hg : w.grownBy w' (A.map (·.block))) (hB : B ≤ w.heap.size) : Below B w0 w' := by
 refine h.trans ⟨hg.os, hg.tape, hg.output, hg.size, fun q hq => hg.block q (by omega) ?_⟩
 cases A with
 | none => simp
 |
  some ad =>
  have := (ho.lt' ad rfl).1
  simp; omega
theorem none_row {w : World} (x : Int) : ZRow (w.alloc (.cells #[.int .i64 x] 3)) (some ⟨w.heap.size, 0, none⟩) 1 [x] := ZRow.one x
theorem Sys.s4' {w0 : World} {n : Int} {N m : Nat} {A : Option Addr} {ps : List (Cv × List Tv)} {L : List Int} {o : Nat → Option Nat} (g : May w0 n N ps m L o) (hg : Gns w0 A N ps) : ∀ k, k < N → ssOf ps k ≤ 4 := (g.sys hg).s4
theorem order_uniq {s : Nat → Nat} : ∀ {l k : List Nat}, l.Perm k → l.Pairwise (SR s) → k.Pairwise (SR s) → l = k
 | [], k, h, _, _ => by rw [List.nil_perm.1 h]
 | x :: l, [], h, _, _ => absurd h.length_eq (by simp)
 |
  x :: l, y :: k, h, h1, h2 => by
  have hxy : x = y := by
   have hx : x ∈ y :: k := h.mem_iff.1 List.mem_cons_self
   have hy : y ∈ x :: l := h.mem_iff.2 List.mem_cons_self
   rcases List.mem_cons.1 hx with e | hx
   · exact e
   ·
    rcases List.mem_cons.1 hy with e | hy
    · exact e.symm
    ·
     have a1 := (List.pairwise_cons.1 h1).1 y hy
     have a2 := (List.pairwise_cons.1 h2).1 x hx
     unfold SR at a1 a2
     omega
  subst hxy
  rw [order_uniq (List.Perm.cons_inv h) (List.pairwise_cons.1 h1).2 (List.pairwise_cons.1 h2).2]
end Go.Proofs.Ytjbhhccklfddaaa
