/-
  Rows of bools of a call's own.
-/
import Derived.Test.YtjbhhccklfddaaaVGrA
namespace Go.Proofs.Ytjbhhccklfddaaa
set_option maxRecDepth 20000
open Go.RowKit
structure OwnB (w : World) (lo : Nat) (A : Option Addr) (c n : Nat) (l : List Bool) : Prop where
 own : w.ownsRow lo 4 1 (.slice A n c) n (l.map Value.bool)
theorem Try.infob4 : (Try.prog.info? 4).map (fun i => (i.zero, i.size, i.bytes)) = some (some (.bool false), 1, 1) := by kernel_rfl
section
variable {w w' : World} {lo n c : Nat} {A : Option Addr} {l : List Bool}
theorem OwnB.len (h : OwnB w lo A c n l) : l.length = n := by simpa using h.own.1
theorem OwnB.cell {g j : Nat} {b : Bool} (h : OwnB w lo (some ⟨g, 0, none⟩) c n l) (hj : j < n) (hb : l[j]? = some b) : w.cell? ⟨g, j, none⟩ = some (.bool b) := by
 rw [h.own.cellAt j (by omega), List.getElem?_map, hb]; rfl
theorem OwnB.thaw {g : Nat} (h : OwnB w lo (some ⟨g, 0, none⟩) c n l) (j : Nat) : w.frozen? ⟨g, j, none⟩ = false := h.own.frozenAt _
theorem OwnB.lt {g : Nat} (h : OwnB w lo (some ⟨g, 0, none⟩) c n l) : lo ≤ g ∧ g < w.heap.size := h.own.lt g rfl
theorem OwnB.set {g : Nat} (h : OwnB w lo (some ⟨g, 0, none⟩) c n l) (j : Nat) (x : Bool) : OwnB (w.setCell ⟨g, j, none⟩ (.bool x)) lo (some ⟨g, 0, none⟩) c n (l.set j x) := by
 refine ⟨?_⟩
 have := h.own.stored j (.bool x)
 rw [List.map_set]
 exact this.1
theorem OwnB.grown (h : OwnB w lo A c n l) {row : Option Nat} (hg : w.grownBy w' row) (hne : ∀ ad, A = some ad → some ad.block ≠ row) : OwnB w' lo A c n l := by
 refine ⟨h.own.kept hg ?_⟩
 cases A with
 | none => left; rfl
 | some ad => right; exact hne ad rfl
theorem OwnB.below (h : OwnB w lo A c n l) (hb : Below w.heap.size w w') : OwnB w' lo A c n l := h.grown (grown_of_below hb) (fun _ _ => by simp)
theorem OwnB.made (hg : w'.ownsRow lo 4 1 (.slice A n c) n (madeCells #[.bool false] n).toList) : OwnB w' lo A c n (List.replicate n false) := by
 refine ⟨?_⟩
 have e : (madeCells #[.bool false] n).toList = (List.replicate n false).map Value.bool := by
  rw [toList_madeCells_one]; simp
 rw [← e]; exact hg
end
end Go.Proofs.Ytjbhhccklfddaaa
