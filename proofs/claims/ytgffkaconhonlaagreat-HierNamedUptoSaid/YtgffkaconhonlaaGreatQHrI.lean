/-
  Words for memory: a slice of ints reads as a row of numbers; rows of a call's own.
-/
import Derived.Test.YtgffkaconhonlaaGreatQMNa
import Derived.WalkKit
namespace Go.Proofs.YtgffkaconhonlaaGreat
set_option maxRecDepth 20000
open Go.RowKit
def rt (r : List Nat) (v : Nat) : Nat := r.getD v 0
theorem rt_eq (r : List Nat) (v : Nat) : rt r v = r[v]?.getD 0 := by unfold rt; rw [List.getD_eq_getElem?_getD]
def inum (x : Nat) : Value := .int .i64 (x : Int)
structure IRow (w : World) (A : Option Addr) (n : Nat) (l : List Nat) : Prop where
 len : l.length = n
 mem : 0 < n → ∃ b off, A = some ⟨b, off, none⟩ ∧ b < w.heap.size ∧ ∀ j, j < n → w.cell? ⟨b, off + j, none⟩ = some (.int .i64 ((rt l j : Nat) : Int))
theorem IRow.below {w w' : World} {n : Nat} {A : Option Addr} {l : List Nat} (h : IRow w A n l) (hb : Below w.heap.size w w') : IRow w' A n l :=
 ⟨h.len, fun hn => by
  obtain ⟨b, off, e, h1, hc⟩ := h.mem hn
  exact ⟨b, off, e, Nat.lt_of_lt_of_le h1 hb.size, fun j hj => (hb.cell h1).trans (hc j hj)⟩⟩
theorem Tryz.info3 : (Tryz.prog.info? 3).map (fun i => (i.zero, i.size, i.bytes)) = some (some (.int .i64 0), 1, 8) := by kernel_rfl
structure OwnN (w : World) (lo : Nat) (A : Option Addr) (c n : Nat) (l : List Nat) : Prop where
 own : w.ownsRow lo 3 1 (.slice A n c) n (l.map inum)
section
variable {w w' : World} {lo lo' n c : Nat} {A : Option Addr} {l : List Nat}
theorem OwnN.len (h : OwnN w lo A c n l) : l.length = n := by simpa using h.own.1
theorem OwnN.form (h : OwnN w lo A c n l) (hn : 0 < n) : ∃ g, A = some ⟨g, 0, none⟩ ∧ lo ≤ g ∧ g < w.heap.size := by
 obtain ⟨g, cap, hv, hb, hlt⟩ := h.own.form hn
 injection hv with hA
 exact ⟨g, hA, hb, hlt⟩
theorem getD_map_inum (l : List Nat) (j : Nat) (hj : j < l.length) : (l.map inum)[j]? = some (.int .i64 ((rt l j : Nat) : Int)) := by
 simp [inum, rt_eq, hj]
theorem OwnN.row (h : OwnN w lo A c n l) : IRow w A n l := by
 refine ⟨h.len, fun hn => ?_⟩
 obtain ⟨g, rfl, h1, h2⟩ := h.form hn
 refine ⟨g, 0, rfl, h2, fun j hj => ?_⟩
 rw [Nat.zero_add, h.own.cellAt j (by omega)]
 exact getD_map_inum l j (by rw [h.len]; exact hj)
theorem OwnN.cell {g j : Nat} (h : OwnN w lo (some ⟨g, 0, none⟩) c n l) (hj : j < n) : w.cell? ⟨g, j, none⟩ = some (.int .i64 ((rt l j : Nat) : Int)) := by
 rw [h.own.cellAt j (by omega)]
 exact getD_map_inum l j (by rw [h.len]; exact hj)
theorem OwnN.nil_ (w : World) (lo : Nat) : OwnN w lo none 0 0 [] := ⟨World.ownsRow_nil w lo _ 1⟩
theorem OwnN.grown (h : OwnN w lo A c n l) {row : Option Nat} (hg : w.grownBy w' row) (hne : ∀ ad, A = some ad → some ad.block ≠ row) : OwnN w' lo A c n l := by
 refine ⟨h.own.kept hg ?_⟩
 cases A with
 | none => left; rfl
 | some ad => right; exact hne ad rfl
theorem OwnN.below (h : OwnN w lo A c n l) (hb : Below w.heap.size w w') : OwnN w' lo A c n l := h.grown (grown_of_below hb) (fun _ _ => by simp)
theorem OwnN.drew (h : OwnN w lo A c n l) : OwnN w.drew lo A c n l := h.below ⟨rfl, rfl, rfl, Nat.le_refl _, fun _ _ => rfl⟩
theorem OwnN.alloc (h : OwnN w lo A c n l) (o : Obj) : OwnN (w.alloc o) lo A c n l := h.below ((Below.refl _ _).alloc (Nat.le_refl _) o)
theorem OwnN.lower (h : OwnN w lo A c n l) (hl : lo' ≤ lo) : OwnN w lo' A c n l := by
 refine ⟨h.own.1, ?_⟩
 rcases h.own.2 with hn | ⟨g, cap, cur, hv, hb, rest⟩
 · exact .inl hn
 · exact .inr ⟨g, cap, cur, hv, by omega, rest⟩
theorem OwnN.thaw {g : Nat} (h : OwnN w lo (some ⟨g, 0, none⟩) c n l) (j : Nat) : w.frozen? ⟨g, j, none⟩ = false := h.own.frozenAt _
theorem OwnN.lt {g : Nat} (h : OwnN w lo (some ⟨g, 0, none⟩) c n l) : lo ≤ g ∧ g < w.heap.size := h.own.lt g rfl
theorem OwnN.set {g : Nat} (h : OwnN w lo (some ⟨g, 0, none⟩) c n l) (j x : Nat) : OwnN (w.setCell ⟨g, j, none⟩ (.int .i64 (x : Int))) lo (some ⟨g, 0, none⟩) c n (l.set j x) := by
 refine ⟨?_⟩
 have := h.own.stored j (inum x)
 rw [List.map_set]
 exact this.1
theorem set_grown (w : World) (g j : Nat) (x : Value) : w.grownBy (w.setCell ⟨g, j, none⟩ x) (some g) :=
 ⟨rfl, rfl, rfl, by simp [World.setCell], fun k _ hk => heap_setCell_other w ⟨g, j, none⟩ k x (fun e => hk (by simp [e]))⟩
theorem OwnN.made (hg : w'.ownsRow lo 3 1 (.slice A n c) n (madeCells #[.int .i64 0] n).toList) : OwnN w' lo A c n (List.replicate n 0) := by
 refine ⟨?_⟩
 have e : (madeCells #[.int .i64 0] n).toList = (List.replicate n 0).map inum := by
  rw [toList_madeCells_one]; simp [inum]
 rw [← e]; exact hg
end
theorem IRow.src {w : World} {n : Nat} {A : Option Addr} {l : List Nat} (h : IRow w A n l) {ad : Addr} (hA : A = some ad) : ∀ j v, (l.map inum)[j]? = some v → w.cell? (ad.add j) = some v := by
 intro j v hv
 have hj : j < l.length := by
  have := (List.getElem?_eq_some_iff.1 hv).1
  simpa using this
 have hlen := h.len
 obtain ⟨b, off, e, h2, hc⟩ := h.mem (by omega)
 rw [hA] at e
 injection e with e
 subst e
 rw [getD_map_inum l j hj] at hv
 rw [← hv, ← hc j (by omega)]
 congr 1
 unfold Addr.add
 split
 · subst_vars; simp
 · rfl
theorem inum_one (l : List Nat) : ∀ u ∈ l.map inum, u.oneCell' = true := fun v hv => by
 obtain ⟨x, _, rfl⟩ := List.mem_map.1 hv
 rfl
theorem IRow.one {w : World} (x : Nat) : IRow (w.alloc (.cells #[.int .i64 (x : Int)] 3)) (some ⟨w.heap.size, 0, none⟩) 1 [x] :=
 ⟨rfl, fun _ => ⟨w.heap.size, 0, rfl, by simp, fun j hj => by
  have : j = 0 := by omega
  subst this
  rw [World.cell?_alloc_at _ _ _ _ rfl]; rfl⟩⟩
end Go.Proofs.YtgffkaconhonlaaGreat
