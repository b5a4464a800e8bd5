/-
  Words for memory: a slice of ints reads as a row of numbers; rows of a call's own.
-/
import Derived.Test.YtkfkjdpkkagjgaaMNa
import Derived.Test.YtkfkjdpkkagjgaaGph
namespace Go.Proofs.Ytkfkjdpkkagjgaa
set_option maxRecDepth 20000
open Go.RowKit

/-- An int as the memory holds it. -/
def inum (x : Nat) : Value := .int .i64 (x : Int)
/-- The slice of address A, n long, reads as l. -/
structure IRow (w : World) (A : Option Addr) (n : Nat) (l : List Nat) : Prop where
  len : l.length = n
  mem : 0 < n → ∃ b off, A = some ⟨b, off, none⟩ ∧ b < w.heap.size ∧ ∀ j, j < n → w.cell? ⟨b, off + j, none⟩ = some (.int .i64 ((rt l j : Nat) : Int))
theorem IRow.below {w w' : World} {n : Nat} {A : Option Addr} {l : List Nat} (h : IRow w A n l) (hb : Below w.heap.size w w') : IRow w' A n l :=
  ⟨h.len, fun hn => by
    obtain ⟨b, off, e, h1, hc⟩ := h.mem hn
    exact ⟨b, off, e, Nat.lt_of_lt_of_le h1 hb.size, fun j hj => (hb.cell h1).trans (hc j hj)⟩⟩
theorem Try.info3 : (Try.prog.info? 3).map (fun i => (i.zero, i.size, i.bytes)) = some (some (.int .i64 0), 1, 8) := by kernel_rfl
theorem Try.size3 : (Try.prog.info? 3).map (·.size) = some 1 := by kernel_rfl
/-- The call's own row, from block lo on: it reads as l and may be written. -/
structure OwnN (w : World) (lo : Nat) (A : Option Addr) (c n : Nat) (l : List Nat) : Prop where
  own : w.ownsRow lo 3 1 (.slice A n c) n (l.map inum)
section
variable {w w' : World} {lo lo' n c : Nat} {A : Option Addr} {l : List Nat}
theorem OwnN.len (h : OwnN w lo A c n l) : l.length = n := by simpa using h.own.1
theorem OwnN.form (h : OwnN w lo A c n l) (hn : 0 < n) : ∃ g, A = some ⟨g, 0, none⟩ ∧ lo ≤ g ∧ g < w.heap.size := by
  obtain ⟨g, cap, hv, hb, hlt⟩ := h.own.form hn
  injection hv with hA
  exact ⟨g, hA, hb, hlt⟩
theorem OwnN.capLe (h : OwnN w lo A c n l) : n ≤ c := by
  rcases h.own.2 with ⟨hv, hn⟩ | ⟨g, cap, cur, hv, _, _, hc, _⟩
  · omega
  · injection hv with _ _ hc2; omega
theorem getD_map_inum (l : List Nat) (j : Nat) (hj : j < l.length) : (l.map inum)[j]? = some (.int .i64 ((rt l j : Nat) : Int)) := by
  simp [inum, rt_eq, hj]
theorem OwnN.row (h : OwnN w lo A c n l) : IRow w A n l := by
  refine ⟨h.len, fun hn => ?_⟩
  obtain ⟨g, rfl, h1, h2⟩ := h.form hn
  refine ⟨g, 0, rfl, h2, fun j hj => ?_⟩
  rw [Nat.zero_add, h.own.cellAt j (by omega)]
  exact getD_map_inum l j (by rw [h.len]; exact hj)
theorem OwnN.cell {g j : Nat} (h : OwnN w lo (some ⟨g, 0, none⟩) c n l) (hj : j < n) : w.cell? ⟨g, j, none⟩ = some (.int .i64 ((rt l j : Nat) : Int)) := by
  rw [h.own.cellAt j (by omega)]
  exact getD_map_inum l j (by rw [h.len]; exact hj)
theorem OwnN.nil_ (w : World) (lo : Nat) : OwnN w lo none 0 0 [] := ⟨World.ownsRow_nil w lo _ 1⟩
theorem OwnN.grown (h : OwnN w lo A c n l) {row : Option Nat} (hg : w.grownBy w' row) (hne : ∀ ad, A = some ad → some ad.block ≠ row) : OwnN w' lo A c n l := by
  refine ⟨h.own.kept hg ?_⟩
  cases A with
  | none => left; rfl
  | some ad => right; exact hne ad rfl
theorem OwnN.below (h : OwnN w lo A c n l) (hb : Below w.heap.size w w') : OwnN w' lo A c n l := h.grown (grown_of_below hb) (fun _ _ => by simp)
theorem OwnN.drew (h : OwnN w lo A c n l) : OwnN w.drew lo A c n l := h.below ⟨rfl, rfl, rfl, Nat.le_refl _, fun _ _ => rfl⟩
theorem OwnN.alloc (h : OwnN w lo A c n l) (o : Obj) : OwnN (w.alloc o) lo A c n l := h.below ((Below.refl _ _).alloc (Nat.le_refl _) o)
theorem OwnN.lower (h : OwnN w lo A c n l) (hl : lo' ≤ lo) : OwnN w lo' A c n l := by
  refine ⟨h.own.1, ?_⟩
  rcases h.own.2 with hn | ⟨g, cap, cur, hv, hb, rest⟩
  · exact .inl hn
  · exact .inr ⟨g, cap, cur, hv, by omega, rest⟩
theorem OwnN.thaw {g : Nat} (h : OwnN w lo (some ⟨g, 0, none⟩) c n l) (j : Nat) : w.frozen? ⟨g, j, none⟩ = false := h.own.frozenAt _
theorem OwnN.lt {g : Nat} (h : OwnN w lo (some ⟨g, 0, none⟩) c n l) : lo ≤ g ∧ g < w.heap.size := h.own.lt g rfl
theorem OwnN.set {g : Nat} (h : OwnN w lo (some ⟨g, 0, none⟩) c n l) (j x : Nat) : OwnN (w.setCell ⟨g, j, none⟩ (.int .i64 (x : Int))) lo (some ⟨g, 0, none⟩) c n (l.set j x) := by
  refine ⟨?_⟩
  have := h.own.stored j (inum x)
  rw [List.map_set]
  exact this.1
theorem set_grown (w : World) (g j : Nat) (x : Value) : w.grownBy (w.setCell ⟨g, j, none⟩ x) (some g) :=
  ⟨rfl, rfl, rfl, by simp [World.setCell], fun k _ hk => heap_setCell_other w ⟨g, j, none⟩ k x (fun e => hk (by simp [e]))⟩
theorem OwnN.made (hg : w'.ownsRow lo 3 1 (.slice A n c) n (madeCells #[.int .i64 0] n).toList) : OwnN w' lo A c n (List.replicate n 0) := by
  refine ⟨?_⟩
  have e : (madeCells #[.int .i64 0] n).toList = (List.replicate n 0).map inum := by
    rw [toList_madeCells_one]; simp [inum]
  rw [← e]; exact hg
end
theorem IRow.src {w : World} {n : Nat} {A : Option Addr} {l : List Nat} (h : IRow w A n l) {ad : Addr} (hA : A = some ad) : ∀ j v, (l.map inum)[j]? = some v → w.cell? (ad.add j) = some v := by
  intro j v hv
  have hj : j < l.length := by
    have := (List.getElem?_eq_some_iff.1 hv).1
    simpa using this
  have hlen := h.len
  obtain ⟨b, off, e, h2, hc⟩ := h.mem (by omega)
  rw [hA] at e
  injection e with e
  subst e
  rw [getD_map_inum l j hj] at hv
  rw [← hv, ← hc j (by omega)]
  congr 1
  unfold Addr.add
  split
  · subst_vars; simp
  · rfl
theorem inum_one (l : List Nat) : ∀ u ∈ l.map inum, u.oneCell' = true := fun v hv => by
  obtain ⟨x, _, rfl⟩ := List.mem_map.1 hv
  rfl
/-- append of a row of ints onto a row of the call's own. -/
theorem wpn_append {w : World} {ops : Array Oper} {rest : List Oper} {o : Oper} {a : Act} {Q : Exit → Act → World → Prop} (hgd : o.guard = none) (s x : Operand)
    (ho : o.op = .call { callee := .builtin .append, args := #[s, x], argTypes := #[36, 36] })
    {A : Option Addr} {ad : Addr} {lo n m c c' : Nat} {l k : List Nat} (hs : a.eval s = .slice A n c) (hx : a.eval x = .slice (some ad) m c')
    (h1 : OwnN w lo A c n l) (h2 : IRow w (some ad) m k) (hm : n + m ≤ 2000000) (hlo : lo ≤ w.heap.size)
    (h : ∀ A2 c2 w', OwnN w' lo A2 c2 (n + m) (l ++ k) → w.grownBy w' (A.map (·.block)) → wpList Try.prog ops Q rest (a.put o.dst (.slice A2 (n + m) c2)) w') :
    wpList Try.prog ops Q (o :: rest) a w := by
  obtain ⟨i0, hi, hz0, hz1, hz2⟩ := info_parts Try.info3
  have hk := h2.len
  have hlen := h1.len
  have eb : (Value.slice A n c).ownBlock = A.map (·.block) := by cases A <;> rfl
  refine wpList_append_own w hgd s x _ ho lo 3 i0 (.int .i64 0) 1 8 Try.underlying36 hi hz0 hz1 hz2 rfl (by omega) _ n _ hs h1.own ad m c' (k.map inum) hx (by simp [hk]) (h2.src rfl) (inum_one k) (by unfold maxLen; omega) (by omega) hlo ?_
  intro v' w' ho' hg' _
  rw [eb] at hg'
  have ho2 := ho'
  rw [← List.map_append] at ho2
  rcases ho'.2 with ⟨rfl, h0⟩ | ⟨g, cap, cur, rfl, _⟩
  · have e : n + m = 0 := h0
    have hh := h none 0 w' ⟨by rw [e] at ho2 ⊢; exact ho2⟩ hg'
    rw [e] at hh; exact hh
  · exact h _ _ w' ⟨ho2⟩ hg'
theorem IRow.one {w : World} (x : Nat) : IRow (w.alloc (.cells #[.int .i64 (x : Int)] 3)) (some ⟨w.heap.size, 0, none⟩) 1 [x] :=
  ⟨rfl, fun _ => ⟨w.heap.size, 0, rfl, by simp, fun j hj => by
    have : j = 0 := by omega
    subst this
    rw [World.cell?_alloc_at _ _ _ _ rfl]; rfl⟩⟩
end Go.Proofs.Ytkfkjdpkkagjgaa
