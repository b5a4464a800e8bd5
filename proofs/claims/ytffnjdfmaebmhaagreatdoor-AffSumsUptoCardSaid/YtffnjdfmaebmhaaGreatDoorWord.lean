/-
  Words for memory: a slice of uint32 reads as a row of limbs; what keeps that.
-/
import Derived.Test.YtffnjdfmaebmhaaGreatDoorNum
import Derived.Test.YtffnjdfmaebmhaaGreatDoorRows
import Derived.WalkKit
import Derived.WalkSpells
import Derived.WalkLawsBesides
import Derived.Lib.Hide
import Derived.Deep.AppendLies
import Derived.Deep.Draws
import Derived.Maps.AppendAt
import Derived.RegionTactic
import Derived.Laws.CopyOwn
import Derived.BigQuiet
import Derived.Deep.QuietTactic
import Derived.ChangeAlike
import Derived.StillTailTactics
import Derived.Deep.RegionWith
import Derived.Deep.DeepCutAuto
namespace Go.Proofs.YtffnjdfmaebmhaaGreatDoor
set_option maxRecDepth 20000
open Go.RowKit

/-- A limb as the memory holds it. -/
def limb (x : Nat) : Value := .int .u32 (x : Int)

/-- The slice of address A, n long, reads as l; its block is not below lo. -/
structure Row (w : World) (lo : Nat) (A : Option Addr) (n : Nat) (l : List Nat) : Prop where
  len : l.length = n
  l32 : L32 l
  mem : 0 < n → ∃ b off, A = some ⟨b, off, none⟩ ∧ lo ≤ b ∧ b < w.heap.size ∧ ∀ j, j < n → w.cell? ⟨b, off + j, none⟩ = some (.int .u32 ((dg l j : Nat) : Int))

section
variable {w w' : World} {lo lo' n : Nat} {A : Option Addr} {l : List Nat}
theorem Row.nil_ (w : World) (lo : Nat) (A : Option Addr) : Row w lo A 0 [] := ⟨rfl, L32.nil, fun h => absurd h (by omega)⟩
theorem Row.keep (h : Row w lo A n l) (hz : w.heap.size ≤ w'.heap.size) (hk : ∀ p : Addr, lo ≤ p.block → p.block < w.heap.size → w'.cell? p = w.cell? p) : Row w' lo A n l :=
  ⟨h.len, h.l32, fun hn => by
    obtain ⟨b, off, e, h1, h2, hc⟩ := h.mem hn
    exact ⟨b, off, e, h1, by omega, fun j hj => (hk _ h1 h2).trans (hc j hj)⟩⟩
theorem Row.below (h : Row w lo A n l) (hb : Below w.heap.size w w') : Row w' lo A n l := h.keep hb.size fun _ _ hp => hb.cell hp
theorem Row.same (h : Row w lo A n l) (e : w'.heap = w.heap) : Row w' lo A n l := h.keep (by rw [e]; exact Nat.le_refl _) fun p _ _ => World.cell?_of_block (by rw [e])
theorem Row.drew (h : Row w lo A n l) : Row w.drew lo A n l := h.keep (Nat.le_refl _) fun _ _ _ => rfl
theorem Row.drewN (h : Row w lo A n l) (k : Nat) : Row (w.drewN k) lo A n l := h.keep (Nat.le_refl _) fun _ _ _ => rfl
theorem Row.alloc (h : Row w lo A n l) (o : Obj) : Row (w.alloc o) lo A n l :=
  h.keep (by simp) fun p _ hp => World.cell?_alloc_lt w o p hp
theorem Row.lower (h : Row w lo A n l) (hl : lo' ≤ lo) : Row w lo' A n l :=
  ⟨h.len, h.l32, fun hn => by
    obtain ⟨b, off, e, h1, h2, hc⟩ := h.mem hn
    exact ⟨b, off, e, by omega, h2, hc⟩⟩
theorem Row.take (h : Row w lo A n l) {k : Nat} (hk : k ≤ n) : Row w lo A k (l.take k) := by
  refine ⟨by rw [List.length_take, h.len]; omega, h.l32.take k, fun h0 => ?_⟩
  obtain ⟨b, off, e, h1, h2, hc⟩ := h.mem (by omega)
  refine ⟨b, off, e, h1, h2, fun j hj => ?_⟩
  rw [hc j (by omega)]
  simp [dg_eq, hj]
theorem Row.drop {b off : Nat} (h : Row w lo (some ⟨b, off, none⟩) n l) {k : Nat} (hk : k ≤ n) : Row w lo (some ⟨b, off + k, none⟩) (n - k) (l.drop k) := by
  refine ⟨by rw [List.length_drop, h.len], h.l32.drop k, fun h0 => ?_⟩
  obtain ⟨b', off', e, h1, h2, hc⟩ := h.mem (by omega)
  injection e with e
  injection e with e1 e2
  subst e1 e2
  refine ⟨b, off + k, rfl, h1, h2, fun j hj => ?_⟩
  rw [Nat.add_assoc, hc (k + j) (by omega), dg_eq, dg_eq, List.getElem?_drop]
theorem Row.lim (h : Row w lo A n l) : Row w lo A (lim (val l)).length (lim (val l)) := by
  have h1 := h.take (k := (Go.Proofs.YtffnjdfmaebmhaaGreatDoor.lim (val l)).length) (by rw [← h.len]; exact lim_len_le h.l32)
  rwa [← lim_take h.l32] at h1
/-- A store into another block. -/
theorem Row.set (h : Row w lo A n l) {p : Addr} (u : Value) (hp : ∀ ad, A = some ad → ad.block ≠ p.block) : Row (w.setCell p u) lo A n l :=
  ⟨h.len, h.l32, fun hn => by
    obtain ⟨b, off, e, h1, h2, hc⟩ := h.mem hn
    refine ⟨b, off, e, h1, by simpa using h2, fun j hj => ?_⟩
    rw [World.cell?_setCell_other w p _ u (fun eq => hp _ e (by rw [eq]))]
    exact hc j hj⟩
end

theorem Tryz.info74 : (Tryz.prog.info? 74).map (fun i => (i.zero, i.size, i.bytes)) = some (some (.int .u32 0), 1, 4) := by kernel_rfl
theorem Tryz.size74 : (Tryz.prog.info? 74).map (·.size) = some 1 := by kernel_rfl

/-- The call's own row, from block lo on: it reads as l and may be written. -/
structure Own (w : World) (lo : Nat) (A : Option Addr) (c n : Nat) (l : List Nat) : Prop where
  l32 : L32 l
  own : w.ownsRow lo 74 1 (.slice A n c) n (l.map limb)

section
variable {w w' : World} {lo lo' n c : Nat} {A : Option Addr} {l : List Nat}
theorem Own.len (h : Own w lo A c n l) : l.length = n := by simpa using h.own.1
theorem Own.form (h : Own w lo A c n l) (hn : 0 < n) : ∃ g, A = some ⟨g, 0, none⟩ ∧ lo ≤ g ∧ g < w.heap.size := by
  obtain ⟨g, cap, hv, hb, hlt⟩ := h.own.form hn
  injection hv with hA
  exact ⟨g, hA, hb, hlt⟩
theorem Own.capLe (h : Own w lo A c n l) : n ≤ c := by
  rcases h.own.2 with ⟨hv, hn⟩ | ⟨g, cap, cur, hv, _, _, hc, _⟩
  · omega
  · injection hv with _ _ hc2; omega
theorem getD_map_limb (l : List Nat) (j : Nat) (hj : j < l.length) : (l.map limb)[j]? = some (.int .u32 ((dg l j : Nat) : Int)) := by
  simp [limb, dg_eq, hj]
theorem Own.row (h : Own w lo A c n l) : Row w lo A n l := by
  refine ⟨h.len, h.l32, fun hn => ?_⟩
  obtain ⟨g, rfl, h1, h2⟩ := h.form hn
  refine ⟨g, 0, rfl, h1, h2, fun j hj => ?_⟩
  rw [Nat.zero_add, h.own.cellAt j (by omega)]
  exact getD_map_limb l j (by rw [h.len]; exact hj)
theorem Own.nil_ (w : World) (lo : Nat) : Own w lo none 0 0 [] := ⟨L32.nil, World.ownsRow_nil w lo _ 1⟩
theorem Own.grown (h : Own w lo A c n l) {row : Option Nat} (hg : w.grownBy w' row) (hne : ∀ ad, A = some ad → some ad.block ≠ row) : Own w' lo A c n l := by
  refine ⟨h.l32, h.own.kept hg ?_⟩
  cases A with
  | none => left; rfl
  | some ad => right; exact hne ad rfl
theorem grown_of_below (hb : Below w.heap.size w w') : w.grownBy w' none := ⟨hb.os, hb.tape, hb.output, hb.size, fun k hk _ => hb.block k hk⟩
theorem below_of_grown (hg : w.grownBy w' none) : Below w.heap.size w w' := ⟨hg.os, hg.tape, hg.output, hg.size, fun k hk => hg.block k hk (by simp)⟩
theorem below_of_grown_row {B g : Nat} (hg : w.grownBy w' (some g)) (hB : B ≤ g) (hs : B ≤ w.heap.size) : Below B w w' :=
  ⟨hg.os, hg.tape, hg.output, hg.size, fun k hk => hg.block k (by omega) (by simp; omega)⟩
theorem Own.below (h : Own w lo A c n l) (hb : Below w.heap.size w w') : Own w' lo A c n l := h.grown (grown_of_below hb) (fun _ _ => by simp)
theorem Own.drew (h : Own w lo A c n l) : Own w.drew lo A c n l := h.below ⟨rfl, rfl, rfl, Nat.le_refl _, fun _ _ => rfl⟩
theorem Own.alloc (h : Own w lo A c n l) (o : Obj) : Own (w.alloc o) lo A c n l := h.below ((Below.refl _ _).alloc (Nat.le_refl _) o)
theorem Own.lower (h : Own w lo A c n l) (hl : lo' ≤ lo) : Own w lo' A c n l := by
  refine ⟨h.l32, h.own.1, ?_⟩
  rcases h.own.2 with hn | ⟨g, cap, cur, hv, hb, rest⟩
  · exact .inl hn
  · exact .inr ⟨g, cap, cur, hv, by omega, rest⟩
theorem Own.take (h : Own w lo A c n l) {k : Nat} (hk : k ≤ n) : Own w lo A c k (l.take k) := by
  have hlen := h.len
  refine ⟨h.l32.take k, by simp; omega, ?_⟩
  rcases h.own.2 with ⟨hv, hn⟩ | ⟨g, cap, cur, hv, hb, hh, hc, hm, hs, ht⟩
  · injection hv with e1 e2 e3
    subst e1 e2 e3
    have : k = 0 := by omega
    subst this
    exact .inl ⟨rfl, rfl⟩
  · injection hv with e1 e2 e3
    subst e1 e3
    refine .inr ⟨g, c, cur, rfl, hb, hh, by omega, hm, hs, ?_⟩
    rw [List.map_take, ← ht, List.take_take]
    congr 1
    omega
theorem Own.lim (h : Own w lo A c n l) : Own w lo A c (lim (val l)).length (lim (val l)) := by
  have h1 := h.take (k := (Go.Proofs.YtffnjdfmaebmhaaGreatDoor.lim (val l)).length) (by rw [← h.len]; exact lim_len_le h.l32)
  rwa [← lim_take h.l32] at h1
theorem Own.set {g : Nat} (h : Own w lo (some ⟨g, 0, none⟩) c n l) {j x : Nat} (hx : x < 4294967296) : Own (w.setCell ⟨g, j, none⟩ (.int .u32 (x : Int))) lo (some ⟨g, 0, none⟩) c n (l.set j x) := by
  refine ⟨fun i => ?_, ?_⟩
  · rw [dg_eq, List.getElem?_set]
    split
    · split
      · exact hx
      · simp
    · rw [← dg_eq]; exact h.l32 i
  · have := h.own.stored j (limb x)
    rw [List.map_set]
    exact this.1
theorem Own.made (hg : w'.ownsRow lo 74 1 (.slice A n c) n (madeCells #[.int .u32 0] n).toList) : Own w' lo A c n (List.replicate n 0) := by
  refine ⟨fun i => ?_, ?_⟩
  · rw [dg_eq, List.getElem?_replicate]; split <;> simp
  · have e : (madeCells #[.int .u32 0] n).toList = (List.replicate n 0).map limb := by
      rw [toList_madeCells_one]; simp [limb]
    rw [← e]; exact hg
theorem Row.ofOwn (h : Own w lo A c n l) : Row w lo A n l := h.row
theorem Row.grown (h : Row w lo A n l) {row : Option Nat} (hg : w.grownBy w' row) (hne : ∀ ad, A = some ad → some ad.block ≠ row) : Row w' lo A n l :=
  ⟨h.len, h.l32, fun hn => by
    obtain ⟨b, off, e, h1, h2, hc⟩ := h.mem hn
    exact ⟨b, off, e, h1, by have := hg.size; omega, fun j hj => hg.cell (hc j hj) (hne ⟨b, off, none⟩ e)⟩⟩
end

theorem Own.empty (w : World) : Own (w.alloc (.cells #[] 74)) w.heap.size (some ⟨w.heap.size, 0, none⟩) 0 0 [] :=
  ⟨L32.nil, World.ownsRow_made w #[] 0 (Nat.le_refl _) (by unfold maxLen; omega) rfl⟩
theorem below_alloc (w : World) (o : Obj) : Below w.heap.size w (w.alloc o) := (Below.refl _ _).alloc (Nat.le_refl _) o
theorem Row.src {w : World} {lo n : Nat} {A : Option Addr} {l : List Nat} (h : Row w lo A n l) {ad : Addr} (hA : A = some ad) : ∀ j v, (l.map limb)[j]? = some v → w.cell? (ad.add j) = some v := by
  intro j v hv
  have hj : j < l.length := by
    have := (List.getElem?_eq_some_iff.1 hv).1
    simpa using this
  have hlen := h.len
  obtain ⟨b, off, e, h1, h2, hc⟩ := h.mem (by omega)
  rw [hA] at e
  injection e with e
  subst e
  rw [getD_map_limb l j hj] at hv
  rw [← hv, ← hc j (by omega)]
  congr 1
  unfold Addr.add
  split
  · subst_vars; simp
  · rfl
theorem limb_one (l : List Nat) : ∀ u ∈ l.map limb, u.oneCell' = true := fun v hv => by
  obtain ⟨x, _, rfl⟩ := List.mem_map.1 hv
  rfl

/-- append of a row that reads as k onto a row of the call's own. -/
theorem wpl_append {w : World} {ops : Array Oper} {rest : List Oper} {o : Oper} {a : Act} {Q : Exit → Act → World → Prop} (hgd : o.guard = none) (s x : Operand)
    (ho : o.op = .call { callee := .builtin .append, args := #[s, x], argTypes := #[23, 23] })
    {A A' : Option Addr} {lo lo' n m c c' : Nat} {l k : List Nat} (hs : a.eval s = .slice A n c) (hx : a.eval x = .slice A' m c')
    (h1 : Own w lo A c n l) (h2 : Row w lo' A' m k) (hm : n + m ≤ 2000000) (hlo : lo ≤ w.heap.size)
    (h : ∀ A2 c2 w', Own w' lo A2 c2 (n + m) (l ++ k) → w.grownBy w' (A.map (·.block)) → wpList Tryz.prog ops Q rest (a.put o.dst (.slice A2 (n + m) c2)) w') :
    wpList Tryz.prog ops Q (o :: rest) a w := by
  obtain ⟨i0, hi, hz0, hz1, hz2⟩ := info_parts Tryz.info74
  have hk := h2.len
  have hlen := h1.len
  have hl2 : L32 (l ++ k) := fun i => by
    rw [dg_eq, List.getElem?_append]
    split
    · rw [← dg_eq]; exact h1.l32 i
    · rw [← dg_eq]; exact h2.l32 _
  have fin : ∀ v' w', w'.ownsRow lo 74 1 v' (n + m) (l.map limb ++ k.map limb) → w.grownBy w' (A.map (·.block)) → wpList Tryz.prog ops Q rest (a.put o.dst v') w' := by
    intro v' w' ho' hg'
    have ho2 := ho'
    rw [← List.map_append] at ho2
    rcases ho'.2 with ⟨rfl, h0⟩ | ⟨g, cap, cur, rfl, _⟩
    · have e : n + m = 0 := h0
      have hh := h none 0 w' ⟨hl2, by rw [e] at ho2 ⊢; exact ho2⟩ hg'
      rw [e] at hh; exact hh
    · exact h _ _ w' ⟨hl2, ho2⟩ hg'
  have eb : (Value.slice A n c).ownBlock = A.map (·.block) := by cases A <;> rfl
  cases A' with
  | none =>
    have hm0 : m = 0 := by
      rcases Nat.eq_zero_or_pos m with h0 | h0
      · exact h0
      · obtain ⟨_, _, e, _⟩ := h2.mem h0; cases e
    subst hm0
    have hk0 : k = [] := List.eq_nil_of_length_eq_zero hk
    subst hk0
    refine wpList_plain hgd fun K hK => ?_
    have hrun : (Builtin.append_ #[23, 23] o.type #[.slice A n c, .slice none 0 c']).run Tryz.prog w = .ok (.slice A n c) w := by
      rcases h1.own.2 with ⟨hv, hn⟩ | ⟨g, cap, cur, hv, _, _, hnc, _⟩
      · rw [hv]; simp [Builtin.append_, run_underlying Tryz.underlying23, sizeOf, typeInfo, hi, Builtin.lenOf, Builtin.firstCells]
      · rw [hv]; simp [Builtin.append_, run_underlying Tryz.underlying23, sizeOf, typeInfo, hi, Builtin.lenOf, Builtin.firstCells, hnc, storeCells]
    unfold Oper.wp
    simp [execOp, ho, resolve, invoke, builtin, hs, hx, hrun, Result.andThen]
    exact hK _ _ (h A c w (by simpa using h1) (World.grownBy.refl _ _))
  | some ad =>
    refine wpList_append_own w hgd s x _ ho lo 74 i0 (.int .u32 0) 1 4 Tryz.underlying23 hi hz0 hz1 hz2 rfl (by omega) _ n _ hs h1.own ad m c' (k.map limb) hx (by simp [hk]) (h2.src rfl) (limb_one k) (by unfold maxLen; omega) (by omega) hlo ?_
    intro v' w' ho' hg' _
    rw [eb] at hg'
    exact fin v' w' ho' hg'

/-- copy of a row that reads as k over the head of a row of the call's own. -/
theorem wpl_copy {w : World} {ops : Array Oper} {rest : List Oper} {o : Oper} {a : Act} {Q : Exit → Act → World → Prop} (hgd : o.guard = none) (d s : Operand)
    (ho : o.op = .call { callee := .builtin .copy, args := #[d, s], argTypes := #[23, 23] })
    {A A' : Option Addr} {lo lo' n m c c' : Nat} {l k : List Nat} (hd : a.eval d = .slice A n c) (hs : a.eval s = .slice A' m c')
    (h1 : Own w lo A c n l) (h2 : Row w lo' A' m k) (hm : m ≤ n)
    (h : ∀ w', Own w' lo A c n (k ++ l.drop m) → w'.heap.size = w.heap.size → w.grownBy w' (A.map (·.block)) → wpList Tryz.prog ops Q rest (a.put o.dst (goInt m)) w') :
    wpList Tryz.prog ops Q (o :: rest) a w := by
  have hk := h2.len
  have hlen := h1.len
  by_cases h0 : m = 0
  · subst h0
    have hk0 : k = [] := List.eq_nil_of_length_eq_zero hk
    subst hk0
    refine wpList_copy_nothing hgd d s _ _ ho 74 Tryz.underlying23 Tryz.size74 A A' n c 0 c' hd hs (Nat.zero_min _) ?_
    exact h w (by simpa using h1) rfl (World.grownBy.refl _ _)
  · obtain ⟨g, rfl, hg1, hg2⟩ := h1.form (by omega)
    obtain ⟨b, off, rfl, hb1, hb2, hc⟩ := h2.mem (by omega)
    rcases h1.own.2 with ⟨hv, hn⟩ | ⟨g', cap, cur, hv, hb, hh, hcap, hmx, hsz, ht⟩
    · omega
    · injection hv with e1 e2 e3
      injection e1 with e1
      injection e1 with e1
      subst e1 e3
      have hsrc := h2.src rfl
      refine wpList_copy_own hgd d s _ _ ho 74 Tryz.underlying23 Tryz.size74 g 0 n c ⟨b, off, none⟩ m c' hd hs cur 74 hh (k.map limb) (by simp only [List.length_map]; exact hk.trans (Nat.min_eq_left hm).symm) hsrc (by simp; omega) (fun v hv => by
        obtain ⟨x, _, rfl⟩ := List.mem_map.1 hv
        rfl) ?_
      have e : ((k.map limb).length : Int) = (m : Int) := by simp [hk]
      have hk2 : (k.map limb).length = m := by simpa using hk
      rw [hk2]
      refine h _ ⟨fun i => ?_, by simp; omega, .inr ⟨g, c, _, rfl, hb, setRow_heap w g cur _ _ _ hh, hcap, hmx, ?_, ?_⟩⟩ ?_ ⟨rfl, rfl, rfl, by simp, fun q _ hq => setRow_other w g q _ (fun e => hq (by simp [e]))⟩
      · rw [dg_eq, List.getElem?_append]
        split
        · rw [← dg_eq]; exact h2.l32 i
        · rw [← dg_eq]; exact h1.l32.drop m _
      · simp; omega
      · simp only [List.take_zero, List.nil_append, Nat.zero_add]
        rw [List.map_append, List.map_drop, ← ht, List.take_append]
        simp only [List.length_map, hk, Nat.mul_one]
        rw [List.take_of_length_le (by simp; omega), List.drop_take]
      · simp [World.setRow]
end Go.Proofs.YtffnjdfmaebmhaaGreatDoor
