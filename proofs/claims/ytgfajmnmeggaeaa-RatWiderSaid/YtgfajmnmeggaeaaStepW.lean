/-
  append of a row onto an empty one, a new one or one of the call's own, as one step of a region that draws its order.
-/
import Derived.Test.YtgfajmnmeggaeaaRatKit
import Derived.Deep.RegionLawGrows
import Derived.Deep.RegionHeld3
import Derived.Laws.AppendOwn
namespace Go.Proofs.Ytgfajmnmeggaeaa
set_option maxRecDepth 20000
open Go.RowKit

/-- A row that is new, or empty. -/
structure NewR (lo : Nat) (w : World) (X : Option Addr) (c m : Nat) (k : List Nat) : Prop where
  row : Row w lo X m k
  cap : m ≤ c
  own : 0 < m → Own w lo X c m k
theorem NewR.below {lo : Nat} {w w' : World} {X : Option Addr} {c m : Nat} {k : List Nat} (h : NewR lo w X c m k) (hb : Below w.heap.size w w') : NewR lo w' X c m k :=
  ⟨h.row.below hb, h.cap, fun hm => (h.own hm).below hb⟩
theorem NewR.alloc {lo : Nat} {w : World} {X : Option Addr} {c m : Nat} {k : List Nat} (h : NewR lo w X c m k) (o : Obj) : NewR lo (w.alloc o) X c m k := h.below ((Below.refl _ _).alloc (Nat.le_refl _) o)
theorem NewR.drew {lo : Nat} {w : World} {X : Option Addr} {c m : Nat} {k : List Nat} (h : NewR lo w X c m k) : NewR lo w.drew X c m k := h.below (Below.refl _ _).drew
theorem NewR.lower {lo lo' : Nat} {w : World} {X : Option Addr} {c m : Nat} {k : List Nat} (h : NewR lo w X c m k) (hl : lo' ≤ lo) : NewR lo' w X c m k :=
  ⟨h.row.lower hl, h.cap, fun hm => (h.own hm).lower hl⟩
theorem NewR.put {lo b : Nat} {w : World} {X : Option Addr} {c m : Nat} {k : List Nat} (h : NewR lo w X c m k) (hb : b < lo) (x y z : Value) : NewR lo (put3 w b x y z) X c m k :=
  ⟨h.row.put hb x y z, h.cap, fun hm => (h.own hm).grown (grown_set (grown_set (grown_set (World.grownBy.refl w _)))) fun ad e => by
    obtain ⟨g, hg, h1, h2⟩ := (h.own hm).form hm
    rw [hg] at e
    injection e with e
    subst e
    intro hq
    injection hq with hq
    have : g = b := hq
    omega⟩
theorem C3.fresh {W : World} {b : Nat} {x y z : Value} (hb : b = W.heap.size) : C3 (W.alloc (.cells #[x, y, z] 24)) b x y z := by
  subst hb
  exact C3.new W x y z

theorem step_app0 {w : World} {ops : Array Oper} {o : Oper} {a : Act} {K : Act → World → Prop} {Q : Exit → Act → World → Prop} {E : Prop} (hgd : o.guard = none) (s x : Operand)
    (ho : o.op = .call { callee := .builtin .append, args := #[s, x], argTypes := #[22, 22] })
    {A0 A' : Option Addr} {m c' : Nat} {k : List Nat} (hs : a.eval s = .slice A0 0 0) (hx : a.eval x = .slice A' m c') (h2 : Row w 0 A' m k) (hm : m ≤ 2000000)
    (h : ∀ X cX w', NewR w.heap.size w' X cX m k → Below w.heap.size w w' → K (a.put o.dst (.slice X m cX)) w') :
    if Region.wanted o (yielded ops a.tmps) = true then Oper.wp Try.prog o a w K Q else E := by
  obtain ⟨i0, hi, hz0, hz1, hz2⟩ := info_parts Try.info25
  rcases Nat.eq_zero_or_pos m with h0 | h0
  · subst h0
    have hk0 : k = [] := List.eq_nil_of_length_eq_zero h2.len
    subst hk0
    have hw : Region.wanted o (yielded ops a.tmps) = true := by simp [Region.wanted, hgd]
    rw [if_pos hw]
    have hrun : (Builtin.append_ #[22, 22] o.type #[.slice A0 0 0, .slice A' 0 c']).run Try.prog w = .ok (.slice A0 0 0) w := by
      cases A0 <;> cases A' <;> simp [Builtin.append_, run_underlying Try.underlying22, sizeOf, typeInfo, hi, Builtin.lenOf, Builtin.firstCells, storeCells, loadCells, loadCellsFrom, go_sem, Result.andThen]
    unfold Oper.wp
    simp [execOp, ho, resolve, invoke, builtin, hs, hx, hrun, Result.andThen]
    exact h A0 0 w ⟨Row.nil_ _ _ _, Nat.le_refl _, fun h => absurd h (by omega)⟩ (Below.refl _ _)
  · obtain ⟨b, off, rfl, _, _, hc⟩ := h2.mem h0
    have hk := h2.len
    refine step_append_grows hgd s x 22 ho 25 i0 (.int .u32 0) 1 4 Try.underlying22 hi hz0 hz1 hz2 rfl (by decide) A0 0 0 [] hs (fun _ => ⟨rfl, rfl⟩) rfl (fun _ _ j u hu => by simp at hu) ⟨b, off, none⟩ m c' (k.map limb) hx (by simp [hk]) (h2.src rfl) (limb_one k) (by omega) (by unfold maxLen; omega) (by omega) ?_
    intro v' w' ho' hg'
    rw [List.nil_append, Nat.zero_add] at ho'
    have ho2 := ho'
    rcases ho'.2 with ⟨rfl, hz⟩ | ⟨g, cap, cur, rfl, _⟩
    · omega
    · have hO : Own w' w.heap.size (some ⟨g, 0, none⟩) cap m k := ⟨h2.l32, ho2⟩
      exact h _ _ w' ⟨hO.row, hO.capLe, fun _ => hO⟩ (below_of_grown hg')

theorem stepl_append {w : World} {ops : Array Oper} {o : Oper} {a : Act} {K : Act → World → Prop} {Q : Exit → Act → World → Prop} {E : Prop} (hgd : o.guard = none) (s x : Operand)
    (ho : o.op = .call { callee := .builtin .append, args := #[s, x], argTypes := #[22, 22] })
    {A A' : Option Addr} {lo lo' n m c c' : Nat} {l k : List Nat} (hs : a.eval s = .slice A n c) (hx : a.eval x = .slice A' m c')
    (h1 : Own w lo A c n l) (h2 : Row w lo' A' m k) (hm : n + m ≤ 2000000) (hlo : lo ≤ w.heap.size)
    (h : ∀ A2 c2 w', Own w' lo A2 c2 (n + m) (l ++ k) → w.grownBy w' (A.map (·.block)) → K (a.put o.dst (.slice A2 (n + m) c2)) w') :
    if Region.wanted o (yielded ops a.tmps) = true then Oper.wp Try.prog o a w K Q else E := by
  have hw : Region.wanted o (yielded ops a.tmps) = true := by simp [Region.wanted, hgd]
  rw [if_pos hw]
  obtain ⟨i0, hi, hz0, hz1, hz2⟩ := info_parts Try.info25
  have hk := h2.len
  have hlen := h1.len
  have hl2 : L32 (l ++ k) := fun i => by
    rw [dg_eq, List.getElem?_append]
    split
    · rw [← dg_eq]; exact h1.l32 i
    · rw [← dg_eq]; exact h2.l32 _
  have fin : ∀ v' w', w'.ownsRow lo 25 1 v' (n + m) (l.map limb ++ k.map limb) → w.grownBy w' (A.map (·.block)) → K (a.put o.dst v') w' := by
    intro v' w' ho' hg'
    have ho2 := ho'
    rw [← List.map_append] at ho2
    rcases ho'.2 with ⟨rfl, h0⟩ | ⟨g, cap, cur, rfl, _⟩
    · have e : n + m = 0 := h0
      have hh := h none 0 w' ⟨hl2, by rw [e] at ho2 ⊢; exact ho2⟩ hg'
      rw [e] at hh; exact hh
    · exact h _ _ w' ⟨hl2, ho2⟩ hg'
  have eb : (Value.slice A n c).ownBlock = A.map (·.block) := by cases A <;> rfl
  cases A' with
  | none =>
    have hm0 : m = 0 := by
      rcases Nat.eq_zero_or_pos m with h0 | h0
      · exact h0
      · obtain ⟨_, _, e, _⟩ := h2.mem h0; cases e
    subst hm0
    have hk0 : k = [] := List.eq_nil_of_length_eq_zero hk
    subst hk0
    have hrun : (Builtin.append_ #[22, 22] o.type #[.slice A n c, .slice none 0 c']).run Try.prog w = .ok (.slice A n c) w := by
      rcases h1.own.2 with ⟨hv, hn⟩ | ⟨g, cap, cur, hv, _, _, hnc, _⟩
      · rw [hv]; simp [Builtin.append_, run_underlying Try.underlying22, sizeOf, typeInfo, hi, Builtin.lenOf, Builtin.firstCells]
      · rw [hv]; simp [Builtin.append_, run_underlying Try.underlying22, sizeOf, typeInfo, hi, Builtin.lenOf, Builtin.firstCells, hnc, storeCells]
    unfold Oper.wp
    simp [execOp, ho, resolve, invoke, builtin, hs, hx, hrun, Result.andThen]
    exact h A c w (by simpa using h1) (World.grownBy.refl _ _)
  | some ad =>
    refine wp_append_own w s x _ ho lo 25 i0 (.int .u32 0) 1 4 Try.underlying22 hi hz0 hz1 hz2 rfl (by omega) _ n _ hs h1.own ad m c' (k.map limb) hx (by simp [hk]) (h2.src rfl) (limb_one k) (by unfold maxLen; omega) (by omega) hlo ?_
    intro v' w' ho' hg' _
    rw [eb] at hg'
    exact fin v' w' ho' hg'

theorem step_app00 {w : World} {ops : Array Oper} {o : Oper} {a : Act} {K : Act → World → Prop} {Q : Exit → Act → World → Prop} {E : Prop} (hgd : o.guard = none) (s x : Operand)
    (ho : o.op = .call { callee := .builtin .append, args := #[s, x], argTypes := #[22, 22] })
    {A0 A' : Option Addr} {m c' : Nat} {k : List Nat} (hs : a.eval s = .slice A0 0 0) (hx : a.eval x = .slice A' m c') (h2 : Row w 0 A' m k) (hm : m ≤ 2000000)
    (h : ∀ X cX w', NewR w.heap.size w' X cX m k → (m = 0 → cX = 0) → Below w.heap.size w w' → K (a.put o.dst (.slice X m cX)) w') :
    if Region.wanted o (yielded ops a.tmps) = true then Oper.wp Try.prog o a w K Q else E := by
  obtain ⟨i0, hi, hz0, hz1, hz2⟩ := info_parts Try.info25
  rcases Nat.eq_zero_or_pos m with h0 | h0
  · subst h0
    have hk0 : k = [] := List.eq_nil_of_length_eq_zero h2.len
    subst hk0
    have hw : Region.wanted o (yielded ops a.tmps) = true := by simp [Region.wanted, hgd]
    rw [if_pos hw]
    have hrun : (Builtin.append_ #[22, 22] o.type #[.slice A0 0 0, .slice A' 0 c']).run Try.prog w = .ok (.slice A0 0 0) w := by
      cases A0 <;> cases A' <;> simp [Builtin.append_, run_underlying Try.underlying22, sizeOf, typeInfo, hi, Builtin.lenOf, Builtin.firstCells, storeCells, loadCells, loadCellsFrom, go_sem, Result.andThen]
    unfold Oper.wp
    simp [execOp, ho, resolve, invoke, builtin, hs, hx, hrun, Result.andThen]
    exact h A0 0 w ⟨Row.nil_ _ _ _, Nat.le_refl _, fun h => absurd h (by omega)⟩ (fun _ => rfl) (Below.refl _ _)
  · exact step_app0 hgd s x ho hs hx h2 hm fun X cX w' h1 hb => h X cX w' h1 (fun e => absurd e (by omega)) hb

theorem step_app2 {w : World} {ops : Array Oper} {o : Oper} {a : Act} {K : Act → World → Prop} {Q : Exit → Act → World → Prop} {E : Prop} (hgd : o.guard = none) (s x : Operand)
    (ho : o.op = .call { callee := .builtin .append, args := #[s, x], argTypes := #[22, 22] })
    {X A' : Option Addr} {lo n c m c' : Nat} {l k : List Nat} (hs : a.eval s = .slice X n c) (hx : a.eval x = .slice A' m c') (h1 : NewR lo w X c n l) (hc : n = 0 → c = 0) (h2 : Row w 0 A' m k) (hm : n + m ≤ 2000000) (hlo : lo ≤ w.heap.size)
    (h : ∀ Y cY w' row, NewR lo w' Y cY (n + m) (l ++ k) → w.grownBy w' row → (∀ g, row = some g → 0 < n ∧ X = some ⟨g, 0, none⟩) → K (a.put o.dst (.slice Y (n + m) cY)) w') :
    if Region.wanted o (yielded ops a.tmps) = true then Oper.wp Try.prog o a w K Q else E := by
  rcases Nat.eq_zero_or_pos n with h0 | h0
  · subst h0
    have hl0 : l = [] := List.eq_nil_of_length_eq_zero h1.row.len
    have hc0 := hc rfl
    subst hl0 hc0
    refine step_app0 hgd s x ho hs hx h2 (by omega) fun Y cY w' hY hb => ?_
    have hh := h Y cY w' none (by rw [List.nil_append, Nat.zero_add]; exact hY.lower hlo) (grown_of_below hb) (fun g e => by cases e)
    rw [Nat.zero_add] at hh
    exact hh
  · obtain ⟨g, rfl, _, _⟩ := (h1.own h0).form h0
    refine stepl_append hgd s x ho hs hx (h1.own h0) h2 hm hlo fun Y cY w' hY hg => ?_
    refine h Y cY w' _ ⟨hY.row, hY.capLe, fun _ => hY⟩ hg fun g' e => ⟨h0, ?_⟩
    injection e with e
    rw [← e]
end Go.Proofs.Ytgfajmnmeggaeaa
