/-
  append of a row onto an empty one without room, as one step of a region that draws its order: it only makes memory.
-/
import Derived.Test.YtgfajmnmeggaeaaRatKit
import Derived.Deep.RegionLawGrows
import Derived.Deep.RegionHeld3
namespace Go.Proofs.Ytgfajmnmeggaeaa
set_option maxRecDepth 20000
open Go.RowKit

/-- A row that is new, or empty. -/
structure NewR (lo : Nat) (w : World) (X : Option Addr) (c m : Nat) (k : List Nat) : Prop where
  row : Row w lo X m k
  cap : m ≤ c
  own : 0 < m → Own w lo X c m k
theorem NewR.below {lo : Nat} {w w' : World} {X : Option Addr} {c m : Nat} {k : List Nat} (h : NewR lo w X c m k) (hb : Below w.heap.size w w') : NewR lo w' X c m k :=
  ⟨h.row.below hb, h.cap, fun hm => (h.own hm).below hb⟩
theorem NewR.alloc {lo : Nat} {w : World} {X : Option Addr} {c m : Nat} {k : List Nat} (h : NewR lo w X c m k) (o : Obj) : NewR lo (w.alloc o) X c m k := h.below ((Below.refl _ _).alloc (Nat.le_refl _) o)
theorem NewR.drew {lo : Nat} {w : World} {X : Option Addr} {c m : Nat} {k : List Nat} (h : NewR lo w X c m k) : NewR lo w.drew X c m k := h.below (Below.refl _ _).drew
theorem NewR.lower {lo lo' : Nat} {w : World} {X : Option Addr} {c m : Nat} {k : List Nat} (h : NewR lo w X c m k) (hl : lo' ≤ lo) : NewR lo' w X c m k :=
  ⟨h.row.lower hl, h.cap, fun hm => (h.own hm).lower hl⟩
theorem NewR.put {lo b : Nat} {w : World} {X : Option Addr} {c m : Nat} {k : List Nat} (h : NewR lo w X c m k) (hb : b < lo) (x y z : Value) : NewR lo (put3 w b x y z) X c m k :=
  ⟨h.row.put hb x y z, h.cap, fun hm => (h.own hm).grown (grown_set (grown_set (grown_set (World.grownBy.refl w _)))) fun ad e => by
    obtain ⟨g, hg, h1, h2⟩ := (h.own hm).form hm
    rw [hg] at e
    injection e with e
    subst e
    intro hq
    injection hq with hq
    have : g = b := hq
    omega⟩
theorem C3.fresh {W : World} {b : Nat} {x y z : Value} (hb : b = W.heap.size) : C3 (W.alloc (.cells #[x, y, z] 24)) b x y z := by
  subst hb
  exact C3.new W x y z

theorem step_app0 {w : World} {ops : Array Oper} {o : Oper} {a : Act} {K : Act → World → Prop} {Q : Exit → Act → World → Prop} {E : Prop} (hgd : o.guard = none) (s x : Operand)
    (ho : o.op = .call { callee := .builtin .append, args := #[s, x], argTypes := #[22, 22] })
    {A0 A' : Option Addr} {m c' : Nat} {k : List Nat} (hs : a.eval s = .slice A0 0 0) (hx : a.eval x = .slice A' m c') (h2 : Row w 0 A' m k) (hm : m ≤ 2000000)
    (h : ∀ X cX w', NewR w.heap.size w' X cX m k → Below w.heap.size w w' → K (a.put o.dst (.slice X m cX)) w') :
    if Region.wanted o (yielded ops a.tmps) = true then Oper.wp Try.prog o a w K Q else E := by
  obtain ⟨i0, hi, hz0, hz1, hz2⟩ := info_parts Try.info25
  rcases Nat.eq_zero_or_pos m with h0 | h0
  · subst h0
    have hk0 : k = [] := List.eq_nil_of_length_eq_zero h2.len
    subst hk0
    have hw : Region.wanted o (yielded ops a.tmps) = true := by simp [Region.wanted, hgd]
    rw [if_pos hw]
    have hrun : (Builtin.append_ #[22, 22] o.type #[.slice A0 0 0, .slice A' 0 c']).run Try.prog w = .ok (.slice A0 0 0) w := by
      cases A0 <;> cases A' <;> simp [Builtin.append_, run_underlying Try.underlying22, sizeOf, typeInfo, hi, Builtin.lenOf, Builtin.firstCells, storeCells, loadCells, loadCellsFrom, go_sem, Result.andThen]
    unfold Oper.wp
    simp [execOp, ho, resolve, invoke, builtin, hs, hx, hrun, Result.andThen]
    exact h A0 0 w ⟨Row.nil_ _ _ _, Nat.le_refl _, fun h => absurd h (by omega)⟩ (Below.refl _ _)
  · obtain ⟨b, off, rfl, _, _, hc⟩ := h2.mem h0
    have hk := h2.len
    refine step_append_grows hgd s x 22 ho 25 i0 (.int .u32 0) 1 4 Try.underlying22 hi hz0 hz1 hz2 rfl (by decide) A0 0 0 [] hs (fun _ => ⟨rfl, rfl⟩) rfl (fun _ _ j u hu => by simp at hu) ⟨b, off, none⟩ m c' (k.map limb) hx (by simp [hk]) (h2.src rfl) (limb_one k) (by omega) (by unfold maxLen; omega) (by omega) ?_
    intro v' w' ho' hg'
    rw [List.nil_append, Nat.zero_add] at ho'
    have ho2 := ho'
    rcases ho'.2 with ⟨rfl, hz⟩ | ⟨g, cap, cur, rfl, _⟩
    · omega
    · have hO : Own w' w.heap.size (some ⟨g, 0, none⟩) cap m k := ⟨h2.l32, ho2⟩
      exact h _ _ w' ⟨hO.row, hO.capLe, fun _ => hO⟩ (below_of_grown hg')
end Go.Proofs.Ytgfajmnmeggaeaa
