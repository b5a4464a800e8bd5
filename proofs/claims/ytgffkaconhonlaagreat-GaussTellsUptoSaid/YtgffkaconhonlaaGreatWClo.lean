/-
  A row of sums, copied.
-/
import Derived.Test.YtgffkaconhonlaaGreatWCRow
import Derived.Lib.AppendZeros
import Derived.Sort.AtCall
import Derived.Deep.Cut
import Derived.Lib.SliceRun
namespace Go.Proofs.YtgffkaconhonlaaGreat
set_option maxRecDepth 20000
open Go.RowKit
theorem wpc_appends {w : World} {ops : Array Oper} {rest : List Oper} {o : Oper} {a : Act} {Q : Exit → Act → World → Prop} (hgd : o.guard = none) (s x : Operand)
  (ho : o.op = .call { callee := .builtin .append, args := #[s, x], argTypes := #[22, 22] })
  {A A' : Option Addr} {lo n c m c' : Nat} {l k : List Cv} (hs : a.eval s = .slice A n c) (hx : a.eval x = .slice A' m c')
  (h1 : OwnC w lo A c n l) (h2 : Kons w A' m k) (hm : n + m ≤ 2000000) (hlo : lo ≤ w.heap.size)
  (h : ∀ A2 c2 w', OwnC w' lo A2 c2 (n + m) (l ++ k) → w.grownBy w' (A.map (·.block)) → wpList Tryz.prog ops Q rest (a.put o.dst (.slice A2 (n + m) c2)) w') :
  wpList Tryz.prog ops Q (o :: rest) a w := by
 obtain ⟨i0, hi, hsz⟩ := Option.map_eq_some_iff.1 Tryz.info28
 have hz : i0.zero = some (.agg #[.int .i64 0, .slice none 0 0, .bool false, .slice none 0 0, .slice none 0 0]) := by
  have := Tryz.zero28
  rw [hi] at this
  exact this
 injection hsz with hsz1 hsz2
 have hk := h2.len
 have eb : (Value.slice A n c).ownBlock = A.map (·.block) := by cases A <;> rfl
 cases A' with
 |
  none =>
  have hm0 : m = 0 := by
   rcases Nat.eq_zero_or_pos m with h0 | h0
   · exact h0
   · obtain ⟨_, _, e, _⟩ := h2.mem h0; cases e
  subst hm0
  have hk0 : k = [] := List.eq_nil_of_length_eq_zero hk
  subst hk0
  refine wpList_plain hgd fun K hK => ?_
  have hrun : (Builtin.append_ #[22, 22] o.type #[.slice A n c, .slice none 0 c']).run Tryz.prog w = .ok (.slice A n c) w := by
   rcases h1.own.2 with ⟨hv, hn⟩ | ⟨g, cap, cur, hv, _, _, hnc, _⟩
   · rw [hv]; simp [Builtin.append_, run_underlying Tryz.underlying22, sizeOf, typeInfo, hi, Builtin.lenOf, Builtin.firstCells]
   · rw [hv]; simp [Builtin.append_, run_underlying Tryz.underlying22, sizeOf, typeInfo, hi, Builtin.lenOf, Builtin.firstCells, hnc, storeCells]
  unfold Oper.wp
  simp [execOp, ho, resolve, invoke, builtin, hs, hx, hrun, Result.andThen]
  exact hK _ _ (h A c w (by simpa using h1) (World.grownBy.refl _ _))
 |
  some ad =>
  refine wpList_append_own w hgd s x _ ho lo 28 i0 _ 5 88 Tryz.underlying22 hi hz hsz1 hsz2 rfl (by omega) _ n _ hs h1.own ad m c' (k.flatMap kcells) hx (by rw [flatC_len, hk]) ?_ ?_ (by unfold maxLen; omega) (by omega) hlo ?_
  ·
   intro j u hu
   have hj : j < m * 5 := by have := (List.getElem?_eq_some_iff.1 hu).1; rw [flatC_len, hk] at this; exact this
   obtain ⟨b, off, e, _, hc⟩ := h2.mem (by omega)
   injection e with e
   subst e
   have hjm : j / 5 < k.length := by rw [hk]; omega
   have hx' : k[j / 5]? = some k[j / 5] := List.getElem?_eq_getElem hjm
   have ha := hc (j / 5) _ hx'
   have hcell : ∀ i, i < 5 → w.cell? ⟨b, off + j / 5 * 5 + i, none⟩ = (kcells k[j / 5])[i]? := by
    intro i hi5
    have : i = 0 ∨ i = 1 ∨ i = 2 ∨ i = 3 ∨ i = 4 := by omega
    rcases this with rfl | rfl | rfl | rfl | rfl
    · exact ha.h0
    · exact ha.h1
    · exact ha.h2
    · exact ha.h3
    · exact ha.h4
   have e1 := flatC_get k (j / 5) (j % 5) _ hx' (by omega)
   rw [show j / 5 * 5 + j % 5 = j by omega] at e1
   rw [e1] at hu
   rw [show (⟨b, off, none⟩ : Addr).add j = ⟨b, off + j, none⟩ by simp [Addr.add]]
   rw [← hu, ← hcell (j % 5) (by omega), show off + j / 5 * 5 + j % 5 = off + j by omega]
  ·
   intro u hu
   obtain ⟨t, _, ht⟩ := List.mem_flatMap.1 hu
   simp only [kcells, List.mem_cons, List.not_mem_nil, or_false] at ht
   rcases ht with rfl | rfl | rfl | rfl | rfl <;> rfl
  ·
   intro v' w' ho' hg' _
   rw [eb] at hg'
   rw [← List.flatMap_append] at ho'
   have hl2 : (l ++ k).length = n + m := by rw [List.length_append, h1.len, hk]
   rcases ho'.2 with ⟨rfl, h0⟩ | ⟨g, cap, cur, rfl, _⟩
   ·
    have e : n + m = 0 := h0
    have hh := h none 0 w' ⟨hl2, by rw [e] at ho' ⊢; exact ho'⟩ hg'
    rw [e] at hh; exact hh
   · exact h _ _ w' ⟨hl2, ho'⟩ hg'
set_option maxHeartbeats 1600000 in
theorem CloneC_c (A : Option Addr) (m c : Nat) (l : List Cv) (w : World) (h : Kons w A m l) (hm : m ≤ 1000) :
  Calls Tryz.prog 70 #[.slice A m c] w fun e w' => ∃ A2 c2, e = .returned (.slice A2 m c2) ∧ OwnC w' w.heap.size A2 c2 m l ∧ Below w.heap.size w w' := by
 have H := Lib.hid h
 have q22 : ∀ (w : World) (a : Option Addr) (n c n' c' : Nat), (binOp .eql 22 (.slice a n c) (.slice none n' c')).run Tryz.prog w = .ok (.bool a.isNone) w := fun w a n c n' c' => Lib.run_eql_slice_nil w _ _ a n c n' c' Tryz.underlying22
 cases A with
 |
  none =>
  have hm0 : m = 0 := by
   rcases Nat.eq_zero_or_pos m with h0 | h0
   · exact h0
   · obtain ⟨_, _, e, _⟩ := h.mem h0; cases e
  have hl : l = [] := List.eq_nil_of_length_eq_zero (by rw [h.len]; exact hm0)
  subst hm0 hl
  clear h H
  go_enter Tryz.func70, Tryz.ntmps70
  go_wp2
  go_ret
  exact ⟨none, 0, rfl, OwnC.nil_ _ _, Below.refl _ _⟩
 |
  some ad =>
  clear h
  go_enter Tryz.func70, Tryz.ntmps70
  go_wp2_with (at_builtin; refine wpc_appends rfl _ _ rfl rfl rfl (l := []) (n := 0) (lo := w.heap.size) ⟨rfl, World.ownsRow_made w #[] 0 (Nat.le_refl _) (Nat.zero_le _) rfl⟩ (H.out.below ((Below.refl _ _).alloc (Nat.le_refl _) _)) (by omega) (by simp) ?_)
  intro A2 c2 w1 hown hgrow
  have HO : Hid (OwnC w1 w.heap.size A2 c2 m l ∧ Below w.heap.size w w1) := ⟨hown, ((Below.refl _ w).alloc (Nat.le_refl _) _).grown hgrow (by simp) (by intro k hk; simp at hk; omega)⟩
  clear hown hgrow
  go_wp2
  go_ret
  exact ⟨A2, c2, rfl, HO.out.1, HO.out.2⟩
end Go.Proofs.YtgffkaconhonlaaGreat
