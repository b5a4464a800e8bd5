/-
  All pages that count, by the document.
-/
import Derived.Test.YtaifgehmlfjljaaPgI
namespace Go.Proofs.Ytaifgehmlfjljaa
set_option maxRecDepth 20000
open Go.RowKit Go.Maps Go.WideMaps

theorem Try.infob24 : (Try.prog.info? 4).map (fun i => (i.zero, i.size, i.bytes)) = some (some (.bool false), 1, 1) := by kernel_rfl
theorem OwnB.nil_ (w : World) (lo : Nat) : OwnB w lo none 0 0 [] := ⟨World.ownsRow_nil w lo _ 1⟩
theorem Bls.src {w : World} {n : Nat} {A : Option Addr} {l : List Bool} (h : Bls w A n l) {ad : Addr} (hA : A = some ad) : ∀ j v, (l.map Value.bool)[j]? = some v → w.cell? (ad.add j) = some v := by
  intro j v hv
  have hj : j < l.length := by
    have := (List.getElem?_eq_some_iff.1 hv).1
    simpa using this
  have hlen := h.len
  obtain ⟨b, off, e, h2, hc⟩ := h.mem (by omega)
  rw [hA] at e
  injection e with e
  subst e
  obtain ⟨x, hx⟩ : ∃ x, l[j]? = some x := ⟨_, List.getElem?_eq_getElem hj⟩
  rw [List.getElem?_map, hx] at hv
  injection hv with hv
  rw [← hv, ← hc j x hx]
  congr 1
  unfold Addr.add
  split
  · subst_vars; simp
  · rfl
theorem bool_one (l : List Bool) : ∀ u ∈ l.map Value.bool, u.oneCell' = true := fun v hv => by
  obtain ⟨x, _, rfl⟩ := List.mem_map.1 hv
  rfl
/-- append of a row of bools onto a row of the call's own. -/
theorem wpb_append {w : World} {ops : Array Oper} {rest : List Oper} {o : Oper} {a : Act} {Q : Exit → Act → World → Prop} (hgd : o.guard = none) (s x : Operand)
    (ho : o.op = .call { callee := .builtin .append, args := #[s, x], argTypes := #[45, 45] })
    {A : Option Addr} {ad : Addr} {lo n m c c' : Nat} {l k : List Bool} (hs : a.eval s = .slice A n c) (hx : a.eval x = .slice (some ad) m c')
    (h1 : OwnB w lo A c n l) (h2 : Bls w (some ad) m k) (hm : n + m ≤ 2000000) (hlo : lo ≤ w.heap.size)
    (h : ∀ A2 c2 w', OwnB w' lo A2 c2 (n + m) (l ++ k) → w.grownBy w' (A.map (·.block)) → wpList Try.prog ops Q rest (a.put o.dst (.slice A2 (n + m) c2)) w') :
    wpList Try.prog ops Q (o :: rest) a w := by
  obtain ⟨i0, hi, hz0, hz1, hz2⟩ := info_parts Try.infob24
  have hk := h2.len
  have hlen := h1.len
  have eb : (Value.slice A n c).ownBlock = A.map (·.block) := by cases A <;> rfl
  refine wpList_append_own w hgd s x _ ho lo 4 i0 (.bool false) 1 1 Try.underlying45 hi hz0 hz1 hz2 rfl (by omega) _ n _ hs h1.own ad m c' (k.map Value.bool) hx (by simp [hk]) (h2.src rfl) (bool_one k) (by unfold maxLen; omega) (by omega) hlo ?_
  intro v' w' ho' hg' _
  rw [eb] at hg'
  have ho2 := ho'
  rw [← List.map_append] at ho2
  rcases ho'.2 with ⟨rfl, h0⟩ | ⟨g, cap, cur, rfl, _⟩
  · have e : n + m = 0 := h0
    have hh := h none 0 w' ⟨by rw [e] at ho2 ⊢; exact ho2⟩ hg'
    rw [e] at hh; exact hh
  · exact h _ _ w' ⟨ho2⟩ hg'
set_option maxHeartbeats 6400000 in
theorem rRelevantB_c (f : Fv) (its : List SwI) (pg : List (ByteArray × ByteArray)) (O : Option Addr) (on oc : Nat) (ol : List Bool) (w : World) (hf : Frm w f its pg) (ho : Bls w O on ol) (hon : on ≤ 1500000) :
    Calls Try.prog 21 #[.agg #[.slice f.a1 f.n1 f.c1, .slice f.a2 f.n2 f.c2, .slice f.a3 f.n3 f.c3, .slice f.a4 f.n4 f.c4, .slice f.a5 f.n5 f.c5, .slice f.a6 f.n6 f.c6], .slice O on oc] w fun e w' => ∃ RA rc, e = .returned (.slice RA f.n3 rc) ∧ Bls w' RA f.n3 (pg.map fun x => relv its ol x.2) ∧ Below w.heap.size w w' := by
  have hW0 : Hid (Below w.heap.size w (w.alloc (.cells #[.slice f.a1 f.n1 f.c1, .slice f.a2 f.n2 f.c2, .slice f.a3 f.n3 f.c3, .slice f.a4 f.n4 f.c4, .slice f.a5 f.n5 f.c5, .slice f.a6 f.n6 f.c6] 44))) := below_alloc _ _
  have HF := Lib.hid (And.intro (F6.newAt (w := w) f rfl) (And.intro (hf.below hW0.out) (ho.below hW0.out)))
  have n0 : (0 : Int) ≤ (f.n3 : Int) := by omega
  have n9 : (f.n3 : Int) ≤ 1500000 := by have := hf.n3; omega
  have HL := Lib.hid (And.intro hf.pg.len (And.intro hon hf.n3))
  obtain ⟨r, hr⟩ : ∃ r, (pg.map fun x => relv its ol x.2) = r := ⟨_, rfl⟩
  rw [hr]
  have HRR := Lib.hid hr
  have hrl : Hid (r.length = f.n3) := by show _ = _; rw [← HRR.out, List.length_map]; exact HL.out.1
  clear hf ho hr
  go_enter Try.func21, Try.ntmps21
  go_wp2_with fail
  generalize w.alloc (.cells #[.slice f.a1 f.n1 f.c1, .slice f.a2 f.n2 f.c2, .slice f.a3 f.n3 f.c3, .slice f.a4 f.n4 f.c4, .slice f.a5 f.n5 f.c5, .slice f.a6 f.n6 f.c6] 44) = W at *
  have HBW : Hid (∀ w', Below W.heap.size W w' → F6 w' w.heap.size f ∧ Frm w' f its pg ∧ Bls w' O on ol) := fun w' h => ⟨HF.out.1.below h, HF.out.2.1.below h, HF.out.2.2.below h⟩
  clear HF
  go_loopw [5, 6] (fun lv iv wr => ∃ (i : Nat) (A : Option Addr) (c : Nat), i ≤ f.n3 ∧ iv = .int .i64 i ∧ lv = .slice A i c ∧ Hid (OwnB wr W.heap.size A c i (r.take i) ∧ Below W.heap.size W wr)) (fun _ iv _ => f.n3 - (intOf iv).toNat)
  case atStart => exact ⟨0, none, 0, Nat.zero_le _, rfl, rfl, OwnB.nil_ _ _, Below.refl _ _⟩
  case round =>
    obtain ⟨i, A, c, hi, rfl, rfl, HR⟩ := hrel
    have i0 : (0 : Int) ≤ (i : Int) := by omega
    obtain ⟨a0, a1, a2, a3, a4, a5⟩ := (HBW.out _ HR.out.2).1.facts
    by_cases hlt : i < f.n3
    · have i1 : (i : Int) < (f.n3 : Int) := by omega
      obtain ⟨b, off, ea, hbl, hc⟩ := (HBW.out _ HR.out.2).2.1.pg.mem (by omega)
      obtain ⟨⟨nm, wh⟩, hx⟩ : ∃ x, pg[i]? = some x := ⟨_, List.getElem?_eq_getElem (by rw [HL.out.1]; omega)⟩
      obtain ⟨c0, c1⟩ := hc i _ hx
      dsimp only at c0 c1
      have HT : Hid (r.take (i + 1) = r.take i ++ [relv its ol wh]) := by
        show _ = _; rw [List.take_add_one, ← HRR.out, List.getElem?_map, hx]; rfl
      clear hc hx hbl
      have hcall := rOn_c f its pg O on oc ol wh _ (HBW.out _ HR.out.2).2.1 (HBW.out _ HR.out.2).2.2 HL.out.2.1
      rw [ea] at a2 hcall
      have HC := Lib.hid hcall
      clear ea hcall
      by_cases hw0 : wh.toList = []
      · have HV : Hid (true = relv its ol wh) := by show _ = _; rw [relv_on, if_pos hw0]
        have WW := HR
        go_wp2_with (at_builtin; refine wpb_append rfl _ _ rfl rfl rfl (lo := W.heap.size) (WW.out.1.below (below_alloc _ _)) (blsK _ _) (by omega) (by have := WW.out.2.size; simp; omega) ?_)
        intro A2 c2 w3 ho3 hg3
        have HR2 : Hid (OwnB w3 W.heap.size A2 c2 (i + 1) (r.take (i + 1)) ∧ Below W.heap.size W w3) := by
          refine ⟨by rw [HT.out, ← HV.out]; exact ho3, ?_⟩
          refine (WW.out.2.alloc WW.out.2.size _).grown hg3 (by have := WW.out.2.size; simp; omega) ?_
          intro q hq
          cases A with
          | none => cases hq
          | some ad => simp at hq; subst hq; exact WW.out.1.own.lt ad.block rfl |>.1
        clear ho3 hg3
        go_wp2
        go_roundw
        case rel => exact ⟨i + 1, A2, c2, by omega, by go_num, rfl, HR2⟩
        case measure => simp [intOf]; omega
      · have HQ : Hid (onv its ol wh = relv its ol wh) := by show _ = _; rw [relv_on, if_neg hw0]
        have hem : wh.toList.isEmpty = false := by cases h : wh.toList with | nil => exact absurd h hw0 | cons _ _ => rfl
        go_wp2_with fail
        refine HC.out.mono ?_
        rintro e w2 ⟨rfl, hb⟩
        have WW : Hid (OwnB w2 W.heap.size A c i (r.take i) ∧ Below W.heap.size W w2) := ⟨HR.out.1.below hb, HR.out.2.trans (hb.mono HR.out.2.size)⟩
        clear hb a0 a1 a2 a3 a4 a5 c0 c1
        obtain ⟨v, hv⟩ : ∃ v, v = relv its ol wh := ⟨_, rfl⟩
        rw [HQ.out, ← hv]
        have HV := Lib.hid hv
        clear hv
        go_wp2_with (at_builtin; refine wpb_append rfl _ _ rfl rfl rfl (lo := W.heap.size) (WW.out.1.below (below_alloc _ _)) (blsK _ _) (by omega) (by have := WW.out.2.size; simp; omega) ?_)
        intro A2 c2 w3 ho3 hg3
        have HR2 : Hid (OwnB w3 W.heap.size A2 c2 (i + 1) (r.take (i + 1)) ∧ Below W.heap.size W w3) := by
          refine ⟨by rw [HT.out, ← HV.out]; exact ho3, ?_⟩
          refine (WW.out.2.alloc WW.out.2.size _).grown hg3 (by have := WW.out.2.size; simp; omega) ?_
          intro q hq
          cases A with
          | none => cases hq
          | some ad => simp at hq; subst hq; exact WW.out.1.own.lt ad.block rfl |>.1
        clear ho3 hg3
        go_wp2
        go_roundw
        case rel => exact ⟨i + 1, A2, c2, by omega, by go_num, rfl, HR2⟩
        case measure => simp [intOf]; omega
    · have i1 : ¬ (i : Int) < (f.n3 : Int) := by omega
      have hie : i = f.n3 := by omega
      have HE : Hid (Bls wr A f.n3 r) := by
        have h1 := HR.out.1.bls
        rw [hie, List.take_of_length_le (by rw [hrl.out]; omega)] at h1
        exact h1
      have HIE := Lib.hid hie
      clear hie
      go_wp2
      go_ret
      exact ⟨A, ⟨c, congrArg (fun z : Nat => Ending.returned (.slice A z c)) HIE.out⟩, HE.out, hW0.out.trans (HR.out.2.mono hW0.out.size)⟩
end Go.Proofs.Ytaifgehmlfjljaa
