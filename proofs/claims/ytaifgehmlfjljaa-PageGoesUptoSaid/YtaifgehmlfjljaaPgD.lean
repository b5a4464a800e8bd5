/-
  Forms, pages, switches, rows of bools in memory; which pages count, by the program.
-/
import Derived.Test.YtaifgehmlfjljaaPgC
import Derived.Maps.OwnSet
namespace Go.Proofs.Ytaifgehmlfjljaa
set_option maxRecDepth 20000
open Go.RowKit Go.Maps Go.WideMaps

/-- The call's own row of bools, from block lo on. -/
structure OwnB (w : World) (lo : Nat) (A : Option Addr) (c n : Nat) (l : List Bool) : Prop where
  own : w.ownsRow lo 4 1 (.slice A n c) n (l.map Value.bool)
theorem Try.infob4 : (Try.prog.info? 4).map (fun i => (i.zero, i.size, i.bytes)) = some (some (.bool false), 1, 1) := by kernel_rfl
/-- A row of bools. -/
structure Bls (w : World) (A : Option Addr) (n : Nat) (l : List Bool) : Prop where
  len : l.length = n
  mem : 0 < n → ∃ b off, A = some ⟨b, off, none⟩ ∧ b < w.heap.size ∧ ∀ (j : Nat) x, l[j]? = some x → w.cell? ⟨b, off + j, none⟩ = some (.bool x)
theorem Bls.below {w w' : World} {A : Option Addr} {n : Nat} {l : List Bool} (h : Bls w A n l) (hb : Below w.heap.size w w') : Bls w' A n l :=
  ⟨h.len, fun hn => by
    obtain ⟨b, off, e, h1, hc⟩ := h.mem hn
    exact ⟨b, off, e, Nat.lt_of_lt_of_le h1 hb.size, fun j s hj => (World.cell?_of_block (hb.block b h1)).trans (hc j s hj)⟩⟩
section
variable {w w' : World} {lo lo' n c : Nat} {A : Option Addr} {l : List Bool}
theorem OwnB.len (h : OwnB w lo A c n l) : l.length = n := by simpa using h.own.1
theorem OwnB.cell {g j : Nat} {b : Bool} (h : OwnB w lo (some ⟨g, 0, none⟩) c n l) (hb : l[j]? = some b) : w.cell? ⟨g, j, none⟩ = some (.bool b) := by
  have hj : j < n := by rw [← h.len]; exact (List.getElem?_eq_some_iff.1 hb).1
  rw [h.own.cellAt j (by omega), List.getElem?_map, hb]; rfl
theorem OwnB.thaw {g : Nat} (h : OwnB w lo (some ⟨g, 0, none⟩) c n l) (j : Nat) : w.frozen? ⟨g, j, none⟩ = false := h.own.frozenAt _
theorem OwnB.lt {g : Nat} (h : OwnB w lo (some ⟨g, 0, none⟩) c n l) : lo ≤ g ∧ g < w.heap.size := h.own.lt g rfl
theorem OwnB.set {g : Nat} (h : OwnB w lo (some ⟨g, 0, none⟩) c n l) (j : Nat) (x : Bool) : OwnB (w.setCell ⟨g, j, none⟩ (.bool x)) lo (some ⟨g, 0, none⟩) c n (l.set j x) := by
  refine ⟨?_⟩
  have := h.own.stored j (.bool x)
  rw [List.map_set]
  exact this.1
theorem OwnB.grown (h : OwnB w lo A c n l) {row : Option Nat} (hg : w.grownBy w' row) (hne : ∀ ad, A = some ad → some ad.block ≠ row) : OwnB w' lo A c n l := by
  refine ⟨h.own.kept hg ?_⟩
  cases A with
  | none => left; rfl
  | some ad => right; exact hne ad rfl
theorem OwnB.below (h : OwnB w lo A c n l) (hb : Below w.heap.size w w') : OwnB w' lo A c n l := h.grown (grown_of_below hb) (fun _ _ => by simp)
theorem OwnB.lower (h : OwnB w lo A c n l) (hl : lo' ≤ lo) : OwnB w lo' A c n l := by
  refine ⟨h.own.1, ?_⟩
  rcases h.own.2 with hn | ⟨g, cap, cur, hv, hb, rest⟩
  · exact .inl hn
  · exact .inr ⟨g, cap, cur, hv, by omega, rest⟩
theorem OwnB.made (hg : w'.ownsRow lo 4 1 (.slice A n c) n (madeCells #[.bool false] n).toList) : OwnB w' lo A c n (List.replicate n false) := by
  refine ⟨?_⟩
  have e : (madeCells #[.bool false] n).toList = (List.replicate n false).map Value.bool := by
    rw [toList_madeCells_one]; simp
  rw [← e]; exact hg
theorem OwnB.form (h : OwnB w lo A c n l) (hn : 0 < n) : ∃ g, A = some ⟨g, 0, none⟩ ∧ lo ≤ g ∧ g < w.heap.size := by
  obtain ⟨g, cap, hv, hb, hlt⟩ := h.own.form hn
  injection hv with hA
  exact ⟨g, hA, hb, hlt⟩
theorem OwnB.bls (h : OwnB w lo A c n l) : Bls w A n l :=
  ⟨h.len, fun hn => by
    obtain ⟨g, rfl, _, h2⟩ := h.form hn
    exact ⟨g, 0, rfl, h2, fun j x hj => by rw [Nat.zero_add]; exact h.cell hj⟩⟩
end
/-- A row of switches. -/
structure Sws (w : World) (A : Option Addr) (n : Nat) (its : List SwI) : Prop where
  len : its.length = n
  mem : 0 < n → ∃ b off, A = some ⟨b, off, none⟩ ∧ b < w.heap.size ∧ backSAt w b off its
theorem Sws.below {w w' : World} {A : Option Addr} {n : Nat} {l : List SwI} (h : Sws w A n l) (hb : Below w.heap.size w w') : Sws w' A n l :=
  ⟨h.len, fun hn => by
    obtain ⟨b, off, e, h1, hc⟩ := h.mem hn
    exact ⟨b, off, e, Nat.lt_of_lt_of_le h1 hb.size, hc.below hb h1⟩⟩
/-- A row of pages: names, and whose switch they hang on. -/
structure Pgs (w : World) (A : Option Addr) (n : Nat) (l : List (ByteArray × ByteArray)) : Prop where
  len : l.length = n
  sz : ∀ x ∈ l, x.1.size ≤ 2000000 ∧ x.2.size ≤ 2000000
  mem : 0 < n → ∃ b off, A = some ⟨b, off, none⟩ ∧ b < w.heap.size ∧ ∀ (j : Nat) x, l[j]? = some x → w.cell? ⟨b, off + j * 2, none⟩ = some (.string x.1) ∧ w.cell? ⟨b, off + j * 2 + 1, none⟩ = some (.string x.2)
theorem Pgs.below {w w' : World} {A : Option Addr} {n : Nat} {l : List (ByteArray × ByteArray)} (h : Pgs w A n l) (hb : Below w.heap.size w w') : Pgs w' A n l :=
  ⟨h.len, h.sz, fun hn => by
    obtain ⟨b, off, e, h1, hc⟩ := h.mem hn
    exact ⟨b, off, e, Nat.lt_of_lt_of_le h1 hb.size, fun j s hj => ⟨(World.cell?_of_block (hb.block b h1)).trans (hc j s hj).1, (World.cell?_of_block (hb.block b h1)).trans (hc j s hj).2⟩⟩⟩
/-- A form's rows: switches, params, pages, fields, rules, checks. -/
structure Fv where
  (a1 : Option Addr) (n1 c1 : Nat)
  (a2 : Option Addr) (n2 c2 : Nat)
  (a3 : Option Addr) (n3 c3 : Nat)
  (a4 : Option Addr) (n4 c4 : Nat)
  (a5 : Option Addr) (n5 c5 : Nat)
  (a6 : Option Addr) (n6 c6 : Nat)
/-- A form's block. -/
def F6 (w : World) (b : Nat) (f : Fv) : Prop := w.heap[b]? = some (.cells #[.slice f.a1 f.n1 f.c1, .slice f.a2 f.n2 f.c2, .slice f.a3 f.n3 f.c3, .slice f.a4 f.n4 f.c4, .slice f.a5 f.n5 f.c5, .slice f.a6 f.n6 f.c6] 44 (0, 0))
theorem F6.lt {w : World} {b : Nat} {f : Fv} (h : F6 w b f) : b < w.heap.size := by
  rcases Nat.lt_or_ge b w.heap.size with h1 | h1
  · exact h1
  · have e : w.heap[b]? = none := Array.getElem?_eq_none h1
    unfold F6 at h
    rw [e] at h; cases h
theorem F6.below {w w' : World} {b : Nat} {f : Fv} (h : F6 w b f) (hb : Below w.heap.size w w') : F6 w' b f := (hb.block b h.lt).trans h
theorem F6.kept {w w' : World} {b : Nat} {f : Fv} {row : Option Nat} (h : F6 w b f) (hg : w.grownBy w' row) (hne : some b ≠ row) : F6 w' b f := (hg.block b h.lt hne).trans h
theorem F6.newAt {w : World} {b : Nat} (f : Fv) (hb : b = w.heap.size) : F6 (w.alloc (.cells #[.slice f.a1 f.n1 f.c1, .slice f.a2 f.n2 f.c2, .slice f.a3 f.n3 f.c3, .slice f.a4 f.n4 f.c4, .slice f.a5 f.n5 f.c5, .slice f.a6 f.n6 f.c6] 44)) b f := by subst hb; exact heap_alloc_new w _
theorem F6.facts {w : World} {b : Nat} {f : Fv} (h : F6 w b f) :
    w.cell? ⟨b, 0, none⟩ = some (.slice f.a1 f.n1 f.c1) ∧ w.cell? ⟨b, 1, none⟩ = some (.slice f.a2 f.n2 f.c2) ∧ w.cell? ⟨b, 2, none⟩ = some (.slice f.a3 f.n3 f.c3) ∧ w.cell? ⟨b, 3, none⟩ = some (.slice f.a4 f.n4 f.c4) ∧ w.cell? ⟨b, 4, none⟩ = some (.slice f.a5 f.n5 f.c5) ∧ w.cell? ⟨b, 5, none⟩ = some (.slice f.a6 f.n6 f.c6) := by
  unfold F6 at h
  refine ⟨?_, ?_, ?_, ?_, ?_, ?_⟩ <;> simp [World.cell?, h]
/-- A form that comes in. -/
structure Frm (w : World) (f : Fv) (its : List SwI) (pg : List (ByteArray × ByteArray)) : Prop where
  sw : Sws w f.a1 f.n1 its
  pg : Pgs w f.a3 f.n3 pg
  n1 : f.n1 ≤ 1500000
  n3 : f.n3 ≤ 1500000
theorem Frm.below {w w' : World} {f : Fv} {its : List SwI} {pg : List (ByteArray × ByteArray)} (h : Frm w f its pg) (hb : Below w.heap.size w w') : Frm w' f its pg := ⟨h.sw.below hb, h.pg.below hb, h.n1, h.n3⟩
/-- The place of the first switch of a name. -/
def pl (s : ByteArray) : List SwI → Option Nat
  | [] => none
  | x :: l => if x.1.2.1.data.toList = s.data.toList then some x.1.1 else pl s l
theorem placesD_isMap : ∀ l : List SwI, IsMap (placesD l.reverse)
  | [] => isMap_empty
  | x :: l => by rw [List.reverse_cons, placesD_snoc]; exact (placesD_isMap l).put _ _
theorem placesD_look (s : ByteArray) : ∀ l : List SwI, Maps.has (placesD l.reverse) (keyL s) = (pl s l).isSome ∧ ∀ z : DataW Unit, (placesD l.reverse).atKey (keyL s) z = match pl s l with | some p => .lit (.int .i64 (p : Int)) | none => z
  | [] => ⟨rfl, fun _ => rfl⟩
  | x :: l => by
    obtain ⟨h1, h2⟩ := placesD_look s l
    rw [List.reverse_cons, placesD_snoc, pl]
    split
    · next h =>
      have e : keyL x.1.2.1 = keyL s := by unfold keyL; rw [h]
      rw [e]
      have hk : WideAt.IsKeyLit (keyL s) := by unfold keyL; trivial
      exact ⟨has_put_same (placesD_isMap l) hk _, fun z => atKey_put_same (placesD_isMap l) hk _ z⟩
    · next h =>
      have hne : keyL s ≠ keyL x.1.2.1 := fun e => by
        unfold keyL at e
        injection e with e
        exact h e.symm
      refine ⟨(has_put_other hne _).trans h1, fun z => ?_⟩
      rw [atKey_put_other hne]
      exact h2 z
/-- Whether a page counts. -/
def relv (its : List SwI) (on : List Bool) (s : ByteArray) : Bool :=
  if s.toList = [] then true else match pl s its with
  | none => false
  | some p => on[p]?.getD false
/-- What Relevant holds, some pages on. -/
structure RelI (w wr : World) (f : Fv) (mb : Nat) (its : List SwI) (g : Nat) (L : List Bool) : Prop where
  below : Below w.heap.size w wr
  map : wr.ownsMap Try.prog 9 (plainElem (H := Unit) Try.prog 3) mb f.n1 (placesD its.reverse)
  row : OwnB wr (w.heap.size + 1) (some ⟨g, 0, none⟩) f.n3 f.n3 L
  mg : mb ≠ g
/-- What is told of the first i pages. -/
def relL (its : List SwI) (on : List Bool) (pg : List (ByteArray × ByteArray)) (i : Nat) : List Bool := (pg.take i).map (fun x => relv its on x.2) ++ List.replicate (pg.length - i) false
theorem relL_len (its : List SwI) (on : List Bool) (pg : List (ByteArray × ByteArray)) {i : Nat} (h : i ≤ pg.length) : (relL its on pg i).length = pg.length := by simp [relL]; omega
theorem relL_next {its : List SwI} {on : List Bool} {pg : List (ByteArray × ByteArray)} {i : Nat} {x : ByteArray × ByteArray} (hx : pg[i]? = some x) : (relL its on pg i).set i (relv its on x.2) = relL its on pg (i + 1) := by
  have hl : i < pg.length := (List.getElem?_eq_some_iff.1 hx).1
  have e : pg.take (i + 1) = pg.take i ++ [x] := by rw [List.take_add_one, hx]; rfl
  unfold relL
  rw [e, List.map_append]
  apply List.ext_getElem?; intro j
  rw [List.getElem?_set]
  by_cases hj : i = j
  · subst hj
    rw [if_pos rfl, if_pos (by simp; omega), List.getElem?_append_left (by simp; omega), List.getElem?_append_right (by simp; omega)]
    simp [Nat.min_eq_left (Nat.le_of_lt hl)]
  · rw [if_neg hj]
    by_cases hj2 : j < i
    · rw [List.getElem?_append_left (by simp; omega), List.getElem?_append_left (by simp; omega), List.getElem?_append_left (by simp; omega)]
    · rw [List.getElem?_append_right (by simp; omega), List.getElem?_append_right (by simp; omega), List.getElem?_replicate, List.getElem?_replicate]
      simp only [List.length_map, List.length_take, List.length_append, List.length_singleton, Nat.min_eq_left (Nat.le_of_lt hl)]
      split <;> split <;> first | rfl | omega
theorem relL_end {its : List SwI} {on : List Bool} {pg : List (ByteArray × ByteArray)} : relL its on pg pg.length = pg.map (fun x => relv its on x.2) := by
  simp [relL]
theorem Try.zint3 (w : World) : (zeroValue 3).run Try.prog w = .ok (.int .i64 0) w := by kernel_rfl
set_option maxRecDepth 100000 in
set_option maxHeartbeats 6400000 in
theorem Relevant_c (f : Fv) (its : List SwI) (pg : List (ByteArray × ByteArray)) (O : Option Addr) (on oc : Nat) (ol : List Bool) (w : World) (hf : Frm w f its pg) (ho : Bls w O on ol) (hon : on ≤ 1500000) :
    Calls Try.prog 20 #[.agg #[.slice f.a1 f.n1 f.c1, .slice f.a2 f.n2 f.c2, .slice f.a3 f.n3 f.c3, .slice f.a4 f.n4 f.c4, .slice f.a5 f.n5 f.c5, .slice f.a6 f.n6 f.c6], .slice O on oc] w fun e w' => ∃ g, e = .returned (.slice (some ⟨g, 0, none⟩) f.n3 f.n3) ∧ OwnB w' w.heap.size (some ⟨g, 0, none⟩) f.n3 f.n3 (pg.map fun x => relv its ol x.2) ∧ Below w.heap.size w w' := by
  have HB : Hid (Below w.heap.size w (w.alloc (.cells #[.slice f.a1 f.n1 f.c1, .slice f.a2 f.n2 f.c2, .slice f.a3 f.n3 f.c3, .slice f.a4 f.n4 f.c4, .slice f.a5 f.n5 f.c5, .slice f.a6 f.n6 f.c6] 44)) ∧ (w.alloc (.cells #[.slice f.a1 f.n1 f.c1, .slice f.a2 f.n2 f.c2, .slice f.a3 f.n3 f.c3, .slice f.a4 f.n4 f.c4, .slice f.a5 f.n5 f.c5, .slice f.a6 f.n6 f.c6] 44)).heap.size = w.heap.size + 1) := ⟨below_alloc _ _, by simp⟩
  have hF := F6.newAt (w := w) f rfl
  have HW := Lib.hid (And.intro hf ho)
  have HF := Lib.hid (And.intro hF (And.intro (hf.below HB.out.1) (ho.below HB.out.1)))
  have i0 : (0 : Int) ≤ (f.n3 : Int) := by omega
  have i9 : (f.n3 : Int) ≤ 1500000 := by have := hf.n3; omega
  have o0 : (0 : Int) ≤ (on : Int) := by omega
  have HL := Lib.hid (And.intro hf.n1 (And.intro hf.n3 (And.intro hf.pg.len (And.intro hf.pg.sz ho.len))))
  clear hF hf ho
  go_enter Try.func20, Try.ntmps20
  go_wp2_with fail
  generalize w.alloc (.cells #[.slice f.a1 f.n1 f.c1, .slice f.a2 f.n2 f.c2, .slice f.a3 f.n3 f.c3, .slice f.a4 f.n4 f.c4, .slice f.a5 f.n5 f.c5, .slice f.a6 f.n6 f.c6] 44) = W at *
  refine (placesOf_c f.a1 f.n1 f.c1 its HF.out.2.1.sw.len (by have := HL.out.1; omega) _ HF.out.2.1.sw.mem).mono ?_
  rintro e w1 ⟨rfl, hmap, hb⟩
  have hsz1 := hb.size
  have H1 : Hid (Below w.heap.size w w1 ∧ w1.ownsMap Try.prog 9 (plainElem (H := Unit) Try.prog 3) W.heap.size f.n1 (placesD its.reverse) ∧ F6 w1 w.heap.size f ∧ Frm w1 f its pg ∧ Bls w1 O on ol ∧ W.heap.size < w1.heap.size ∧ w.heap.size + 1 = W.heap.size) := by
    obtain ⟨es, ck, hh, _⟩ := id hmap
    have hlt9 : W.heap.size < w1.heap.size := by
      rcases Nat.lt_or_ge W.heap.size w1.heap.size with h1 | h1
      · exact h1
      · have e : w1.heap[W.heap.size]? = none := Array.getElem?_eq_none h1
        rw [e] at hh; cases hh
    exact ⟨HB.out.1.trans (hb.mono (by have := HB.out.2; omega)), hmap, HF.out.1.below hb, HF.out.2.1.below hb, HF.out.2.2.below hb, hlt9, HB.out.2.symm⟩
  obtain ⟨mb, hmb⟩ : ∃ mb, mb = W.heap.size := ⟨_, rfl⟩
  rw [← hmb] at H1 ⊢
  obtain ⟨a0, a1, a2, a3, a4, a5⟩ := H1.out.2.2.1.facts
  clear hmap hb hsz1 HF HB hmb
  obtain ⟨ib, hib, hbz0, hbz1, hbz2⟩ := info_parts Try.infob4
  go_wp2_with (at_make; refine wpList_make_full _ rfl _ _ _ rfl w1.heap.size 4 ib (.bool false) 1 Try.underlying45 hib hbz0 hbz1 .i64 .i64 _ _ f.n3 rfl rfl (by first | rfl | omega) (by first | rfl | omega) (by first | omega | (rw [hbz2]; omega)) (by unfold maxLen; omega) (Nat.le_refl _) ?_)
  intro w2 hown hgr
  obtain ⟨g, hg⟩ : ∃ g, g = w1.heap.size := ⟨_, rfl⟩
  rw [← hg] at hown
  rw [← hg]
  have hb2 := below_of_grown hgr
  have H2 : Hid (RelI w w2 f mb its g (relL its ol pg 0)) := by
    refine ⟨H1.out.1.trans (hb2.mono H1.out.1.size), H1.out.2.1.kept hgr (by simp), ?_, by have := H1.out.2.2.2.2.2.1; omega⟩
    have e : relL its ol pg 0 = List.replicate f.n3 false := by unfold relL; rw [HL.out.2.2.1]; simp
    rw [e]
    exact (OwnB.made hown).lower (by have := H1.out.1.size; have := H1.out.2.2.2.2.2; omega)
  have H3 : Hid (Frm w2 f its pg ∧ Bls w2 O on ol ∧ g < w2.heap.size ∧ mb ≠ w.heap.size ∧ g ≠ w.heap.size) := ⟨H1.out.2.2.2.1.below hb2, H1.out.2.2.2.2.1.below hb2, (OwnB.made hown).lt.2, by have := H1.out.2.2.2.2.2.2; omega, by have := H1.out.2.2.2.2.2; omega⟩
  obtain ⟨b0, b1, b2, b3, b4, b5⟩ := (H1.out.2.2.1.below hb2).facts
  clear a0 a1 a2 a3 a4 a5 hown hgr hb2 hg
  go_wp2
  clear b0 b1 b2 b3 b4 b5
  go_loopw [21] (fun iv wr => ∃ i : Nat, i ≤ f.n3 ∧ iv = .int .i64 i ∧ Hid (RelI w wr f mb its g (relL its ol pg i))) (fun iv _ => f.n3 - (intOf iv).toNat)
  case atStart => exact ⟨0, Nat.zero_le _, rfl, H2⟩
  case round =>
    clear H2
    obtain ⟨i, hi, rfl, HR⟩ := hrel
    have j0 : (0 : Int) ≤ (i : Int) := by omega
    by_cases hlt : i < f.n3
    · have j1 : (i : Int) < (f.n3 : Int) := by omega
      obtain ⟨b, off, ea, hbl, hc⟩ := (HW.out.1.pg.below HR.out.below).mem (by omega)
      obtain ⟨⟨nm, wh⟩, hx⟩ : ∃ x, pg[i]? = some x := ⟨_, List.getElem?_eq_getElem (by rw [HL.out.2.2.1]; omega)⟩
      obtain ⟨c0, c1⟩ := hc i _ hx
      have HX : Hid (pg[i]? = some (nm, wh) ∧ nm.size ≤ 2000000 ∧ wh.size ≤ 2000000) := ⟨hx, HL.out.2.2.2.1 _ (List.mem_of_getElem? hx)⟩
      dsimp only at c0 c1
      have hkey := key_ok wh HX.out.2.2
      have hown := HR.out.map.alloc (.cells #[.string nm, .string wh] 66)
      have HN : Hid (∀ r, r = relv its ol wh → RelI w ((wr.setCell ⟨g, i, none⟩ (.bool r)).alloc (.cells #[.string nm, .string wh] 66)) f mb its g (relL its ol pg (i + 1))) := fun r hr => by
        have hgw := HR.out.row.lt
        have hgr : wr.grownBy (wr.setCell ⟨g, i, none⟩ (.bool r)) (some g) := ⟨rfl, rfl, rfl, by simp, fun k _ hne => Below.heap_setCell wr ⟨g, i, none⟩ _ k (fun e => hne (by rw [e]))⟩
        have hset := HR.out.row.set i r
        rw [hr, relL_next hx] at hset
        have hmg := HR.out.mg
        rw [hr] at hgr ⊢
        exact ⟨(HR.out.below.setCell (p := ⟨g, i, none⟩) (by show w.heap.size ≤ g; omega) _).alloc (by have := HR.out.below.size; simp; omega) _, (HR.out.map.kept hgr (by simp; exact hmg)).alloc _, hset.below (below_alloc _ _), hmg⟩
      clear hc hx
      obtain ⟨y, hy⟩ : ∃ y, (relL its ol pg i)[i]? = some y := ⟨_, List.getElem?_eq_getElem (by rw [relL_len _ _ _ (by rw [HL.out.2.2.1]; omega), HL.out.2.2.1]; omega)⟩
      have cg := HR.out.row.cell hy
      have tg := HR.out.row.thaw i
      have hgl := HR.out.row.lt.2
      clear hy
      have hlook := placesD_look wh its
      rw [ea]
      obtain ⟨P, hP⟩ : ∃ P, pl wh its = P := ⟨_, rfl⟩
      have HP := Lib.hid hP
      clear hP
      by_cases hw0 : wh.toList = []
      · cases P with
        | none =>
          have HN2 := Lib.hid (HN.out true (by unfold relv; rw [if_pos hw0]))
          go_wp2_with (first
            | (at_lookup; refine wpList_lookup_own_ok_int _ rfl _ _ 69 rfl 9 3 .i64 law9k Try.underlying69 Try.underlying3 (Try.zint3 _) mb f.n1 _ rfl hown _ _ rfl hkey ?_; intro c hat hwc; rw [hlook.1, HP.out]; rw [hlook.2, HP.out] at hat; dsimp only at hat; clear hlook hown hwc; injection hat with hat; injection hat with _ hat; subst hat; dsimp only [Option.isSome])
            | go_in)
          go_roundw
          case rel => exact ⟨i + 1, by omega, by go_num, HN2⟩
          case measure => simp [intOf]; omega
        | some p =>
          have HN2 := Lib.hid (HN.out true (by unfold relv; rw [if_pos hw0]))
          go_wp2_with (first
            | (at_lookup; refine wpList_lookup_own_ok_int _ rfl _ _ 69 rfl 9 3 .i64 law9k Try.underlying69 Try.underlying3 (Try.zint3 _) mb f.n1 _ rfl hown _ _ rfl hkey ?_; intro c hat hwc; rw [hlook.1, HP.out]; rw [hlook.2, HP.out] at hat; dsimp only at hat; clear hlook hown hwc; injection hat with hat; injection hat with _ hat; subst hat; dsimp only [Option.isSome])
            | go_in)
          go_roundw
          case rel => exact ⟨i + 1, by omega, by go_num, HN2⟩
          case measure => simp [intOf]; omega
      · have s1 : wh.toList.isEmpty = false := by
          cases h : wh.toList with
          | nil => exact absurd h hw0
          | cons _ _ => rfl
        cases P with
        | none =>
          have HN2 := Lib.hid (HN.out false (by unfold relv; rw [if_neg hw0, HP.out]))
          go_wp2_with (first
            | (at_lookup; refine wpList_lookup_own_ok_int _ rfl _ _ 69 rfl 9 3 .i64 law9k Try.underlying69 Try.underlying3 (Try.zint3 _) mb f.n1 _ rfl hown _ _ rfl hkey ?_; intro c hat hwc; rw [hlook.1, HP.out]; rw [hlook.2, HP.out] at hat; dsimp only at hat; clear hlook hown hwc; injection hat with hat; injection hat with _ hat; subst hat; dsimp only [Option.isSome])
            | go_in)
          go_roundw
          case rel => exact ⟨i + 1, by omega, by go_num, HN2⟩
          case measure => simp [intOf]; omega
        | some p =>
          by_cases hpo : p < on
          · have p1 : (p : Int) < (on : Int) := by omega
            have p0 : (0 : Int) ≤ (p : Int) := by omega
            obtain ⟨bo, oo, rfl, hbo, hco⟩ := (HW.out.2.below HR.out.below).mem (by omega)
            obtain ⟨r, hr⟩ : ∃ r, ol[p]? = some r := ⟨_, List.getElem?_eq_getElem (by rw [HL.out.2.2.2.2]; omega)⟩
            have co := hco p r hr
            have HN2 := Lib.hid (HN.out r (by unfold relv; rw [if_neg hw0, HP.out]; simp only; rw [hr]; rfl))
            clear hco hr
            go_wp2_with (first
              | (at_lookup; refine wpList_lookup_own_ok_int _ rfl _ _ 69 rfl 9 3 .i64 law9k Try.underlying69 Try.underlying3 (Try.zint3 _) mb f.n1 _ rfl hown _ _ rfl hkey ?_; intro c hat hwc; rw [hlook.1, HP.out]; rw [hlook.2, HP.out] at hat; dsimp only at hat; clear hlook hown hwc; injection hat with hat; injection hat with _ hat; subst hat; dsimp only [Option.isSome])
              | go_in)
            go_roundw
            case rel => exact ⟨i + 1, by omega, by go_num, HN2⟩
            case measure => simp [intOf]; omega
          · have p1 : ¬ (p : Int) < (on : Int) := by omega
            have HN2 := Lib.hid (HN.out false (by unfold relv; rw [if_neg hw0, HP.out]; simp only; rw [List.getElem?_eq_none (by rw [HL.out.2.2.2.2]; omega)]; rfl))
            go_wp2_with (first
              | (at_lookup; refine wpList_lookup_own_ok_int _ rfl _ _ 69 rfl 9 3 .i64 law9k Try.underlying69 Try.underlying3 (Try.zint3 _) mb f.n1 _ rfl hown _ _ rfl hkey ?_; intro c hat hwc; rw [hlook.1, HP.out]; rw [hlook.2, HP.out] at hat; dsimp only at hat; clear hlook hown hwc; injection hat with hat; injection hat with _ hat; subst hat; dsimp only [Option.isSome])
              | go_in)
            go_roundw
            case rel => exact ⟨i + 1, by omega, by go_num, HN2⟩
            case measure => simp [intOf]; omega
    · have j1 : ¬ (i : Int) < (f.n3 : Int) := by omega
      have e : i = f.n3 := by omega
      have HE : Hid (OwnB wr w.heap.size (some ⟨g, 0, none⟩) f.n3 f.n3 (pg.map fun x => relv its ol x.2)) := by
        have h5 := HR.out.row
        rw [e, ← HL.out.2.2.1, relL_end, HL.out.2.2.1] at h5
        exact h5.lower (by omega)
      clear e
      go_wp2
      go_ret
      exact ⟨g, rfl, HE.out, HR.out.below⟩
end Go.Proofs.Ytaifgehmlfjljaa
