/-
  Stairs in memory: the struct of a map and a flag, the rows in the map by their first variables.
  What is left of a sum when rows are taken from it.
-/
import Derived.Test.YtgffkaconhonlaaGreatWGsD
import Derived.Maps.OwnSet
import Derived.Deep.LoopGhost
import Derived.Deep.Cut
import Derived.Test.YtgffkaconhonlaaGreatWRgn
namespace Go.Proofs.YtgffkaconhonlaaGreat
set_option maxRecDepth 20000
open Go.RowKit
def conR : Value → Option (DataW Cv × List MemPlace)
 |
  .agg cs => match cs.toList with
  | [.int .i64 s, .slice A n c, .bool b, .slice B m d, .slice C k e] => some (.held ⟨s, A, n, c, ⟨b, B, m, d, C, k, e⟩⟩, [])
  | _ => none
 | _ => none
theorem conR_mk (x : Cv) : conR (.agg #[.int .i64 x.s, .slice x.A x.n x.c, .bool x.K.s, .slice x.K.A x.K.n x.K.c, .slice x.K.B x.K.m x.K.d]) = some (.held x, []) := rfl
theorem conR_inv {v : Value} {x : Cv} {ps : List MemPlace} (h : conR v = some (.held x, ps)) : v = .agg #[.int .i64 x.s, .slice x.A x.n x.c, .bool x.K.s, .slice x.K.A x.K.n x.K.c, .slice x.K.B x.K.m x.K.d] := by
 unfold conR at h
 split at h
 ·
  next cs =>
  split at h
  ·
   next s A n c b B m d C k e heq =>
   injection h with h
   injection h with h1 h2
   injection h1 with h1
   subst h1
   have : cs = #[.int .i64 s, .slice A n c, .bool b, .slice B m d, .slice C k e] := by rw [← Array.toArray_toList (xs := cs), heq]
   rw [this]
  · cases h
 · cases h
def mkey (j : Nat) : Lit := .int .i64 (j : Int)
theorem mkey_wf {j : Nat} (h : j ≤ 1000) : (Lit.int .i64 (j : Int)).wf = true := by
 have e : IntKind.i64.min = -9223372036854775808 := by decide
 simp [Lit.wf, e]
 omega
theorem mkey_ne {i j : Nat} (h : i ≠ j) : mkey i ≠ mkey j := fun e => by
 unfold mkey at e
 injection e with _ e
 omega
theorem mkey_of {j : Nat} (h : j ≤ 1000) : keyOf Tryz.prog 3 (.int .i64 (j : Int)) = some (mkey j) := Maps.keyOf_int_mk Tryz.under3 (mkey_wf h)
theorem Ct.turned {w w' : World} {lo b : Nat} {v : Cv} {L : List (Int × Rat)} {k : Rat} (h : Ct w lo v L k) (hb : b < lo) (hg : w.grownBy w' (some b)) : Ct w' lo v L k := by
 obtain ⟨h1, ⟨l, h2, h3⟩, h4⟩ := h
 have hk : ∀ g, g < w.heap.size → g ≠ b → w'.heap[g]? = w.heap[g]? := fun g h1 h2 => hg.block g h1 (fun e => h2 (by injection e))
 exact ⟨h1, ⟨l, h2.but hb hg.size hk, RdN.but hb hg.size hk h3⟩, h4.but hb hg.size hk⟩
structure StM (n hi : Nat) (w : World) (sb mb : Nat) (rs : List Ro) (ok : Bool) : Prop where
 cell : w.heap[sb]? = some (.cells #[.map (some mb), .bool (!ok)] 63 (0, 0))
 map : ∃ D : DataW Cv, w.ownsMap Tryz.prog 3 conR mb rs.length D ∧ (∀ j : Nat, j ≤ 1000 → Maps.has D (mkey j) = rs.any (fun r => r.v == j)) ∧ Maps.size D = rs.length ∧ (∀ r ∈ rs, ∃ x : Cv, (∀ z, D.atKey (mkey r.v) z = .held x) ∧ x.n ≤ 100 ∧ Ct w hi x r.L r.k)
 sbh : sb < hi
 mbh : mb < hi
 ne : sb ≠ mb
 okr : ∀ r ∈ rs, RoOk n r
 one : rs.Pairwise fun r s => r.v ≠ s.v
theorem StM.lt {n hi : Nat} {w : World} {sb mb : Nat} {rs : List Ro} {ok : Bool} (h : StM n hi w sb mb rs ok) : sb < w.heap.size := (Array.getElem?_eq_some_iff.1 h.cell).1
theorem StM.facts {n hi : Nat} {w : World} {sb mb : Nat} {rs : List Ro} {ok : Bool} (h : StM n hi w sb mb rs ok) : w.cell? ⟨sb, 0, none⟩ = some (.map (some mb)) ∧ w.cell? ⟨sb, 1, none⟩ = some (.bool (!ok)) ∧ w.frozen? ⟨sb, 1, none⟩ = false := by
 have h' := h.cell
 refine ⟨?_, ?_, ?_⟩ <;> simp [World.cell?, World.frozen?, h']
theorem StM.below {n hi : Nat} {w w' : World} {sb mb : Nat} {rs : List Ro} {ok : Bool} (h : StM n hi w sb mb rs ok) (hb : Below w.heap.size w w') : StM n hi w' sb mb rs ok := by
 have hlt := h.lt
 obtain ⟨h1, ⟨D, d1, d2, d3, d4⟩, h3, h4, h5, h6, h7⟩ := h
 refine ⟨(hb.block sb hlt).trans h1, ⟨D, d1.kept (grown_row hb none) (by simp), d2, d3, fun r hr => ?_⟩, h3, h4, h5, h6, h7⟩
 obtain ⟨x, e1, e2, e3⟩ := d4 r hr
 exact ⟨x, e1, e2, e3.below hb⟩
theorem map_type : Tryz.prog.underlying 61 = some (.map 3 28) := by kernel_rfl
theorem con_zero (w : World) : (zeroValue 28).run Tryz.prog w = .ok (.agg #[.int .i64 0, .slice none 0 0, .bool false, .slice none 0 0, .slice none 0 0]) w := by kernel_rfl
theorem StM.look {n hi : Nat} {w : World} {sb mb : Nat} {rs : List Ro} {ok : Bool} (h : StM n hi w sb mb rs ok) {j : Nat} (hj : j ≤ 1000) :
  ∃ x : Cv, (∀ w', Below w.heap.size w w' → (Instr.lookup 61 (.map (some mb)) (.int .i64 (j : Int)) true).run Tryz.prog w' = .ok (.tuple #[.agg #[.int .i64 x.s, .slice x.A x.n x.c, .bool x.K.s, .slice x.K.A x.K.n x.K.c, .slice x.K.B x.K.m x.K.d], .bool (rs.any (fun r => r.v == j))]) w') ∧ ∀ r ∈ rs, r.v = j → x.n ≤ 100 ∧ Ct w hi x r.L r.k := by
 obtain ⟨h1, ⟨D, d1, d2, d3, d4⟩, h3, h4, h5, h6, h7⟩ := h
 have hrun : ∀ (x : Cv), D.atKey (mkey j) (.held ⟨0, none, 0, 0, ⟨false, none, 0, 0, none, 0, 0⟩⟩) = .held x → ∀ w', Below w.heap.size w w' → (Instr.lookup 61 (.map (some mb)) (.int .i64 (j : Int)) true).run Tryz.prog w' = .ok (.tuple #[.agg #[.int .i64 x.s, .slice x.A x.n x.c, .bool x.K.s, .slice x.K.A x.K.n x.K.c, .slice x.K.B x.K.m x.K.d], .bool (rs.any (fun r => r.v == j))]) w' := fun x hx w' hb => by
  obtain ⟨v, ps, hrun, hv⟩ := (d1.kept (grown_row hb none) (by simp)).look_ok (Maps.int_keyed Tryz.under3) map_type (con_zero w') (conR_mk ⟨0, none, 0, 0, ⟨false, none, 0, 0, none, 0, 0⟩⟩) (mkey_of hj)
  rw [d2 j hj] at hrun
  rw [hx] at hv
  have ev := conR_inv hv
  subst ev
  exact hrun
 by_cases hr : ∃ r ∈ rs, r.v = j
 ·
  obtain ⟨r, hr, rfl⟩ := hr
  obtain ⟨x, e1, e2, e3⟩ := d4 r hr
  refine ⟨x, hrun x (e1 _), fun s hs e => ?_⟩
  have : s = r := by
   obtain ⟨i, hi, rfl⟩ := List.getElem_of_mem hs
   obtain ⟨k, hk, rfl⟩ := List.getElem_of_mem hr
   have hp := List.pairwise_iff_getElem.1 h7
   rcases Nat.lt_trichotomy i k with h8 | h8 | h8
   · exact absurd e (hp i k hi hk h8)
   · subst h8; rfl
   · exact absurd e.symm (hp k i hk hi h8)
  subst this
  exact ⟨e2, e3⟩
 ·
  have hnot : Maps.has D (mkey j) = false := by
   rw [d2 j hj, List.any_eq_false]
   intro r hr' e
   exact hr ⟨r, hr', by simpa using e⟩
  exact ⟨_, hrun _ (Maps.atKey_of_not_has hnot _), fun r hr' e => absurd ⟨r, hr', e⟩ hr⟩
theorem StM.put {n hi lo : Nat} {w w' : World} {sb mb : Nat} {rs : List Ro} {ok : Bool} (h : StM n hi w sb mb rs ok) {r : Ro} {x : Cv} (hr : RoOk n r) (hn : ∀ s ∈ rs, s.v ≠ r.v) (hx : x.n ≤ 100) (hc : Ct w lo x r.L r.k) (hlo : hi ≤ lo)
  (hg : w.grownBy w' (some mb)) (hj : r.v ≤ 1000) (ho : ∀ D : DataW Cv, w.ownsMap Tryz.prog 3 conR mb rs.length D → w'.ownsMap Tryz.prog 3 conR mb (rs.length + 1) (D.put (mkey r.v) (.held x))) : StM n hi w' sb mb (rs ++ [r]) ok := by
 have hlt := h.lt
 obtain ⟨h1, ⟨D, d1, d2, d3, d4⟩, h3, h4, h5, h6, h7⟩ := h
 have hnot : Maps.has D (mkey r.v) = false := by
  rw [d2 _ hj, List.any_eq_false]
  intro s hs e
  exact hn s hs (by simpa using e)
 have hD := d1.isMap
 have hkl : WideAt.IsKeyLit (mkey r.v) := trivial
 refine ⟨(hg.block sb hlt (fun e => h5 (by injection e))).trans h1, ⟨_, by rw [List.length_append]; exact ho D d1, fun j hjj => ?_, ?_, fun s hs => ?_⟩, h3, h4, h5, fun s hs => ?_, ?_⟩
 ·
  rw [List.any_append]
  by_cases e : r.v = j
  ·
   subst e
   rw [Maps.has_put_same hD hkl]
   simp
  ·
   rw [Maps.has_put_other (mkey_ne (fun e' => e e'.symm)), d2 j hjj]
   simp [e]
 · rw [Maps.size_put (d1.tidy (Maps.int_keyed Tryz.under3)), hnot, d3]; simp
 ·
  rcases List.mem_append.1 hs with hs | hs
  ·
   obtain ⟨y, e1, e2, e3⟩ := d4 s hs
   exact ⟨y, fun z => by rw [Maps.atKey_put_other (mkey_ne (hn s hs))]; exact e1 z, e2, e3.turned h4 hg⟩
  ·
   rw [List.mem_singleton.1 hs]
   exact ⟨x, fun z => Maps.atKey_put_same hD hkl _ _, hx, (hc.lower hlo).turned h4 hg⟩
 ·
  rcases List.mem_append.1 hs with hs | hs
  · exact h6 s hs
  · rw [List.mem_singleton.1 hs]; exact hr
 ·
  rw [List.pairwise_append]
  exact ⟨h7, List.pairwise_singleton _ _, fun s hs u hu => by rw [List.mem_singleton.1 hu]; exact hn s hs⟩
theorem StM.broken {n hi : Nat} {w : World} {sb mb : Nat} {rs : List Ro} {ok : Bool} (h : StM n hi w sb mb rs ok) : StM n hi (w.setCell ⟨sb, 1, none⟩ (.bool true)) sb mb rs false ∧ w.grownBy (w.setCell ⟨sb, 1, none⟩ (.bool true)) (some sb) := by
 have hg : w.grownBy (w.setCell ⟨sb, 1, none⟩ (.bool true)) (some sb) := kput_grown w sb 1 _
 obtain ⟨h1, ⟨D, d1, d2, d3, d4⟩, h3, h4, h5, h6, h7⟩ := h
 refine ⟨⟨?_, ⟨D, d1.kept hg (fun e => h5 (by injection e with e; exact e.symm)), d2, d3, fun r hr => ?_⟩, h3, h4, h5, h6, h7⟩, hg⟩
 ·
  show (w.heap.modify sb _)[sb]? = _
  rw [Array.getElem?_modify, if_pos rfl, h1]; rfl
 ·
  obtain ⟨x, e1, e2, e3⟩ := d4 r hr
  exact ⟨x, e1, e2, e3.turned h3 hg⟩
end Go.Proofs.YtgffkaconhonlaaGreat

namespace Go.Proofs.YtgffkaconhonlaaGreat
set_option maxRecDepth 20000
open Go.RowKit
theorem put5_grown (w : World) (b : Nat) (x0 x1 x2 x3 x4 : Value) : w.grownBy (put5 w b x0 x1 x2 x3 x4) (some b) :=
 ((((kput_grown w b 0 _).trans (kput_grown _ b _ _)).trans (kput_grown _ b _ _)).trans (kput_grown _ b _ _)).trans (kput_grown _ b _ _)
theorem Cw.len {w : World} {va : Cv} {L : List (Int × Rat)} {k : Rat} {p : Nat} (h : Cw w va L k p) : va.n = L.length := by
 obtain ⟨_, ⟨la, h2, h3⟩, _⟩ := h
 rw [← h2.len, h3.len]
theorem Ct.len {w : World} {lo : Nat} {va : Cv} {L : List (Int × Rat)} {k : Rat} (h : Ct w lo va L k) : va.n = L.length := by
 obtain ⟨_, ⟨la, h2, h3⟩, _⟩ := h
 rw [← h2.len, h3.len]
structure Two (w w' : World) (a b : Nat) : Prop where
 os : w'.os = w.os
 tape : w'.tape = w.tape
 output : w'.output = w.output
 size : w.heap.size ≤ w'.heap.size
 block : ∀ g, g < w.heap.size → g ≠ a → g ≠ b → w'.heap[g]? = w.heap[g]?
theorem Two.one {w w' : World} {a b : Nat} (h : w.grownBy w' (some a)) : Two w w' a b := ⟨h.os, h.tape, h.output, h.size, fun g h1 h2 _ => h.block g h1 (fun e => h2 (by injection e))⟩
theorem Two.two {w w' : World} {a b : Nat} (h : w.grownBy w' (some b)) : Two w w' a b := ⟨h.os, h.tape, h.output, h.size, fun g h1 _ h2 => h.block g h1 (fun e => h2 (by injection e))⟩
theorem Two.below {w w' : World} {a b : Nat} (h : Below w.heap.size w w') : Two w w' a b := ⟨h.os, h.tape, h.output, h.size, fun g h1 _ _ => h.block g h1⟩
theorem Two.trans {w w' w2 : World} {a b : Nat} (h : Two w w' a b) (h2 : Two w' w2 a b) : Two w w2 a b :=
 ⟨h2.os.trans h.os, h2.tape.trans h.tape, h2.output.trans h.output, Nat.le_trans h.size h2.size, fun g h3 h4 h5 => (h2.block g (Nat.lt_of_lt_of_le h3 h.size) h4 h5).trans (h.block g h3 h4 h5)⟩
theorem Ct.two {w w' : World} {lo a b : Nat} {v : Cv} {L : List (Int × Rat)} {k : Rat} (h : Ct w lo v L k) (ha : a < lo) (hb : b < lo) (hg : Two w w' a b) : Ct w' lo v L k := by
 obtain ⟨h1, ⟨l, h2, h3⟩, h4⟩ := h
 have hk : ∀ g, g < w.heap.size → lo ≤ g → w'.heap[g]? = w.heap[g]? := fun g h1 h2 => hg.block g h1 (by omega) (by omega)
 have hrow : ∀ {n : Nat} {A : Option Addr} {l : List Nat}, Row w lo A n l → Row w' lo A n l := fun h => by
  refine ⟨h.len, h.l32, fun hn => ?_⟩
  obtain ⟨b', off, e, h0, h1, hc⟩ := h.mem hn
  exact ⟨b', off, e, h0, Nat.lt_of_lt_of_le h1 hg.size, fun j hj => (World.cell?_of_block (hk b' h1 h0)).trans (hc j hj)⟩
 have hrt : ∀ {v : Rv} {r : Rat}, Rt w lo v r → Rt w' lo v r := fun h => ⟨h.1, h.2, h.3, hrow h.4, h.5, h.6, hrow h.7⟩
 have hrd : ∀ {l : List Tv} {L : List (Int × Rat)}, RdN w lo l L → RdN w' lo l L := fun {l} => by
  induction l with
  |
   nil => intro L h; cases L with
   | nil => trivial
   | cons _ _ => exact h.elim
  |
   cons x l ih => intro L h; cases L with
   | nil => exact h.elim
   | cons y L => exact ⟨⟨h.1.1, hrt h.1.2⟩, ih h.2⟩
 refine ⟨h1, ⟨l, ⟨h2.len, fun hn => ?_⟩, hrd h3⟩, hrt h4⟩
 obtain ⟨b', off, e, h0, h5, hc⟩ := h2.mem hn
 exact ⟨b', off, e, h0, Nat.lt_of_lt_of_le h5 hg.size, fun i x hx => (hc i x hx).keep (hk b' h5 h0)⟩
theorem Two.under {w W w' : World} {a b : Nat} (hb : Below w.heap.size w W) (h : Two W w' a b) (ha : w.heap.size ≤ a) : w.grownBy w' (some b) :=
 ⟨h.os.trans hb.os, h.tape.trans hb.tape, h.output.trans hb.output, Nat.le_trans hb.size h.size, fun g h1 h2 => (h.block g (Nat.lt_of_lt_of_le h1 hb.size) (by omega) (fun e => h2 (by rw [e]))).trans (hb.block g h1)⟩
structure RestW (n M B b : Nat) (w W wr : World) (va : Cv) (rs : List Ro) (L0 : List (Int × Rat)) (k0 : Rat) (P0 g : Nat) (z : Cv) (L : List (Int × Rat)) (k : Rat) : Prop where
 cell : C5 wr B (.int .i64 z.s) (.slice z.A z.n z.c) (.bool z.K.s) (.slice z.K.A z.K.n z.K.c) (.slice z.K.B z.K.m z.K.d)
 cwo : ∀ w', Two wr w' (B + 1) b → Cw w' z L k 10000000
 rat : RAt n M rs L0 k0 P0 L k
 asc : Asc (M : Int) ((M : Int) - (g : Int)) L
 le : g ≤ M
 str : z.s = va.s
 grown : W.grownBy wr (some B)
theorem RestW.cw {n M B b : Nat} {w W wr : World} {va : Cv} {rs : List Ro} {L0 : List (Int × Rat)} {k0 : Rat} {P0 g : Nat} {z : Cv} {L : List (Int × Rat)} {k : Rat} (h : RestW n M B b w W wr va rs L0 k0 P0 g z L k) : Cw wr z L k 10000000 := h.cwo wr (Two.below (Below.refl _ _))
theorem below_gr {w W wr : World} {B : Nat} (hb : Below w.heap.size w W) (hB : w.heap.size ≤ B) (hg : W.grownBy wr (some B)) : Below w.heap.size w wr :=
 hb.trans ⟨hg.os, hg.tape, hg.output, hg.size, fun q hq => hg.block q (by have := hb.size; omega) (fun e => by injection e with e; omega)⟩
theorem RestW.next {n M B b lo : Nat} {w W wr w2 : World} {va : Cv} {rs : List Ro} {L0 : List (Int × Rat)} {k0 : Rat} {P0 g j : Nat} {z y : Cv} {L L2 : List (Int × Rat)} {k k2 : Rat} (h : RestW n M B b w W wr va rs L0 k0 P0 g z L k)
  (hb : Below wr.heap.size wr w2) (hc : Ct w2 lo y L2 k2) (hlo : B + 1 < lo) (hblo : b < lo) (hr : RAt n M rs L0 k0 P0 L2 k2) (hrs : ∀ r ∈ rs, RoOk n r) (hbd : Bd P0 10000000) (ha : Asc (M : Int) ((j : Int) + 1) L2) (hj : j < M) (hs : y.s = z.s) :
  RestW n M B b w W (put5 w2 B (.int .i64 y.s) (.slice y.A y.n y.c) (.bool y.K.s) (.slice y.K.A y.K.n y.K.c) (.slice y.K.B y.K.m y.K.d)) va rs L0 k0 P0 (M - (j + 1)) y L2 k2 := by
 obtain ⟨s1, s2, _⟩ := hr.bd hrs hbd
 exact ⟨(h.cell.below hb).put _ _ _ _ _, fun w' hw => ((hc.put (by omega) _ _ _ _ _).two hlo hblo hw).cw s1 s2, hr, by rw [show (M : Int) - ((M - (j + 1) : Nat) : Int) = (j : Int) + 1 by omega]; exact ha, by omega, hs.trans h.str, (h.grown.trans (grown_row hb _)).trans (put5_grown _ _ _ _ _ _ _)⟩
def RestPost (n M b : Nat) (rs : List Ro) (va : Cv) (L : List (Int × Rat)) (k : Rat) (P0 : Nat) (w : World) (e : Ending) (w' : World) : Prop :=
 ∃ (z : Cv) (L' : List (Int × Rat)) (k' : Rat), e = .returned (.agg #[.int .i64 z.s, .slice z.A z.n z.c, .bool z.K.s, .slice z.K.A z.K.n z.K.c, .slice z.K.B z.K.m z.K.d]) ∧ z.s = va.s ∧ (∀ w2, w'.grownBy w2 (some b) → Cw w2 z L' k' 10000000) ∧ RAt n M rs L k P0 L' k' ∧ (∀ v q l, L' = (v, q) :: l → ∀ r ∈ rs, (r.v : Int) ≠ v) ∧ Below w.heap.size w w'
set_option maxHeartbeats 12800000 in
theorem rest_c (n M hi sb mb E P0 b : Nat) (rs : List Ro) (ok : Bool) (va : Cv) (L : List (Int × Rat)) (k : Rat) (w : World) (hst : StM n hi w sb mb rs ok) (hnM : n ≤ M) (hM : M ≤ 100) (hA : Asc (M : Int) 0 L) (hF : Fr E L k) (hP : E * pot rs 0 ≤ P0) (hbd : Bd P0 10000000) (hb : b < w.heap.size) (hv : ∀ w', w.grownBy w' (some b) → Cw w' va L k 10000000) :
  Calls Tryz.prog 40 #[.pointer (some ⟨sb, 0, none⟩), .agg #[.int .i64 va.s, .slice va.A va.n va.c, .bool va.K.s, .slice va.K.A va.K.n va.K.c, .slice va.K.B va.K.m va.K.d]] w (RestPost n M b rs va L k P0 w) := by
 have hR0 : RAt n M rs L k P0 L k := RAt.start hA hF hP
 go_enter Tryz.func40, Tryz.ntmps40
 go_wp2_with fail
 generalize hW : (w.alloc (.cells #[.int .i64 va.s, .slice va.A va.n va.c, .bool va.K.s, .slice va.K.A va.K.n va.K.c, .slice va.K.B va.K.m va.K.d] 28)).alloc (.cells #[.int .i64 0, .slice none 0 0, .bool false, .slice none 0 0, .slice none 0 0] 28) = W
 obtain ⟨ka, kz, HW, hsW⟩ := openKz w va W hW
 clear hW
 have HS0 : Hid (RestW n M w.heap.size b w W W va rs L k P0 M va L k) := ⟨ka, fun w' h => hv w' (h.under HW (by omega)), hR0, by rw [Int.sub_self]; exact hA, Nat.le_refl _, rfl, grown_refl _ _⟩
 have HST : Hid (∀ w', Below w.heap.size w w' → StM n hi w' sb mb rs ok) := fun w' h => hst.below h
 have HKZ : Hid (∀ w', W.grownBy w' (some w.heap.size) → C5 w' (w.heap.size + 1) (.int .i64 0) (.slice none 0 0) (.bool false) (.slice none 0 0) (.slice none 0 0) ∧ Below w.heap.size w w') := fun w' h => ⟨(h.block _ (by omega) (fun e => by injection e with e; omega)).trans kz, below_gr HW (Nat.le_refl _) h⟩
 have HP := Lib.hid (And.intro hst.okr (And.intro hbd (And.intro hnM hM)))
 have hsl := hst.lt
 have HBB := Lib.hid hb
 clear ka kz HW hsW hst hR0 hA hF hP hbd hv hnM hM hb
 go_loopg [] M (fun g wr => ∃ (z : Cv) (L' : List (Int × Rat)) (k' : Rat), Hid (RestW n M w.heap.size b w W wr va rs L k P0 g z L' k'))
 case atStart => exact ⟨va, L, k, HS0⟩
 case round =>
  clear HS0
  obtain ⟨z, L', k', HS⟩ := hrel
  obtain ⟨kz, hbw⟩ := HKZ.out _ HS.out.grown
  have HBW := Lib.hid hbw
  have HKW := Lib.hid kz
  clear hbw kz
  have HLEN := Lib.hid HS.out.cw.len
  match L', HS, HLEN with
  |
   [], HS, HLEN =>
   have hi1 : ¬ (0 : Int) < (z.n : Int) := by have := HLEN.out; simp at this; omega
   obtain ⟨a0, a1, a2, a3, a4⟩ := HS.out.cell.facts
   obtain ⟨z0, z1, z2, z3, z4⟩ := HKW.out.facts
   obtain ⟨t0, t1, t2, t3, t4⟩ := HKW.out.thaw
   go_wp2
   refine ret5 (fn := Tryz.f40) Tryz.results40 rfl rfl HKW.out ?_
   exact ⟨⟨z.s, z.A, z.n, z.c, z.K⟩, [], k', rfl, HS.out.str, fun w2 h => HS.out.cwo w2 ((Two.one (put5_grown _ _ _ _ _ _ _)).trans (Two.two h)), HS.out.rat, fun v q l e => (by cases e), HBW.out.trans (put5_below (by omega) _ _ _ _ _)⟩
  |
   (v, q) :: l, HS, HLEN =>
   have hasc := HS.out.asc
   have hgM := HS.out.le
   have hMM := HP.out.2.2.2
   obtain ⟨j, rfl⟩ := Int.eq_ofNat_of_zero_le (show 0 ≤ v by have := hasc.1; omega)
   have hjM : j < M := by have := hasc.2.1; omega
   have hgj : M - (j + 1) < gk := by have := hasc.1; omega
   have HJ := Lib.hid (And.intro hjM hgj)
   have hz0 : z.n ≤ 100 := by have := (HS.out.rat.bd HP.out.1 HP.out.2.1).2.2.len (by omega); have := HLEN.out; omega
   obtain ⟨hzp, ba, oa, xa, eA, hba, hxa, hxv, _⟩ := HS.out.cw.first
   obtain ⟨x, hrun, hrow⟩ := (HST.out _ HBW.out).look (j := j) (by omega)
   have hi1 : (0 : Int) < (z.n : Int) := by omega
   have EA := Lib.hid eA
   have HX : Hid (∀ w', Below wr.heap.size wr w' → w'.cell? ⟨ba, oa, none⟩ = some (.int .i64 (j : Int))) := fun w' h => by
    have := (hxa.keep (h.block ba hba)).h0
    rw [hxv] at this; exact this
   have HRUN := Lib.hid hrun
   have HROW := Lib.hid hrow
   have HC : Hid (∀ w', Below wr.heap.size wr w' → w'.cell? ⟨w.heap.size, 1, none⟩ = some (.slice (some ⟨ba, oa, none⟩) z.n z.c)) := fun w' h => by
    have := (HS.out.cell.below h).facts.2.1
    rw [EA.out] at this; exact this
   have HSB : Hid (∀ w', Below wr.heap.size wr w' → w'.cell? ⟨sb, 0, none⟩ = some (.map (some mb))) := fun w' h => (((HST.out _ HBW.out).below h).facts).1
   have HZ0 := Lib.hid (And.intro hz0 HS.out.cell.lt)
   clear hasc hgM hMM hjM hgj hz0 hzp eA hba hxa hxv hrun hrow
   have a1 := HC.out _ (Below.refl _ _)
   have s0 := HSB.out _ (Below.refl _ _)
   have x0 := HX.out _ (Below.refl _ _)
   by_cases hb : rs.any (fun r => r.v == j) = true
   ·
    have HKEEP : Hid (∀ w', Below wr.heap.size wr w' → (fun w' => w'.cell? ⟨sb, 0, none⟩ = some (.map (some mb)) ∧ w'.cell? ⟨w.heap.size, 1, none⟩ = some (.slice (some ⟨ba, oa, none⟩) z.n z.c) ∧ w'.cell? ⟨ba, oa, none⟩ = some (.int .i64 (j : Int)) ∧ (Instr.lookup 61 (.map (some mb)) (.int .i64 (j : Int)) true).run Tryz.prog w' = .ok (.tuple #[.agg #[.int .i64 x.s, .slice x.A x.n x.c, .bool x.K.s, .slice x.K.A x.K.n x.K.c, .slice x.K.B x.K.m x.K.d], .bool true]) w') w') := fun w' h => ⟨HSB.out _ h, HC.out _ h, HX.out _ h, by have := HRUN.out _ h; rw [hb] at this; exact this⟩
    have HB := Lib.hid hb
    clear hb
    go_upto_region 2 with fail
    refine wp_region_held_drew (S := fun w' => w'.cell? ⟨sb, 0, none⟩ = some (.map (some mb)) ∧ w'.cell? ⟨w.heap.size, 1, none⟩ = some (.slice (some ⟨ba, oa, none⟩) z.n z.c) ∧ w'.cell? ⟨ba, oa, none⟩ = some (.int .i64 (j : Int)) ∧ (Instr.lookup 61 (.map (some mb)) (.int .i64 (j : Int)) true).run Tryz.prog w' = .ok (.tuple #[.agg #[.int .i64 x.s, .slice x.A x.n x.c, .bool x.K.s, .slice x.K.A x.K.n x.K.c, .slice x.K.B x.K.m x.K.d], .bool true]) w') (by kernel_rfl) ?_ (fun hHeld => ?_)
    · exact HKEEP.out _ (by first | exact Below.refl _ _ | exact bel1 _ | exact ((Below.refl _ _).alloc (Nat.le_refl _) _).drew | exact (((Below.refl _ _).alloc (Nat.le_refl _) _).drew) | exact (Below.refl _ _).alloc (Nat.le_refl _) _ | exact (bel1 _).alloc (Nat.le_refl _) _)
    refine tk (i := 0) (h := ?_)
    try simp only [zR]
    refine tk (i := 1) (h := ?_)
    try simp only [zR]
    refine tk (i := 2) (h := ?_)
    try simp only [zR]
    refine tk (i := 3) (h := ?_)
    try simp only [zR]
    refine tk (i := 4) (h := ?_)
    try simp only [zR]
    refine tk (i := 5) (h := ?_)
    try simp only [zR]
    refine tk (i := 6) (h := ?_)
    try simp only [zR]
    refine tk (i := 7) (h := ?_)
    try simp only [zR]
    refine tk (i := 8) (h := ?_)
    try simp only [zR]
    refine tk (i := 9) (h := ?_)
    try simp only [zR]
    refine tk (i := 10) (h := ?_)
    try simp only [zR]
    refine tk (i := 11) (h := ?_)
    try simp only [zR]
    refine tk (i := 12) (h := ?_)
    try simp only [zR]
    refine tr [13] ?_
    refine tc (h := fun K hK => ?_) (hs := tn)
    try go_simp
    try go_wp2_with fail
    refine hK.out _ _ ?_ (fun hHeld2 => ?_)
    · exact HKEEP.out _ (by first | exact Below.refl _ _ | exact bel1 _ | exact ((Below.refl _ _).alloc (Nat.le_refl _) _).drew | exact (((Below.refl _ _).alloc (Nat.le_refl _) _).drew) | exact (Below.refl _ _).alloc (Nat.le_refl _) _ | exact (bel1 _).alloc (Nat.le_refl _) _)
    clear hK K hHeld
    have hHeld := hHeld2
    clear hHeld2
    try simp only [zR]
    refine tr [14] ?_
    refine tc (h := fun K hK => ?_) (hs := tn)
    try go_simp
    try go_wp2_with fail
    refine hK.out _ _ ?_ (fun hHeld2 => ?_)
    · exact HKEEP.out _ (by first | exact Below.refl _ _ | exact bel1 _ | exact ((Below.refl _ _).alloc (Nat.le_refl _) _).drew | exact (((Below.refl _ _).alloc (Nat.le_refl _) _).drew) | exact (Below.refl _ _).alloc (Nat.le_refl _) _ | exact (bel1 _).alloc (Nat.le_refl _) _)
    clear hK K hHeld
    have hHeld := hHeld2
    clear hHeld2
    try simp only [zR]
    refine tk (i := 15) (h := ?_)
    try simp only [zR]
    refine wpAnyH_done (by kernel_rfl) ?_ _
    clear a1 s0 x0 hHeld
    have hbq : Below wr.heap.size wr (wr.alloc (.cells #[.int .i64 x.s, .slice x.A x.n x.c, .bool x.K.s, .slice x.K.A x.K.n x.K.c, .slice x.K.B x.K.m x.K.d] 28)).drew := ((Below.refl _ _).alloc (Nat.le_refl _) _).drew
    have hcx : C5 (wr.alloc (.cells #[.int .i64 x.s, .slice x.A x.n x.c, .bool x.K.s, .slice x.K.A x.K.n x.K.c, .slice x.K.B x.K.m x.K.d] 28)).drew wr.heap.size (.int .i64 x.s) (.slice x.A x.n x.c) (.bool x.K.s) (.slice x.K.A x.K.n x.K.c) (.slice x.K.B x.K.m x.K.d) := C5.new wr (.int .i64 x.s) (.slice x.A x.n x.c) (.bool x.K.s) (.slice x.K.A x.K.n x.K.c) (.slice x.K.B x.K.m x.K.d)
    have HBQ := Lib.hid (And.intro hbq hcx)
    clear hbq hcx
    have hne1 : ¬ wr.heap.size = w.heap.size := by have := HZ0.out.2; omega
    have hne2 : ¬ w.heap.size = wr.heap.size := fun e => hne1 e.symm
    generalize (wr.alloc (.cells #[.int .i64 x.s, .slice x.A x.n x.c, .bool x.K.s, .slice x.K.A x.K.n x.K.c, .slice x.K.B x.K.m x.K.d] 28)).drew = wq at *
    obtain ⟨a0, a1, a2, a3, a4⟩ := (HS.out.cell.below HBQ.out.1).facts
    obtain ⟨b0, b1, b2, b3, b4⟩ := HBQ.out.2.facts
    obtain ⟨r, hr, hrv⟩ := List.any_eq_true.1 HB.out
    have hrj : r.v = j := by simpa using hrv
    obtain ⟨s, m, hm⟩ := (HP.out.1 r hr).hd
    rw [hrj] at hm
    obtain ⟨g1, g2, g3, g4, g5, g6, g7, g8, g9, g10, g11⟩ := HS.out.rat.step HP.out.2.2.1 HP.out.1 HP.out.2.1 hr (by rw [hrj]) hm
    have hxc := (((HROW.out r hr hrj).2.below HBQ.out.1).cw g10 g11)
    have hxn := (HROW.out r hr hrj).1
    have hasc2 := ls_asc HS.out.asc (by have h9 := (HP.out.1 r hr).asc; rw [hm] at h9; exact h9.more (N' := (M : Int)) (by have := HP.out.2.2.1; omega))
    rw [hm] at g1 g8 hxc
    have HG := Lib.hid (And.intro g1 (And.intro g2 (And.intro g3 (And.intro g4 (And.intro g5 (And.intro g6 (And.intro g7 (And.intro g8 (And.intro g9 (And.intro hxc hasc2))))))))))
    have HXN : Hid (x.n ≤ 400) := by show _ ≤ _; omega
    have HZN : Hid (z.n ≤ 400) := by have := HZ0.out.1; show _ ≤ _; omega
    clear hr hrv hrj hm g1 g2 g3 g4 g5 g6 g7 g8 g9 g10 g11 hxc hxn hasc2
    go_wp2_with fail
    refine (less_c z x (j : Int) q s k' r.k l m 10000000 _ (HS.out.cw.below HBQ.out.1) HG.out.2.2.2.2.2.2.2.2.2.1 HG.out.2.1 HG.out.2.2.1 HG.out.2.2.2.1 HG.out.2.2.2.2.1 HG.out.2.2.2.2.2.1 HG.out.2.2.2.2.2.2.1 HG.out.2.2.2.2.2.2.2.1 HG.out.2.2.2.2.2.2.2.2.1 HZN.out HXN.out (by omega)).mono ?_
    rintro ee w9 ⟨y, rfl, hy1, _, hy3, hb9⟩
    have HN := Lib.hid (RestW.next HS.out (HBQ.out.1.trans (hb9.mono HBQ.out.1.size)) hy3 (by have h1 := HKW.out.lt; have h2 := HBQ.out.1.size; omega) (by have h1 := HKW.out.lt; have h2 := HBQ.out.1.size; have h3 := HBB.out; omega) HG.out.1 HP.out.1 HP.out.2.1 HG.out.2.2.2.2.2.2.2.2.2.2 HJ.out.1 hy1)
    have k9 := (HS.out.cell.below HBQ.out.1).below hb9
    clear a0 a1 a2 a3 a4 b0 b1 b2 b3 b4 hy1 hy3 hb9
    obtain ⟨a0, a1, a2, a3, a4⟩ := k9.facts
    obtain ⟨t0, t1, t2, t3, t4⟩ := k9.thaw
    clear k9
    go_wp2
    go_roundg (M - (j + 1))
    case measure => exact HJ.out.2
    case rel => exact ⟨y, _, _, HN⟩
   ·
    have hb' : rs.any (fun r => r.v == j) = false := by simpa using hb
    have HKEEP : Hid (∀ w', Below wr.heap.size wr w' → (fun w' => w'.cell? ⟨sb, 0, none⟩ = some (.map (some mb)) ∧ w'.cell? ⟨w.heap.size, 1, none⟩ = some (.slice (some ⟨ba, oa, none⟩) z.n z.c) ∧ w'.cell? ⟨ba, oa, none⟩ = some (.int .i64 (j : Int)) ∧ (Instr.lookup 61 (.map (some mb)) (.int .i64 (j : Int)) true).run Tryz.prog w' = .ok (.tuple #[.agg #[.int .i64 x.s, .slice x.A x.n x.c, .bool x.K.s, .slice x.K.A x.K.n x.K.c, .slice x.K.B x.K.m x.K.d], .bool false]) w') w') := fun w' h => ⟨HSB.out _ h, HC.out _ h, HX.out _ h, by have := HRUN.out _ h; rw [hb'] at this; exact this⟩
    have HB := Lib.hid hb'
    clear hb hb'
    go_upto_region 2 with fail
    refine wp_region_held_drew (S := fun w' => w'.cell? ⟨sb, 0, none⟩ = some (.map (some mb)) ∧ w'.cell? ⟨w.heap.size, 1, none⟩ = some (.slice (some ⟨ba, oa, none⟩) z.n z.c) ∧ w'.cell? ⟨ba, oa, none⟩ = some (.int .i64 (j : Int)) ∧ (Instr.lookup 61 (.map (some mb)) (.int .i64 (j : Int)) true).run Tryz.prog w' = .ok (.tuple #[.agg #[.int .i64 x.s, .slice x.A x.n x.c, .bool x.K.s, .slice x.K.A x.K.n x.K.c, .slice x.K.B x.K.m x.K.d], .bool false]) w') (by kernel_rfl) ?_ (fun hHeld => ?_)
    · exact HKEEP.out _ (by first | exact Below.refl _ _ | exact bel1 _ | exact ((Below.refl _ _).alloc (Nat.le_refl _) _).drew | exact (((Below.refl _ _).alloc (Nat.le_refl _) _).drew) | exact (Below.refl _ _).alloc (Nat.le_refl _) _ | exact (bel1 _).alloc (Nat.le_refl _) _)
    refine tk (i := 0) (h := ?_)
    try simp only [zR]
    refine tk (i := 1) (h := ?_)
    try simp only [zR]
    refine tk (i := 2) (h := ?_)
    try simp only [zR]
    refine tk (i := 3) (h := ?_)
    try simp only [zR]
    refine tk (i := 4) (h := ?_)
    try simp only [zR]
    refine tk (i := 5) (h := ?_)
    try simp only [zR]
    refine tk (i := 6) (h := ?_)
    try simp only [zR]
    refine tk (i := 7) (h := ?_)
    try simp only [zR]
    refine tk (i := 8) (h := ?_)
    try simp only [zR]
    refine tk (i := 9) (h := ?_)
    try simp only [zR]
    refine tk (i := 10) (h := ?_)
    try simp only [zR]
    refine tk (i := 11) (h := ?_)
    try simp only [zR]
    refine tk (i := 12) (h := ?_)
    try simp only [zR]
    refine tr [13] ?_
    refine tc (h := fun K hK => ?_) (hs := tn)
    try go_simp
    try go_wp2_with fail
    refine hK.out _ _ ?_ (fun hHeld2 => ?_)
    · exact HKEEP.out _ (by first | exact Below.refl _ _ | exact bel1 _ | exact ((Below.refl _ _).alloc (Nat.le_refl _) _).drew | exact (((Below.refl _ _).alloc (Nat.le_refl _) _).drew) | exact (Below.refl _ _).alloc (Nat.le_refl _) _ | exact (bel1 _).alloc (Nat.le_refl _) _)
    clear hK K hHeld
    have hHeld := hHeld2
    clear hHeld2
    try simp only [zR]
    refine tr [14] ?_
    refine tc (h := fun K hK => ?_) (hs := tn)
    try go_simp
    try go_wp2_with fail
    refine hK.out _ _ ?_ (fun hHeld2 => ?_)
    · exact HKEEP.out _ (by first | exact Below.refl _ _ | exact bel1 _ | exact ((Below.refl _ _).alloc (Nat.le_refl _) _).drew | exact (((Below.refl _ _).alloc (Nat.le_refl _) _).drew) | exact (Below.refl _ _).alloc (Nat.le_refl _) _ | exact (bel1 _).alloc (Nat.le_refl _) _)
    clear hK K hHeld
    have hHeld := hHeld2
    clear hHeld2
    try simp only [zR]
    refine tk (i := 15) (h := ?_)
    try simp only [zR]
    refine wpAnyH_done (by kernel_rfl) ?_ _
    clear a1 s0 x0 hHeld
    have hbq : Below wr.heap.size wr (wr.alloc (.cells #[.int .i64 x.s, .slice x.A x.n x.c, .bool x.K.s, .slice x.K.A x.K.n x.K.c, .slice x.K.B x.K.m x.K.d] 28)).drew := ((Below.refl _ _).alloc (Nat.le_refl _) _).drew
    have hcx : C5 (wr.alloc (.cells #[.int .i64 x.s, .slice x.A x.n x.c, .bool x.K.s, .slice x.K.A x.K.n x.K.c, .slice x.K.B x.K.m x.K.d] 28)).drew wr.heap.size (.int .i64 x.s) (.slice x.A x.n x.c) (.bool x.K.s) (.slice x.K.A x.K.n x.K.c) (.slice x.K.B x.K.m x.K.d) := C5.new wr (.int .i64 x.s) (.slice x.A x.n x.c) (.bool x.K.s) (.slice x.K.A x.K.n x.K.c) (.slice x.K.B x.K.m x.K.d)
    have HBQ := Lib.hid (And.intro hbq hcx)
    clear hbq hcx
    have hne1 : ¬ wr.heap.size = w.heap.size := by have := HZ0.out.2; omega
    have hne2 : ¬ w.heap.size = wr.heap.size := fun e => hne1 e.symm
    generalize (wr.alloc (.cells #[.int .i64 x.s, .slice x.A x.n x.c, .bool x.K.s, .slice x.K.A x.K.n x.K.c, .slice x.K.B x.K.m x.K.d] 28)).drew = wq at *
    obtain ⟨a0, a1, a2, a3, a4⟩ := (HS.out.cell.below HBQ.out.1).facts
    have kz := HKW.out.below HBQ.out.1
    obtain ⟨z0, z1, z2, z3, z4⟩ := kz.facts
    obtain ⟨t0, t1, t2, t3, t4⟩ := kz.thaw
    go_wp2
    refine ret5 (fn := Tryz.f40) Tryz.results40 rfl rfl kz ?_
    exact ⟨⟨z.s, z.A, z.n, z.c, z.K⟩, ((j : Int), q) :: l, k', rfl, HS.out.str, fun w2 h => HS.out.cwo w2 (((Two.below HBQ.out.1).trans (Two.one (put5_grown _ _ _ _ _ _ _))).trans (Two.two h)), HS.out.rat, fun v q l e r hr hv => (by injection e with e _; injection e with e _; have h1 := List.any_eq_false.1 HB.out r hr; exact h1 (by simp; omega)), (HBW.out.trans (HBQ.out.1.mono HBW.out.size)).trans (put5_below (by omega) _ _ _ _ _)⟩
end Go.Proofs.YtgffkaconhonlaaGreat
