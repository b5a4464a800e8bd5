/-
  Stairs in memory: the struct of a map and a flag, the rows in the map by their first variables.
-/
import Derived.Test.YtkfkjdpkkagjgaaGreatGsD
import Derived.Maps.OwnSet
namespace Go.Proofs.YtkfkjdpkkagjgaaGreat
set_option maxRecDepth 20000
open Go.RowKit
def conR : Value → Option (DataW Cv × List MemPlace)
 |
  .agg cs => match cs.toList with
  | [.int .i64 s, .slice A n c, .bool b, .slice B m d, .slice C k e] => some (.held ⟨s, A, n, c, ⟨b, B, m, d, C, k, e⟩⟩, [])
  | _ => none
 | _ => none
theorem conR_mk (x : Cv) : conR (.agg #[.int .i64 x.s, .slice x.A x.n x.c, .bool x.K.s, .slice x.K.A x.K.n x.K.c, .slice x.K.B x.K.m x.K.d]) = some (.held x, []) := rfl
theorem conR_inv {v : Value} {x : Cv} {ps : List MemPlace} (h : conR v = some (.held x, ps)) : v = .agg #[.int .i64 x.s, .slice x.A x.n x.c, .bool x.K.s, .slice x.K.A x.K.n x.K.c, .slice x.K.B x.K.m x.K.d] := by
 unfold conR at h
 split at h
 ·
  next cs =>
  split at h
  ·
   next s A n c b B m d C k e heq =>
   injection h with h
   injection h with h1 h2
   injection h1 with h1
   subst h1
   have : cs = #[.int .i64 s, .slice A n c, .bool b, .slice B m d, .slice C k e] := by rw [← Array.toArray_toList (xs := cs), heq]
   rw [this]
  · cases h
 · cases h
def mkey (j : Nat) : Lit := .int .i64 (j : Int)
theorem mkey_wf {j : Nat} (h : j ≤ 1000) : (Lit.int .i64 (j : Int)).wf = true := by
 have e : IntKind.i64.min = -9223372036854775808 := by decide
 simp [Lit.wf, e]
 omega
theorem mkey_ne {i j : Nat} (h : i ≠ j) : mkey i ≠ mkey j := fun e => by
 unfold mkey at e
 injection e with _ e
 omega
theorem mkey_of {j : Nat} (h : j ≤ 1000) : keyOf Tryz.prog 3 (.int .i64 (j : Int)) = some (mkey j) := Maps.keyOf_int_mk Tryz.under3 (mkey_wf h)
theorem Ct.turned {w w' : World} {lo b : Nat} {v : Cv} {L : List (Int × Rat)} {k : Rat} (h : Ct w lo v L k) (hb : b < lo) (hg : w.grownBy w' (some b)) : Ct w' lo v L k := by
 obtain ⟨h1, ⟨l, h2, h3⟩, h4⟩ := h
 have hk : ∀ g, g < w.heap.size → g ≠ b → w'.heap[g]? = w.heap[g]? := fun g h1 h2 => hg.block g h1 (fun e => h2 (by injection e))
 exact ⟨h1, ⟨l, h2.but hb hg.size hk, RdN.but hb hg.size hk h3⟩, h4.but hb hg.size hk⟩
structure StM (n hi : Nat) (w : World) (sb mb : Nat) (rs : List Ro) (ok : Bool) : Prop where
 cell : w.heap[sb]? = some (.cells #[.map (some mb), .bool (!ok)] 58 (0, 0))
 map : ∃ D : DataW Cv, w.ownsMap Tryz.prog 3 conR mb rs.length D ∧ (∀ j : Nat, j ≤ 1000 → Maps.has D (mkey j) = rs.any (fun r => r.v == j)) ∧ Maps.size D = rs.length ∧ (∀ r ∈ rs, ∃ x : Cv, (∀ z, D.atKey (mkey r.v) z = .held x) ∧ x.n ≤ 100 ∧ Ct w hi x r.L r.k)
 sbh : sb < hi
 mbh : mb < hi
 ne : sb ≠ mb
 okr : ∀ r ∈ rs, RoOk n r
 one : rs.Pairwise fun r s => r.v ≠ s.v
theorem StM.lt {n hi : Nat} {w : World} {sb mb : Nat} {rs : List Ro} {ok : Bool} (h : StM n hi w sb mb rs ok) : sb < w.heap.size := (Array.getElem?_eq_some_iff.1 h.cell).1
theorem StM.facts {n hi : Nat} {w : World} {sb mb : Nat} {rs : List Ro} {ok : Bool} (h : StM n hi w sb mb rs ok) : w.cell? ⟨sb, 0, none⟩ = some (.map (some mb)) ∧ w.cell? ⟨sb, 1, none⟩ = some (.bool (!ok)) ∧ w.frozen? ⟨sb, 1, none⟩ = false := by
 have h' := h.cell
 refine ⟨?_, ?_, ?_⟩ <;> simp [World.cell?, World.frozen?, h']
theorem StM.below {n hi : Nat} {w w' : World} {sb mb : Nat} {rs : List Ro} {ok : Bool} (h : StM n hi w sb mb rs ok) (hb : Below w.heap.size w w') : StM n hi w' sb mb rs ok := by
 have hlt := h.lt
 obtain ⟨h1, ⟨D, d1, d2, d3, d4⟩, h3, h4, h5, h6, h7⟩ := h
 refine ⟨(hb.block sb hlt).trans h1, ⟨D, d1.kept (grown_row hb none) (by simp), d2, d3, fun r hr => ?_⟩, h3, h4, h5, h6, h7⟩
 obtain ⟨x, e1, e2, e3⟩ := d4 r hr
 exact ⟨x, e1, e2, e3.below hb⟩
theorem map_type : Tryz.prog.underlying 56 = some (.map 3 28) := by kernel_rfl
theorem con_zero (w : World) : (zeroValue 28).run Tryz.prog w = .ok (.agg #[.int .i64 0, .slice none 0 0, .bool false, .slice none 0 0, .slice none 0 0]) w := by kernel_rfl
theorem StM.look {n hi : Nat} {w : World} {sb mb : Nat} {rs : List Ro} {ok : Bool} (h : StM n hi w sb mb rs ok) {j : Nat} (hj : j ≤ 1000) :
  ∃ x : Cv, (∀ w', Below w.heap.size w w' → (Instr.lookup 56 (.map (some mb)) (.int .i64 (j : Int)) true).run Tryz.prog w' = .ok (.tuple #[.agg #[.int .i64 x.s, .slice x.A x.n x.c, .bool x.K.s, .slice x.K.A x.K.n x.K.c, .slice x.K.B x.K.m x.K.d], .bool (rs.any (fun r => r.v == j))]) w') ∧ ∀ r ∈ rs, r.v = j → x.n ≤ 100 ∧ Ct w hi x r.L r.k := by
 obtain ⟨h1, ⟨D, d1, d2, d3, d4⟩, h3, h4, h5, h6, h7⟩ := h
 have hrun : ∀ (x : Cv), D.atKey (mkey j) (.held ⟨0, none, 0, 0, ⟨false, none, 0, 0, none, 0, 0⟩⟩) = .held x → ∀ w', Below w.heap.size w w' → (Instr.lookup 56 (.map (some mb)) (.int .i64 (j : Int)) true).run Tryz.prog w' = .ok (.tuple #[.agg #[.int .i64 x.s, .slice x.A x.n x.c, .bool x.K.s, .slice x.K.A x.K.n x.K.c, .slice x.K.B x.K.m x.K.d], .bool (rs.any (fun r => r.v == j))]) w' := fun x hx w' hb => by
  obtain ⟨v, ps, hrun, hv⟩ := (d1.kept (grown_row hb none) (by simp)).look_ok (Maps.int_keyed Tryz.under3) map_type (con_zero w') (conR_mk ⟨0, none, 0, 0, ⟨false, none, 0, 0, none, 0, 0⟩⟩) (mkey_of hj)
  rw [d2 j hj] at hrun
  rw [hx] at hv
  have ev := conR_inv hv
  subst ev
  exact hrun
 by_cases hr : ∃ r ∈ rs, r.v = j
 ·
  obtain ⟨r, hr, rfl⟩ := hr
  obtain ⟨x, e1, e2, e3⟩ := d4 r hr
  refine ⟨x, hrun x (e1 _), fun s hs e => ?_⟩
  have : s = r := by
   obtain ⟨i, hi, rfl⟩ := List.getElem_of_mem hs
   obtain ⟨k, hk, rfl⟩ := List.getElem_of_mem hr
   have hp := List.pairwise_iff_getElem.1 h7
   rcases Nat.lt_trichotomy i k with h8 | h8 | h8
   · exact absurd e (hp i k hi hk h8)
   · subst h8; rfl
   · exact absurd e.symm (hp k i hk hi h8)
  subst this
  exact ⟨e2, e3⟩
 ·
  have hnot : Maps.has D (mkey j) = false := by
   rw [d2 j hj, List.any_eq_false]
   intro r hr' e
   exact hr ⟨r, hr', by simpa using e⟩
  exact ⟨_, hrun _ (Maps.atKey_of_not_has hnot _), fun r hr' e => absurd ⟨r, hr', e⟩ hr⟩
theorem StM.put {n hi lo : Nat} {w w' : World} {sb mb : Nat} {rs : List Ro} {ok : Bool} (h : StM n hi w sb mb rs ok) {r : Ro} {x : Cv} (hr : RoOk n r) (hn : ∀ s ∈ rs, s.v ≠ r.v) (hx : x.n ≤ 100) (hc : Ct w lo x r.L r.k) (hlo : hi ≤ lo)
  (hg : w.grownBy w' (some mb)) (hj : r.v ≤ 1000) (ho : ∀ D : DataW Cv, w.ownsMap Tryz.prog 3 conR mb rs.length D → w'.ownsMap Tryz.prog 3 conR mb (rs.length + 1) (D.put (mkey r.v) (.held x))) : StM n hi w' sb mb (rs ++ [r]) ok := by
 have hlt := h.lt
 obtain ⟨h1, ⟨D, d1, d2, d3, d4⟩, h3, h4, h5, h6, h7⟩ := h
 have hnot : Maps.has D (mkey r.v) = false := by
  rw [d2 _ hj, List.any_eq_false]
  intro s hs e
  exact hn s hs (by simpa using e)
 have hD := d1.isMap
 have hkl : WideAt.IsKeyLit (mkey r.v) := trivial
 refine ⟨(hg.block sb hlt (fun e => h5 (by injection e))).trans h1, ⟨_, by rw [List.length_append]; exact ho D d1, fun j hjj => ?_, ?_, fun s hs => ?_⟩, h3, h4, h5, fun s hs => ?_, ?_⟩
 ·
  rw [List.any_append]
  by_cases e : r.v = j
  ·
   subst e
   rw [Maps.has_put_same hD hkl]
   simp
  ·
   rw [Maps.has_put_other (mkey_ne (fun e' => e e'.symm)), d2 j hjj]
   simp [e]
 · rw [Maps.size_put (d1.tidy (Maps.int_keyed Tryz.under3)), hnot, d3]; simp
 ·
  rcases List.mem_append.1 hs with hs | hs
  ·
   obtain ⟨y, e1, e2, e3⟩ := d4 s hs
   exact ⟨y, fun z => by rw [Maps.atKey_put_other (mkey_ne (hn s hs))]; exact e1 z, e2, e3.turned h4 hg⟩
  ·
   rw [List.mem_singleton.1 hs]
   exact ⟨x, fun z => Maps.atKey_put_same hD hkl _ _, hx, (hc.lower hlo).turned h4 hg⟩
 ·
  rcases List.mem_append.1 hs with hs | hs
  · exact h6 s hs
  · rw [List.mem_singleton.1 hs]; exact hr
 ·
  rw [List.pairwise_append]
  exact ⟨h7, List.pairwise_singleton _ _, fun s hs u hu => by rw [List.mem_singleton.1 hu]; exact hn s hs⟩
theorem StM.broken {n hi : Nat} {w : World} {sb mb : Nat} {rs : List Ro} {ok : Bool} (h : StM n hi w sb mb rs ok) : StM n hi (w.setCell ⟨sb, 1, none⟩ (.bool true)) sb mb rs false ∧ w.grownBy (w.setCell ⟨sb, 1, none⟩ (.bool true)) (some sb) := by
 have hg : w.grownBy (w.setCell ⟨sb, 1, none⟩ (.bool true)) (some sb) := kput_grown w sb 1 _
 obtain ⟨h1, ⟨D, d1, d2, d3, d4⟩, h3, h4, h5, h6, h7⟩ := h
 refine ⟨⟨?_, ⟨D, d1.kept hg (fun e => h5 (by injection e with e; exact e.symm)), d2, d3, fun r hr => ?_⟩, h3, h4, h5, h6, h7⟩, hg⟩
 ·
  show (w.heap.modify sb _)[sb]? = _
  rw [Array.getElem?_modify, if_pos rfl, h1]; rfl
 ·
  obtain ⟨x, e1, e2, e3⟩ := d4 r hr
  exact ⟨x, e1, e2, e3.turned h3 hg⟩
end Go.Proofs.YtkfkjdpkkagjgaaGreat
