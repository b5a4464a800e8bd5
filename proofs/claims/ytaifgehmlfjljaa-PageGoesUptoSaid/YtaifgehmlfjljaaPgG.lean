/-
  The page ahead that counts, by the program.
-/
import Derived.Test.YtaifgehmlfjljaaPgF
import Derived.RangeFuncWrites
namespace Go.Proofs.Ytaifgehmlfjljaa
set_option maxRecDepth 20000
open Go.RowKit Go.Shelf Go.Maps Go.WideMaps
attribute [local go_sem] Oper.semAt_some

/-- A page that counts, ahead of a place. -/
def isBk (r : List Bool) (a : Int) (j : Nat) : Prop := r[j]? = some true ∧ (j : Int) < a
/-- What Back answers. -/
def BkPost (r : List Bool) (a : Int) (e : Ending) : Prop :=
  (∃ i : Nat, e = .returned (.tuple #[.int .i64 (i : Int), .bool true]) ∧ isBk r a i ∧ ∀ j, i < j → ¬ isBk r a j) ∨ (e = .returned (.tuple #[.int .i64 a, .bool false]) ∧ ∀ j, ¬ isBk r a j)
theorem items (r : List Bool) (h : r.length ≤ 1500000) : ∃ its : List BoI, its.length = r.length ∧ ∀ (j : Nat) x, its[j]? = some x → x.1.1 = j ∧ r[j]? = some x.1.2 := by
  have : ∀ n, n ≤ r.length → ∃ its : List BoI, its.length = n ∧ ∀ (j : Nat) x, its[j]? = some x → x.1.1 = j ∧ r[j]? = some x.1.2 := by
    intro n
    induction n with
    | zero => exact fun _ => ⟨[], rfl, fun j x h => by simp at h⟩
    | succ n ih =>
      intro hn
      obtain ⟨l, hl, hP⟩ := ih (by omega)
      refine ⟨l ++ [⟨(n, r[n]), by show n ≤ _; omega⟩], by simp [hl], fun j x hj => ?_⟩
      by_cases hjn : j < n
      · rw [List.getElem?_append_left (by omega)] at hj
        exact hP j x hj
      · have hj2 := (List.getElem?_eq_some_iff.1 hj).1
        simp [hl] at hj2
        obtain rfl : j = n := by omega
        rw [List.getElem?_append_right (by omega), hl, Nat.sub_self] at hj
        simp at hj; subst hj
        exact ⟨rfl, List.getElem?_eq_getElem (by omega)⟩
  exact this r.length (Nat.le_refl _)
/-- A hit: an item that counts, ahead of a place. -/
def hit (a : Int) (x : BoI) : Prop := x.1.2 = true ∧ (x.1.1 : Int) < a
theorem bk_none {r : List Bool} {a : Int} {its : List BoI} (hl : its.length = r.length) (hP : ∀ (j : Nat) x, its[j]? = some x → x.1.1 = j ∧ r[j]? = some x.1.2) (h : ∀ p ∈ its.reverse, ¬ hit a p) : ∀ j, ¬ isBk r a j := fun j hj => by
  have hj2 := (List.getElem?_eq_some_iff.1 hj.1).1
  obtain ⟨x, hx⟩ : ∃ x, its[j]? = some x := ⟨_, List.getElem?_eq_getElem (by omega)⟩
  obtain ⟨e1, e2⟩ := hP j x hx
  refine h x (List.mem_reverse.2 (List.mem_of_getElem? hx)) ⟨?_, by rw [e1]; exact hj.2⟩
  rw [hj.1] at e2; injection e2 with e2; exact e2.symm
theorem bk_some {r : List Bool} {a : Int} {its ini : List BoI} {last : BoI} {k : Nat} (hl : its.length = r.length) (hP : ∀ (j : Nat) x, its[j]? = some x → x.1.1 = j ∧ r[j]? = some x.1.2) (hk : k ≤ its.length) (e : its.reverse.take k = ini ++ [last]) (hn : ∀ p ∈ ini, ¬ hit a p) (hh : hit a last) : isBk r a last.1.1 ∧ ∀ j, last.1.1 < j → ¬ isBk r a j := by
  have hkl : (its.reverse.take k).length = ini.length + 1 := by rw [e]; simp
  rw [List.length_take, List.length_reverse, Nat.min_eq_left hk] at hkl
  have hq : its[its.length - 1 - ini.length]? = some last := by
    have h1 : (its.reverse.take k)[ini.length]? = some last := by rw [e, List.getElem?_append_right (Nat.le_refl _), Nat.sub_self]; rfl
    rw [List.getElem?_take, if_pos (by omega), List.getElem?_reverse (by omega)] at h1
    exact h1
  obtain ⟨e1, e2⟩ := hP _ _ hq
  refine ⟨⟨by rw [e1, e2]; exact congrArg some hh.1, hh.2⟩, fun j hj hb => ?_⟩
  have hj2 := (List.getElem?_eq_some_iff.1 hb.1).1
  obtain ⟨x, hx⟩ : ∃ x, its[j]? = some x := ⟨_, List.getElem?_eq_getElem (by omega)⟩
  obtain ⟨e3, e4⟩ := hP j x hx
  have hin : x ∈ ini := by
    have h1 : (its.reverse.take k)[its.length - 1 - j]? = some x := by
      rw [List.getElem?_take, if_pos (by omega), List.getElem?_reverse (by omega), show its.length - 1 - (its.length - 1 - j) = j by omega]; exact hx
    rw [e, List.getElem?_append_left (by omega)] at h1
    exact List.mem_of_getElem? h1
  refine hn x hin ⟨?_, by rw [e3]; exact hb.2⟩
  rw [hb.1] at e4; injection e4 with e4; exact e4.symm
/-- No item is a hit. -/
def NoHit (a : Int) (l : List BoI) : Prop := ∀ p ∈ l, ¬ hit a p
set_option maxRecDepth 100000 in
set_option maxHeartbeats 6400000 in
theorem Back_c (f : Fv) (its0 : List SwI) (pg : List (ByteArray × ByteArray)) (O : Option Addr) (on oc : Nat) (ol : List Bool) (a : Int) (w : World) (hf : Frm w f its0 pg) (ho : Bls w O on ol) (hon : on ≤ 1500000) :
    Calls Try.prog 24 #[.agg #[.slice f.a1 f.n1 f.c1, .slice f.a2 f.n2 f.c2, .slice f.a3 f.n3 f.c3, .slice f.a4 f.n4 f.c4, .slice f.a5 f.n5 f.c5, .slice f.a6 f.n6 f.c6], .slice O on oc, .int .i64 a] w fun e w' => BkPost (pg.map fun x => relv its0 ol x.2) a e ∧ Below w.heap.size w w' := by
  have hb4 : Below w.heap.size w ((((w.alloc (.cells #[.slice f.a1 f.n1 f.c1, .slice f.a2 f.n2 f.c2, .slice f.a3 f.n3 f.c3, .slice f.a4 f.n4 f.c4, .slice f.a5 f.n5 f.c5, .slice f.a6 f.n6 f.c6] 44)).alloc (.cells #[.int .i64 a] 3)).alloc (.cells #[.int .i64 0] 3)).alloc (.cells #[.bool false] 4)) := ((((Below.refl _ w).alloc (Nat.le_refl _) _).alloc (by simp) _).alloc (by simp; omega) _).alloc (by simp; omega) _
  have hF6 : F6 ((((w.alloc (.cells #[.slice f.a1 f.n1 f.c1, .slice f.a2 f.n2 f.c2, .slice f.a3 f.n3 f.c3, .slice f.a4 f.n4 f.c4, .slice f.a5 f.n5 f.c5, .slice f.a6 f.n6 f.c6] 44)).alloc (.cells #[.int .i64 a] 3)).alloc (.cells #[.int .i64 0] 3)).alloc (.cells #[.bool false] 4)) w.heap.size f := (F6.newAt f rfl).below ((((Below.refl _ _).alloc (Nat.le_refl _) _).alloc (by simp) _).alloc (by simp) _)
  have bA : Boxed ((((w.alloc (.cells #[.slice f.a1 f.n1 f.c1, .slice f.a2 f.n2 f.c2, .slice f.a3 f.n3 f.c3, .slice f.a4 f.n4 f.c4, .slice f.a5 f.n5 f.c5, .slice f.a6 f.n6 f.c6] 44)).alloc (.cells #[.int .i64 a] 3)).alloc (.cells #[.int .i64 0] 3)).alloc (.cells #[.bool false] 4)) (w.heap.size + 1) 3 (.int .i64 a) := by have := ((Boxed.new (w.alloc (.cells #[.slice f.a1 f.n1 f.c1, .slice f.a2 f.n2 f.c2, .slice f.a3 f.n3 f.c3, .slice f.a4 f.n4 f.c4, .slice f.a5 f.n5 f.c5, .slice f.a6 f.n6 f.c6] 44)) 3 (.int .i64 a)).alloc (.cells #[.int .i64 0] 3)).alloc (.cells #[.bool false] 4); rwa [World.size_alloc] at this
  have bI : Boxed ((((w.alloc (.cells #[.slice f.a1 f.n1 f.c1, .slice f.a2 f.n2 f.c2, .slice f.a3 f.n3 f.c3, .slice f.a4 f.n4 f.c4, .slice f.a5 f.n5 f.c5, .slice f.a6 f.n6 f.c6] 44)).alloc (.cells #[.int .i64 a] 3)).alloc (.cells #[.int .i64 0] 3)).alloc (.cells #[.bool false] 4)) (w.heap.size + 1 + 1) 3 (.int .i64 0) := by have := (Boxed.new ((w.alloc (.cells #[.slice f.a1 f.n1 f.c1, .slice f.a2 f.n2 f.c2, .slice f.a3 f.n3 f.c3, .slice f.a4 f.n4 f.c4, .slice f.a5 f.n5 f.c5, .slice f.a6 f.n6 f.c6] 44)).alloc (.cells #[.int .i64 a] 3)) 3 (.int .i64 0)).alloc (.cells #[.bool false] 4); rwa [World.size_alloc, World.size_alloc] at this
  have bO : Boxed ((((w.alloc (.cells #[.slice f.a1 f.n1 f.c1, .slice f.a2 f.n2 f.c2, .slice f.a3 f.n3 f.c3, .slice f.a4 f.n4 f.c4, .slice f.a5 f.n5 f.c5, .slice f.a6 f.n6 f.c6] 44)).alloc (.cells #[.int .i64 a] 3)).alloc (.cells #[.int .i64 0] 3)).alloc (.cells #[.bool false] 4)) (w.heap.size + 1 + 1 + 1) 4 (.bool false) := by have := Boxed.new (((w.alloc (.cells #[.slice f.a1 f.n1 f.c1, .slice f.a2 f.n2 f.c2, .slice f.a3 f.n3 f.c3, .slice f.a4 f.n4 f.c4, .slice f.a5 f.n5 f.c5, .slice f.a6 f.n6 f.c6] 44)).alloc (.cells #[.int .i64 a] 3)).alloc (.cells #[.int .i64 0] 3)) 4 (.bool false); rwa [World.size_alloc, World.size_alloc, World.size_alloc] at this
  have hsz4 : ((((w.alloc (.cells #[.slice f.a1 f.n1 f.c1, .slice f.a2 f.n2 f.c2, .slice f.a3 f.n3 f.c3, .slice f.a4 f.n4 f.c4, .slice f.a5 f.n5 f.c5, .slice f.a6 f.n6 f.c6] 44)).alloc (.cells #[.int .i64 a] 3)).alloc (.cells #[.int .i64 0] 3)).alloc (.cells #[.bool false] 4)).heap.size = w.heap.size + 4 := by simp
  have n9 : f.n3 ≤ 1500000 := hf.n3
  have HL := hf.pg.len
  obtain ⟨r, hr⟩ : ∃ r, (pg.map fun x => relv its0 ol x.2) = r := ⟨_, rfl⟩
  rw [hr]
  refine (callsIn_wide (n := 3)).1 ?_
  refine callsIn_of_wp_marks Try.func24 rfl trivial ?_ rfl
  simp only [Try.ntmps24, List.size_toArray, List.length_cons, List.length_nil, Nat.reduceAdd, Nat.reduceSub, Array.replicate_succ, Array.replicate_zero, List.push_toArray, List.append_toArray, List.nil_append, List.cons_append]
  obtain ⟨a0, a1, a2, a3, a4, a5⟩ := hF6.facts
  gi_wp2_with fail
  have hb4b := hb4
  have HF := Lib.hid (And.intro (hf.below hb4) (ho.below hb4))
  generalize ((((w.alloc (.cells #[.slice f.a1 f.n1 f.c1, .slice f.a2 f.n2 f.c2, .slice f.a3 f.n3 f.c3, .slice f.a4 f.n4 f.c4, .slice f.a5 f.n5 f.c5, .slice f.a6 f.n6 f.c6] 44)).alloc (.cells #[.int .i64 a] 3)).alloc (.cells #[.int .i64 0] 3)).alloc (.cells #[.bool false] 4)) = W at *
  refine ⟨trivial, ?_⟩
  refine (callsIn_wide.2 (Relevant_c f its0 pg O on oc ol _ HF.out.1 HF.out.2 hon)).mono ?_
  rintro e w1 ⟨g, rfl, hrow, hb⟩
  rw [hr] at hrow
  have hrl : r.length = f.n3 := by rw [← hr, List.length_map]; exact HL
  clear hr HF hf ho hF6 a0 a1 a2 a3 a4 a5 hb4b
  have bA1 : Boxed w1 (w.heap.size + 1) 3 (.int .i64 a) := (hb.block _ bA.lt).trans bA
  have bI1 : Boxed w1 (w.heap.size + 1 + 1) 3 (.int .i64 0) := (hb.block _ bI.lt).trans bI
  have bO1 : Boxed w1 (w.heap.size + 1 + 1 + 1) 4 (.bool false) := (hb.block _ bO.lt).trans bO
  have hB1 := hb4.trans (hb.mono hb4.size)
  have hsz1 := hb.size
  gi_wp2_with fail
  refine ⟨trivial, ?_⟩
  refine (backB0_in Fence.wide 2 trivial rfl _ _ _ _).mono ?_
  rintro e w' ⟨rfl, rfl⟩
  gi_wp2
  have bS := Boxed.new w1 45 (.slice (some ⟨g, 0, none⟩) f.n3 f.n3)
  have hB2 := hB1.alloc hB1.size (.cells #[.slice (some ⟨g, 0, none⟩) f.n3 f.n3] 45)
  have hszA : (w1.alloc (.cells #[.slice (some ⟨g, 0, none⟩) f.n3 f.n3] 45)).heap.size = w1.heap.size + 1 := by simp
  have hg9 := hrow.lt
  obtain ⟨its, hil, hP⟩ := items r (by omega)
  have hat : backBAt (w1.alloc (.cells #[.slice (some ⟨g, 0, none⟩) f.n3 f.n3] 45)) g 0 its := fun j x hx => by
    obtain ⟨e1, e2⟩ := hP j x hx
    refine ⟨e1, ?_⟩
    rw [Nat.zero_add]
    exact (hrow.below (below_alloc _ _)).cell e2
  have bA2 := bA1.alloc (.cells #[.slice (some ⟨g, 0, none⟩) f.n3 f.n3] 45)
  have bI2 := bI1.alloc (.cells #[.slice (some ⟨g, 0, none⟩) f.n3 f.n3] 45)
  have bO2 := bO1.alloc (.cells #[.slice (some ⟨g, 0, none⟩) f.n3 f.n3] 45)
  obtain ⟨W0, hW0⟩ : ∃ W0, w1.alloc (.cells #[.slice (some ⟨g, 0, none⟩) f.n3 f.n3] 45) = W0 := ⟨_, rfl⟩
  rw [hW0] at bS hB2 hszA hat bA2 bI2 bO2 ⊢
  clear hW0 bA bI bO bA1 bI1 bO1
  have hilr : its.length = f.n3 := by rw [hil, hrl]
  refine wpIn_rangeFunc_ownG (F := Fence.wide) rfl (by omega) (gf := 47) (lb := #[.pointer (some ⟨w1.heap.size, 0, none⟩)]) rfl trivial (enters_of Try.func47 (by kernel_rfl) rfl)
    (backB_stops Fence.wide 2 trivial rfl (by omega) w1.heap.size (w1.heap.size + 1) (some ⟨g, 0, none⟩) f.n3 f.n3 its hilr (by omega) W0 (by omega) (by omega) bS.cell (fun _ => ⟨g, 0, rfl, by omega, hat⟩)) kpS_t (kpS_b (by omega) (by omega)) (Below.refl _ _) (fun _ => rfl)
    (fun pre W => (NoHit a pre ∧ Boxed W (w.heap.size + 1) 3 (.int .i64 a) ∧ Boxed W (w.heap.size + 1 + 1) 3 (.int .i64 0) ∧ Boxed W (w.heap.size + 1 + 1 + 1) 4 (.bool false)) ∧ Below w.heap.size w W)
    (fun c pre W => (c = .ret ∧ ∃ ini last, pre = ini ++ [last] ∧ NoHit a ini ∧ hit a last ∧ Boxed W (w.heap.size + 1 + 1) 3 (.int .i64 (last.1.1 : Int)) ∧ Boxed W (w.heap.size + 1 + 1 + 1) 4 (.bool true)) ∧ Below w.heap.size w W)
    (OwnFrom.and (Own.from (fun s X Y row hs hg hr => ⟨hs.1, boxed_own _ _ (fun _ => Value.int .i64 a) s X Y row hs.2.1 hg hr, boxed_own _ _ (fun _ => Value.int .i64 0) s X Y row hs.2.2.1 hg hr, boxed_own _ _ (fun _ => Value.bool false) s X Y row hs.2.2.2 hg hr⟩) _) (ownFrom_below (Nat.le_refl _) (by omega)))
    (fun c => OwnFrom.and (Own.from (fun s X Y row hs hg hr => by obtain ⟨hc, ini, last, e1, e2, e3, e4, e5⟩ := hs; exact ⟨hc, ini, last, e1, e2, e3, boxed_own _ _ (fun _ => Value.int .i64 (last.1.1 : Int)) s X Y row e4 hg hr, boxed_own _ _ (fun _ => Value.bool true) s X Y row e5 hg hr⟩) _) (ownFrom_below (Nat.le_refl _) (by omega)))
    ⟨⟨(fun p hp => by cases hp), bA2, bI2, bO2⟩, hB2⟩
    (fun x => { tmps := #[.agg #[.slice f.a1 f.n1 f.c1, .slice f.a2 f.n2 f.c2, .slice f.a3 f.n3 f.c3, .slice f.a4 f.n4 f.c4, .slice f.a5 f.n5 f.c5, .slice f.a6 f.n6 f.c6], .slice O on oc, .int .i64 a, .pointer (some ⟨w.heap.size, 0, none⟩), undef, .pointer (some ⟨w.heap.size + 1, 0, none⟩), .pointer (some ⟨w.heap.size + 1 + 1, 0, none⟩), .pointer (some ⟨w.heap.size + 1 + 1 + 1, 0, none⟩), .int .i64 (x.1.1 : Int), .bool x.1.2, .agg #[.slice f.a1 f.n1 f.c1, .slice f.a2 f.n2 f.c2, .slice f.a3 f.n3 f.c3, .slice f.a4 f.n4 f.c4, .slice f.a5 f.n5 f.c5, .slice f.a6 f.n6 f.c6], .slice O on oc, .slice (some ⟨g, 0, none⟩) f.n3 f.n3, .func (.func 47) #[] #[.pointer (some ⟨w1.heap.size, 0, none⟩)], .int .i64 (x.1.1 : Int), .bool x.1.2, undef, undef, undef, undef, undef, undef, undef, undef], defers := [] }) ?assign ?body ?done ?stop
  case assign =>
    intro l x W K hK
    gi_wp2
    exact hK
  case body =>
    rintro l pre ⟨⟨xi, xb⟩, hxl⟩ W5 ⟨⟨hp, bA, bI, bO⟩, hB⟩ _
    have cA := bA.cell
    have cI := bI.cell
    have fI := bI.frozen
    have cO := bO.cell
    have fO := bO.frozen
    have hskip : ¬ hit a ⟨(xi, xb), hxl⟩ → NoHit a (pre ++ [(⟨(xi, xb), hxl⟩ : BoI)]) := fun h p hp' => (List.mem_append.1 hp').elim (hp p) (fun e => by simp at e; subst e; exact h)
    cases xb with
    | false =>
      gi_wp2
      exact ⟨KeepsFrom.refl _ _, KpS.refl _ _ _, ⟨hskip (fun h => by cases h.1), bA, bI, bO⟩, hB⟩
    | true =>
      by_cases hxa : (xi : Int) < a
      · have hh : hit a ⟨(xi, true), hxl⟩ := ⟨rfl, hxa⟩
        gi_wp2
        exact ⟨((KeepsOthers.setCell _ _ _).trans (KeepsOthers.setCell _ _ _)).from _, ⟨rfl, pre, _, rfl, hp, hh, (bI.set (.int .i64 (xi : Int))).other (by omega) (.bool true), (bO.other (by omega) (.int .i64 (xi : Int))).set (.bool true)⟩,
          (hB.setCell (p := ⟨w.heap.size + 1 + 1, 0, none⟩) (by show w.heap.size ≤ w.heap.size + 1 + 1; omega) _).setCell (p := ⟨w.heap.size + 1 + 1 + 1, 0, none⟩) (by show w.heap.size ≤ w.heap.size + 1 + 1 + 1; omega) _⟩
      · have hxn : ¬ hit a ⟨(xi, true), hxl⟩ := fun h => hxa h.2
        gi_wp2
        exact ⟨KeepsFrom.refl _ _, KpS.refl _ _ _, ⟨hskip hxn, bA, bI, bO⟩, hB⟩
  case done =>
    rintro D ys W5 hD rfl ⟨⟨hp, bA, bI, bO⟩, hB⟩ hK
    have cA := bA.cell
    have cI := bI.cell
    have fI := bI.frozen
    have cO := bO.cell
    have fO := bO.frozen
    gi_wp2
    have hK' := ((KeepsOthers.setCell W5 ⟨w.heap.size + 1 + 1, 0, none⟩ (.int .i64 a)).trans (KeepsOthers.setCell _ ⟨w.heap.size + 1 + 1 + 1, 0, none⟩ (.bool false))).same D _ hK rfl
    have hI5 := (bI.set (.int .i64 a)).other (B' := w.heap.size + 1 + 1 + 1) (by omega) (.bool false)
    have hO5 := (bO.other (B' := w.heap.size + 1 + 1) (by omega) (.int .i64 a)).set (.bool false)
    have hB5 : Below w.heap.size w ((W5.setCell ⟨w.heap.size + 1 + 1, 0, none⟩ (.int .i64 a)).setCell ⟨w.heap.size + 1 + 1 + 1, 0, none⟩ (.bool false)) := (hB.setCell (p := ⟨w.heap.size + 1 + 1, 0, none⟩) (by show w.heap.size ≤ w.heap.size + 1 + 1; omega) _).setCell (p := ⟨w.heap.size + 1 + 1 + 1, 0, none⟩) (by show w.heap.size ≤ w.heap.size + 1 + 1 + 1; omega) _
    refine ⟨by simp, .inl ⟨_, _, rfl, run_takeDeferred hK', ?_⟩⟩
    have hc5 := cell_kept hI5.cell (grownBy_putObj' _ D (.deferred none)) (fun r e => by cases e; exact ⟨_, hK', rfl⟩)
    have hc6 := cell_kept hO5.cell (grownBy_putObj' _ D (.deferred none)) (fun r e => by cases e; exact ⟨_, hK', rfl⟩)
    refine ⟨.tuple #[.int .i64 a, .bool false], ?_, .inr ⟨rfl, bk_none hil hP hp⟩, hB5.trans (belowK_b (w := w) (Nat.le_refl _) _ D _ _ (by omega) hK' rfl rfl)⟩
    simp [results, Try.results24, go_sem, hc5, hc6]
  case stop =>
    rintro D c pre W5 hD ⟨k, hk, rfl⟩ ⟨⟨rfl, ini, last, e1, e2, e3, bI, bO⟩, hB⟩ hK
    gi_wp2
    refine ⟨by simp, .inl ⟨_, _, rfl, run_takeDeferred hK, ?_⟩⟩
    have hc5 := cell_kept bI.cell (grownBy_putObj' _ D (.deferred none)) (fun r e => by cases e; exact ⟨_, hK, rfl⟩)
    have hc6 := cell_kept bO.cell (grownBy_putObj' _ D (.deferred none)) (fun r e => by cases e; exact ⟨_, hK, rfl⟩)
    obtain ⟨h8, h9⟩ := bk_some hil hP (by omega) e1 e2 e3
    refine ⟨.tuple #[.int .i64 (last.1.1 : Int), .bool true], ?_, .inl ⟨last.1.1, rfl, h8, h9⟩, hB.trans (belowK_b (w := w) (Nat.le_refl _) _ D _ _ (by omega) hK rfl rfl)⟩
    simp [results, Try.results24, go_sem, hc5, hc6]
end Go.Proofs.Ytaifgehmlfjljaa
