/-
  The places of switches, as a map.
-/
import Derived.Test.YtaifgehmlfjljaaPgB
import Derived.Maps.OwnIn
import Derived.RangeFuncWrites
namespace Go.Proofs.Ytaifgehmlfjljaa
set_option maxRecDepth 20000
open Go.RowKit Go.Shelf Go.Maps Go.WideMaps
attribute [local go_sem] Oper.semAt_some

theorem law9k : Keyed Try.prog 9 := string_keyed Try.underlying9
def keyL (s : ByteArray) : Lit := .string s.data.toList
theorem key_ok (s : ByteArray) (h : s.size ≤ 2000000) : keyOf Try.prog 9 (.string s) = some (keyL s) :=
  keyOf_string_mk Try.underlying9 (by unfold maxLen; omega)
/-- The map as a datum: each name's place, one behind another. -/
def placesD (l : List SwI) : DataW Unit := l.foldl (fun D x => D.put (keyL x.1.2.1) (.lit (.int .i64 (x.1.1 : Int)))) (.map [])
theorem placesD_snoc (l : List SwI) (x : SwI) : placesD (l ++ [x]) = (placesD l).put (keyL x.1.2.1) (.lit (.int .i64 (x.1.1 : Int))) := by simp [placesD]
theorem C2.lt' {w : World} {b : Nat} {t : TypeId} {x y : Value} (h : C2 w b t x y) : ∃ o, w.heap[b]? = some o ∧ o.isCells = true := ⟨_, h, rfl⟩
theorem c2_own {β : Type} (B : Nat) (t : TypeId) (f g : β → Value) : Own (fun s W => C2 W B t (f s) (g s)) := fun s X Y row hs hg hrow => by
  refine (hg.block B hs.lt fun e => ?_).trans hs
  obtain ⟨o, ho, hc⟩ := hrow B e.symm
  obtain ⟨o', ho', hc'⟩ := hs.lt'
  rw [ho] at ho'; injection ho' with ho'; subst ho'
  rw [hc] at hc'; cases hc'
theorem C2.kept {w w' : World} {b : Nat} {t : TypeId} {x y : Value} {row : Option Nat} (h : C2 w b t x y) (hg : w.grownBy w' row) (hne : some b ≠ row) : C2 w' b t x y := (hg.block b h.lt hne).trans h
set_option maxRecDepth 100000 in
set_option maxHeartbeats 6400000 in
theorem placesOf_in (F : Fence) (n : Nat) (h3 : F.fn 38) (h4 : F.fn 46) (h5 : F.fn 48) (hro : F.round = none) (hn : 3 ≤ n)
    (A0 : Option Addr) (len cap : Nat) (its : List SwI) (hlen : its.length = len) (hreach : len ≤ 2000000) (w : World) (hI : 0 < len → ∃ b off, A0 = some ⟨b, off, none⟩ ∧ b < w.heap.size ∧ backSAt w b off its) :
    CallsIn F n Try.prog 38 #[.slice A0 len cap] w fun e W' => e = .returned (.map (some w.heap.size)) ∧ W'.ownsMap Try.prog 9 (plainElem (H := Unit) Try.prog 3) w.heap.size len (placesD its.reverse) ∧ Below w.heap.size w W' := by
  have h1 : 1 ≤ n := by omega
  have hmm := @run_makeMap Try.prog
  refine callsIn_of_wp_marks Try.func38 rfl h3 ?_ hro
  simp only [Try.ntmps38, List.size_toArray, List.length_cons, List.length_nil, Nat.reduceAdd, Nat.reduceSub, Array.replicate_succ, Array.replicate_zero, List.push_toArray, List.append_toArray, List.nil_append, List.cons_append]
  gi_wp2_with (gi_at_call 46; refine (backS0_in F (n - 1) h4 hro _ _ _ _).mono ?_; rintro e w' ⟨rfl, rfl⟩)
  have hm0 := World.ownsMap_made w Try.prog 9 (plainElem (H := Unit) Try.prog 3)
  have bM := (Boxed.new (w.alloc (.map #[] 0)) 69 (.map (some w.heap.size))).alloc (.cells #[.slice A0 len cap] 37)
  have bS := Boxed.new ((w.alloc (.map #[] 0)).alloc (.cells #[.map (some w.heap.size)] 69)) 37 (.slice A0 len cap)
  simp only [World.size_alloc] at bM bS
  have hB0 : Below w.heap.size w (((w.alloc (.map #[] 0)).alloc (.cells #[.map (some w.heap.size)] 69)).alloc (.cells #[.slice A0 len cap] 37)) := (((Below.refl _ w).alloc (Nat.le_refl _) _).alloc (by simp) _).alloc (by simp; omega) _
  have hsz : (((w.alloc (.map #[] 0)).alloc (.cells #[.map (some w.heap.size)] 69)).alloc (.cells #[.slice A0 len cap] 37)).heap.size = w.heap.size + 3 := by simp
  have hm1 := (hm0.alloc (.cells #[.map (some w.heap.size)] 69)).alloc (.cells #[.slice A0 len cap] 37)
  obtain ⟨W0, hW0⟩ : ∃ W0, ((w.alloc (.map #[] 0)).alloc (.cells #[.map (some w.heap.size)] 69)).alloc (.cells #[.slice A0 len cap] 37) = W0 := ⟨_, rfl⟩
  rw [hW0] at bM bS hB0 hsz hm1 ⊢
  clear hW0 hm0
  refine wpIn_rangeFunc_ownH hro h1 (gf := 48) (lb := #[.pointer (some ⟨w.heap.size + 1 + 1, 0, none⟩)]) rfl h5 (enters_of Try.func48 (by kernel_rfl) rfl)
    (backS_stops F (n - 1) h5 hro (by omega) (w.heap.size + 1 + 1) w.heap.size A0 len cap its hlen hreach W0 (by omega) (by omega) bS.cell (fun h0 => by obtain ⟨b, off, e, hb, hc⟩ := hI h0; exact ⟨b, off, e, hb, hc.below hB0 hb⟩)) kpS_t (kpS_b (by omega) (by omega)) (Below.refl _ _) (fun _ => rfl)
    (fun pre W => ((Boxed W (w.heap.size + 1) 69 (.map (some w.heap.size)) ∧ Boxed W (w.heap.size + 1 + 1) 37 (.slice A0 len cap)) ∧ W.ownsMap Try.prog 9 (plainElem (H := Unit) Try.prog 3) w.heap.size pre.length (placesD pre)) ∧ Below w.heap.size w W)
    (fun _ _ _ => False)
    (OwnFrom.and (OwnFrom.and (OwnFrom.and (Own.from (boxed_own _ _ _) _) (Own.from (boxed_own _ _ _) _)) (fun s X Y row hs hg hr => hs.kept hg (fun e => by have := (hr _ e.symm).1; omega))) (ownFrom_below (Nat.le_refl _) (by omega)))
    (fun _ _ _ _ _ hs _ _ => hs)
    ⟨⟨⟨bM, bS⟩, hm1⟩, hB0⟩
    (fun x a' W => ∃ Bx, w.heap.size + 2 < Bx ∧ C2 W Bx 68 (.string x.1.2.1) (.bool x.1.2.2) ∧ a' = { tmps := #[.slice A0 len cap, undef, .map none, .pointer (some ⟨w.heap.size + 1, 0, none⟩), .int .i64 (x.1.1 : Int), .pointer (some ⟨Bx, 0, none⟩), .map (some w.heap.size), .slice A0 len cap, .func (.func 48) #[] #[.pointer (some ⟨w.heap.size + 1 + 1, 0, none⟩)], .int .i64 (x.1.1 : Int), .agg #[.string x.1.2.1, .bool x.1.2.2], undef, undef, undef, undef, undef], defers := [] })
    (fun x a' _ X Y row hs hg hr => by obtain ⟨Bx, h1, h2, h3⟩ := hs; exact ⟨Bx, h1, c2_own Bx _ (fun (_ : Unit) => Value.string x.1.2.1) (fun _ => Value.bool x.1.2.2) () X Y row h2 hg (fun r e => (hr r e).2), h3⟩)
    ?assign ?body ?done ?stop
  case assign =>
    rintro l pre x W K ⟨⟨⟨bM1, bS1⟩, hown⟩, hB1⟩ hK
    have hl2 := bS1.lt
    gi_wp2
    exact hK _ _ ((KeepsOthers.alloc _ _).from _) ⟨(Below.refl _ W).alloc hB1.size _, Below.heap_alloc _ _ _ hl2⟩ ⟨⟨⟨bM1.alloc _, bS1.alloc _⟩, hown.alloc _⟩, hB1.alloc hB1.size _⟩ ⟨W.heap.size, by omega, C2.newAt _ _ _ rfl, rfl⟩
  case body =>
    rintro l pre x a' W hl ⟨r, hr⟩ ⟨⟨⟨bM1, bS1⟩, hown⟩, hB1⟩ ⟨Bx, hBx, cX, rfl⟩ hlt
    have cM := bM1.cell
    obtain ⟨c0, c1⟩ := cX.facts
    have hx1 := x.2.1
    have hx2 := x.2.2
    have hwf : (Lit.int .i64 (x.1.1 : Int)).wf = true := by
      have h1 : IntKind.i64.min = -9223372036854775808 := rfl
      have h2 : IntKind.i64.max = 9223372036854775807 := rfl
      simp only [Lit.wf, Bool.and_eq_true, decide_eq_true_eq]
      omega
    gi_wp2_with (gi_at_mapUpdate; refine wpListIn_mapUpdate_own _ rfl _ _ _ 69 rfl 9 3 law9k Try.underlying69 _ w.heap.size pre.length _ rfl hown (by first | (unfold maxLen; omega) | omega) _ _ _ rfl rfl (key_ok _ hx2) _ [] (plainElem_int Try.underlying3 hwf) ?_; intro w1 hown1 hgrow1)
    obtain ⟨es, ck, hh, _⟩ := hown
    exact ⟨KeepsFrom.of_grownBy hgrow1 (fun j e => by cases e; omega), ⟨(Below.refl _ W).grown hgrow1 hB1.size (fun k e => by cases e; exact Nat.le_refl _), hgrow1.block _ bS1.lt (by simp; try omega)⟩,
      ⟨⟨bM1.kept hgrow1 (by simp), bS1.kept hgrow1 (by simp; try omega)⟩, by rw [placesD_snoc, List.length_append]; exact hown1⟩, hB1.grown hgrow1 hB1.size (fun k e => by cases e; exact Nat.le_refl _)⟩
  case done =>
    rintro D ys W hD rfl ⟨⟨⟨bM1, bS1⟩, hown⟩, hB1⟩ hK
    have cM := bM1.cell
    gi_wp2
    refine ⟨by simp, .inl ⟨_, _, rfl, run_takeDeferred hK, ?_⟩⟩
    have e9 : its.reverse.length = len := by rw [List.length_reverse, hlen]
    rw [e9] at hown
    exact ⟨_, results_tmp rfl _ _ _, rfl, hown.kept (grownBy_putObj' _ D _) (fun e => by cases e; omega), hB1.trans (belowK_b (w := w) (Nat.le_refl _) W D _ _ (by omega) hK rfl rfl)⟩
  case stop =>
    rintro D c pre W _ _ h _
    exact h.elim
theorem placesOf_c (A0 : Option Addr) (len cap : Nat) (its : List SwI) (hlen : its.length = len) (hreach : len ≤ 2000000) (w : World) (hI : 0 < len → ∃ b off, A0 = some ⟨b, off, none⟩ ∧ b < w.heap.size ∧ backSAt w b off its) :
    Calls Try.prog 38 #[.slice A0 len cap] w fun e W' => e = .returned (.map (some w.heap.size)) ∧ W'.ownsMap Try.prog 9 (plainElem (H := Unit) Try.prog 3) w.heap.size len (placesD its.reverse) ∧ Below w.heap.size w W' :=
  (callsIn_wide (n := 3)).1 (placesOf_in Fence.wide 3 trivial trivial trivial rfl (by omega) A0 len cap its hlen hreach w hI)
end Go.Proofs.Ytaifgehmlfjljaa
