/-
  Whether numbers are more than is looked at; whether terms rise.
  The program's Same of sums.
  The program's Is of sums.
  AffLaws: sums may be turned round; a sum less itself is nothing; twice is itself and itself.
  A law's argument opened: a sum that is read as data, of a bulk that is bounded.
  A row of rationals that is read as data, of a bulk that is bounded.
-/
import Derived.Test.YtffnjdfmaebmhaaGreatDoorMAp
import Derived.BigQuiet
import Derived.Test.YtffnjdfmaebmhaaGreatDoorMAb
import Derived.Test.YtffnjdfmaebmhaaGreatDoorMRb
import Derived.Test.YtffnjdfmaebmhaaGreatDoorMAc
import Derived.Test.YtffnjdfmaebmhaaGreatDoorMAo
import Derived.Test.YtffnjdfmaebmhaaGreatDoorRows
import Derived.ProofKit
import Derived.WalkKit
import Derived.WalkSpells
import Derived.WalkLawsBesides
import Derived.Deep.Strs
import Derived.ChangeArms
namespace Go.Proofs.YtffnjdfmaebmhaaGreatDoor
set_option maxRecDepth 20000
open Go.RowKit

/-- What 'many' answers. -/
def MPost (n : Nat) (l : List Rv) (w : World) (e : Ending) (w' : World) : Prop := ∃ r : Bool, e = .returned (.bool r) ∧ (r = false → n ≤ 100 ∧ ∀ x ∈ l, x.n ≤ 3 ∧ x.m ≤ 3) ∧ Below w.heap.size w w'
set_option maxHeartbeats 3200000 in
theorem many_c (A : Option Addr) (n c : Nat) (l : List Rv) (w : World) (hA : Nums w A n l) (hn : n ≤ 1048576) (hb : ∀ x ∈ l, x.n ≤ 1048576 ∧ x.m ≤ 1048576) :
    Calls Tryz.prog 7 #[.slice A n c] w (MPost n l w) := by
  have n0 : (0 : Int) ≤ (n : Int) := by omega
  have n9 : (n : Int) ≤ 1048576 := by omega
  have HA := Lib.hid hA
  have HB := Lib.hid hb
  clear hA hb
  go_enter Tryz.func7, Tryz.ntmps7
  go_wp2
  go_loopw [2, 3, 4] (fun _ nv iv wr => ∃ (i q : Nat), i ≤ n ∧ i ≤ q ∧ q ≤ 100 ∧ iv = .int .i64 i ∧ nv = .int .i64 q ∧ Hid (∀ j x, j < i → l[j]? = some x → x.n ≤ 3 ∧ x.m ≤ 3) ∧ Hid (Below w.heap.size w wr)) (fun _ _ iv _ => n - (intOf iv).toNat)
  case atStart => exact ⟨0, 0, by omega, by omega, by omega, rfl, rfl, Lib.hid (fun j x hj => absurd hj (Nat.not_lt_zero _)), Lib.hid (Below.refl _ _)⟩
  case round =>
    obtain ⟨i, q, hi, hiq, hq, rfl, rfl, HS, HBR⟩ := hrel
    have q0 : (0 : Int) ≤ (q : Int) := by omega
    have q1 : (q : Int) ≤ 100 := by omega
    have i0 : (0 : Int) ≤ (i : Int) := by omega
    by_cases hlt : i < n
    · have i1 : (i : Int) < (n : Int) := by omega
      obtain ⟨b, off, rfl, hbl, hc⟩ := HA.out.mem (by omega)
      have hil : i < l.length := by rw [HA.out.len]; exact hlt
      have hx := List.getElem?_eq_getElem hil
      have HX := Lib.hid hx
      have hm := HB.out _ (List.getElem_mem hil)
      obtain ⟨x0, x1, x2⟩ := (hc i _ hx).keep (HBR.out.block b hbl)
      generalize l[i] = x at *
      have m1 : (x.n : Int) ≤ 1048576 := by omega
      have m2 : (x.m : Int) ≤ 1048576 := by omega
      clear hx hc
      go_wp2_with fail
      go_region
      by_cases h1 : 100 < q + 1 + x.n + x.m
      · have h1' : (100 : Int) < (q : Int) + 1 + (x.n : Int) + (x.m : Int) := by omega
        clear h1
        go_wp2
        go_ret
        exact ⟨true, rfl, (fun h => by cases h), HBR.out.drew⟩
      have h1' : ¬ (100 : Int) < (q : Int) + 1 + (x.n : Int) + (x.m : Int) := by omega
      by_cases h2 : 3 < x.n
      · have h2' : (3 : Int) < (x.n : Int) := by omega
        clear h1 h2
        go_wp2
        go_ret
        exact ⟨true, rfl, (fun h => by cases h), HBR.out.drew⟩
      have h2' : ¬ (3 : Int) < (x.n : Int) := by omega
      by_cases h3 : 3 < x.m
      · have h3' : (3 : Int) < (x.m : Int) := by omega
        clear h1 h2 h3
        go_wp2
        go_ret
        exact ⟨true, rfl, (fun h => by cases h), HBR.out.drew⟩
      have h3' : ¬ (3 : Int) < (x.m : Int) := by omega
      have HL := Lib.hid (And.intro h1 (And.intro h2 h3))
      clear h1 h2 h3
      go_wp2
      go_roundw
      case rel =>
        have h9 := HL.out
        exact ⟨i + 1, q + 1 + x.n + x.m, by omega, by omega, by omega, by go_num, by go_num, Lib.hid (fun j y hj hy => by
          by_cases e : j = i
          · subst e
            rw [HX.out] at hy
            injection hy with hy
            subst hy
            omega
          · exact HS.out j y (by omega) hy), Lib.hid HBR.out.drew⟩
      case measure => simp [intOf]; omega
    · have i1 : ¬ (i : Int) < (n : Int) := by omega
      go_wp2
      go_ret
      exact ⟨false, rfl, (fun _ => ⟨by omega, fun x hx => by
        obtain ⟨j, hj, e⟩ := List.getElem_of_mem hx
        exact HS.out j x (by rw [HA.out.len] at hj; omega) (by rw [List.getElem?_eq_getElem hj, e])⟩), HBR.out⟩
/-- What 'rise' answers: some Bool. -/
def RPost (w : World) (e : Ending) (w' : World) : Prop := ∃ r : Bool, e = .returned (.bool r) ∧ Below w.heap.size w w'
set_option maxHeartbeats 3200000 in
theorem rise_c (va : Cv) (la : List Tv) (w : World) (ha : Tms w 0 va.A va.n la) (hn : va.n ≤ 1000) :
    Calls Tryz.prog 8 #[.agg #[.int .i64 va.s, .slice va.A va.n va.c, .bool va.K.s, .slice va.K.A va.K.n va.K.c, .slice va.K.B va.K.m va.K.d]] w (RPost w) := by
  have n0 : (0 : Int) ≤ (va.n : Int) := by omega
  have n9 : (va.n : Int) ≤ 1000 := by omega
  have HA := Lib.hid ha
  have hlen := Lib.hid ha.len
  clear ha
  have ka := C5.new w (.int .i64 va.s) (.slice va.A va.n va.c) (.bool va.K.s) (.slice va.K.A va.K.n va.K.c) (.slice va.K.B va.K.m va.K.d)
  have hB : Below w.heap.size w (w.alloc (.cells #[.int .i64 va.s, .slice va.A va.n va.c, .bool va.K.s, .slice va.K.A va.K.n va.K.c, .slice va.K.B va.K.m va.K.d] 27)) := (Below.refl _ _).alloc (Nat.le_refl _) _
  obtain ⟨a0, a1, a2, a3, a4⟩ := ka.facts
  have HK := Lib.hid (And.intro ka hB)
  clear ka hB
  go_enter Tryz.func8, Tryz.ntmps8
  go_wp2_with fail
  clear a0 a1 a2 a3 a4
  generalize w.alloc (.cells #[.int .i64 va.s, .slice va.A va.n va.c, .bool va.K.s, .slice va.K.A va.K.n va.K.c, .slice va.K.B va.K.m va.K.d] 27) = W at *
  go_loopw [2, 3] (fun _ iv wr => ∃ (i : Nat), 1 ≤ i ∧ i ≤ va.n + 1 ∧ iv = .int .i64 i ∧ Hid (Below W.heap.size W wr)) (fun _ iv _ => va.n + 1 - (intOf iv).toNat)
  case atStart => exact ⟨1, by omega, by omega, rfl, Lib.hid (Below.refl _ _)⟩
  case round =>
    obtain ⟨i, hi1, hi, rfl, HBR⟩ := hrel
    obtain ⟨a0, a1, a2, a3, a4⟩ := (HK.out.1.below HBR.out).facts
    have hz := HK.out.2.size
    have HBW := Lib.hid (HK.out.2.trans (HBR.out.mono hz))
    by_cases hlt : i < va.n
    · obtain ⟨j, rfl⟩ : ∃ j, i = j + 1 := ⟨i - 1, by omega⟩
      have i1 : ((j + 1 : Nat) : Int) < (va.n : Int) := by omega
      have j0 : (0 : Int) ≤ (j : Int) := by omega
      have j1 : (j : Int) < (va.n : Int) := by omega
      have j2 : (j : Int) + 1 < (va.n : Int) := by omega
      have jw : IntKind.i64.wrap (j : Int) = (j : Int) := by rw [IntKind.wrap_i64]; omega
      obtain ⟨b, off, hvA, _, hbl, hc⟩ := HA.out.mem (by omega)
      rw [hvA] at a1
      obtain ⟨x, hx⟩ : ∃ x, la[j + 1]? = some x := ⟨_, List.getElem?_eq_getElem (by have := hlen.out; omega)⟩
      obtain ⟨y, hy⟩ : ∃ y, la[j]? = some y := ⟨_, List.getElem?_eq_getElem (by have := hlen.out; omega)⟩
      have x0 := ((hc _ _ hx).keep (HBW.out.block b hbl)).h0
      have y0 := ((hc _ _ hy).keep (HBW.out.block b hbl)).h0
      clear hvA
      clear hx hy hc
      go_wp2_with fail
      go_region
      clear a0 a1 a2 a3 a4 x0 y0
      by_cases h : x.v ≤ y.v
      · go_wp2
        go_ret
        exact ⟨false, rfl, HBW.out.drew⟩
      · go_wp2
        go_roundw
        case rel => exact ⟨j + 1 + 1, by omega, by omega, by go_num, Lib.hid HBR.out.drew⟩
        case measure => simp [intOf]; omega
    · have i1 : ¬ (i : Int) < (va.n : Int) := by omega
      go_wp2
      go_ret
      exact ⟨true, rfl, HBW.out⟩
end Go.Proofs.YtffnjdfmaebmhaaGreatDoor

namespace Go.Proofs.YtffnjdfmaebmhaaGreatDoor
set_option maxRecDepth 20000
open Go.RowKit

/-- A block that holds a term. -/
def C4 (w : World) (b : Nat) (x : Tv) : Prop := w.heap[b]? = some (.cells #[.int .i64 x.v, .bool x.r.s, .slice x.r.A x.r.n x.r.c, .slice x.r.B x.r.m x.r.d] 61 (0, 0))
theorem C4.lt {w : World} {b : Nat} {x : Tv} (h : C4 w b x) : b < w.heap.size := by
  rcases Nat.lt_or_ge b w.heap.size with h1 | h1
  · exact h1
  · have : w.heap[b]? = none := Array.getElem?_eq_none h1
    rw [C4, this] at h; cases h
theorem C4.below {w w' : World} {b : Nat} {x : Tv} (h : C4 w b x) (hb : Below w.heap.size w w') : C4 w' b x := (hb.block b h.lt).trans h
theorem C4.facts {w : World} {b : Nat} {x : Tv} (h : C4 w b x) : w.cell? ⟨b, 0, none⟩ = some (.int .i64 x.v) ∧ w.cell? ⟨b, 1, none⟩ = some (.bool x.r.s) ∧ w.cell? ⟨b, 2, none⟩ = some (.slice x.r.A x.r.n x.r.c) ∧ w.cell? ⟨b, 3, none⟩ = some (.slice x.r.B x.r.m x.r.d) := by
  have h' : w.heap[b]? = some (.cells #[.int .i64 x.v, .bool x.r.s, .slice x.r.A x.r.n x.r.c, .slice x.r.B x.r.m x.r.d] 61 (0, 0)) := h
  refine ⟨?_, ?_, ?_, ?_⟩ <;> simp [World.cell?, h']
theorem C4.new (w : World) (x : Tv) : C4 (w.alloc (.cells #[.int .i64 x.v, .bool x.r.s, .slice x.r.A x.r.n x.r.c, .slice x.r.B x.r.m x.r.d] 61)) w.heap.size x := heap_alloc_new w _
theorem openT2 (w : World) (x y : Tv) (W : World) (h : (w.alloc (.cells #[.int .i64 x.v, .bool x.r.s, .slice x.r.A x.r.n x.r.c, .slice x.r.B x.r.m x.r.d] 61)).alloc (.cells #[.int .i64 y.v, .bool y.r.s, .slice y.r.A y.r.n y.r.c, .slice y.r.B y.r.m y.r.d] 61) = W) :
    C4 W w.heap.size x ∧ C4 W (w.heap.size + 1) y ∧ Below w.heap.size w W ∧ W.heap.size = w.heap.size + 2 := by
  subst h
  have e1 : (w.alloc (.cells #[.int .i64 x.v, .bool x.r.s, .slice x.r.A x.r.n x.r.c, .slice x.r.B x.r.m x.r.d] 61)).heap.size = w.heap.size + 1 := by simp
  refine ⟨(C4.new w x).below ((Below.refl _ _).alloc (Nat.le_refl _) _), ?_, ((Below.refl w.heap.size w).alloc (Nat.le_refl _) _).alloc (by simp) _, by simp⟩
  have := C4.new (w.alloc (.cells #[.int .i64 x.v, .bool x.r.s, .slice x.r.A x.r.n x.r.c, .slice x.r.B x.r.m x.r.d] 61)) y
  rw [e1] at this; exact this
set_option maxHeartbeats 1600000 in
theorem sameTerm_c (x y : Tv) (X Y : Rat) (w : World) (hx : Rw w x.r X 2000) (hy : Rw w y.r Y 2000) (r : Bool) (hr : decide (x.v = y.v ∧ X = Y) = r) :
    Calls Tryz.prog 46 #[.agg #[.int .i64 x.v, .bool x.r.s, .slice x.r.A x.r.n x.r.c, .slice x.r.B x.r.m x.r.d], .agg #[.int .i64 y.v, .bool y.r.s, .slice y.r.A y.r.n y.r.c, .slice y.r.B y.r.m y.r.d]] w fun e w' => e = .returned (.bool r) ∧ Below w.heap.size w w' := by
  by_cases h : x.v = y.v
  · have hr2 : decide (X = Y) = r := by rw [← hr]; simp [h]
    obtain ⟨v, xr⟩ := x
    obtain ⟨v', yr⟩ := y
    dsimp only at h hx hy
    subst h
    have HR := Lib.hid hr2
    have HX := Lib.hid hx
    have HY := Lib.hid hy
    clear hr hr2 hx hy
    go_enter Tryz.func46, Tryz.ntmps46
    go_wp2_with fail
    have HB : Below w.heap.size w ((w.alloc (.cells #[.int .i64 v, .bool xr.s, .slice xr.A xr.n xr.c, .slice xr.B xr.m xr.d] 61)).alloc (.cells #[.int .i64 v, .bool yr.s, .slice yr.A yr.n yr.c, .slice yr.B yr.m yr.d] 61)) := (((Below.refl w.heap.size w).alloc (Nat.le_refl _) _).alloc (by simp) _)
    refine (Same_v xr yr X Y r _ (HX.out.below HB) (HY.out.below HB) HR.out).mono ?_
    rintro e w2 ⟨rfl, hb⟩
    have HB2 : Hid (Below w.heap.size w w2) := HB.trans (hb.mono HB.size)
    clear hb HB
    go_wp2
    go_ret
    exact ⟨rfl, HB2.out⟩
  · have hr2 : r = false := by rw [← hr]; simp [h]
    subst hr2
    clear hr hx hy
    go_enter Tryz.func46, Tryz.ntmps46
    go_wp2
    go_ret
    exact ⟨rfl, (((Below.refl w.heap.size w).alloc (Nat.le_refl _) _).alloc (by simp) _)⟩
set_option maxHeartbeats 3200000 in
theorem equal_c (A B : Option Addr) (n m c d : Nat) (la lb : List Tv) (L M : List (Int × Rat)) (w : World) (ha2 : Tms w 0 A n la) (ha3 : Rds w 1900 la L) (hb2 : Tms w 0 B m lb) (hb3 : Rds w 1900 lb M) (hn : n ≤ 1000) (hm : m ≤ 1000) (r : Bool) (hr : decide (L = M) = r) :
    Calls Tryz.prog 45 #[.slice A n c, .slice B m d, .func (.func 46) #[] #[]] w fun e w' => e = .returned (.bool r) ∧ Below w.heap.size w w' := by
  have lenA : L.length = n := by rw [← ha3.len, ha2.len]
  have lenB : M.length = m := by rw [← hb3.len, hb2.len]
  have n0 : (0 : Int) ≤ (n : Int) := by omega
  have n9 : (n : Int) ≤ 1000 := by omega
  have m9 : (m : Int) ≤ 1000 := by omega
  by_cases h : n = m
  · subst h
    have HA := Lib.hid (And.intro ha2 (And.intro ha3 (And.intro hb2 hb3)))
    have HL := Lib.hid (And.intro lenA lenB)
    have HR := Lib.hid hr
    clear ha2 ha3 hb2 hb3 lenA lenB hr
    go_enter Tryz.func45, Tryz.ntmps45
    go_wp2
    have HU : Hid (Upto L M 0) := rfl
    go_loopw [6, 7, 8, 9, 17] (fun _ _ _ _ iv wr => ∃ i : Nat, i ≤ n ∧ iv = .int .i64 i ∧ Hid (Upto L M i) ∧ Hid (Below w.heap.size w wr)) (fun _ _ _ _ iv _ => n - (intOf iv).toNat)
    case atStart => exact ⟨0, Nat.zero_le _, rfl, HU, Lib.hid (Below.refl _ _)⟩
    case round =>
      clear HU
      obtain ⟨i, hi, rfl, HU, HBR⟩ := hrel
      by_cases hlt : i < n
      · have i0 : (0 : Int) ≤ (i : Int) := by omega
        have i1 : (i : Int) < (n : Int) := by omega
        obtain ⟨g, off, rfl, _, hgw, hc⟩ := HA.out.1.mem (by omega)
        obtain ⟨g', off', rfl, _, hgw', hc'⟩ := HA.out.2.2.1.mem (by omega)
        obtain ⟨x, X, hx, hX, hxv, hxr⟩ := HA.out.2.1.get i (by rw [HA.out.1.len]; omega)
        obtain ⟨y, Y, hy, hY, hyv, hyr⟩ := HA.out.2.2.2.get i (by rw [HA.out.2.2.1.len]; omega)
        have hbs := HBR.out.size
        have hba : Below wr.heap.size wr (wr.alloc (.cells #[.int .i64 x.v, .bool x.r.s, .slice x.r.A x.r.n x.r.c, .slice x.r.B x.r.m x.r.d] 61)) := (Below.refl _ _).alloc (Nat.le_refl _) _
        have hbb : Below wr.heap.size wr ((wr.alloc (.cells #[.int .i64 x.v, .bool x.r.s, .slice x.r.A x.r.n x.r.c, .slice x.r.B x.r.m x.r.d] 61)).alloc (.cells #[.int .i64 y.v, .bool y.r.s, .slice y.r.A y.r.n y.r.c, .slice y.r.B y.r.m y.r.d] 61)) := hba.alloc hba.size _
        obtain ⟨x0, x1, x2, x3⟩ := (hc i x hx).keep (HBR.out.block g hgw)
        obtain ⟨y0, y1, y2, y3⟩ := ((hc' i y hy).keep (HBR.out.block g' hgw')).keep (hba.block g' (by omega))
        have HX := Lib.hid (And.intro hX hxv)
        have HY := Lib.hid (And.intro hY hyv)
        have HXR := Lib.hid (((hxr.below HBR.out).below hbb).more (show 1900 ≤ 2000 by omega))
        have HYR := Lib.hid (((hyr.below HBR.out).below hbb).more (show 1900 ≤ 2000 by omega))
        have HBW := Lib.hid (HBR.out.trans (hbb.mono hbs))
        clear hx hX hxv hy hY hyv hc hc' hxr hyr hba hbb
        go_wp2_with fail
        refine (sameTerm_c x y X.2 Y.2 _ HXR.out HYR.out (decide (x.v = y.v ∧ X.2 = Y.2)) rfl).mono ?_
        rintro ee w2 ⟨rfl, hb⟩
        have HB2 := Lib.hid (HBW.out.trans (hb.mono HBW.out.size))
        clear hb x0 x1 x2 x3 y0 y1 y2 y3
        by_cases h4 : x.v = y.v ∧ X.2 = Y.2
        · rw [decide_eq_true h4]
          have H4 := Lib.hid h4
          clear h4
          go_wp2
          go_roundw
          case rel => exact ⟨i + 1, by omega, by go_num, HU.out.step HX.out.1 HY.out.1 (Prod.ext (by rw [← HX.out.2, ← HY.out.2, H4.out.1]) H4.out.2), HB2⟩
          case measure => simp [intOf]; omega
        · rw [decide_eq_false h4]
          have H4 := Lib.hid h4
          clear h4
          go_wp2
          go_ret
          refine ⟨?_, HB2.out⟩
          have e1 := HR.out
          rw [decide_eq_false (same_head HX.out.1 HY.out.1 (fun e => H4.out ⟨by rw [HX.out.2, HY.out.2, e], by rw [e]⟩))] at e1
          rw [← e1]; rfl
      · have i1 : ¬ (i : Int) < (n : Int) := by omega
        go_wp2
        go_ret
        refine ⟨?_, HBR.out⟩
        have e1 := HR.out
        rw [decide_eq_true (HU.out.whole (by rw [HL.out.1]; omega) (by rw [HL.out.2]; omega))] at e1
        rw [← e1]; rfl
  · have h' : ¬ (n : Int) = (m : Int) := by omega
    rw [decide_eq_false (fun e => h (by rw [← lenA, e, lenB]))] at hr
    subst hr
    clear ha2 ha3 hb2 hb3 lenA lenB h
    go_enter Tryz.func45, Tryz.ntmps45
    go_wp2
    go_ret
    exact ⟨rfl, Below.refl _ _⟩
set_option maxHeartbeats 3200000 in
theorem SameK_c (va vb : Cv) (L M : List (Int × Rat)) (k q : Rat) (w : World) (ha : Cw w va L k 1900) (hb : Cw w vb M q 1900) (hn : va.n ≤ 1000) (hm : vb.n ≤ 1000) (r : Bool) (hr : decide (va.s = vb.s ∧ L = M ∧ k = q) = r) :
    Calls Tryz.prog 20 #[.agg #[.int .i64 va.s, .slice va.A va.n va.c, .bool va.K.s, .slice va.K.A va.K.n va.K.c, .slice va.K.B va.K.m va.K.d], .agg #[.int .i64 vb.s, .slice vb.A vb.n vb.c, .bool vb.K.s, .slice vb.K.A vb.K.n vb.K.c, .slice vb.K.B vb.K.m vb.K.d]] w fun e w' => e = .returned (.bool r) ∧ Below w.heap.size w w' := by
  obtain ⟨ha1, ⟨la, ha2, ha3⟩, ha4⟩ := ha
  obtain ⟨hb1, ⟨lb, hb2, hb3⟩, hb4⟩ := hb
  have BEL : Hid (Below w.heap.size w ((w.alloc (.cells #[.int .i64 va.s, .slice va.A va.n va.c, .bool va.K.s, .slice va.K.A va.K.n va.K.c, .slice va.K.B va.K.m va.K.d] 27)).alloc (.cells #[.int .i64 vb.s, .slice vb.A vb.n vb.c, .bool vb.K.s, .slice vb.K.A vb.K.n vb.K.c, .slice vb.K.B vb.K.m vb.K.d] 27))) := ((Below.refl w.heap.size w).alloc (Nat.le_refl _) (.cells #[.int .i64 va.s, .slice va.A va.n va.c, .bool va.K.s, .slice va.K.A va.K.n va.K.c, .slice va.K.B va.K.m va.K.d] 27)).alloc (by simp) (.cells #[.int .i64 vb.s, .slice vb.A vb.n vb.c, .bool vb.K.s, .slice vb.K.A vb.K.n vb.K.c, .slice vb.K.B vb.K.m vb.K.d] 27)
  by_cases h1 : va.s = vb.s
  · obtain ⟨s, A, n, c, K⟩ := va
    obtain ⟨s', B, m, d, Q⟩ := vb
    dsimp only at *
    subst h1
    obtain ⟨ka, kb, _, _⟩ := openK2 w ⟨s, A, n, c, K⟩ ⟨s, B, m, d, Q⟩ _ rfl
    have HK := Lib.hid (And.intro ka kb)
    have HA := Lib.hid (And.intro (ha2.below BEL.out) (And.intro (Rds.below BEL.out ha3) (ha4.below BEL.out)))
    have HB := Lib.hid (And.intro (hb2.below BEL.out) (And.intro (Rds.below BEL.out hb3) (hb4.below BEL.out)))
    have HR := Lib.hid hr
    clear ha2 ha3 ha4 hb2 hb3 hb4 ka kb hr
    go_enter Tryz.func20, Tryz.ntmps20
    go_wp2_with fail
    refine (Same_v K Q k q (decide (k = q)) _ (HA.out.2.2.more (by omega)) (HB.out.2.2.more (by omega)) rfl).mono ?_
    rintro e w2 ⟨rfl, hb⟩
    have HB2 := Lib.hid (BEL.out.trans (hb.mono BEL.out.size))
    obtain ⟨a0, a1, a2, a3, a4⟩ := (HK.out.1.below hb).facts
    obtain ⟨b0, b1, b2, b3, b4⟩ := (HK.out.2.below hb).facts
    have HA2 := Lib.hid (And.intro (HA.out.1.below hb) (Rds.below hb HA.out.2.1))
    have HBB := Lib.hid (And.intro (HB.out.1.below hb) (Rds.below hb HB.out.2.1))
    clear hb HA HB HK
    by_cases h3 : k = q
    · rw [decide_eq_true h3]
      have hr3 : decide (L = M) = r := by rw [← HR.out]; simp [h3]
      have hr2 := Lib.hid hr3
      clear h3 HR hr3
      go_wp2_with fail
      refine (equal_c A B n m c d la lb L M _ HA2.out.1 HA2.out.2 HBB.out.1 HBB.out.2 hn hm r hr2.out).mono ?_
      rintro e w3 ⟨rfl, hb⟩
      have HB3 := Lib.hid (HB2.out.trans (hb.mono HB2.out.size))
      clear hb a0 a1 a2 a3 a4 b0 b1 b2 b3 b4
      go_wp2
      go_ret
      exact ⟨rfl, HB3.out⟩
    · rw [decide_eq_false h3]
      have hr3 : r = false := by rw [← HR.out]; simp [h3]
      have hr2 := Lib.hid hr3
      clear h3 HR hr3
      go_wp2
      go_ret
      exact ⟨by rw [hr2.out]; rfl, HB2.out⟩
  · rw [decide_eq_false (fun h => h1 h.1)] at hr
    subst hr
    clear ha2 ha3 ha4 hb2 hb3 hb4
    go_enter Tryz.func20, Tryz.ntmps20
    go_wp2
    go_ret
    exact ⟨rfl, BEL.out⟩
end Go.Proofs.YtffnjdfmaebmhaaGreatDoor

namespace Go.Proofs.YtffnjdfmaebmhaaGreatDoor
set_option maxRecDepth 20000
open Go.RowKit

theorem Is_v (v : Rv) (r : Rat) (bb : Bool) (w : World) (hv : Rw w v r 2000) (hbb : bb = true ↔ Nrm w v) :
    Calls Tryz.prog 30 #[.agg #[.bool v.s, .slice v.A v.n v.c, .slice v.B v.m v.d]] w fun e w' => e = .returned (.bool bb) ∧ Below w.heap.size w w' := by
  obtain ⟨h1, h2, h3, h4, a, b, ha, hb, hr⟩ := hv
  refine Is_c v a b bb w h1 h2 h3 h4 ha hb (hbb.trans ⟨?_, fun h => ⟨a, b, ha, hb, h⟩⟩)
  rintro ⟨a', b', g1, g2, g3⟩
  have e1 := ha.det g1
  have e2 := hb.det g2
  subst e1 e2
  exact g3
theorem zero_nrm {w : World} {x : Rv} {X : Rat} {p : Nat} (h : Nrm w x) (hr : Rw w x X p) : X = 0 ↔ x.n = 0 := by
  obtain ⟨a, b, ha, hb, hn⟩ := h
  obtain ⟨_, _, _, _, a', b', ha', hb', hr⟩ := hr
  have e1 := ha.det ha'
  have e2 := hb.det hb'
  subst e1 e2
  constructor
  · intro e
    rcases Nat.eq_zero_or_pos x.n with h0 | h0
    · exact h0
    · exfalso
      rw [← hr] at e
      refine rn_ne ?_ hn.2.2.1 e
      intro e0
      have ht := lim_val ha.l32 hn.1
      rw [e0, lim_zero] at ht
      rw [← ha.len, ← ht] at h0
      exact absurd h0 (Nat.lt_irrefl _)
  · intro e
    have : a = [] := List.eq_nil_of_length_eq_zero (by rw [ha.len, e])
    rw [← hr, this]
    exact rn_zero (.inl rfl)
/-- The last variable ahead of a place. -/
def lastV (l : List Tv) : Nat → Int
  | 0 => -1
  | i + 1 => match l[i]? with | some x => x.v | none => 0
theorem lastV_succ {l : List Tv} {i : Nat} {x : Tv} (h : l[i]? = some x) : lastV l (i + 1) = x.v := by rw [lastV, h]
theorem TOk.last {w : World} {N : Int} {l : List Tv} {i : Nat} (h : TOk w N l i) (hi : i ≤ l.length) : -1 ≤ lastV l i := by
  cases i with
  | zero => exact Int.le_refl _
  | succ i =>
    have hx := List.getElem?_eq_getElem (show i < l.length by omega)
    rw [lastV_succ hx]
    have := (h i _ (by omega) hx).1
    omega
theorem TOk.next {w : World} {N : Int} {l : List Tv} {i : Nat} {x : Tv} (h : TOk w N l i) (hx : l[i]? = some x) (h1 : lastV l i < x.v) (h2 : x.v < N) (h4 : Nrm w x.r) (h5 : x.r.n ≠ 0) : TOk w N l (i + 1) := by
  have hi := (List.getElem?_eq_some_iff.1 hx).1
  have hl := h.last (by omega)
  refine h.step hx (by omega) h2 (fun y h0 hy => ?_) h4 h5
  obtain ⟨j, rfl⟩ : ∃ j, i = j + 1 := ⟨i - 1, by omega⟩
  rw [Nat.add_sub_cancel] at hy
  rw [lastV_succ hy] at h1
  exact h1
theorem TOk.not {w : World} {N : Int} {l : List Tv} {i : Nat} {x : Tv} (hx : l[i]? = some x) (hT : TOk w N l l.length) : lastV l i < x.v ∧ x.v < N ∧ Nrm w x.r ∧ x.r.n ≠ 0 := by
  have hi := (List.getElem?_eq_some_iff.1 hx).1
  have := hT i x hi hx
  refine ⟨?_, this.2.1, this.2.2.2.1, this.2.2.2.2⟩
  cases i with
  | zero => show -1 < x.v; omega
  | succ i =>
    have hy := List.getElem?_eq_getElem (show i < l.length by omega)
    rw [lastV_succ hy]
    exact this.2.2.1 _ (by omega) (by rw [Nat.add_sub_cancel]; exact hy)
set_option maxHeartbeats 6400000 in
theorem areTerms_c (A : Option Addr) (n c : Nat) (N : Int) (la : List Tv) (L : List (Int × Rat)) (w : World) (ha2 : Tms w 0 A n la) (ha3 : Rds w 1900 la L) (hn : n ≤ 1000) (r : Bool) (hr : r = true ↔ TOk w N la la.length) :
    Calls Tryz.prog 31 #[.slice A n c, .int .i64 N] w fun e w' => e = .returned (.bool r) ∧ Below w.heap.size w w' := by
  have n0 : (0 : Int) ≤ (n : Int) := by omega
  have n9 : (n : Int) ≤ 1000 := by omega
  have HA := Lib.hid (And.intro ha2 ha3)
  have hr' := Lib.hid hr
  clear ha2 ha3 hr
  go_enter Tryz.func31, Tryz.ntmps31
  go_wp2
  have HT : Hid (TOk w N la 0) := fun j x hj => absurd hj (Nat.not_lt_zero _)
  go_loopw [4, 5, 7, 10] (fun _ lv _ iv wr => ∃ (i : Nat) (q : Int), i ≤ n ∧ iv = .int .i64 i ∧ lv = .int .i64 q ∧ Hid (q = lastV la i) ∧ Hid (TOk w N la i) ∧ Hid (Below w.heap.size w wr)) (fun _ _ _ iv _ => n - (intOf iv).toNat)
  case atStart => exact ⟨0, -1, Nat.zero_le _, rfl, rfl, Lib.hid rfl, HT, Lib.hid (Below.refl _ _)⟩
  case round =>
    clear HT
    obtain ⟨i, q, hi, rfl, rfl, HQ, HT, HBR⟩ := hrel
    by_cases hlt : i < n
    · have i0 : (0 : Int) ≤ (i : Int) := by omega
      have i1 : (i : Int) < (n : Int) := by omega
      obtain ⟨g, off, rfl, _, hgw, hc⟩ := HA.out.1.mem (by omega)
      obtain ⟨x, X, hx, hX, hxv, hxr⟩ := HA.out.2.get i (by rw [HA.out.1.len]; omega)
      obtain ⟨x0, x1, x2, x3⟩ := (hc i x hx).keep (HBR.out.block g hgw)
      have HX := Lib.hid hx
      have HXR := Lib.hid hxr
      have hbs := HBR.out.size
      have NO : Hid (∀ _ : ¬ (lastV la i < x.v ∧ x.v < N ∧ Nrm w x.r ∧ x.r.n ≠ 0), r = false) := fun h => by
        cases hrr : r with
        | false => rfl
        | true => exact absurd (TOk.not HX.out (hr'.out.1 hrr)) h
      have ax := At4.new wr x
      have hba : Below wr.heap.size wr (wr.alloc (.cells #[.int .i64 x.v, .bool x.r.s, .slice x.r.A x.r.n x.r.c, .slice x.r.B x.r.m x.r.d] 61)) := (Below.refl _ _).alloc (Nat.le_refl _) _
      have HBA := Lib.hid (HBR.out.trans (hba.mono hbs))
      obtain ⟨y0, y1, y2, y3⟩ := ax
      have hzA : (wr.alloc (.cells #[.int .i64 x.v, .bool x.r.s, .slice x.r.A x.r.n x.r.c, .slice x.r.B x.r.m x.r.d] 61)).heap.size = wr.heap.size + 1 := by simp
      have HZA := Lib.hid (And.intro hba hzA)
      clear hx hX hxv hc hxr hba hzA
      by_cases c1 : x.v ≤ q
      · have NO1 := Lib.hid (NO.out (fun h => by have := h.1; have := HQ.out; omega))
        go_wp2
        go_ret
        exact ⟨by rw [NO1.out]; rfl, HBA.out⟩
      by_cases c2 : N ≤ x.v
      · have NO1 := Lib.hid (NO.out (fun h => by have := h.2.1; omega))
        go_wp2
        go_ret
        exact ⟨by rw [NO1.out]; rfl, HBA.out⟩
      by_cases c3 : Nrm w x.r
      · have C3' := Lib.hid c3
        clear c3
        go_wp2_with fail
        clear x0 x1 x2 x3
        generalize wr.alloc (.cells #[.int .i64 x.v, .bool x.r.s, .slice x.r.A x.r.n x.r.c, .slice x.r.B x.r.m x.r.d] 61) = WA at *
        refine (Is_v x.r X.2 true _ ((HXR.out.below HBA.out).more (by omega)) ⟨fun _ => (Nrm.iff HXR.out HBA.out).1 C3'.out, fun _ => rfl⟩).mono ?_
        rintro ee w2 ⟨rfl, hb⟩
        have hk := hb.block wr.heap.size (by have := HZA.out.2; omega)
        replace y0 := (World.cell?_of_block hk).trans y0
        replace y1 := (World.cell?_of_block hk).trans y1
        replace y2 := (World.cell?_of_block hk).trans y2
        replace y3 := (World.cell?_of_block hk).trans y3
        have HB2 := Lib.hid (HBA.out.trans (hb.mono HBA.out.size))
        have hz2 : wr.heap.size + 1 ≤ w2.heap.size := by have := hb.size; have := HZA.out.2; omega
        clear hk hb
        go_wp2_with fail
        refine (Zero_any x.r X.2 _ ((HXR.out.below HB2.out).more (by omega))).mono ?_
        rintro ee w3 ⟨rfl, hb⟩
        have hk := hb.block wr.heap.size (by omega)
        replace y0 := (World.cell?_of_block hk).trans y0
        have HB3 := Lib.hid (HB2.out.trans (hb.mono HB2.out.size))
        clear hk hb y1 y2 y3
        by_cases c4 : X.2 = 0
        · rw [decide_eq_true c4]
          have NO1 := Lib.hid (NO.out (fun h => h.2.2.2 ((zero_nrm C3'.out HXR.out).1 c4)))
          clear c4
          go_wp2
          go_ret
          exact ⟨by rw [NO1.out]; rfl, HB3.out⟩
        · rw [decide_eq_false c4]
          have C4' := Lib.hid c4
          clear c4
          go_wp2
          go_roundw
          case rel => exact ⟨i + 1, x.v, by omega, by go_num, rfl, Lib.hid (lastV_succ HX.out).symm, Lib.hid (HT.out.next HX.out (by have := HQ.out; omega) (by omega) C3'.out (fun e => C4'.out ((zero_nrm C3'.out HXR.out).2 e))), HB3⟩
          case measure => simp [intOf]; omega
      · have NO1 := Lib.hid (NO.out (fun h => c3 h.2.2.1))
        have C3' := Lib.hid c3
        clear c3
        go_wp2_with fail
        clear x0 x1 x2 x3
        generalize wr.alloc (.cells #[.int .i64 x.v, .bool x.r.s, .slice x.r.A x.r.n x.r.c, .slice x.r.B x.r.m x.r.d] 61) = WA at *
        refine (Is_v x.r X.2 false _ ((HXR.out.below HBA.out).more (by omega)) ⟨fun h => (by cases h), fun h => absurd ((Nrm.iff HXR.out HBA.out).2 h) C3'.out⟩).mono ?_
        rintro ee w2 ⟨rfl, hb⟩
        have HB2 := Lib.hid (HBA.out.trans (hb.mono HBA.out.size))
        clear hb
        go_wp2
        go_ret
        exact ⟨by rw [NO1.out]; rfl, HB2.out⟩
    · have i1 : ¬ (i : Int) < (n : Int) := by omega
      go_wp2
      go_ret
      refine ⟨?_, HBR.out⟩
      have e1 : r = true := hr'.out.2 (fun j x hj hx => HT.out j x (by rw [HA.out.1.len] at hj; omega) hx)
      rw [e1]; rfl
set_option maxHeartbeats 3200000 in
theorem IsK_c (va : Cv) (N : Int) (la : List Tv) (L : List (Int × Rat)) (k : Rat) (w : World) (ha2 : Tms w 0 va.A va.n la) (ha3 : Rds w 1900 la L) (ha4 : Rw w va.K k 1900) (hn : va.n ≤ 1000) (r : Bool) (hr : r = true ↔ IsS w va la N) :
    Calls Tryz.prog 9 #[.agg #[.int .i64 va.s, .slice va.A va.n va.c, .bool va.K.s, .slice va.K.A va.K.n va.K.c, .slice va.K.B va.K.m va.K.d], .int .i64 N] w fun e w' => e = .returned (.bool r) ∧ Below w.heap.size w w' := by
  have NO : ¬ IsS w va la N → r = false := fun h => by
    cases hrr : r with
    | false => rfl
    | true => exact absurd (hr.1 hrr) h
  have ka := C5.new w (.int .i64 va.s) (.slice va.A va.n va.c) (.bool va.K.s) (.slice va.K.A va.K.n va.K.c) (.slice va.K.B va.K.m va.K.d)
  have hB : Below w.heap.size w (w.alloc (.cells #[.int .i64 va.s, .slice va.A va.n va.c, .bool va.K.s, .slice va.K.A va.K.n va.K.c, .slice va.K.B va.K.m va.K.d] 27)) := (Below.refl _ _).alloc (Nat.le_refl _) _
  obtain ⟨a0, a1, a2, a3, a4⟩ := ka.facts
  have HK0 := Lib.hid (And.intro ka hB)
  have HA := Lib.hid (And.intro ha2 (And.intro ha3 ha4))
  clear ka hB ha2 ha3 ha4
  by_cases s0 : 0 ≤ va.s
  · by_cases s4 : va.s ≤ 4
    · by_cases hK : Nrm w va.K
      · have hr2 : r = true ↔ TOk w N la la.length := hr.trans ⟨fun h => h.2.2, fun h => ⟨⟨s0, s4⟩, hK, h⟩⟩
        have HR := Lib.hid hr2
        have HN := Lib.hid hK
        clear hr hr2 NO hK
        go_enter Tryz.func9, Tryz.ntmps9
        go_wp2_with fail
        clear a0 a1 a2 a3 a4
        generalize w.alloc (.cells #[.int .i64 va.s, .slice va.A va.n va.c, .bool va.K.s, .slice va.K.A va.K.n va.K.c, .slice va.K.B va.K.m va.K.d] 27) = W at *
        refine (Is_v va.K k true _ ((HA.out.2.2.below HK0.out.2).more (by omega)) ⟨fun _ => (Nrm.iff HA.out.2.2 HK0.out.2).1 HN.out, fun _ => rfl⟩).mono ?_
        rintro e w1 ⟨rfl, hb⟩
        obtain ⟨a0, a1, a2, a3, a4⟩ := (HK0.out.1.below hb).facts
        have HB := Lib.hid (HK0.out.2.trans (hb.mono HK0.out.2.size))
        clear hb
        go_wp2_with fail
        have hT : r = true ↔ TOk w1 N la la.length := HR.out.trans ⟨fun h j x hj hx => by
          obtain ⟨x', X, hx', _, _, hxr⟩ := HA.out.2.1.get j hj
          rw [hx] at hx'
          injection hx' with hx'
          subst hx'
          obtain ⟨h1, h2, h3, h4, h5⟩ := h j x hj hx
          exact ⟨h1, h2, h3, (Nrm.iff hxr HB.out).1 h4, h5⟩, fun h j x hj hx => by
          obtain ⟨x', X, hx', _, _, hxr⟩ := HA.out.2.1.get j hj
          rw [hx] at hx'
          injection hx' with hx'
          subst hx'
          obtain ⟨h1, h2, h3, h4, h5⟩ := h j x hj hx
          exact ⟨h1, h2, h3, (Nrm.iff hxr HB.out).2 h4, h5⟩⟩
        refine (areTerms_c va.A va.n va.c N la L _ (HA.out.1.below HB.out) (Rds.below HB.out HA.out.2.1) hn r hT).mono ?_
        rintro e w2 ⟨rfl, hb⟩
        have HB2 := Lib.hid (HB.out.trans (hb.mono HB.out.size))
        clear hb hT a0 a1 a2 a3 a4
        go_wp2
        go_ret
        exact ⟨rfl, HB2.out⟩
      · have NO1 := Lib.hid (NO (fun h => hK h.2.1))
        have HN := Lib.hid hK
        clear hr NO hK
        go_enter Tryz.func9, Tryz.ntmps9
        go_wp2_with fail
        clear a0 a1 a2 a3 a4
        generalize w.alloc (.cells #[.int .i64 va.s, .slice va.A va.n va.c, .bool va.K.s, .slice va.K.A va.K.n va.K.c, .slice va.K.B va.K.m va.K.d] 27) = W at *
        refine (Is_v va.K k false _ ((HA.out.2.2.below HK0.out.2).more (by omega)) ⟨fun h => (by cases h), fun h => absurd ((Nrm.iff HA.out.2.2 HK0.out.2).2 h) HN.out⟩).mono ?_
        rintro e w1 ⟨rfl, hb⟩
        have HB := Lib.hid (HK0.out.2.trans (hb.mono HK0.out.2.size))
        clear hb
        go_wp2
        go_ret
        exact ⟨by rw [NO1.out]; rfl, HB.out⟩
    · have NO1 := Lib.hid (NO (fun h => s4 h.1.2))
      have s4' : ¬ va.s ≤ 4 := s4
      clear hr NO
      go_enter Tryz.func9, Tryz.ntmps9
      go_wp2
      go_ret
      exact ⟨by rw [NO1.out]; rfl, HK0.out.2⟩
  · have NO1 := Lib.hid (NO (fun h => s0 h.1.1))
    clear hr NO
    go_enter Tryz.func9, Tryz.ntmps9
    go_wp2
    go_ret
    exact ⟨by rw [NO1.out]; rfl, HK0.out.2⟩
end Go.Proofs.YtffnjdfmaebmhaaGreatDoor

namespace Go.Proofs.YtffnjdfmaebmhaaGreatDoor
set_option maxRecDepth 20000
open Go.RowKit

/-- A rational as it comes in: two rows. -/
def RdR (w : World) (v : Rv) : Prop := v.n ≤ v.c ∧ v.m ≤ v.d ∧ ∃ a b, Row w 0 v.A v.n a ∧ Row w 0 v.B v.m b
theorem RdR.rw {w : World} {v : Rv} {p : Nat} (h : RdR w v) (hn : v.n ≤ p) (hm : v.m ≤ p) : ∃ r, Rw w v r p := by
  obtain ⟨h1, h2, a, b, ha, hb⟩ := h
  exact ⟨_, h1, h2, hn, hm, a, b, ha, hb, rfl⟩
theorem rds_ex {w : World} {p : Nat} : ∀ (l : List Tv), (∀ x ∈ l, RdR w x.r ∧ x.r.n ≤ p ∧ x.r.m ≤ p) → ∃ L, Rds w p l L
  | [], _ => ⟨[], trivial⟩
  | x :: l, h => by
    obtain ⟨r, hr⟩ := (h x List.mem_cons_self).1.rw (h x List.mem_cons_self).2.1 (h x List.mem_cons_self).2.2
    obtain ⟨L, hL⟩ := rds_ex l fun y hy => h y (List.mem_cons_of_mem _ hy)
    exact ⟨(x.v, r) :: L, ⟨rfl, hr⟩, hL⟩
/-- A sum as it comes in. -/
structure Raw (w : World) (v : Cv) (l : List Tv) : Prop where
  fit : Fit w v l
  k : RdR w v.K
  t : ∀ x ∈ l, RdR w x.r
theorem Raw.cw {w : World} {v : Cv} {l : List Tv} (h : Raw w v l) (hc : cost v l ≤ 150) : ∃ L k, Cw w v L k 150 ∧ (Tms w 0 v.A v.n l ∧ Rds w 150 l L) ∧ v.n ≤ 150 := by
  have hl := h.fit.row.len
  obtain ⟨L, hL⟩ := rds_ex (p := 150) l fun x hx => by
    obtain ⟨i, hi, e⟩ := List.getElem_of_mem hx
    have := cost_get (v := v) hl (show l[i]? = some x by rw [List.getElem?_eq_getElem hi, e])
    exact ⟨h.t x hx, by omega, by omega⟩
  obtain ⟨k, hk⟩ := h.k.rw (p := 150) (by unfold cost at hc; omega) (by unfold cost at hc; omega)
  have hn : v.n ≤ 150 := by
    have := costK_len l v.n (by omega)
    unfold cost at hc; omega
  exact ⟨L, k, ⟨h.fit.cap, ⟨l, h.fit.row, hL⟩, hk⟩, ⟨h.fit.row, hL⟩, hn⟩
/-- A sum that is nothing, in a block of its own. -/
structure NAt (W wx : World) (nb : Nat) (z : Cv) : Prop where
  cell : C5 wx nb (.int .i64 z.s) (.slice z.A z.n z.c) (.bool z.K.s) (.slice z.K.A z.K.n z.K.c) (.slice z.K.B z.K.m z.K.d)
  below : Below W.heap.size W wx
  n0 : z.n = 0
  k0 : Rt wx 0 z.K 0
theorem NAt.new {W w3 : World} {z : Cv} {lo : Nat} (hb : Below W.heap.size W w3) (h0 : z.n = 0) (hz : Rt w3 lo z.K 0) : NAt W (w3.alloc (.cells #[.int .i64 z.s, .slice z.A z.n z.c, .bool z.K.s, .slice z.K.A z.K.n z.K.c, .slice z.K.B z.K.m z.K.d] 27)) w3.heap.size z :=
  ⟨C5.new w3 (.int .i64 z.s) (.slice z.A z.n z.c) (.bool z.K.s) (.slice z.K.A z.K.n z.K.c) (.slice z.K.B z.K.m z.K.d), hb.alloc hb.size _, h0, (hz.lower (Nat.zero_le _)).below ((Below.refl _ _).alloc (Nat.le_refl _) _)⟩
theorem NAt.put {W w3 : World} {z : Cv} {lo nb : Nat} (hk : C5 w3 nb (.int .i64 0) (.slice none 0 0) (.bool false) (.slice none 0 0) (.slice none 0 0)) (hnb : W.heap.size ≤ nb) (hlt : nb < lo) (hb : Below W.heap.size W w3) (h0 : z.n = 0) (hz : Rt w3 lo z.K 0) : NAt W (put5 w3 nb (.int .i64 z.s) (.slice z.A z.n z.c) (.bool z.K.s) (.slice z.K.A z.K.n z.K.c) (.slice z.K.B z.K.m z.K.d)) nb z :=
  ⟨hk.put _ _ _ _ _, hb.trans (put5_below hnb _ _ _ _ _), h0, (hz.but hlt (by rw [put5_size]; exact Nat.le_refl _) (put5_but _ _ _ _ _ _ _)).lower (Nat.zero_le _)⟩
theorem sz_neg1 : Sz ((-1 : Int) : Rat) 1 := by
  have := (sz_int 1 (by omega)).neg
  rw [show ((-1 : Int) : Rat) = -(((1 : Nat) : Int) : Rat) by rw [← Rat.intCast_neg]; rfl]
  exact this
theorem twice_k (k : Rat) : k * ((2 : Int) : Rat) = k + k := by
  rw [show ((2 : Int) : Rat) = ((1 : Int) : Rat) + ((1 : Int) : Rat) from by rw [← Rat.intCast_add]; rfl, show ((1 : Int) : Rat) = 1 from rfl, Rat.mul_add, Rat.mul_one]
theorem none_of {w : World} {lo : Nat} {z : Cv} {L : List (Int × Rat)} {k : Rat} (h : Ct w lo z (addL L (scaleL ((-1 : Int) : Rat) L)) (k + k * ((-1 : Int) : Rat))) (hn : NZ L) : z.n = 0 ∧ Rt w lo z.K 0 := by
  rw [addL_neg L hn, show k + k * ((-1 : Int) : Rat) = 0 by rw [Rat.intCast_neg, show ((1 : Int) : Rat) = 1 from rfl, Rat.mul_neg, Rat.mul_one, Rat.add_neg_cancel]] at h
  obtain ⟨_, ⟨l, h1, h2⟩, h3⟩ := h
  exact ⟨by rw [← h1.len, h2.len]; rfl, h3⟩
theorem C5.other {w : World} {b b' : Nat} {x0 x1 x2 x3 x4 : Value} (h : C5 w b' x0 x1 x2 x3 x4) (hne : b' ≠ b) (j : Nat) (x : Value) : C5 (w.setCell ⟨b, j, none⟩ x) b' x0 x1 x2 x3 x4 := by
  show (w.heap.modify b _)[b']? = _
  rw [Array.getElem?_modify, if_neg (fun e => hne e.symm)]
  exact h
set_option maxHeartbeats 25600000 in
theorem AffLaws_any (va vb : Cv) (la lb : List Tv) (w : World) (ha : Raw w va la) (hb : Raw w vb lb) :
    Calls Tryz.prog 4 #[.agg #[.int .i64 va.s, .slice va.A va.n va.c, .bool va.K.s, .slice va.K.A va.K.n va.K.c, .slice va.K.B va.K.m va.K.d], .agg #[.int .i64 vb.s, .slice vb.A vb.n vb.c, .bool vb.K.s, .slice vb.K.A vb.K.n vb.K.c, .slice vb.K.B vb.K.m vb.K.d]] w fun e w' => e = .returned (.bool true) ∧ Below w.heap.size w w' := by
  obtain ⟨ka, kb, HW, hsW⟩ := openK2 w va vb _ rfl
  have k2 : K2 (((w.alloc (.cells #[.int .i64 va.s, .slice va.A va.n va.c, .bool va.K.s, .slice va.K.A va.K.n va.K.c, .slice va.K.B va.K.m va.K.d] 27)).alloc (.cells #[.int .i64 vb.s, .slice vb.A vb.n vb.c, .bool vb.K.s, .slice vb.K.A vb.K.n vb.K.c, .slice vb.K.B vb.K.m vb.K.d] 27)).alloc (.cells #[.int .i64 va.s, .slice va.A va.n va.c, .bool va.K.s, .slice va.K.A va.K.n va.K.c, .slice va.K.B va.K.m va.K.d, .int .i64 vb.s, .slice vb.A vb.n vb.c, .bool vb.K.s, .slice vb.K.A vb.K.n vb.K.c, .slice vb.K.B vb.K.m vb.K.d] 27)) (w.heap.size + 1 + 1) va vb := by
    have := heap_alloc_new ((w.alloc (.cells #[.int .i64 va.s, .slice va.A va.n va.c, .bool va.K.s, .slice va.K.A va.K.n va.K.c, .slice va.K.B va.K.m va.K.d] 27)).alloc (.cells #[.int .i64 vb.s, .slice vb.A vb.n vb.c, .bool vb.K.s, .slice vb.K.A vb.K.n vb.K.c, .slice vb.K.B vb.K.m vb.K.d] 27)) (.cells #[.int .i64 va.s, .slice va.A va.n va.c, .bool va.K.s, .slice va.K.A va.K.n va.K.c, .slice va.K.B va.K.m va.K.d, .int .i64 vb.s, .slice vb.A vb.n vb.c, .bool vb.K.s, .slice vb.K.A vb.K.n vb.K.c, .slice vb.K.B vb.K.m vb.K.d] 27)
    rw [hsW] at this
    exact this
  have HW2 := HW.alloc HW.size (.cells #[.int .i64 va.s, .slice va.A va.n va.c, .bool va.K.s, .slice va.K.A va.K.n va.K.c, .slice va.K.B va.K.m va.K.d, .int .i64 vb.s, .slice vb.A vb.n vb.c, .bool vb.K.s, .slice vb.K.A vb.K.n vb.K.c, .slice vb.K.B vb.K.m vb.K.d] 27)
  have ka2 := ka.alloc (.cells #[.int .i64 va.s, .slice va.A va.n va.c, .bool va.K.s, .slice va.K.A va.K.n va.K.c, .slice va.K.B va.K.m va.K.d, .int .i64 vb.s, .slice vb.A vb.n vb.c, .bool vb.K.s, .slice vb.K.A vb.K.n vb.K.c, .slice vb.K.B vb.K.m vb.K.d] 27)
  have kb2 := kb.alloc (.cells #[.int .i64 va.s, .slice va.A va.n va.c, .bool va.K.s, .slice va.K.A va.K.n va.K.c, .slice va.K.B va.K.m va.K.d, .int .i64 vb.s, .slice vb.A vb.n vb.c, .bool vb.K.s, .slice vb.K.A vb.K.n vb.K.c, .slice vb.K.B vb.K.m vb.K.d] 27)
  have hsW2 : (((w.alloc (.cells #[.int .i64 va.s, .slice va.A va.n va.c, .bool va.K.s, .slice va.K.A va.K.n va.K.c, .slice va.K.B va.K.m va.K.d] 27)).alloc (.cells #[.int .i64 vb.s, .slice vb.A vb.n vb.c, .bool vb.K.s, .slice vb.K.A vb.K.n vb.K.c, .slice vb.K.B vb.K.m vb.K.d] 27)).alloc (.cells #[.int .i64 va.s, .slice va.A va.n va.c, .bool va.K.s, .slice va.K.A va.K.n va.K.c, .slice va.K.B va.K.m va.K.d, .int .i64 vb.s, .slice vb.A vb.n vb.c, .bool vb.K.s, .slice vb.K.A vb.K.n vb.K.c, .slice vb.K.B vb.K.m vb.K.d] 27)).heap.size = w.heap.size + 3 := by simp
  clear ka kb HW hsW
  go_enter Tryz.func4, Tryz.ntmps4
  go_wp2_with fail
  generalize ((w.alloc (.cells #[.int .i64 va.s, .slice va.A va.n va.c, .bool va.K.s, .slice va.K.A va.K.n va.K.c, .slice va.K.B va.K.m va.K.d] 27)).alloc (.cells #[.int .i64 vb.s, .slice vb.A vb.n vb.c, .bool vb.K.s, .slice vb.K.A vb.K.n vb.K.c, .slice vb.K.B vb.K.m vb.K.d] 27)).alloc (.cells #[.int .i64 va.s, .slice va.A va.n va.c, .bool va.K.s, .slice va.K.A va.K.n va.K.c, .slice va.K.B va.K.m va.K.d, .int .i64 vb.s, .slice vb.A vb.n vb.c, .bool vb.K.s, .slice vb.K.A vb.K.n vb.K.c, .slice vb.K.B vb.K.m vb.K.d] 27) = W at *
  have fA : Fit W va la := ⟨ha.fit.row.below HW2, ha.fit.n, ha.fit.kn, ha.fit.km, ha.fit.cap, ha.fit.each⟩
  have fB : Fit W vb lb := ⟨hb.fit.row.below HW2, hb.fit.n, hb.fit.kn, hb.fit.km, hb.fit.cap, hb.fit.each⟩
  refine (heavy_c (w.heap.size + 1 + 1) va vb la lb _ k2 fA fB).mono ?_
  rintro e w1 ⟨r, rfl, hr, hb1⟩
  have HB := Lib.hid (HW2.trans (hb1.mono (by omega)))
  have KA := Lib.hid (ka2.below hb1)
  have KB := Lib.hid (kb2.below hb1)
  have hs1 := hb1.size
  clear hb1 HW2 ka2 kb2 k2 fA fB
  obtain ⟨a0, a1, a2, a3, a4⟩ := KA.out.facts
  obtain ⟨b0, b1, b2, b3, b4⟩ := KB.out.facts
  have HRA := Lib.hid ha
  have HRB := Lib.hid hb
  clear ha hb
  cases r with
  | true =>
    go_wp2
    go_ret
    exact ⟨rfl, HB.out⟩
  | false =>
    have hcost := hr rfl
    clear hr
    obtain ⟨L, k, cA, tA, nA⟩ := HRA.out.cw (by omega)
    obtain ⟨M, q, cB, tB, nB⟩ := HRB.out.cw (by omega)
    have TA := Lib.hid (And.intro tA.1 (And.intro (tA.2.more (show 150 ≤ 1900 by omega)) cA.num))
    have TB := Lib.hid (And.intro tB.1 (And.intro (tB.2.more (show 150 ≤ 1900 by omega)) cB.num))
    have CA := Lib.hid cA
    have HRDS := Lib.hid tA.2
    have HRDT := Lib.hid tB.2
    have CB := Lib.hid cB
    clear cA tA cB tB hcost
    by_cases i1 : IsS w1 va la 64
    · go_wp2_with fail
      refine (rIsK_c va 64 la L k _ (by omega) CA.out.cap (TA.out.1.below HB.out) (Rds.below HB.out TA.out.2.1) ((TA.out.2.2.below HB.out).more (by omega)) (by omega) true ⟨fun _ => i1, fun _ => rfl⟩).mono ?_
      rintro e w2 ⟨rfl, hb2⟩
      have NZA := Lib.hid (i1.nz (Rds.below HB.out TA.out.2.1))
      have HB2 := Lib.hid (HB.out.trans (hb2.mono (by omega)))
      have KA2 := Lib.hid (KA.out.below hb2)
      have KB2 := Lib.hid (KB.out.below hb2)
      have hs2 := hb2.size
      clear hb2 i1 KA KB a0 a1 a2 a3 a4 b0 b1 b2 b3 b4
      obtain ⟨a0, a1, a2, a3, a4⟩ := KA2.out.facts
      obtain ⟨b0, b1, b2, b3, b4⟩ := KB2.out.facts
      by_cases i2 : IsS w2 vb lb 64
      · go_wp2_with fail
        refine (rIsK_c vb 64 lb M q _ (by omega) CB.out.cap (TB.out.1.below HB2.out) (Rds.below HB2.out TB.out.2.1) ((TB.out.2.2.below HB2.out).more (by omega)) (by omega) true ⟨fun _ => i2, fun _ => rfl⟩).mono ?_
        rintro e w3 ⟨rfl, hb3⟩
        have HB3 := Lib.hid (HB2.out.trans (hb3.mono (by omega)))
        have KA3 := Lib.hid (KA2.out.below hb3)
        have KB3 := Lib.hid (KB2.out.below hb3)
        have hs3 := hb3.size
        clear hb3 i2 KA2 KB2 a0 a1 a2 a3 a4 b0 b1 b2 b3 b4
        obtain ⟨a0, a1, a2, a3, a4⟩ := KA3.out.facts
        obtain ⟨b0, b1, b2, b3, b4⟩ := KB3.out.facts
        obtain ⟨f0, f1, f2, f3, f4⟩ := KB3.out.thaw
        go_wp2_with fail
        have SZ : Hid (SzL 150 L ∧ Sz k 150) := ⟨Rds.sz (by omega) HRDS.out, CA.out.num.sz (by omega)⟩
        have KA4 := Lib.hid (KA3.out.other (b := w.heap.size + 1) (by omega) 0 (.int .i64 va.s))
        have KB4 := Lib.hid (KB3.out.set0 (.int .i64 va.s))
        have HB4 := Lib.hid (HB3.out.trans (set_below (w := w3) (B := w.heap.size) (b := w.heap.size + 1) (by omega) 0 (.int .i64 va.s)))
        have hs4 : (w3.setCell ⟨w.heap.size + 1, 0, none⟩ (.int .i64 va.s)).heap.size = w3.heap.size := by simp [World.setCell]
        clear KA3 KB3 a0 a1 a2 a3 a4 b0 b1 b2 b3 b4 f0 f1 f2 f3 f4
        generalize w3.setCell ⟨w.heap.size + 1, 0, none⟩ (.int .i64 va.s) = W4 at *
        have hs5 : w.heap.size + 3 ≤ W4.heap.size := by omega
        clear hs4 hs3 hs2 hs1 hsW2
        have HAL : Hid (∀ w', Below W4.heap.size W4 w' → Cw w' va L k 1900 ∧ C5 w' w.heap.size (.int .i64 va.s) (.slice va.A va.n va.c) (.bool va.K.s) (.slice va.K.A va.K.n va.K.c) (.slice va.K.B va.K.m va.K.d) ∧ Below w.heap.size w w') := fun w' h => ⟨((CA.out.below HB4.out).below h).more (by omega), KA4.out.below h, HB4.out.trans (h.mono (by omega))⟩
        go_cut [5] from 23 to 27 (fun nv wx => ∃ (nb : Nat) (z : Cv), nv = .pointer (some ⟨nb, 0, none⟩) ∧ Hid (NAt W4 wx nb z))
        case first =>
          obtain ⟨a0, a1, a2, a3, a4⟩ := KA4.out.facts
          have m1 : ¬ w.heap.size = W4.heap.size := by omega
          have m2 : ¬ W4.heap.size = w.heap.size := by omega
          have hWA : Below W4.heap.size W4 (W4.alloc (.cells #[.int .i64 0, .slice none 0 0, .bool false, .slice none 0 0, .slice none 0 0] 27)).drew := ((Below.refl _ _).alloc (Nat.le_refl _) _).drew
          have kl0 : C5 (W4.alloc (.cells #[.int .i64 0, .slice none 0 0, .bool false, .slice none 0 0, .slice none 0 0] 27)).drew W4.heap.size (.int .i64 0) (.slice none 0 0) (.bool false) (.slice none 0 0) (.slice none 0 0) := C5.new W4 (.int .i64 0) (.slice none 0 0) (.bool false) (.slice none 0 0) (.slice none 0 0)
          have hzA : (W4.alloc (.cells #[.int .i64 0, .slice none 0 0, .bool false, .slice none 0 0, .slice none 0 0] 27)).drew.heap.size = W4.heap.size + 1 := by simp
          have HWA := Lib.hid (And.intro hWA (And.intro kl0 hzA))
          clear hWA kl0 hzA
          go_region_held3 (fun w' => w'.cell? ⟨w.heap.size, 0, none⟩ = some (.int .i64 va.s) ∧ w'.cell? ⟨w.heap.size, 1, none⟩ = some (.slice va.A va.n va.c) ∧ w'.cell? ⟨w.heap.size, 2, none⟩ = some (.bool va.K.s) ∧ w'.cell? ⟨w.heap.size, 3, none⟩ = some (.slice va.K.A va.K.n va.K.c) ∧ w'.cell? ⟨w.heap.size, 4, none⟩ = some (.slice va.K.B va.K.m va.K.d)) (go_keep)
            (first
            | (go_at_call 21
               refine (rInt_c (-1) _ (by omega)).mono ?_
               rintro e w5 ⟨y, rfl, hy, hb⟩
               have hbW : Below W4.heap.size W4 w5 := by
                 first
                 | (have hbq : Below W4.drew.heap.size W4.drew w5 := by with_reducible exact hb
                    exact (bel1 W4).trans hbq)
                 | (have hbq : Below (W4.alloc (.cells #[.int .i64 0, .slice none 0 0, .bool false, .slice none 0 0, .slice none 0 0] 27)).drew.heap.size (W4.alloc (.cells #[.int .i64 0, .slice none 0 0, .bool false, .slice none 0 0, .slice none 0 0] 27)).drew w5 := by with_reducible exact hb
                    exact HWA.out.1.trans (hbq.mono HWA.out.1.size))
               first
               | (have hbq : Below (W4.alloc (.cells #[.int .i64 0, .slice none 0 0, .bool false, .slice none 0 0, .slice none 0 0] 27)).drew.heap.size (W4.alloc (.cells #[.int .i64 0, .slice none 0 0, .bool false, .slice none 0 0, .slice none 0 0] 27)).drew w5 := by with_reducible exact hb
                  have KN := Lib.hid (And.intro (HWA.out.2.1.below hbq) (show W4.heap.size < w5.heap.size by have h1 := hbq.size; have h2 := HWA.out.2.2; omega))
                  obtain ⟨q0, q1, q2, q3, q4⟩ := KN.out.1.facts
                  obtain ⟨t0, t1, t2, t3, t4⟩ := KN.out.1.thaw
                  clear hbq)
               | skip
               obtain ⟨a0, a1, a2, a3, a4⟩ := (HAL.out _ hbW).2.1.facts
               have HY : Hid (Rw w5 y ((-1 : Int) : Rat) 1900) := (hy.rw sz_neg1).more (by omega)
               have HW5 := Lib.hid hbW
               have hz5 := hbW.size
               have m3 : ¬ w.heap.size = w5.heap.size := by omega
               have m4 : ¬ w5.heap.size = w.heap.size := by omega
               clear hy hb hbW)
            | (go_at_call 15
               refine (ScaleK_c va y L k ((-1 : Int) : Rat) _ ((HAL.out _ (HW5.out.trans (Below.mono (B := w5.heap.size) ?_ hz5))).1) (HY.out.below ?_) (by omega)).mono ?_
               · first
                 | (with_reducible exact Below.refl _ _)
                 | (with_reducible exact (Below.refl _ _).alloc (Nat.le_refl _) _)
               · first
                 | (with_reducible exact Below.refl _ _)
                 | (with_reducible exact (Below.refl _ _).alloc (Nat.le_refl _) _)
               rintro e w6 ⟨x, rfl, hxs, hxn, hxc, hb⟩
               have hb5 : Below w5.heap.size w5 w6 := by
                 first
                 | (with_reducible exact hb)
                 | (have hbq : Below (w5.alloc (.cells #[.int .i64 0, .slice none 0 0, .bool false, .slice none 0 0, .slice none 0 0] 27)).heap.size (w5.alloc (.cells #[.int .i64 0, .slice none 0 0, .bool false, .slice none 0 0, .slice none 0 0] 27)) w6 := by with_reducible exact hb
                    exact ((Below.refl _ _).alloc (Nat.le_refl _) _).trans (hbq.mono (by simp)))
               have hbW := HW5.out.trans (hb5.mono hz5)
               first
               | (have KN6 := Lib.hid (And.intro (KN.out.1.below hb5) (show W4.heap.size < w6.heap.size by have h1 := hb5.size; have h2 := KN.out.2; omega))
                  clear q0 q1 q2 q3 q4 t0 t1 t2 t3 t4
                  obtain ⟨q0, q1, q2, q3, q4⟩ := KN6.out.1.facts
                  obtain ⟨t0, t1, t2, t3, t4⟩ := KN6.out.1.thaw)
               | (have hbq : Below (w5.alloc (.cells #[.int .i64 0, .slice none 0 0, .bool false, .slice none 0 0, .slice none 0 0] 27)).heap.size (w5.alloc (.cells #[.int .i64 0, .slice none 0 0, .bool false, .slice none 0 0, .slice none 0 0] 27)) w6 := by with_reducible exact hb
                  have KM6 := Lib.hid (And.intro ((C5.new w5 (.int .i64 0) (.slice none 0 0) (.bool false) (.slice none 0 0) (.slice none 0 0)).below hbq) (show w5.heap.size < w6.heap.size by have h1 := hbq.size; simp at h1; omega))
                  obtain ⟨q0, q1, q2, q3, q4⟩ := KM6.out.1.facts
                  obtain ⟨t0, t1, t2, t3, t4⟩ := KM6.out.1.thaw
                  clear hbq)
               | skip
               obtain ⟨a0, a1, a2, a3, a4⟩ := (HAL.out _ hbW).2.1.facts
               have HX : Hid (Cw w6 x (scaleL ((-1 : Int) : Rat) L) (k * ((-1 : Int) : Rat)) 1900) := (hxc.cw (SzL.scale sz_neg1 L SZ.out.1) (SZ.out.2.mul sz_neg1)).more (by omega)
               have hx9 : x.n ≤ 1000 := by omega
               clear hxs hxn
               have HW6 := Lib.hid hbW
               have hz6 := hbW.size
               have m5 : ¬ w.heap.size = w6.heap.size := by omega
               have m6 : ¬ w6.heap.size = w.heap.size := by omega
               clear hxc hb hb5 hbW)
            | (go_at_call 13
               refine (AddK_c va x L (scaleL ((-1 : Int) : Rat) L) k (k * ((-1 : Int) : Rat)) _ ((HAL.out _ (HW6.out.trans (Below.mono (B := w6.heap.size) ?_ hz6))).1) (HX.out.below ?_) (by omega) hx9).mono ?_
               · first
                 | (with_reducible exact Below.refl _ _)
                 | (with_reducible exact (Below.refl _ _).alloc (Nat.le_refl _) _)
               · first
                 | (with_reducible exact Below.refl _ _)
                 | (with_reducible exact (Below.refl _ _).alloc (Nat.le_refl _) _)
               rintro e w7 ⟨z, rfl, hzs, hzn, hzc, hb⟩
               have hb6 : Below w6.heap.size w6 w7 := by
                 first
                 | (with_reducible exact hb)
                 | (have hbq : Below (w6.alloc (.cells #[.int .i64 0, .slice none 0 0, .bool false, .slice none 0 0, .slice none 0 0] 27)).heap.size (w6.alloc (.cells #[.int .i64 0, .slice none 0 0, .bool false, .slice none 0 0, .slice none 0 0] 27)) w7 := by with_reducible exact hb
                    exact ((Below.refl _ _).alloc (Nat.le_refl _) _).trans (hbq.mono (by simp)))
               have hbW := HW6.out.trans (hb6.mono hz6)
               first
               | (have KN7 := Lib.hid (KN6.out.1.below hb6)
                  clear q0 q1 q2 q3 q4 t0 t1 t2 t3 t4
                  obtain ⟨q0, q1, q2, q3, q4⟩ := KN7.out.facts
                  obtain ⟨t0, t1, t2, t3, t4⟩ := KN7.out.thaw)
               | (have KM7 := Lib.hid (KM6.out.1.below hb6)
                  clear q0 q1 q2 q3 q4 t0 t1 t2 t3 t4
                  obtain ⟨q0, q1, q2, q3, q4⟩ := KM7.out.facts
                  obtain ⟨t0, t1, t2, t3, t4⟩ := KM7.out.thaw)
               | (have hbq : Below (w6.alloc (.cells #[.int .i64 0, .slice none 0 0, .bool false, .slice none 0 0, .slice none 0 0] 27)).heap.size (w6.alloc (.cells #[.int .i64 0, .slice none 0 0, .bool false, .slice none 0 0, .slice none 0 0] 27)) w7 := by with_reducible exact hb
                  have KO7 := Lib.hid ((C5.new w6 (.int .i64 0) (.slice none 0 0) (.bool false) (.slice none 0 0) (.slice none 0 0)).below hbq)
                  obtain ⟨q0, q1, q2, q3, q4⟩ := KO7.out.facts
                  obtain ⟨t0, t1, t2, t3, t4⟩ := KO7.out.thaw
                  clear hbq)
               | skip
               obtain ⟨a0, a1, a2, a3, a4⟩ := (HAL.out _ hbW).2.1.facts
               have HZ := Lib.hid (none_of hzc NZA.out)
               clear hzs hzn
               have HW7 := Lib.hid hbW
               have hz7 := hbW.size
               have m7 : ¬ w.heap.size = w7.heap.size := by omega
               have m8 : ¬ w7.heap.size = w.heap.size := by omega
               clear hzc hb hb6 hbW))
          all_goals
            go_wp2_with fail
            go_meet
            first
            | exact ⟨_, z, rfl, Lib.hid (NAt.put KN7.out (Nat.le_refl _) KN6.out.2 HW7.out HZ.out.1 HZ.out.2)⟩
            | exact ⟨_, z, rfl, Lib.hid (NAt.put KM7.out hz5 KM6.out.2 HW7.out HZ.out.1 HZ.out.2)⟩
            | exact ⟨_, z, rfl, Lib.hid (NAt.put KO7.out hz6 (by simp) HW7.out HZ.out.1 HZ.out.2)⟩
            | exact ⟨_, z, rfl, Lib.hid (NAt.new HW7.out HZ.out.1 HZ.out.2)⟩
        case rest =>
          obtain ⟨nb, z, rfl, HN⟩ := hcut
          have hnb : W4.heap.size ≤ wc.heap.size := HN.out.below.size
          have HALL : Hid (∀ w', Below wc.heap.size wc w' → Cw w' va L k 1900 ∧ Cw w' (⟨va.s, vb.A, vb.n, vb.c, vb.K⟩ : Cv) M q 1900 ∧ C5 w' w.heap.size (.int .i64 va.s) (.slice va.A va.n va.c) (.bool va.K.s) (.slice va.K.A va.K.n va.K.c) (.slice va.K.B va.K.m va.K.d) ∧ C5 w' (w.heap.size + 1) (.int .i64 va.s) (.slice vb.A vb.n vb.c) (.bool vb.K.s) (.slice vb.K.A vb.K.n vb.K.c) (.slice vb.K.B vb.K.m vb.K.d) ∧ C5 w' nb (.int .i64 z.s) (.slice z.A 0 z.c) (.bool z.K.s) (.slice z.K.A z.K.n z.K.c) (.slice z.K.B z.K.m z.K.d) ∧ Rw w' z.K 0 1900 ∧ Below w.heap.size w w') := fun w' h => by
            have h1 := HAL.out _ (HN.out.below.trans (h.mono hnb))
            have cB := (((CB.out.below HB4.out).below (HN.out.below.trans (h.mono hnb))).more (show 150 ≤ 1900 by omega))
            have cN := HN.out.cell.below h
            rw [HN.out.n0] at cN
            exact ⟨h1.1, ⟨cB.cap, cB.rows, cB.num⟩, h1.2.1, (KB4.out.below HN.out.below).below h, cN, ((HN.out.k0.below h).rw (sz_int 0 (by omega))).more (by omega), h1.2.2⟩
          have SZB : Hid (SzL 150 M ∧ Sz q 150) := ⟨Rds.sz (by omega) HRDT.out, CB.out.num.sz (by omega)⟩
          have HW := Lib.hid (bel1 wc)
          obtain ⟨a0, a1, a2, a3, a4⟩ := (HALL.out _ HW.out).2.2.1.facts
          obtain ⟨b0, b1, b2, b3, b4⟩ := (HALL.out _ HW.out).2.2.2.1.facts
          obtain ⟨n0, n1, n2, n3, n4⟩ := (HALL.out _ HW.out).2.2.2.2.1.facts
          have mk0 : Hid True := trivial
          go_wp2_with fail
          go_region_held3 (fun w' => w'.cell? ⟨w.heap.size, 0, none⟩ = some (.int .i64 va.s) ∧ w'.cell? ⟨w.heap.size, 1, none⟩ = some (.slice va.A va.n va.c) ∧ w'.cell? ⟨w.heap.size, 2, none⟩ = some (.bool va.K.s) ∧ w'.cell? ⟨w.heap.size, 3, none⟩ = some (.slice va.K.A va.K.n va.K.c) ∧ w'.cell? ⟨w.heap.size, 4, none⟩ = some (.slice va.K.B va.K.m va.K.d) ∧ w'.cell? ⟨w.heap.size + 1, 0, none⟩ = some (.int .i64 va.s) ∧ w'.cell? ⟨w.heap.size + 1, 1, none⟩ = some (.slice vb.A vb.n vb.c) ∧ w'.cell? ⟨w.heap.size + 1, 2, none⟩ = some (.bool vb.K.s) ∧ w'.cell? ⟨w.heap.size + 1, 3, none⟩ = some (.slice vb.K.A vb.K.n vb.K.c) ∧ w'.cell? ⟨w.heap.size + 1, 4, none⟩ = some (.slice vb.K.B vb.K.m vb.K.d) ∧ w'.cell? ⟨nb, 1, none⟩ = some (.slice z.A 0 z.c) ∧ w'.cell? ⟨nb, 2, none⟩ = some (.bool z.K.s) ∧ w'.cell? ⟨nb, 3, none⟩ = some (.slice z.K.A z.K.n z.K.c) ∧ w'.cell? ⟨nb, 4, none⟩ = some (.slice z.K.B z.K.m z.K.d)) (go_keep)
            (first
            | (go_at_call 13
               have mk1 := mk0
               clear mk0
               refine (AddK_c va (⟨va.s, vb.A, vb.n, vb.c, vb.K⟩ : Cv) L M k q _ (HALL.out _ HW.out).1 (HALL.out _ HW.out).2.1 (by omega) (by show vb.n ≤ 1000; omega)).mono ?_
               rintro e wz0 ⟨x1, rfl, hs, hn, hc, hb⟩
               have hbW := HW.out.trans (hb.mono HW.out.size)
               clear a0 a1 a2 a3 a4 b0 b1 b2 b3 b4 n0 n1 n2 n3 n4
               obtain ⟨a0, a1, a2, a3, a4⟩ := (HALL.out _ hbW).2.2.1.facts
               obtain ⟨b0, b1, b2, b3, b4⟩ := (HALL.out _ hbW).2.2.2.1.facts
               obtain ⟨n0, n1, n2, n3, n4⟩ := (HALL.out _ hbW).2.2.2.2.1.facts
               have Hx1 : Hid (Cw _ x1 (addL L M) (k + q) 1900) := (hc.cw (SzL.add _ L M (Nat.le_refl _) SZ.out.1 SZB.out.1) (SZ.out.2.add SZB.out.2)).more (by omega)
               have Ex1 : Hid (x1.s = va.s ∧ x1.n ≤ 300) := ⟨hs, by (try dsimp only at hn); omega⟩
               clear hs hn hc
               replace HW := Lib.hid hbW
               clear hb hbW)
            | (go_at_call 13
               have mk2 := mk1
               clear mk1
               refine (AddK_c (⟨va.s, vb.A, vb.n, vb.c, vb.K⟩ : Cv) va M L q k _ (HALL.out _ HW.out).2.1 (HALL.out _ HW.out).1 (by show vb.n ≤ 1000; omega) (by omega)).mono ?_
               rintro e wz1 ⟨x2, rfl, hs, hn, hc, hb⟩
               have hbW := HW.out.trans (hb.mono HW.out.size)
               clear a0 a1 a2 a3 a4 b0 b1 b2 b3 b4 n0 n1 n2 n3 n4
               obtain ⟨a0, a1, a2, a3, a4⟩ := (HALL.out _ hbW).2.2.1.facts
               obtain ⟨b0, b1, b2, b3, b4⟩ := (HALL.out _ hbW).2.2.2.1.facts
               obtain ⟨n0, n1, n2, n3, n4⟩ := (HALL.out _ hbW).2.2.2.2.1.facts
               replace Hx1 := Lib.hid (Hx1.out.below hb)
               have Hx2 : Hid (Cw _ x2 (addL M L) (q + k) 1900) := (hc.cw (SzL.add _ M L (Nat.le_refl _) SZB.out.1 SZ.out.1) (SZB.out.2.add SZ.out.2)).more (by omega)
               have Ex2 : Hid (x2.s = va.s ∧ x2.n ≤ 300) := ⟨hs, by (try dsimp only at hn); omega⟩
               clear hs hn hc
               replace HW := Lib.hid hbW
               clear hb hbW)
            | (go_at_call 12
               have mk3 := mk2
               clear mk2
               refine (rSameK_c x1 x2 _ _ _ _ _ Hx1.out Hx2.out (by have := Ex1.out.2; omega) (by have := Ex2.out.2; omega) true (decide_eq_true ⟨by rw [Ex1.out.1, Ex2.out.1], addL_comm _ _, Rat.add_comm _ _⟩)).mono ?_
               rintro e wz2 ⟨rfl, hb⟩
               have hbW := HW.out.trans (hb.mono HW.out.size)
               clear a0 a1 a2 a3 a4 b0 b1 b2 b3 b4 n0 n1 n2 n3 n4
               obtain ⟨a0, a1, a2, a3, a4⟩ := (HALL.out _ hbW).2.2.1.facts
               obtain ⟨b0, b1, b2, b3, b4⟩ := (HALL.out _ hbW).2.2.2.1.facts
               obtain ⟨n0, n1, n2, n3, n4⟩ := (HALL.out _ hbW).2.2.2.2.1.facts
               replace Hx1 := Lib.hid (Hx1.out.below hb)
               replace Hx2 := Lib.hid (Hx2.out.below hb)
               clear Hx1 Hx2
               replace HW := Lib.hid hbW
               clear hb hbW)
            | (go_at_call 22
               have mk4 := mk3
               clear mk3
               refine (rZero_v z.K 0 true _ ((HALL.out _ HW.out).2.2.2.2.2.1.more (by omega)) (decide_eq_true rfl)).mono ?_
               rintro e wz3 ⟨rfl, hb⟩
               have hbW := HW.out.trans (hb.mono HW.out.size)
               clear a0 a1 a2 a3 a4 b0 b1 b2 b3 b4 n0 n1 n2 n3 n4
               obtain ⟨a0, a1, a2, a3, a4⟩ := (HALL.out _ hbW).2.2.1.facts
               obtain ⟨b0, b1, b2, b3, b4⟩ := (HALL.out _ hbW).2.2.2.1.facts
               obtain ⟨n0, n1, n2, n3, n4⟩ := (HALL.out _ hbW).2.2.2.2.1.facts
               replace HW := Lib.hid hbW
               clear hb hbW)
            | (go_at_call 21
               have mk5 := mk4
               clear mk4
               refine (rInt_c 2 _ (by omega)).mono ?_
               rintro e wz4 ⟨y, rfl, hy, hb⟩
               have hbW := HW.out.trans (hb.mono HW.out.size)
               clear a0 a1 a2 a3 a4 b0 b1 b2 b3 b4 n0 n1 n2 n3 n4
               obtain ⟨a0, a1, a2, a3, a4⟩ := (HALL.out _ hbW).2.2.1.facts
               obtain ⟨b0, b1, b2, b3, b4⟩ := (HALL.out _ hbW).2.2.2.1.facts
               obtain ⟨n0, n1, n2, n3, n4⟩ := (HALL.out _ hbW).2.2.2.2.1.facts
               have Hy : Hid (Rw _ y ((2 : Int) : Rat) 1900) := (hy.rw (sz_int 2 (by omega))).more (by omega)
               clear hy
               replace HW := Lib.hid hbW
               clear hb hbW)
            | (go_at_call 15
               have mk6 := mk5
               clear mk5
               refine (ScaleK_c va y L k ((2 : Int) : Rat) _ (HALL.out _ HW.out).1 Hy.out (by omega)).mono ?_
               rintro e wz5 ⟨x3, rfl, hs, hn, hc, hb⟩
               have hbW := HW.out.trans (hb.mono HW.out.size)
               clear a0 a1 a2 a3 a4 b0 b1 b2 b3 b4 n0 n1 n2 n3 n4
               obtain ⟨a0, a1, a2, a3, a4⟩ := (HALL.out _ hbW).2.2.1.facts
               obtain ⟨b0, b1, b2, b3, b4⟩ := (HALL.out _ hbW).2.2.2.1.facts
               obtain ⟨n0, n1, n2, n3, n4⟩ := (HALL.out _ hbW).2.2.2.2.1.facts
               replace Hy := Lib.hid (Hy.out.below hb)
               have Hx3 : Hid (Cw _ x3 (scaleL ((2 : Int) : Rat) L) (k * ((2 : Int) : Rat)) 1900) := (hc.cw (SzL.scale (sz_int 2 (by omega)) L SZ.out.1) (SZ.out.2.mul (sz_int 2 (by omega)))).more (by omega)
               have Ex3 : Hid (x3.s = va.s ∧ x3.n ≤ 300) := ⟨hs, by omega⟩
               clear hs hn hc
               replace HW := Lib.hid hbW
               clear hb hbW)
            | (go_at_call 13
               have mk7 := mk6
               clear mk6
               refine (AddK_c va va L L k k _ (HALL.out _ HW.out).1 (HALL.out _ HW.out).1 (by omega) (by omega)).mono ?_
               rintro e wz6 ⟨x4, rfl, hs, hn, hc, hb⟩
               have hbW := HW.out.trans (hb.mono HW.out.size)
               clear a0 a1 a2 a3 a4 b0 b1 b2 b3 b4 n0 n1 n2 n3 n4
               obtain ⟨a0, a1, a2, a3, a4⟩ := (HALL.out _ hbW).2.2.1.facts
               obtain ⟨b0, b1, b2, b3, b4⟩ := (HALL.out _ hbW).2.2.2.1.facts
               obtain ⟨n0, n1, n2, n3, n4⟩ := (HALL.out _ hbW).2.2.2.2.1.facts
               replace Hy := Lib.hid (Hy.out.below hb)
               replace Hx3 := Lib.hid (Hx3.out.below hb)
               have Hx4 : Hid (Cw _ x4 (addL L L) (k + k) 1900) := (hc.cw (SzL.add _ L L (Nat.le_refl _) SZ.out.1 SZ.out.1) (SZ.out.2.add SZ.out.2)).more (by omega)
               have Ex4 : Hid (x4.s = va.s ∧ x4.n ≤ 300) := ⟨hs, by (try dsimp only at hn); omega⟩
               clear hs hn hc
               replace HW := Lib.hid hbW
               clear hb hbW)
            | (go_at_call 12
               have mk8 := mk7
               clear mk7
               refine (rSameK_c x3 x4 _ _ _ _ _ Hx3.out Hx4.out (by have := Ex3.out.2; omega) (by have := Ex4.out.2; omega) true (decide_eq_true ⟨by rw [Ex3.out.1, Ex4.out.1], (addL_twice _).symm, twice_k k⟩)).mono ?_
               rintro e wz7 ⟨rfl, hb⟩
               have hbW := HW.out.trans (hb.mono HW.out.size)
               clear a0 a1 a2 a3 a4 b0 b1 b2 b3 b4 n0 n1 n2 n3 n4
               obtain ⟨a0, a1, a2, a3, a4⟩ := (HALL.out _ hbW).2.2.1.facts
               obtain ⟨b0, b1, b2, b3, b4⟩ := (HALL.out _ hbW).2.2.2.1.facts
               obtain ⟨n0, n1, n2, n3, n4⟩ := (HALL.out _ hbW).2.2.2.2.1.facts
               replace Hy := Lib.hid (Hy.out.below hb)
               replace Hx3 := Lib.hid (Hx3.out.below hb)
               replace Hx4 := Lib.hid (Hx4.out.below hb)
               clear Hx3 Hx4
               replace HW := Lib.hid hbW
               clear hb hbW)
            | (go_at_call 11
               have mk9 := mk8
               clear mk8
               refine (known8_c _).mono ?_
               rintro e wz8 ⟨rfl, hb⟩
               have hbW := HW.out.trans (hb.mono HW.out.size)
               clear a0 a1 a2 a3 a4 b0 b1 b2 b3 b4 n0 n1 n2 n3 n4
               obtain ⟨a0, a1, a2, a3, a4⟩ := (HALL.out _ hbW).2.2.1.facts
               obtain ⟨b0, b1, b2, b3, b4⟩ := (HALL.out _ hbW).2.2.2.1.facts
               obtain ⟨n0, n1, n2, n3, n4⟩ := (HALL.out _ hbW).2.2.2.2.1.facts
               replace HW := Lib.hid hbW
               clear hb hbW))
          clear a0 a1 a2 a3 a4 b0 b1 b2 b3 b4 n0 n1 n2 n3 n4
          go_wp2
          go_ret
          exact ⟨rfl, (HALL.out _ HW.out).2.2.2.2.2.2⟩
      · go_wp2_with fail
        refine (rIsK_c vb 64 lb M q _ (by omega) CB.out.cap (TB.out.1.below HB2.out) (Rds.below HB2.out TB.out.2.1) ((TB.out.2.2.below HB2.out).more (by omega)) (by omega) false ⟨fun h => (by cases h), fun h => absurd h i2⟩).mono ?_
        rintro e w3 ⟨rfl, hb3⟩
        have HB3 := Lib.hid (HB2.out.trans (hb3.mono (by omega)))
        clear hb3 i2
        go_wp2
        go_ret
        exact ⟨rfl, HB3.out⟩
    · go_wp2_with fail
      refine (rIsK_c va 64 la L k _ (by omega) CA.out.cap (TA.out.1.below HB.out) (Rds.below HB.out TA.out.2.1) ((TA.out.2.2.below HB.out).more (by omega)) (by omega) false ⟨fun h => (by cases h), fun h => absurd h i1⟩).mono ?_
      rintro e w2 ⟨rfl, hb2⟩
      have HB2 := Lib.hid (HB.out.trans (hb2.mono (by omega)))
      clear hb2 i1
      go_wp2
      go_ret
      exact ⟨rfl, HB2.out⟩
end Go.Proofs.YtffnjdfmaebmhaaGreatDoor

namespace Go.Proofs.YtffnjdfmaebmhaaGreatDoor
set_option maxRecDepth 20000
open Go.Deep Go.Joins Go.ChangeShapes Go.WideShapes Go.ChangeAt Go.RowKit

theorem bulk_mem {H : Type} {d : DataW H} : ∀ {l : List (DataW H)}, d ∈ l → Rows.uptoBulk d ≤ Rows.uptoBulkAll l
  | [], h => by cases h
  | x :: l, h => by
    rw [Rows.uptoBulkAll]
    rcases List.mem_cons.1 h with rfl | h
    · omega
    · have := bulk_mem h; omega
theorem bulk_pos {H : Type} (d : DataW H) : 1 ≤ Rows.uptoBulk d := by
  cases d with
  | lit l => cases l <;> simp [Rows.uptoBulk]
  | _ => simp [Rows.uptoBulk]
theorem bulk_len {H : Type} : ∀ l : List (DataW H), l.length ≤ Rows.uptoBulkAll l
  | [] => Nat.zero_le _
  | x :: l => by rw [Rows.uptoBulkAll, List.length_cons]; have := bulk_len l; have := bulk_pos x; omega
theorem Tryz.cells61 : Tryz.prog.cellsOf 61 = 4 := by kernel_rfl
theorem Tryz.cells27 : Tryz.prog.cellsOf 27 = 5 := by kernel_rfl
theorem Tryz.cells3 : Tryz.prog.cellsOf 3 = 1 := by kernel_rfl
theorem Tryz.cells23b : Tryz.prog.cellsOf 23 = 1 := by kernel_rfl
theorem Tryz.cells4b : Tryz.prog.cellsOf 4 = 1 := by kernel_rfl
theorem Tryz.cells22 : Tryz.prog.cellsOf 22 = 1 := by kernel_rfl
theorem open_limbsU {H : Type} {enc : TypeId × Value → H} {W : World} {v : Value} {y : DataW H × List MemPlace} {fuel : Nat} (hf : DataW.trod enc Tryz.prog W 0 (fun _ => true) true fuel 23 [v] = some y)
    (hlt : ∀ x ∈ y.2, x.block < W.heap.size) (hb : Rows.uptoBulk y.1 ≤ 1048576) :
    ∃ A n c l, v = .slice A n c ∧ n ≤ c ∧ n ≤ 1048576 ∧ Row W 0 A n l := by
  rcases open_ints Tryz.underlying23 Tryz.underlying74 Tryz.cells74 hf with ⟨hcs, hx⟩ | ⟨a, len', cap', zs, hcs, _, hl, hm, hz, hx, hcell, hwz⟩
  · simp at hcs
    subst hcs
    exact ⟨none, 0, 0, [], rfl, Nat.le_refl _, by omega, Row.nil_ _ _ _⟩
  · simp at hcs
    subst hcs
    subst hx
    simp only [if_true] at hz
    have hr : ∀ z ∈ zs, 0 ≤ z ∧ z < 4294967296 := by
      intro z hz
      have := hwz z hz
      simp only [Lit.wf, Bool.and_eq_true, decide_eq_true_eq] at this
      have h1 : IntKind.u32.min = 0 := rfl
      have h2 : IntKind.u32.max = 4294967295 := rfl
      omega
    have hlen : (zs.take len').length = len' := by simp; omega
    have hn : len' ≤ 1048576 := by
      simp only [Rows.uptoBulk] at hb
      have := bulk_len (lits (H := H) IntKind.u32 (List.take len' zs))
      simp [lits] at this
      simp [lits] at hb
      omega
    refine ⟨some a, len', cap', (zs.take len').map Int.toNat, rfl, hl, hn, by simp; omega, ?_, ?_⟩
    · intro i
      rw [dg_eq, List.getElem?_map]
      cases hq : (zs.take len')[i]? with
      | none => simp
      | some z =>
        have hmem : z ∈ zs := List.mem_of_mem_take (List.mem_of_getElem? hq)
        have := hr z hmem
        simp; omega
    · intro hn
      obtain ⟨b, off, spot⟩ := a
      have hspot : spot = none := by simpa [Addr.add] using World.cell?_spot (hcell 0 (by omega))
      subst hspot
      have hbW : b < W.heap.size := hlt (.cell b off) (MemPlace.mem_row.2 ⟨0, by omega, by simp⟩)
      refine ⟨b, off, rfl, Nat.zero_le _, hbW, fun j hj => ?_⟩
      rw [← add_plain, hcell j (by omega), dg_map zs len' j (by omega)]
      have hj2 : j < zs.length := by omega
      have : zs.getD j 0 = zs[j] := by simp [List.getD, hj2]
      rw [this]
      exact (hr _ (List.getElem_mem hj2)).1
theorem open_ratU {H : Type} {enc : TypeId × Value → H} {W : World} {c1 c2 c3 : Value} {y : DataW H × List MemPlace} {fuel : Nat} (hf : DataW.trod enc Tryz.prog W 0 (fun _ => true) true fuel 25 [c1, c2, c3] = some y)
    (hlt : ∀ x ∈ y.2, x.block < W.heap.size) (hb : Rows.uptoBulk y.1 ≤ 1048576) :
    ∃ r : Rv, c1 = .bool r.s ∧ c2 = .slice r.A r.n r.c ∧ c3 = .slice r.B r.m r.d ∧ RdR W r ∧ r.n ≤ 1048576 ∧ r.m ≤ 1048576 := by
  obtain ⟨z0, z1, z2, m, ez, _, g0, g1, g2⟩ := trod_struct3 Tryz.underlying25 hf
  replace g0 : DataW.trod enc Tryz.prog W 0 (fun _ => true) true m 4 (([c1, c2, c3].drop 0).take (Tryz.prog.cellsOf 4)) = some z0 := g0
  rw [Tryz.cells4b] at g0
  change DataW.trod enc Tryz.prog W 0 (fun _ => true) true m 4 [c1] = some z0 at g0
  replace g1 : DataW.trod enc Tryz.prog W 0 (fun _ => true) true m 23 (([c1, c2, c3].drop 1).take (Tryz.prog.cellsOf 23)) = some z1 := g1
  rw [Tryz.cells23b] at g1
  change DataW.trod enc Tryz.prog W 0 (fun _ => true) true m 23 [c2] = some z1 at g1
  replace g2 : DataW.trod enc Tryz.prog W 0 (fun _ => true) true m 23 (([c1, c2, c3].drop 2).take (Tryz.prog.cellsOf 23)) = some z2 := g2
  rw [Tryz.cells23b] at g2
  change DataW.trod enc Tryz.prog W 0 (fun _ => true) true m 23 [c3] = some z2 at g2
  obtain ⟨s, es, _⟩ := DataW.trod_bool Tryz.underlying4 g0
  rw [ez] at hb hlt
  simp only [Rows.uptoBulk, Rows.uptoBulkAll] at hb
  obtain ⟨A, n1, k1, a, eA, l1, l2, ra⟩ := open_limbsU g1 (fun x hx => hlt x (by simp [hx])) (by omega)
  obtain ⟨B, m1, k2, b, eB, l3, l4, rb⟩ := open_limbsU g2 (fun x hx => hlt x (by simp [hx])) (by omega)
  simp only [List.cons.injEq, and_true] at es
  exact ⟨⟨s, A, n1, k1, B, m1, k2⟩, es, eA, eB, ⟨l1, l3, a, b, ra, rb⟩, l2, l4⟩
theorem open_termU {H : Type} {enc : TypeId × Value → H} {W : World} {cs : List Value} {y : DataW H × List MemPlace} {fuel : Nat} (hf : DataW.trod enc Tryz.prog W 0 (fun _ => true) true fuel 61 cs = some y)
    (hlt : ∀ x ∈ y.2, x.block < W.heap.size) (hb : Rows.uptoBulk y.1 ≤ 1048576) :
    ∃ t : Tv, cs = tcells t ∧ RdR W t.r ∧ t.r.n ≤ 1048576 ∧ t.r.m ≤ 1048576 ∧ -9223372036854775808 ≤ t.v ∧ t.v ≤ 9223372036854775807 := by
  obtain ⟨z0, z1, m, ez, hl, g0, g1⟩ := trod_struct2 Tryz.underlying61 hf
  rw [Tryz.cells61] at hl
  match cs, hl with
  | [c0, c1, c2, c3], _ =>
    replace g0 : DataW.trod enc Tryz.prog W 0 (fun _ => true) true m 3 (([c0, c1, c2, c3].drop 0).take (Tryz.prog.cellsOf 3)) = some z0 := g0
    rw [Tryz.cells3] at g0
    change DataW.trod enc Tryz.prog W 0 (fun _ => true) true m 3 [c0] = some z0 at g0
    replace g1 : DataW.trod enc Tryz.prog W 0 (fun _ => true) true m 25 (([c0, c1, c2, c3].drop 1).take (Tryz.prog.cellsOf 25)) = some z1 := g1
    rw [Tryz.cells25] at g1
    change DataW.trod enc Tryz.prog W 0 (fun _ => true) true m 25 [c1, c2, c3] = some z1 at g1
    obtain ⟨i, e0, _, wi⟩ := DataW.trod_int Tryz.underlying3 g0
    rw [ez] at hb hlt
    simp only [Rows.uptoBulk, Rows.uptoBulkAll] at hb
    obtain ⟨r, e1, e2, e3, hr, hn, hm⟩ := open_ratU g1 (fun x hx => hlt x (by simp [hx])) (by omega)
    simp only [List.cons.injEq, and_true] at e0
    have hw : -9223372036854775808 ≤ i ∧ i ≤ 9223372036854775807 := by
      simp only [Lit.wf, Bool.and_eq_true, decide_eq_true_eq] at wi
      have h1 : IntKind.i64.min = -9223372036854775808 := rfl
      have h2 : IntKind.i64.max = 9223372036854775807 := rfl
      omega
    exact ⟨⟨i, r⟩, by rw [e0, e1, e2, e3]; rfl, hr, hn, hm, hw⟩
theorem list_of {P : Nat → Tv → Prop} : ∀ (n : Nat), (∀ j, j < n → ∃ x, P j x) → ∃ l : List Tv, l.length = n ∧ ∀ j x, l[j]? = some x → P j x
  | 0, _ => ⟨[], rfl, fun j x h => by simp at h⟩
  | n + 1, h => by
    obtain ⟨l, hl, hP⟩ := list_of n fun j hj => h j (by omega)
    obtain ⟨x, hx⟩ := h n (by omega)
    refine ⟨l ++ [x], by simp [hl], fun j y hy => ?_⟩
    by_cases hj : j < n
    · exact hP j y (by rwa [List.getElem?_append_left (by omega)] at hy)
    · have hj2 : j < n + 1 := by have := (List.getElem?_eq_some_iff.1 hy).1; simp [hl] at this; omega
      have : j = n := by omega
      subst this
      rw [List.getElem?_append_right (by omega), hl, Nat.sub_self] at hy
      simp at hy
      subst hy
      exact hx
theorem at4_of {w : World} {base b off i : Nat} {t : Tv} (h : w.cells? base ((⟨b, off, none⟩ : Addr).add (i * 4)) 4 = some (tcells t)) : At4 w b (off + i * 4) t := by
  obtain ⟨_, _, hc⟩ := World.cells?_some h
  have g : ∀ j, j < 4 → w.cell? ⟨b, off + i * 4 + j, none⟩ = (tcells t)[j]? := fun j hj => by
    have := hc j hj
    rw [add_plain, add_plain] at this
    exact this
  exact ⟨g 0 (by omega), g 1 (by omega), g 2 (by omega), g 3 (by omega)⟩
set_option maxHeartbeats 1600000 in
theorem open_conV {H : Type} {enc : TypeId × Value → H} {W : World} {v : Value} {d : DataW H} {p : List MemPlace} (h0 : DataW.Trod enc Tryz.prog W 0 (fun _ => true) true 27 v d p)
    {base : Nat} (hval : Value.okWide Tryz.prog W .any base 27 v) (hlt : ∀ x ∈ p, x.block < W.heap.size) (hb : Rows.uptoBulk d ≤ 1048576) :
    ∃ (u : Cv) (l : List Tv), v = .agg #[.int .i64 u.s, .slice u.A u.n u.c, .bool u.K.s, .slice u.K.A u.K.n u.K.c, .slice u.K.B u.K.m u.K.d] ∧ Raw W u l ∧ ∀ x ∈ l, -9223372036854775808 ≤ x.v ∧ x.v ≤ 9223372036854775807 := by
  obtain ⟨cs, rfl, hsz5⟩ := okWide_struct Tryz.underlying27 hval
  obtain ⟨fuel, hf⟩ := h0
  have hcs0 : (Value.agg cs).cells.toList = cs.toList := by simp [Value.cells]
  obtain ⟨y0, y1, y2, n, ex, hl, h0, h1, h2⟩ := trod_struct3 Tryz.underlying27 hf
  rw [Tryz.cells27] at hl
  simp only [Prod.mk.injEq] at ex
  obtain ⟨rfl, rfl⟩ := ex
  simp only [Rows.uptoBulk, Rows.uptoBulkAll] at hb
  generalize hcl : (Value.agg cs).cells.toList = cl at *
  match cl, hl with
  | [c0, c1, c2, c3, c4], _ =>
    replace h0 : DataW.trod enc Tryz.prog W 0 (fun _ => true) true n 3 (([c0, c1, c2, c3, c4].drop 0).take (Tryz.prog.cellsOf 3)) = some y0 := h0
    rw [Tryz.cells3] at h0
    change DataW.trod enc Tryz.prog W 0 (fun _ => true) true n 3 [c0] = some y0 at h0
    replace h1 : DataW.trod enc Tryz.prog W 0 (fun _ => true) true n 22 (([c0, c1, c2, c3, c4].drop 1).take (Tryz.prog.cellsOf 22)) = some y1 := h1
    rw [Tryz.cells22] at h1
    change DataW.trod enc Tryz.prog W 0 (fun _ => true) true n 22 [c1] = some y1 at h1
    replace h2 : DataW.trod enc Tryz.prog W 0 (fun _ => true) true n 25 (([c0, c1, c2, c3, c4].drop 2).take (Tryz.prog.cellsOf 25)) = some y2 := h2
    rw [Tryz.cells25] at h2
    change DataW.trod enc Tryz.prog W 0 (fun _ => true) true n 25 [c2, c3, c4] = some y2 at h2
    obtain ⟨i, e0, _, wi⟩ := DataW.trod_int Tryz.underlying3 h0
    obtain ⟨r, e1, e2, e3, hr, hn, hm⟩ := open_ratU h2 (fun x hx => hlt x (by simp [hx])) (by omega)
    simp only [List.cons.injEq, and_true] at e0
    have fin : ∀ (A : Option Addr) (len cap : Nat), c1 = .slice A len cap → cs = #[.int .i64 i, .slice A len cap, .bool r.s, .slice r.A r.n r.c, .slice r.B r.m r.d] := fun A len cap e => by
      rw [← Array.toArray_toList (xs := cs), ← hcs0, e0, e1, e2, e3, e]
    rcases DataW.trod_slice Tryz.underlying22 h1 with ⟨e5, _⟩ | ⟨ad, len, cap, elems, rest, n2, en, e5, ey3, _, hlc, hcm, hel, hget, hsp, _⟩
    · simp only [List.cons.injEq, and_true] at e5
      exact ⟨⟨i, none, 0, 0, r⟩, [], by rw [fin _ _ _ e5], ⟨⟨Tms.nil_ _ _ _, Nat.zero_le _, hn, hm, Nat.le_refl _, fun x hx => by cases hx⟩, hr, fun x hx => by cases hx⟩, fun x hx => by cases hx⟩
    · simp only [List.cons.injEq, and_true] at e5
      rw [ey3] at hb hlt
      simp only [Rows.uptoBulk] at hb
      have hlen : len ≤ 1048576 := by
        have := bulk_len (elems.map (·.1))
        rw [List.length_map] at this
        omega
      have hone : ∀ j, j < len → ∃ x : Tv, (∃ b off, ad = ⟨b, off, none⟩ ∧ b < W.heap.size ∧ At4 W b (off + j * 4) x) ∧ RdR W x.r ∧ x.r.n ≤ 1048576 ∧ x.r.m ≤ 1048576 ∧ -9223372036854775808 ≤ x.v ∧ x.v ≤ 9223372036854775807 := by
        intro j hj
        have hg := hget j hj
        rw [Tryz.cells61] at hg
        have hjl : j < elems.length := by omega
        rw [List.getElem?_eq_getElem hjl] at hg
        obtain ⟨cs', hcs, htr⟩ := Option.bind_eq_some_iff.1 hg
        have hmem : elems[j] ∈ elems := List.getElem_mem hjl
        obtain ⟨t, rfl, ht, h8, h9⟩ := open_termU htr
          (fun y hy => hlt y (by simp only [List.mem_append, List.mem_flatMap]; exact .inr (.inl (.inr ⟨elems[j], .inl hmem, hy⟩))))
          (by have := bulk_mem (List.mem_map.2 ⟨elems[j], hmem, rfl⟩ : elems[j].1 ∈ elems.map (·.1)); omega)
        obtain ⟨bk, off, spot⟩ := ad
        obtain ⟨_, _, hcell⟩ := World.cells?_some hcs
        have hc0 := hcell 0 (by omega)
        have hspot : spot = none := by
          have hg0 := hget 0 (by omega)
          rw [Tryz.cells61, List.getElem?_eq_getElem (by omega)] at hg0
          obtain ⟨cs0, hcs0, htr0⟩ := Option.bind_eq_some_iff.1 hg0
          obtain ⟨t0, rfl, _⟩ := open_termU htr0
            (fun y hy => hlt y (by simp only [List.mem_append, List.mem_flatMap]; exact .inr (.inl (.inr ⟨elems[0], .inl (by simp), hy⟩))))
            (by have := bulk_mem (List.mem_map.2 ⟨elems[0], by simp, rfl⟩ : elems[0].1 ∈ elems.map (·.1)); omega)
          obtain ⟨_, _, hcell0⟩ := World.cells?_some hcs0
          have h7 : W.cell? (((⟨bk, off, spot⟩ : Addr).add (0 * 4)).add 0) = some (.int .i64 t0.v) := hcell0 0 (by omega)
          simpa [Addr.add] using World.cell?_spot h7
        subst hspot
        have hblk : bk < W.heap.size := by
          have h7 : W.cell? (((⟨bk, off, none⟩ : Addr).add (j * 4)).add 0) = some (.int .i64 t.v) := hc0
          have := World.block_lt_of_cell? W _ h7
          rw [add_plain, add_plain] at this
          exact this
        exact ⟨t, ⟨bk, off, rfl, hblk, at4_of hcs⟩, ht, h8, h9⟩
      obtain ⟨l, hll, hP⟩ := list_of len hone
      have hmem : ∀ x ∈ l, RdR W x.r ∧ x.r.n ≤ 1048576 ∧ x.r.m ≤ 1048576 ∧ -9223372036854775808 ≤ x.v ∧ x.v ≤ 9223372036854775807 := fun x hx => by
        obtain ⟨j, hj, e⟩ := List.getElem_of_mem hx
        exact (hP j x (by rw [List.getElem?_eq_getElem hj, e])).2
      refine ⟨⟨i, some ad, len, cap, r⟩, l, by rw [fin _ _ _ e5], ⟨⟨⟨hll, fun h9 => ?_⟩, hlen, hn, hm, hlc, fun x hx => ⟨(hmem x hx).2.1, (hmem x hx).2.2.1⟩⟩, hr, fun x hx => (hmem x hx).1⟩, fun x hx => (hmem x hx).2.2.2⟩
      have h9' : 0 < len := h9
      have h8 : 0 < l.length := by omega
      obtain ⟨b, off, e, hb9, _⟩ := (hP 0 l[0] (List.getElem?_eq_getElem h8)).1
      refine ⟨b, off, by rw [e], Nat.zero_le _, hb9, fun j x hx => ?_⟩
      obtain ⟨b', off', e', _, h4⟩ := (hP j x hx).1
      rw [e] at e'
      injection e' with e1 e2 _
      subst e1 e2
      exact h4
theorem open_con {H : Type} {enc : TypeId × Value → H} {W : World} {v : Value} {d : DataW H} {p : List MemPlace} (h0 : DataW.Trod enc Tryz.prog W 0 (fun _ => true) true 27 v d p)
    {base : Nat} (hval : Value.okWide Tryz.prog W .any base 27 v) (hlt : ∀ x ∈ p, x.block < W.heap.size) (hb : Rows.uptoBulk d ≤ 1048576) :
    ∃ (u : Cv) (l : List Tv), v = .agg #[.int .i64 u.s, .slice u.A u.n u.c, .bool u.K.s, .slice u.K.A u.K.n u.K.c, .slice u.K.B u.K.m u.K.d] ∧ Raw W u l := by
  obtain ⟨u, l, h1, h2, _⟩ := open_conV h0 hval hlt hb
  exact ⟨u, l, h1, h2⟩
end Go.Proofs.YtffnjdfmaebmhaaGreatDoor

namespace Go.Proofs.YtffnjdfmaebmhaaGreatDoor
set_option maxRecDepth 20000
open Go.Deep Go.Joins Go.ChangeShapes Go.WideShapes Go.ChangeAt Go.RowKit

theorem list_ofR {P : Nat → Rv → Prop} : ∀ (n : Nat), (∀ j, j < n → ∃ x, P j x) → ∃ l : List Rv, l.length = n ∧ ∀ j x, l[j]? = some x → P j x
  | 0, _ => ⟨[], rfl, fun j x h => by simp at h⟩
  | n + 1, h => by
    obtain ⟨l, hl, hP⟩ := list_ofR n fun j hj => h j (by omega)
    obtain ⟨x, hx⟩ := h n (by omega)
    refine ⟨l ++ [x], by simp [hl], fun j y hy => ?_⟩
    by_cases hj : j < n
    · exact hP j y (by rwa [List.getElem?_append_left (by omega)] at hy)
    · have hj2 : j < n + 1 := by have := (List.getElem?_eq_some_iff.1 hy).1; simp [hl] at this; omega
      have : j = n := by omega
      subst this
      rw [List.getElem?_append_right (by omega), hl, Nat.sub_self] at hy
      simp at hy
      subst hy
      exact hx
theorem at3_of {w : World} {base b off i : Nat} {r : Rv} (h : w.cells? base ((⟨b, off, none⟩ : Addr).add (i * 3)) 3 = some [.bool r.s, .slice r.A r.n r.c, .slice r.B r.m r.d]) : At3 w b (off + i * 3) r := by
  obtain ⟨_, _, hc⟩ := World.cells?_some h
  have g : ∀ j, j < 3 → w.cell? ⟨b, off + i * 3 + j, none⟩ = ([.bool r.s, .slice r.A r.n r.c, .slice r.B r.m r.d] : List Value)[j]? := fun j hj => by
    have := hc j hj
    rw [add_plain, add_plain] at this
    exact this
  exact ⟨g 0 (by omega), g 1 (by omega), g 2 (by omega)⟩
theorem open_ratN {H : Type} {enc : TypeId × Value → H} {W : World} {cs : List Value} {y : DataW H × List MemPlace} {fuel : Nat} (hf : DataW.trod enc Tryz.prog W 0 (fun _ => true) true fuel 25 cs = some y)
    (hlt : ∀ x ∈ y.2, x.block < W.heap.size) (hb : Rows.uptoBulk y.1 ≤ 1048576) :
    ∃ r : Rv, cs = [.bool r.s, .slice r.A r.n r.c, .slice r.B r.m r.d] ∧ RdR W r ∧ r.n ≤ 1048576 ∧ r.m ≤ 1048576 := by
  have hl : cs.length = 3 := by
    obtain ⟨_, _, _, _, _, hl, _⟩ := trod_struct3 Tryz.underlying25 hf
    rw [hl]; exact Tryz.cells25
  match cs, hl with
  | [c0, c1, c2], _ =>
    obtain ⟨r, e1, e2, e3, h⟩ := open_ratU hf hlt hb
    exact ⟨r, by rw [e1, e2, e3], h⟩
theorem open_nums {H : Type} {enc : TypeId × Value → H} {W : World} {v : Value} {d : DataW H} {p : List MemPlace} (h0 : DataW.Trod enc Tryz.prog W 0 (fun _ => true) true 28 v d p)
    {base : Nat} (hval : Value.okWide Tryz.prog W .any base 28 v) (hlt : ∀ x ∈ p, x.block < W.heap.size) (hb : Rows.uptoBulk d ≤ 1048576) :
    ∃ (A : Option Addr) (n c : Nat) (l : List Rv), v = .slice A n c ∧ n ≤ c ∧ n ≤ 1048576 ∧ Nums W A n l ∧ ∀ x ∈ l, RdR W x ∧ x.n ≤ 1048576 ∧ x.m ≤ 1048576 := by
  obtain ⟨fuel, hf⟩ := h0
  have ev := okWide_slice Tryz.underlying28 hval
  obtain ⟨A, n, c, rfl⟩ := ev
  have hcs0 : (Value.slice A n c).cells.toList = [.slice A n c] := by simp [Value.cells]
  rw [hcs0] at hf
  rcases DataW.trod_slice Tryz.underlying28 hf with ⟨e5, _⟩ | ⟨ad, len, cap, elems, rest, n2, en, e5, ey3, _, hlc, hcm, hel, hget, hsp, _⟩
  · simp only [List.cons.injEq, and_true] at e5
    injection e5 with e1 e2 e3
    subst e1 e2 e3
    exact ⟨none, 0, 0, [], rfl, Nat.le_refl _, by omega, ⟨rfl, fun h => absurd h (by omega)⟩, fun x hx => by cases hx⟩
  · simp only [List.cons.injEq, and_true] at e5
    injection e5 with e1 e2 e3
    subst e1 e2 e3
    simp only [Prod.mk.injEq] at ey3
    obtain ⟨rfl, rfl⟩ := ey3
    simp only [Rows.uptoBulk] at hb
    have hlen : n ≤ 1048576 := by
      have := bulk_len (elems.map (·.1))
      rw [List.length_map] at this
      omega
    have hone : ∀ j, j < n → ∃ x : Rv, (∃ b off, ad = ⟨b, off, none⟩ ∧ b < W.heap.size ∧ At3 W b (off + j * 3) x) ∧ RdR W x ∧ x.n ≤ 1048576 ∧ x.m ≤ 1048576 := by
      intro j hj
      have hg := hget j hj
      rw [Tryz.cells25] at hg
      have hjl : j < elems.length := by omega
      rw [List.getElem?_eq_getElem hjl] at hg
      obtain ⟨cs', hcs, htr⟩ := Option.bind_eq_some_iff.1 hg
      have hmem : elems[j] ∈ elems := List.getElem_mem hjl
      obtain ⟨t, rfl, ht, h8, h9⟩ := open_ratN htr
        (fun y hy => hlt y (by simp only [List.mem_append, List.mem_flatMap]; exact .inr ⟨elems[j], .inl hmem, hy⟩))
        (by have := bulk_mem (List.mem_map.2 ⟨elems[j], hmem, rfl⟩ : elems[j].1 ∈ elems.map (·.1)); omega)
      obtain ⟨bk, off, spot⟩ := ad
      obtain ⟨_, _, hcell⟩ := World.cells?_some hcs
      have hc0 := hcell 0 (by omega)
      have hspot : spot = none := by
        have hg0 := hget 0 (by omega)
        rw [Tryz.cells25, List.getElem?_eq_getElem (by omega)] at hg0
        obtain ⟨cs0, hcs0, htr0⟩ := Option.bind_eq_some_iff.1 hg0
        obtain ⟨t0, rfl, _⟩ := open_ratN htr0
          (fun y hy => hlt y (by simp only [List.mem_append, List.mem_flatMap]; exact .inr ⟨elems[0], .inl (by simp), hy⟩))
          (by have := bulk_mem (List.mem_map.2 ⟨elems[0], by simp, rfl⟩ : elems[0].1 ∈ elems.map (·.1)); omega)
        obtain ⟨_, _, hcell0⟩ := World.cells?_some hcs0
        have h7 : W.cell? (((⟨bk, off, spot⟩ : Addr).add (0 * 3)).add 0) = some (.bool t0.s) := hcell0 0 (by omega)
        simpa [Addr.add] using World.cell?_spot h7
      subst hspot
      have hblk : bk < W.heap.size := by
        have h7 : W.cell? (((⟨bk, off, none⟩ : Addr).add (j * 3)).add 0) = some (.bool t.s) := hc0
        have := World.block_lt_of_cell? W _ h7
        rw [add_plain, add_plain] at this
        exact this
      exact ⟨t, ⟨bk, off, rfl, hblk, at3_of hcs⟩, ht, h8, h9⟩
    obtain ⟨l, hll, hP⟩ := list_ofR n hone
    refine ⟨some ad, n, c, l, rfl, hlc, hlen, ⟨hll, fun h9 => ?_⟩, fun x hx => ?_⟩
    · have h8 : 0 < l.length := by omega
      obtain ⟨b, off, e, hb9, _⟩ := (hP 0 l[0] (List.getElem?_eq_getElem h8)).1
      refine ⟨b, off, by rw [e], hb9, fun j x hx => ?_⟩
      obtain ⟨b', off', e', _, h4⟩ := (hP j x hx).1
      rw [e] at e'
      injection e' with e1 e2 _
      subst e1 e2
      exact h4
    · obtain ⟨j, hj, e⟩ := List.getElem_of_mem hx
      exact (hP j x (by rw [List.getElem?_eq_getElem hj, e])).2
theorem rdv_ex {w : World} {p : Nat} : ∀ (l : List Rv), (∀ x ∈ l, RdR w x ∧ x.n ≤ p ∧ x.m ≤ p) → ∃ L, RdV w p l L
  | [], _ => ⟨[], trivial⟩
  | x :: l, h => by
    obtain ⟨L, hL⟩ := rdv_ex l fun y hy => h y (List.mem_cons_of_mem _ hy)
    obtain ⟨h1, h2, h3⟩ := h x List.mem_cons_self
    obtain ⟨q, hq⟩ := h1.rw (p := p) h2 h3
    exact ⟨q :: L, hq, hL⟩
end Go.Proofs.YtffnjdfmaebmhaaGreatDoor
