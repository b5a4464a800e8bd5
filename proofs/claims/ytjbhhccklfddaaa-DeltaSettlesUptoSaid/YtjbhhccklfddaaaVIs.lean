/-
  The program's Is of sums.
-/
import Derived.Test.YtjbhhccklfddaaaVIsD
import Derived.Test.YtjbhhccklfddaaaVMRb
namespace Go.Proofs.Ytjbhhccklfddaaa
set_option maxRecDepth 20000
open Go.RowKit
theorem Is_v (v : Rv) (r : Rat) (bb : Bool) (w : World) (hv : Rw w v r 20000000000) (hbb : bb = true ↔ Nrm w v) :
  Calls Try.prog 56 #[.agg #[.bool v.s, .slice v.A v.n v.c, .slice v.B v.m v.d]] w fun e w' => e = .returned (.bool bb) ∧ Below w.heap.size w w' := by
 obtain ⟨h1, h2, h3, h4, a, b, ha, hb, hr⟩ := hv
 refine Is_c v a b bb w h1 h2 h3 h4 ha hb (hbb.trans ⟨?_, fun h => ⟨a, b, ha, hb, h⟩⟩)
 rintro ⟨a', b', g1, g2, g3⟩
 have e1 := ha.det g1
 have e2 := hb.det g2
 subst e1 e2
 exact g3
theorem zero_nrm {w : World} {x : Rv} {X : Rat} {p : Nat} (h : Nrm w x) (hr : Rw w x X p) : X = 0 ↔ x.n = 0 := by
 obtain ⟨a, b, ha, hb, hn⟩ := h
 obtain ⟨_, _, _, _, a', b', ha', hb', hr⟩ := hr
 have e1 := ha.det ha'
 have e2 := hb.det hb'
 subst e1 e2
 constructor
 ·
  intro e
  rcases Nat.eq_zero_or_pos x.n with h0 | h0
  · exact h0
  ·
   exfalso
   rw [← hr] at e
   refine rn_ne ?_ hn.2.2.1 e
   intro e0
   have ht := lim_val ha.l32 hn.1
   rw [e0, lim_zero] at ht
   rw [← ha.len, ← ht] at h0
   exact absurd h0 (Nat.lt_irrefl _)
 ·
  intro e
  have : a = [] := List.eq_nil_of_length_eq_zero (by rw [ha.len, e])
  rw [← hr, this]
  exact rn_zero (.inl rfl)
def lastV (l : List Tv) : Nat → Int
 | 0 => -1
 | i + 1 => match l[i]? with | some x => x.v | none => 0
theorem lastV_succ {l : List Tv} {i : Nat} {x : Tv} (h : l[i]? = some x) : lastV l (i + 1) = x.v := by rw [lastV, h]
theorem TOk.last {w : World} {N : Int} {l : List Tv} {i : Nat} (h : TOk w N l i) (hi : i ≤ l.length) : -1 ≤ lastV l i := by
 cases i with
 | zero => exact Int.le_refl _
 |
  succ i =>
  have hx := List.getElem?_eq_getElem (show i < l.length by omega)
  rw [lastV_succ hx]
  have := (h i _ (by omega) hx).1
  omega
theorem TOk.next {w : World} {N : Int} {l : List Tv} {i : Nat} {x : Tv} (h : TOk w N l i) (hx : l[i]? = some x) (h1 : lastV l i < x.v) (h2 : x.v < N) (h4 : Nrm w x.r) (h5 : x.r.n ≠ 0) : TOk w N l (i + 1) := by
 have hi := (List.getElem?_eq_some_iff.1 hx).1
 have hl := h.last (by omega)
 refine h.step hx (by omega) h2 (fun y h0 hy => ?_) h4 h5
 obtain ⟨j, rfl⟩ : ∃ j, i = j + 1 := ⟨i - 1, by omega⟩
 rw [Nat.add_sub_cancel] at hy
 rw [lastV_succ hy] at h1
 exact h1
theorem TOk.not {w : World} {N : Int} {l : List Tv} {i : Nat} {x : Tv} (hx : l[i]? = some x) (hT : TOk w N l l.length) : lastV l i < x.v ∧ x.v < N ∧ Nrm w x.r ∧ x.r.n ≠ 0 := by
 have hi := (List.getElem?_eq_some_iff.1 hx).1
 have := hT i x hi hx
 refine ⟨?_, this.2.1, this.2.2.2.1, this.2.2.2.2⟩
 cases i with
 | zero => show -1 < x.v; omega
 |
  succ i =>
  have hy := List.getElem?_eq_getElem (show i < l.length by omega)
  rw [lastV_succ hy]
  exact this.2.2.1 _ (by omega) (by rw [Nat.add_sub_cancel]; exact hy)
set_option maxHeartbeats 6400000 in
theorem areTerms_c (A : Option Addr) (n c : Nat) (N : Int) (la : List Tv) (L : List (Int × Rat)) (w : World) (ha2 : Tms w 0 A n la) (ha3 : Rds w 19000000000 la L) (hn : n ≤ 1000) (r : Bool) (hr : r = true ↔ TOk w N la la.length) :
  Calls Try.prog 57 #[.slice A n c, .int .i64 N] w fun e w' => e = .returned (.bool r) ∧ Below w.heap.size w w' := by
 have n0 : (0 : Int) ≤ (n : Int) := by omega
 have n9 : (n : Int) ≤ 1000 := by omega
 have HA := Lib.hid (And.intro ha2 ha3)
 have hr' := Lib.hid hr
 clear ha2 ha3 hr
 go_enter Try.func57, Try.ntmps57
 go_wp2
 have HT : Hid (TOk w N la 0) := fun j x hj => absurd hj (Nat.not_lt_zero _)
 go_loopw [4, 5, 7, 10] (fun _ lv _ iv wr => ∃ (i : Nat) (q : Int), i ≤ n ∧ iv = .int .i64 i ∧ lv = .int .i64 q ∧ Hid (q = lastV la i) ∧ Hid (TOk w N la i) ∧ Hid (Below w.heap.size w wr)) (fun _ _ _ iv _ => n - (intOf iv).toNat)
 case atStart => exact ⟨0, -1, Nat.zero_le _, rfl, rfl, Lib.hid rfl, HT, Lib.hid (Below.refl _ _)⟩
 case round =>
  clear HT
  obtain ⟨i, q, hi, rfl, rfl, HQ, HT, HBR⟩ := hrel
  by_cases hlt : i < n
  ·
   have i0 : (0 : Int) ≤ (i : Int) := by omega
   have i1 : (i : Int) < (n : Int) := by omega
   obtain ⟨g, off, rfl, _, hgw, hc⟩ := HA.out.1.mem (by omega)
   obtain ⟨x, X, hx, hX, hxv, hxr⟩ := HA.out.2.get i (by rw [HA.out.1.len]; omega)
   obtain ⟨x0, x1, x2, x3⟩ := (hc i x hx).keep (HBR.out.block g hgw)
   have HX := Lib.hid hx
   have HXR := Lib.hid hxr
   have hbs := HBR.out.size
   have NO : Hid (∀ _ : ¬ (lastV la i < x.v ∧ x.v < N ∧ Nrm w x.r ∧ x.r.n ≠ 0), r = false) := fun h => by
    cases hrr : r with
    | false => rfl
    | true => exact absurd (TOk.not HX.out (hr'.out.1 hrr)) h
   have ax := At4.new wr x
   have hba : Below wr.heap.size wr (wr.alloc (.cells #[.int .i64 x.v, .bool x.r.s, .slice x.r.A x.r.n x.r.c, .slice x.r.B x.r.m x.r.d] 40)) := (Below.refl _ _).alloc (Nat.le_refl _) _
   have HBA := Lib.hid (HBR.out.trans (hba.mono hbs))
   obtain ⟨y0, y1, y2, y3⟩ := ax
   have hzA : (wr.alloc (.cells #[.int .i64 x.v, .bool x.r.s, .slice x.r.A x.r.n x.r.c, .slice x.r.B x.r.m x.r.d] 40)).heap.size = wr.heap.size + 1 := by simp
   have HZA := Lib.hid (And.intro hba hzA)
   clear hx hX hxv hc hxr hba hzA
   by_cases c1 : x.v ≤ q
   ·
    have NO1 := Lib.hid (NO.out (fun h => by have := h.1; have := HQ.out; omega))
    go_wp2
    go_ret
    exact ⟨by rw [NO1.out]; rfl, HBA.out⟩
   by_cases c2 : N ≤ x.v
   ·
    have NO1 := Lib.hid (NO.out (fun h => by have := h.2.1; omega))
    go_wp2
    go_ret
    exact ⟨by rw [NO1.out]; rfl, HBA.out⟩
   by_cases c3 : Nrm w x.r
   ·
    have C3' := Lib.hid c3
    clear c3
    go_wp2_with fail
    clear x0 x1 x2 x3
    generalize wr.alloc (.cells #[.int .i64 x.v, .bool x.r.s, .slice x.r.A x.r.n x.r.c, .slice x.r.B x.r.m x.r.d] 40) = WA at *
    refine (Is_v x.r X.2 true _ ((HXR.out.below HBA.out).more (by omega)) ⟨fun _ => (Nrm.iff HXR.out HBA.out).1 C3'.out, fun _ => rfl⟩).mono ?_
    rintro ee w2 ⟨rfl, hb⟩
    have hk := hb.block wr.heap.size (by have := HZA.out.2; omega)
    replace y0 := (World.cell?_of_block hk).trans y0
    replace y1 := (World.cell?_of_block hk).trans y1
    replace y2 := (World.cell?_of_block hk).trans y2
    replace y3 := (World.cell?_of_block hk).trans y3
    have HB2 := Lib.hid (HBA.out.trans (hb.mono HBA.out.size))
    have hz2 : wr.heap.size + 1 ≤ w2.heap.size := by have := hb.size; have := HZA.out.2; omega
    clear hk hb
    go_wp2_with fail
    refine (Zero_any x.r X.2 _ ((HXR.out.below HB2.out).more (by omega))).mono ?_
    rintro ee w3 ⟨rfl, hb⟩
    have hk := hb.block wr.heap.size (by omega)
    replace y0 := (World.cell?_of_block hk).trans y0
    have HB3 := Lib.hid (HB2.out.trans (hb.mono HB2.out.size))
    clear hk hb y1 y2 y3
    by_cases c4 : X.2 = 0
    ·
     rw [decide_eq_true c4]
     have NO1 := Lib.hid (NO.out (fun h => h.2.2.2 ((zero_nrm C3'.out HXR.out).1 c4)))
     clear c4
     go_wp2
     go_ret
     exact ⟨by rw [NO1.out]; rfl, HB3.out⟩
    ·
     rw [decide_eq_false c4]
     have C4' := Lib.hid c4
     clear c4
     go_wp2
     go_roundw
     case rel => exact ⟨i + 1, x.v, by omega, by go_num, rfl, Lib.hid (lastV_succ HX.out).symm, Lib.hid (HT.out.next HX.out (by have := HQ.out; omega) (by omega) C3'.out (fun e => C4'.out ((zero_nrm C3'.out HXR.out).2 e))), HB3⟩
     case measure => simp [intOf]; omega
   ·
    have NO1 := Lib.hid (NO.out (fun h => c3 h.2.2.1))
    have C3' := Lib.hid c3
    clear c3
    go_wp2_with fail
    clear x0 x1 x2 x3
    generalize wr.alloc (.cells #[.int .i64 x.v, .bool x.r.s, .slice x.r.A x.r.n x.r.c, .slice x.r.B x.r.m x.r.d] 40) = WA at *
    refine (Is_v x.r X.2 false _ ((HXR.out.below HBA.out).more (by omega)) ⟨fun h => (by cases h), fun h => absurd ((Nrm.iff HXR.out HBA.out).2 h) C3'.out⟩).mono ?_
    rintro ee w2 ⟨rfl, hb⟩
    have HB2 := Lib.hid (HBA.out.trans (hb.mono HBA.out.size))
    clear hb
    go_wp2
    go_ret
    exact ⟨by rw [NO1.out]; rfl, HB2.out⟩
  ·
   have i1 : ¬ (i : Int) < (n : Int) := by omega
   go_wp2
   go_ret
   refine ⟨?_, HBR.out⟩
   have e1 : r = true := hr'.out.2 (fun j x hj hx => HT.out j x (by rw [HA.out.1.len] at hj; omega) hx)
   rw [e1]; rfl
set_option maxHeartbeats 3200000 in
theorem IsK_c (va : Cv) (N : Int) (la : List Tv) (L : List (Int × Rat)) (k : Rat) (w : World) (ha2 : Tms w 0 va.A va.n la) (ha3 : Rds w 19000000000 la L) (ha4 : Rw w va.K k 19000000000) (hn : va.n ≤ 1000) (r : Bool) (hr : r = true ↔ IsS w va la N) :
  Calls Try.prog 43 #[.agg #[.int .i64 va.s, .slice va.A va.n va.c, .bool va.K.s, .slice va.K.A va.K.n va.K.c, .slice va.K.B va.K.m va.K.d], .int .i64 N] w fun e w' => e = .returned (.bool r) ∧ Below w.heap.size w w' := by
 have NO : ¬ IsS w va la N → r = false := fun h => by
  cases hrr : r with
  | false => rfl
  | true => exact absurd (hr.1 hrr) h
 have ka := C5.new w (.int .i64 va.s) (.slice va.A va.n va.c) (.bool va.K.s) (.slice va.K.A va.K.n va.K.c) (.slice va.K.B va.K.m va.K.d)
 have hB : Below w.heap.size w (w.alloc (.cells #[.int .i64 va.s, .slice va.A va.n va.c, .bool va.K.s, .slice va.K.A va.K.n va.K.c, .slice va.K.B va.K.m va.K.d] 43)) := (Below.refl _ _).alloc (Nat.le_refl _) _
 obtain ⟨a0, a1, a2, a3, a4⟩ := ka.facts
 have HK0 := Lib.hid (And.intro ka hB)
 have HA := Lib.hid (And.intro ha2 (And.intro ha3 ha4))
 clear ka hB ha2 ha3 ha4
 by_cases s0 : 0 ≤ va.s
 ·
  by_cases s4 : va.s ≤ 4
  ·
   by_cases hK : Nrm w va.K
   ·
    have hr2 : r = true ↔ TOk w N la la.length := hr.trans ⟨fun h => h.2.2, fun h => ⟨⟨s0, s4⟩, hK, h⟩⟩
    have HR := Lib.hid hr2
    have HN := Lib.hid hK
    clear hr hr2 NO hK
    go_enter Try.func43, Try.ntmps43
    go_wp2_with fail
    clear a0 a1 a2 a3 a4
    generalize w.alloc (.cells #[.int .i64 va.s, .slice va.A va.n va.c, .bool va.K.s, .slice va.K.A va.K.n va.K.c, .slice va.K.B va.K.m va.K.d] 43) = W at *
    refine (Is_v va.K k true _ ((HA.out.2.2.below HK0.out.2).more (by omega)) ⟨fun _ => (Nrm.iff HA.out.2.2 HK0.out.2).1 HN.out, fun _ => rfl⟩).mono ?_
    rintro e w1 ⟨rfl, hb⟩
    obtain ⟨a0, a1, a2, a3, a4⟩ := (HK0.out.1.below hb).facts
    have HB := Lib.hid (HK0.out.2.trans (hb.mono HK0.out.2.size))
    clear hb
    go_wp2_with fail
    have hT : r = true ↔ TOk w1 N la la.length := HR.out.trans ⟨fun h j x hj hx => by
     obtain ⟨x', X, hx', _, _, hxr⟩ := HA.out.2.1.get j hj
     rw [hx] at hx'
     injection hx' with hx'
     subst hx'
     obtain ⟨h1, h2, h3, h4, h5⟩ := h j x hj hx
     exact ⟨h1, h2, h3, (Nrm.iff hxr HB.out).1 h4, h5⟩, fun h j x hj hx => by
     obtain ⟨x', X, hx', _, _, hxr⟩ := HA.out.2.1.get j hj
     rw [hx] at hx'
     injection hx' with hx'
     subst hx'
     obtain ⟨h1, h2, h3, h4, h5⟩ := h j x hj hx
     exact ⟨h1, h2, h3, (Nrm.iff hxr HB.out).2 h4, h5⟩⟩
    refine (areTerms_c va.A va.n va.c N la L _ (HA.out.1.below HB.out) (Rds.below HB.out HA.out.2.1) hn r hT).mono ?_
    rintro e w2 ⟨rfl, hb⟩
    have HB2 := Lib.hid (HB.out.trans (hb.mono HB.out.size))
    clear hb hT a0 a1 a2 a3 a4
    go_wp2
    go_ret
    exact ⟨rfl, HB2.out⟩
   ·
    have NO1 := Lib.hid (NO (fun h => hK h.2.1))
    have HN := Lib.hid hK
    clear hr NO hK
    go_enter Try.func43, Try.ntmps43
    go_wp2_with fail
    clear a0 a1 a2 a3 a4
    generalize w.alloc (.cells #[.int .i64 va.s, .slice va.A va.n va.c, .bool va.K.s, .slice va.K.A va.K.n va.K.c, .slice va.K.B va.K.m va.K.d] 43) = W at *
    refine (Is_v va.K k false _ ((HA.out.2.2.below HK0.out.2).more (by omega)) ⟨fun h => (by cases h), fun h => absurd ((Nrm.iff HA.out.2.2 HK0.out.2).2 h) HN.out⟩).mono ?_
    rintro e w1 ⟨rfl, hb⟩
    have HB := Lib.hid (HK0.out.2.trans (hb.mono HK0.out.2.size))
    clear hb
    go_wp2
    go_ret
    exact ⟨by rw [NO1.out]; rfl, HB.out⟩
  ·
   have NO1 := Lib.hid (NO (fun h => s4 h.1.2))
   have s4' : ¬ va.s ≤ 4 := s4
   clear hr NO
   go_enter Try.func43, Try.ntmps43
   go_wp2
   go_ret
   exact ⟨by rw [NO1.out]; rfl, HK0.out.2⟩
 ·
  have NO1 := Lib.hid (NO (fun h => s0 h.1.1))
  clear hr NO
  go_enter Try.func43, Try.ntmps43
  go_wp2
  go_ret
  exact ⟨by rw [NO1.out]; rfl, HK0.out.2⟩
end Go.Proofs.Ytjbhhccklfddaaa
