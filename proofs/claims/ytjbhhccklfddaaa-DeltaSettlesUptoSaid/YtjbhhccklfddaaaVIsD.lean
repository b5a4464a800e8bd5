/-
  The document's rationals, ninth part: whether one is too large, whole numbers, the whole number below, whether one is normal.
  Sums that may be: their numbers are normal, their variables rise.
-/
import Derived.Test.YtjbhhccklfddaaaVMRl
import Derived.Test.YtjbhhccklfddaaaVMRf
import Derived.Test.YtjbhhccklfddaaaVMRh
import Derived.Test.YtjbhhccklfddaaaVMAa
import Derived.Test.YtjbhhccklfddaaaVMRb
import Derived.Deep.RegionHeld3
import Derived.Sort.AtCall
import Derived.BigQuiet
namespace Go.Proofs.Ytjbhhccklfddaaa
set_option maxRecDepth 20000
open Go.RowKit
set_option maxHeartbeats 1600000 in
theorem rIs_no (v : Rv) (r : Rat) (w : World) (hv : Rw w v r 19000000000) (hs : Hid (v.s ≠ decide (r.num < 0))) :
  Calls Try.prog 52 #[.agg #[.bool v.s, .slice v.A v.n v.c, .slice v.B v.m v.d]] w fun e w' => e = .returned (.bool false) ∧ Below w.heap.size w w' := by
 go_enter Try.func52, Try.ntmps52
 go_wp2_with fail
 generalize hW : (w.alloc (.cells #[.bool v.s, .slice v.A v.n v.c, .slice v.B v.m v.d] 37)) = W
 obtain ⟨k_v, HB, hsW⟩ := open1 w v W hW
 clear hW
 refine (rNorm_c v r _ ((hv.below HB).more (by omega))).mono ?_
 rintro e w1 ⟨z, rfl, hz, hb⟩
 have HB2 := (HB.trans (hb.mono (by omega))).alloc (by have := hb.size; omega) (.cells #[.bool z.s, .slice z.A z.n z.c, .slice z.B z.m z.d] 37)
 replace k_v := k_v.below hb
 have lt_v := k_v.lt
 have hne : v.s ≠ z.s := by rw [hz.sign]; exact hs.out
 have hbe : (v.s == z.s) = false := beq_eq_false_iff_ne.2 hne
 clear hb hz hv HB hsW hne
 obtain ⟨v_0, v_1, v_2, v_3, v_4, v_5⟩ := k_v.facts
 go_wp2
 go_ret
 exact ⟨rfl, HB2⟩
set_option maxHeartbeats 3200000 in
theorem rIs_rows (v : Rv) (a b : List Nat) (r : Rat) (b1 b2 : Bool) (w : World) (hv : Rw w v r 19000000000) (ha : Row w 0 v.A v.n a) (hbr : Row w 0 v.B v.m b) (hs : Hid (v.s = decide (r.num < 0))) (h1 : Hid (decide (a = lim r.num.natAbs) = b1)) (h2 : Hid (decide (b = lim r.den) = b2)) :
  Calls Try.prog 52 #[.agg #[.bool v.s, .slice v.A v.n v.c, .slice v.B v.m v.d]] w fun e w' => e = .returned (.bool (b1 && b2)) ∧ Below w.heap.size w w' := by
 have z_r := hv.sz (by omega)
 have lv1 := hv.numLe
 have lv2 := hv.denLe
 go_enter Try.func52, Try.ntmps52
 go_wp2_with fail
 generalize hW : (w.alloc (.cells #[.bool v.s, .slice v.A v.n v.c, .slice v.B v.m v.d] 37)) = W
 obtain ⟨k_v, HB, hsW⟩ := open1 w v W hW
 clear hW
 replace ha := ha.below HB
 replace hbr := hbr.below HB
 refine (rNorm_c v r _ ((hv.below HB).more (by omega))).mono ?_
 rintro e w1 ⟨z, rfl, hz, hb⟩
 have l1 : z.n ≤ 19000000000 := (hz.rw z_r).numLe
 have l2 : z.m ≤ 19000000000 := (hz.rw z_r).denLe
 have hxn := hz.num.lower (Nat.zero_le _)
 have hxd := hz.den.lower (Nat.zero_le _)
 have hsb : (v.s == z.s) = true := by rw [hz.sign, ← hs.out]; simp
 replace ha := ha.below hb
 replace hbr := hbr.below hb
 replace k_v := k_v.below hb
 have HB2 := HB.trans (hb.mono (by omega))
 have lt_v := k_v.lt
 clear hb hz hv HB hsW
 obtain ⟨v_0, v_1, v_2, v_3, v_4, v_5⟩ := k_v.facts
 go_wp2_with fail
 have k_z := C3.new w1 (.bool z.s) (.slice z.A z.n z.c) (.slice z.B z.m z.d)
 have hbn := (Below.refl w1.heap.size w1).alloc (Nat.le_refl _) (.cells #[.bool z.s, .slice z.A z.n z.c, .slice z.B z.m z.d] 37)
 replace k_v := k_v.below hbn
 replace ha := ha.below hbn
 replace hbr := hbr.below hbn
 replace hxn := hxn.below hbn
 replace hxd := hxd.below hbn
 replace HB2 := HB2.trans (hbn.mono HB2.size)
 clear hbn v_0 v_1 v_2 v_3 v_4 v_5 lt_v
 generalize w1.alloc (.cells #[.bool z.s, .slice z.A z.n z.c, .slice z.B z.m z.d] 37) = W2 at *
 refine (rlimbs_v v.A z.A v.n z.n v.c z.c a _ b1 _ (by omega) (by omega) ha hxn h1.out).mono ?_
 rintro e w3 ⟨rfl, hb⟩
 replace k_v := k_v.below hb
 replace k_z := k_z.below hb
 replace hbr := hbr.below hb
 replace hxd := hxd.below hb
 replace HB2 := HB2.trans (hb.mono HB2.size)
 clear hb ha hxn
 obtain ⟨v_0, v_1, v_2, v_3, v_4, v_5⟩ := k_v.facts
 obtain ⟨z_0, z_1, z_2, z_3, z_4, z_5⟩ := k_z.facts
 cases b1
 ·
  go_wp2
  go_ret
  exact ⟨rfl, HB2⟩
 ·
  go_wp2_with fail
  refine (rlimbs_v v.B z.B v.m z.m v.d z.d b _ b2 _ (by omega) (by omega) hbr hxd h2.out).mono ?_
  rintro e w4 ⟨rfl, hb⟩
  replace HB2 := HB2.trans (hb.mono HB2.size)
  clear hb
  go_wp2
  go_ret
  exact ⟨rfl, HB2⟩
theorem rIs_c (v : Rv) (a b : List Nat) (r : Rat) (bb : Bool) (w : World) (hv : Rw w v r 19000000000) (ha : Row w 0 v.A v.n a) (hbr : Row w 0 v.B v.m b) (hr : rn v.s (val a) (val b) = r) (hbb : bb = true ↔ IsN v.s a b) :
  Calls Try.prog 52 #[.agg #[.bool v.s, .slice v.A v.n v.c, .slice v.B v.m v.d]] w fun e w' => e = .returned (.bool bb) ∧ Below w.heap.size w w' := by
 rw [IsN_iff v.s a b ha.l32 hbr.l32 r hr] at hbb
 by_cases hs : v.s = decide (r.num < 0)
 ·
  have e : (decide (a = lim r.num.natAbs) && decide (b = lim r.den)) = bb := by
   by_cases h1 : a = lim r.num.natAbs
   ·
    by_cases h2 : b = lim r.den
    · rw [decide_eq_true h1, decide_eq_true h2, hbb.2 ⟨hs, h1, h2⟩]; rfl
    ·
     rw [decide_eq_false h2, Bool.and_false]
     cases bb
     · rfl
     · exact absurd (hbb.1 rfl).2.2 h2
   ·
    rw [decide_eq_false h1, Bool.false_and]
    cases bb
    · rfl
    · exact absurd (hbb.1 rfl).2.1 h1
  rw [← e]
  exact rIs_rows v a b r _ _ w hv ha hbr hs rfl rfl
 ·
  have e : bb = false := by
   cases bb
   · rfl
   · exact absurd (hbb.1 rfl).1 hs
  rw [e]; exact rIs_no v r w hv hs
end Go.Proofs.Ytjbhhccklfddaaa

namespace Go.Proofs.Ytjbhhccklfddaaa
set_option maxRecDepth 20000
open Go.RowKit
theorem Row.det {w : World} {lo lo' n : Nat} {A : Option Addr} {l l' : List Nat} (h : Row w lo A n l) (h' : Row w lo' A n l') : l = l' := by
 apply List.ext_getElem (by rw [h.len, h'.len])
 intro i h1 h2
 have hi : i < n := by rw [← h.len]; exact h1
 obtain ⟨b, off, e, _, _, hc⟩ := h.mem (by omega)
 obtain ⟨b', off', e', _, _, hc'⟩ := h'.mem (by omega)
 rw [e] at e'
 injection e' with e'
 injection e' with e1 e2 _
 subst e1 e2
 have g := (hc i hi).symm.trans (hc' i hi)
 injection g with g
 injection g with _ g
 have g2 : dg l i = dg l' i := by omega
 rw [dg_eq, dg_eq, List.getElem?_eq_getElem h1, List.getElem?_eq_getElem h2] at g2
 exact g2
def Nrm (w : World) (v : Rv) : Prop := ∃ a b, Row w 0 v.A v.n a ∧ Row w 0 v.B v.m b ∧ IsN v.s a b
theorem Nrm.iff {w w' : World} {v : Rv} {r : Rat} {p : Nat} (hv : Rw w v r p) (hb : Below w.heap.size w w') : Nrm w v ↔ Nrm w' v := by
 obtain ⟨_, _, _, _, a, b, ha, hb', _⟩ := hv
 constructor
 ·
  rintro ⟨a', b', h1, h2, h3⟩
  exact ⟨a', b', h1.below hb, h2.below hb, h3⟩
 ·
  rintro ⟨a', b', h1, h2, h3⟩
  have e1 := (ha.below hb).det h1
  have e2 := (hb'.below hb).det h2
  subst e1 e2
  exact ⟨_, _, ha, hb', h3⟩
def TOk (w : World) (N : Int) (l : List Tv) (i : Nat) : Prop := ∀ j x, j < i → l[j]? = some x → 0 ≤ x.v ∧ x.v < N ∧ (∀ y, 0 < j → l[j - 1]? = some y → y.v < x.v) ∧ Nrm w x.r ∧ x.r.n ≠ 0
def IsS (w : World) (v : Cv) (l : List Tv) (N : Int) : Prop := (0 ≤ v.s ∧ v.s ≤ 4) ∧ Nrm w v.K ∧ TOk w N l l.length
theorem TOk.step {w : World} {N : Int} {l : List Tv} {i : Nat} {x : Tv} (h : TOk w N l i) (hx : l[i]? = some x) (h1 : 0 ≤ x.v) (h2 : x.v < N) (h3 : ∀ y, 0 < i → l[i - 1]? = some y → y.v < x.v) (h4 : Nrm w x.r) (h5 : x.r.n ≠ 0) : TOk w N l (i + 1) := by
 intro j y hj hy
 by_cases e : j = i
 ·
  subst e
  rw [hx] at hy
  injection hy with hy
  subst hy
  exact ⟨h1, h2, h3, h4, h5⟩
 · exact h j y (by omega) hy
end Go.Proofs.Ytjbhhccklfddaaa
