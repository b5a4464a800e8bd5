/-
  The document's rationals, ninth part: whether one is too large, whole numbers, the whole number below, whether one is normal.
-/
import Derived.Test.YtkfkjdpkkagjgaaGreatMRl
import Derived.Test.YtkfkjdpkkagjgaaGreatMRf
import Derived.Test.YtkfkjdpkkagjgaaGreatMRh
namespace Go.Proofs.YtkfkjdpkkagjgaaGreat
set_option maxRecDepth 20000
open Go.RowKit
set_option maxHeartbeats 1600000 in
theorem rIs_no (v : Rv) (r : Rat) (w : World) (hv : Rw w v r 19000000000) (hs : Hid (v.s ≠ decide (r.num < 0))) :
  Calls Tryz.prog 46 #[.agg #[.bool v.s, .slice v.A v.n v.c, .slice v.B v.m v.d]] w fun e w' => e = .returned (.bool false) ∧ Below w.heap.size w w' := by
 go_enter Tryz.func46, Tryz.ntmps46
 go_wp2_with fail
 generalize hW : (w.alloc (.cells #[.bool v.s, .slice v.A v.n v.c, .slice v.B v.m v.d] 26)) = W
 obtain ⟨k_v, HB, hsW⟩ := open1 w v W hW
 clear hW
 refine (rNorm_c v r _ ((hv.below HB).more (by omega))).mono ?_
 rintro e w1 ⟨z, rfl, hz, hb⟩
 have HB2 := (HB.trans (hb.mono (by omega))).alloc (by have := hb.size; omega) (.cells #[.bool z.s, .slice z.A z.n z.c, .slice z.B z.m z.d] 26)
 replace k_v := k_v.below hb
 have lt_v := k_v.lt
 have hne : v.s ≠ z.s := by rw [hz.sign]; exact hs.out
 have hbe : (v.s == z.s) = false := beq_eq_false_iff_ne.2 hne
 clear hb hz hv HB hsW hne
 obtain ⟨v_0, v_1, v_2, v_3, v_4, v_5⟩ := k_v.facts
 go_wp2
 go_ret
 exact ⟨rfl, HB2⟩
set_option maxHeartbeats 3200000 in
theorem rIs_rows (v : Rv) (a b : List Nat) (r : Rat) (b1 b2 : Bool) (w : World) (hv : Rw w v r 19000000000) (ha : Row w 0 v.A v.n a) (hbr : Row w 0 v.B v.m b) (hs : Hid (v.s = decide (r.num < 0))) (h1 : Hid (decide (a = lim r.num.natAbs) = b1)) (h2 : Hid (decide (b = lim r.den) = b2)) :
  Calls Tryz.prog 46 #[.agg #[.bool v.s, .slice v.A v.n v.c, .slice v.B v.m v.d]] w fun e w' => e = .returned (.bool (b1 && b2)) ∧ Below w.heap.size w w' := by
 have z_r := hv.sz (by omega)
 have lv1 := hv.numLe
 have lv2 := hv.denLe
 go_enter Tryz.func46, Tryz.ntmps46
 go_wp2_with fail
 generalize hW : (w.alloc (.cells #[.bool v.s, .slice v.A v.n v.c, .slice v.B v.m v.d] 26)) = W
 obtain ⟨k_v, HB, hsW⟩ := open1 w v W hW
 clear hW
 replace ha := ha.below HB
 replace hbr := hbr.below HB
 refine (rNorm_c v r _ ((hv.below HB).more (by omega))).mono ?_
 rintro e w1 ⟨z, rfl, hz, hb⟩
 have l1 : z.n ≤ 19000000000 := (hz.rw z_r).numLe
 have l2 : z.m ≤ 19000000000 := (hz.rw z_r).denLe
 have hxn := hz.num.lower (Nat.zero_le _)
 have hxd := hz.den.lower (Nat.zero_le _)
 have hsb : (v.s == z.s) = true := by rw [hz.sign, ← hs.out]; simp
 replace ha := ha.below hb
 replace hbr := hbr.below hb
 replace k_v := k_v.below hb
 have HB2 := HB.trans (hb.mono (by omega))
 have lt_v := k_v.lt
 clear hb hz hv HB hsW
 obtain ⟨v_0, v_1, v_2, v_3, v_4, v_5⟩ := k_v.facts
 go_wp2_with fail
 have k_z := C3.new w1 (.bool z.s) (.slice z.A z.n z.c) (.slice z.B z.m z.d)
 have hbn := (Below.refl w1.heap.size w1).alloc (Nat.le_refl _) (.cells #[.bool z.s, .slice z.A z.n z.c, .slice z.B z.m z.d] 26)
 replace k_v := k_v.below hbn
 replace ha := ha.below hbn
 replace hbr := hbr.below hbn
 replace hxn := hxn.below hbn
 replace hxd := hxd.below hbn
 replace HB2 := HB2.trans (hbn.mono HB2.size)
 clear hbn v_0 v_1 v_2 v_3 v_4 v_5 lt_v
 generalize w1.alloc (.cells #[.bool z.s, .slice z.A z.n z.c, .slice z.B z.m z.d] 26) = W2 at *
 refine (rlimbs_v v.A z.A v.n z.n v.c z.c a _ b1 _ (by omega) (by omega) ha hxn h1.out).mono ?_
 rintro e w3 ⟨rfl, hb⟩
 replace k_v := k_v.below hb
 replace k_z := k_z.below hb
 replace hbr := hbr.below hb
 replace hxd := hxd.below hb
 replace HB2 := HB2.trans (hb.mono HB2.size)
 clear hb ha hxn
 obtain ⟨v_0, v_1, v_2, v_3, v_4, v_5⟩ := k_v.facts
 obtain ⟨z_0, z_1, z_2, z_3, z_4, z_5⟩ := k_z.facts
 cases b1
 ·
  go_wp2
  go_ret
  exact ⟨rfl, HB2⟩
 ·
  go_wp2_with fail
  refine (rlimbs_v v.B z.B v.m z.m v.d z.d b _ b2 _ (by omega) (by omega) hbr hxd h2.out).mono ?_
  rintro e w4 ⟨rfl, hb⟩
  replace HB2 := HB2.trans (hb.mono HB2.size)
  clear hb
  go_wp2
  go_ret
  exact ⟨rfl, HB2⟩
theorem rIs_c (v : Rv) (a b : List Nat) (r : Rat) (bb : Bool) (w : World) (hv : Rw w v r 19000000000) (ha : Row w 0 v.A v.n a) (hbr : Row w 0 v.B v.m b) (hr : rn v.s (val a) (val b) = r) (hbb : bb = true ↔ IsN v.s a b) :
  Calls Tryz.prog 46 #[.agg #[.bool v.s, .slice v.A v.n v.c, .slice v.B v.m v.d]] w fun e w' => e = .returned (.bool bb) ∧ Below w.heap.size w w' := by
 rw [IsN_iff v.s a b ha.l32 hbr.l32 r hr] at hbb
 by_cases hs : v.s = decide (r.num < 0)
 ·
  have e : (decide (a = lim r.num.natAbs) && decide (b = lim r.den)) = bb := by
   by_cases h1 : a = lim r.num.natAbs
   ·
    by_cases h2 : b = lim r.den
    · rw [decide_eq_true h1, decide_eq_true h2, hbb.2 ⟨hs, h1, h2⟩]; rfl
    ·
     rw [decide_eq_false h2, Bool.and_false]
     cases bb
     · rfl
     · exact absurd (hbb.1 rfl).2.2 h2
   ·
    rw [decide_eq_false h1, Bool.false_and]
    cases bb
    · rfl
    · exact absurd (hbb.1 rfl).2.1 h1
  rw [← e]
  exact rIs_rows v a b r _ _ w hv ha hbr hs rfl rfl
 ·
  have e : bb = false := by
   cases bb
   · rfl
   · exact absurd (hbb.1 rfl).1 hs
  rw [e]; exact rIs_no v r w hv hs
end Go.Proofs.YtkfkjdpkkagjgaaGreat
