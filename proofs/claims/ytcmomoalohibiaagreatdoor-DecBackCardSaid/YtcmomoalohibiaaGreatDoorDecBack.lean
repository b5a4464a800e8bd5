/-
  DecBack: the walk of the law.
-/
import Derived.Test.YtcmomoalohibiaaGreatDoorDecR
namespace Go.Proofs.YtcmomoalohibiaaGreatDoor
set_option maxRecDepth 20000
open Go.RowKit

set_option maxRecDepth 100000 in
set_option maxHeartbeats 4000000 in
theorem DecBack_many (v : Rv) (w : World) (h1 : v.n ≤ 100000000000000) (h2 : v.m ≤ 100000000000000) (hlen : 16 < v.n + v.m) :
    Calls Tryz.prog 5 #[.agg #[.bool v.s, .slice v.A v.n v.c, .slice v.B v.m v.d]] w fun e w' => e = .returned (.bool true) ∧ Below w.heap.size w w' := by
  go_enter Tryz.func5, Tryz.ntmps5
  go_wp2_with fail
  generalize hW : (w.alloc (.cells #[.bool v.s, .slice v.A v.n v.c, .slice v.B v.m v.d] 24)).alloc (.cells #[.bool v.s, .slice v.A v.n v.c, .slice v.B v.m v.d] 24) = W
  obtain ⟨k_v, HB, hsW, hbig⟩ := open1b w v W hW
  clear hW
  refine (big_any (pick v v v) (w.heap.size + 1) 1 _ (by omega) ?_ hbig).mono ?_
  · intro i hi
    have : i = 0 := by omega
    subst this
    simp only [pick]; omega
  rintro e w0 ⟨rfl, hb⟩
  rw [decide_eq_true (show 16 < tot (pick v v v) 1 by simp only [tot, pick]; omega)]
  replace HB := HB.trans (hb.mono (by omega))
  clear hb hbig hsW k_v h1 h2 hlen
  go_wp2
  go_ret
  exact ⟨rfl, HB⟩

set_option maxRecDepth 100000 in
set_option maxHeartbeats 16000000 in
theorem DecBack_true (v : Rv) (r : Rat) (E : ByteArray) (w : World) (hE : Hid (ExW E true r)) (h0 : Rw w v r 16) (hlen : v.n + v.m ≤ 16) (ht : Tb w) (hm : Mx w) :
    Calls Tryz.prog 5 #[.agg #[.bool v.s, .slice v.A v.n v.c, .slice v.B v.m v.d]] w fun e w' => e = .returned (.bool true) ∧ Below w.heap.size w w' := by
  obtain ⟨F, hF⟩ := str_data (dpr r)
  have HF := Lib.hid hF
  have sz := h0.sz (by omega)
  have TF : Hid (Txt F r) := txt_dpr hF sz
  have TE : Hid (Txt E r) := txt_ext hE.out sz
  have zr : Hid (∀ (z : Rv) (w : World) (lo : Nat), Rt w lo z r → z.n ≤ 100000 ∧ z.m ≤ 100000) := fun z w lo h => h.len sz (by omega)
  clear hF sz
  go_enter Tryz.func5, Tryz.ntmps5
  go_wp2_with fail
  generalize hW : (w.alloc (.cells #[.bool v.s, .slice v.A v.n v.c, .slice v.B v.m v.d] 24)).alloc (.cells #[.bool v.s, .slice v.A v.n v.c, .slice v.B v.m v.d] 24) = W
  obtain ⟨k_v, HB, hsW, hbig⟩ := open1b w v W hW
  clear hW
  refine (big_any (pick v v v) (w.heap.size + 1) 1 _ (by omega) ?_ hbig).mono ?_
  · intro i hi
    have : i = 0 := by omega
    subst this
    simp only [pick]; omega
  rintro e w0 ⟨rfl, hb⟩
  rw [decide_eq_false (show ¬ 16 < tot (pick v v v) 1 by simp only [tot, pick]; omega)]
  replace HB := HB.trans (hb.mono (by omega))
  replace k_v := k_v.below hb
  have h_v := (h0.below HB).more (show 16 ≤ 400 by omega)
  have g_v := (h0.below HB).more (show 16 ≤ 40 by omega)
  replace ht := ht.below HB
  replace hm := hm.below HB
  clear hb hbig hsW hlen h0
  obtain ⟨v_0, v_1, v_2, v_3, v_4, v_5⟩ := k_v.facts
  go_wp2_with fail
  refine (rNorm_c v r _ (g_v.more (by omega))).mono ?_
  rintro e w1 ⟨x, rfl, ht_x, hb⟩
  replace HB := HB.trans (hb.mono HB.size)
  replace k_v := k_v.below hb
  replace h_v := h_v.below hb
  replace g_v := g_v.below hb
  replace ht := ht.below hb
  replace hm := hm.below hb
  clear hb
  clear v_0 v_1 v_2 v_3 v_4 v_5
  obtain ⟨v_0, v_1, v_2, v_3, v_4, v_5⟩ := k_v.facts
  have k_x := C3.new w1 (.bool x.s) (.slice x.A x.n x.c) (.slice x.B x.m x.d)
  have hbn := (Below.refl w1.heap.size w1).alloc (Nat.le_refl _) (.cells #[.bool x.s, .slice x.A x.n x.c, .slice x.B x.m x.d] 24)
  replace HB := HB.trans (hbn.mono HB.size)
  replace k_v := k_v.below hbn
  replace h_v := h_v.below hbn
  replace g_v := g_v.below hbn
  replace ht := ht.below hbn
  replace hm := hm.below hbn
  replace ht_x := ht_x.below hbn
  clear hbn v_0 v_1 v_2 v_3 v_4 v_5
  obtain ⟨v_0, v_1, v_2, v_3, v_4, v_5⟩ := k_v.facts
  obtain ⟨x_0, x_1, x_2, x_3, x_4, x_5⟩ := k_x.facts
  go_wp2_with fail
  generalize hWx : w1.alloc (.cells #[.bool x.s, .slice x.A x.n x.c, .slice x.B x.m x.d] 24) = Wg1 at *
  clear hWx
  refine (dPrint_any F v r _ HF.out h_v ht).mono ?_
  rintro e w2 ⟨rfl, hb⟩
  replace HB := HB.trans (hb.mono HB.size)
  replace k_v := k_v.below hb
  replace k_x := k_x.below hb
  replace h_v := h_v.below hb
  replace g_v := g_v.below hb
  replace ht := ht.below hb
  replace hm := hm.below hb
  replace ht_x := ht_x.below hb
  clear hb
  clear v_0 v_1 v_2 v_3 v_4 v_5 x_0 x_1 x_2 x_3 x_4 x_5
  obtain ⟨v_0, v_1, v_2, v_3, v_4, v_5⟩ := k_v.facts
  obtain ⟨x_0, x_1, x_2, x_3, x_4, x_5⟩ := k_x.facts
  go_wp2_with fail
  refine (dParse_v F r _ TF.out hm).mono ?_
  rintro e w3 ⟨y, rfl, ht_y, hb⟩
  replace HB := HB.trans (hb.mono HB.size)
  replace k_v := k_v.below hb
  replace k_x := k_x.below hb
  replace h_v := h_v.below hb
  replace g_v := g_v.below hb
  replace ht := ht.below hb
  replace hm := hm.below hb
  replace ht_x := ht_x.below hb
  clear hb
  clear v_0 v_1 v_2 v_3 v_4 v_5 x_0 x_1 x_2 x_3 x_4 x_5
  obtain ⟨v_0, v_1, v_2, v_3, v_4, v_5⟩ := k_v.facts
  obtain ⟨x_0, x_1, x_2, x_3, x_4, x_5⟩ := k_x.facts
  have k_y := C3.new w3 (.bool y.s) (.slice y.A y.n y.c) (.slice y.B y.m y.d)
  have hbn := (Below.refl w3.heap.size w3).alloc (Nat.le_refl _) (.cells #[.bool y.s, .slice y.A y.n y.c, .slice y.B y.m y.d] 24)
  replace HB := HB.trans (hbn.mono HB.size)
  replace k_v := k_v.below hbn
  replace k_x := k_x.below hbn
  replace h_v := h_v.below hbn
  replace g_v := g_v.below hbn
  replace ht := ht.below hbn
  replace hm := hm.below hbn
  replace ht_x := ht_x.below hbn
  replace ht_y := ht_y.below hbn
  clear hbn v_0 v_1 v_2 v_3 v_4 v_5 x_0 x_1 x_2 x_3 x_4 x_5
  obtain ⟨v_0, v_1, v_2, v_3, v_4, v_5⟩ := k_v.facts
  obtain ⟨x_0, x_1, x_2, x_3, x_4, x_5⟩ := k_x.facts
  obtain ⟨y_0, y_1, y_2, y_3, y_4, y_5⟩ := k_y.facts
  go_wp2_with fail
  generalize hWx : w3.alloc (.cells #[.bool y.s, .slice y.A y.n y.c, .slice y.B y.m y.d] 24) = Wg3 at *
  clear hWx
  refine (dExact_v E true v r _ hE.out h_v ht).mono ?_
  rintro e w4 ⟨rfl, hb⟩
  replace HB := HB.trans (hb.mono HB.size)
  replace k_v := k_v.below hb
  replace k_x := k_x.below hb
  replace k_y := k_y.below hb
  replace h_v := h_v.below hb
  replace g_v := g_v.below hb
  replace ht := ht.below hb
  replace hm := hm.below hb
  replace ht_x := ht_x.below hb
  replace ht_y := ht_y.below hb
  clear hb
  clear v_0 v_1 v_2 v_3 v_4 v_5 x_0 x_1 x_2 x_3 x_4 x_5 y_0 y_1 y_2 y_3 y_4 y_5
  obtain ⟨v_0, v_1, v_2, v_3, v_4, v_5⟩ := k_v.facts
  obtain ⟨x_0, x_1, x_2, x_3, x_4, x_5⟩ := k_x.facts
  obtain ⟨y_0, y_1, y_2, y_3, y_4, y_5⟩ := k_y.facts
  go_wp2_with fail
  refine (dParse_v E r _ TE.out hm).mono ?_
  rintro e w5 ⟨u, rfl, ht_u, hb⟩
  replace HB := HB.trans (hb.mono HB.size)
  replace k_v := k_v.below hb
  replace k_x := k_x.below hb
  replace k_y := k_y.below hb
  replace h_v := h_v.below hb
  replace g_v := g_v.below hb
  replace ht := ht.below hb
  replace hm := hm.below hb
  replace ht_x := ht_x.below hb
  replace ht_y := ht_y.below hb
  clear hb
  clear v_0 v_1 v_2 v_3 v_4 v_5 x_0 x_1 x_2 x_3 x_4 x_5 y_0 y_1 y_2 y_3 y_4 y_5
  obtain ⟨v_0, v_1, v_2, v_3, v_4, v_5⟩ := k_v.facts
  obtain ⟨x_0, x_1, x_2, x_3, x_4, x_5⟩ := k_x.facts
  obtain ⟨y_0, y_1, y_2, y_3, y_4, y_5⟩ := k_y.facts
  have k_u := C3.new w5 (.bool u.s) (.slice u.A u.n u.c) (.slice u.B u.m u.d)
  have hbn := (Below.refl w5.heap.size w5).alloc (Nat.le_refl _) (.cells #[.bool u.s, .slice u.A u.n u.c, .slice u.B u.m u.d] 24)
  replace HB := HB.trans (hbn.mono HB.size)
  replace k_v := k_v.below hbn
  replace k_x := k_x.below hbn
  replace k_y := k_y.below hbn
  replace h_v := h_v.below hbn
  replace g_v := g_v.below hbn
  replace ht := ht.below hbn
  replace hm := hm.below hbn
  replace ht_x := ht_x.below hbn
  replace ht_y := ht_y.below hbn
  replace ht_u := ht_u.below hbn
  clear hbn v_0 v_1 v_2 v_3 v_4 v_5 x_0 x_1 x_2 x_3 x_4 x_5 y_0 y_1 y_2 y_3 y_4 y_5
  obtain ⟨v_0, v_1, v_2, v_3, v_4, v_5⟩ := k_v.facts
  obtain ⟨x_0, x_1, x_2, x_3, x_4, x_5⟩ := k_x.facts
  obtain ⟨y_0, y_1, y_2, y_3, y_4, y_5⟩ := k_y.facts
  obtain ⟨u_0, u_1, u_2, u_3, u_4, u_5⟩ := k_u.facts
  go_wp2_with fail
  generalize hWx : w5.alloc (.cells #[.bool u.s, .slice u.A u.n u.c, .slice u.B u.m u.d] 24) = Wg5 at *
  clear hWx
  refine (one_yes u x _ _ _ _ _ ht_u ht_x rfl (zr.out _ _ _ ht_u).1 (zr.out _ _ _ ht_u).2).mono ?_
  rintro e w6 ⟨rfl, hb⟩
  replace HB := HB.trans (hb.mono HB.size)
  replace k_v := k_v.below hb
  replace k_x := k_x.below hb
  replace k_y := k_y.below hb
  replace k_u := k_u.below hb
  replace h_v := h_v.below hb
  replace g_v := g_v.below hb
  replace ht := ht.below hb
  replace hm := hm.below hb
  replace ht_x := ht_x.below hb
  replace ht_y := ht_y.below hb
  replace ht_u := ht_u.below hb
  clear hb
  clear v_0 v_1 v_2 v_3 v_4 v_5 x_0 x_1 x_2 x_3 x_4 x_5 y_0 y_1 y_2 y_3 y_4 y_5 u_0 u_1 u_2 u_3 u_4 u_5
  obtain ⟨v_0, v_1, v_2, v_3, v_4, v_5⟩ := k_v.facts
  obtain ⟨x_0, x_1, x_2, x_3, x_4, x_5⟩ := k_x.facts
  obtain ⟨y_0, y_1, y_2, y_3, y_4, y_5⟩ := k_y.facts
  obtain ⟨u_0, u_1, u_2, u_3, u_4, u_5⟩ := k_u.facts
  go_wp2_with fail
  refine (one_yes y x _ _ _ _ _ ht_y ht_x rfl (zr.out _ _ _ ht_y).1 (zr.out _ _ _ ht_y).2).mono ?_
  rintro e w7 ⟨rfl, hb⟩
  replace HB := HB.trans (hb.mono HB.size)
  replace k_v := k_v.below hb
  replace k_x := k_x.below hb
  replace k_y := k_y.below hb
  replace k_u := k_u.below hb
  replace h_v := h_v.below hb
  replace g_v := g_v.below hb
  replace ht := ht.below hb
  replace hm := hm.below hb
  replace ht_x := ht_x.below hb
  replace ht_y := ht_y.below hb
  replace ht_u := ht_u.below hb
  clear hb
  clear v_0 v_1 v_2 v_3 v_4 v_5 x_0 x_1 x_2 x_3 x_4 x_5 y_0 y_1 y_2 y_3 y_4 y_5 u_0 u_1 u_2 u_3 u_4 u_5
  obtain ⟨v_0, v_1, v_2, v_3, v_4, v_5⟩ := k_v.facts
  obtain ⟨x_0, x_1, x_2, x_3, x_4, x_5⟩ := k_x.facts
  obtain ⟨y_0, y_1, y_2, y_3, y_4, y_5⟩ := k_y.facts
  obtain ⟨u_0, u_1, u_2, u_3, u_4, u_5⟩ := k_u.facts
  go_wp2_with fail
  refine (known3_any _ ht).mono ?_
  rintro e w8 ⟨rfl, hb⟩
  replace HB := HB.trans (hb.mono HB.size)
  replace k_v := k_v.below hb
  replace k_x := k_x.below hb
  replace k_y := k_y.below hb
  replace k_u := k_u.below hb
  replace h_v := h_v.below hb
  replace g_v := g_v.below hb
  replace ht := ht.below hb
  replace hm := hm.below hb
  replace ht_x := ht_x.below hb
  replace ht_y := ht_y.below hb
  replace ht_u := ht_u.below hb
  clear hb
  clear v_0 v_1 v_2 v_3 v_4 v_5 x_0 x_1 x_2 x_3 x_4 x_5 y_0 y_1 y_2 y_3 y_4 y_5 u_0 u_1 u_2 u_3 u_4 u_5
  obtain ⟨v_0, v_1, v_2, v_3, v_4, v_5⟩ := k_v.facts
  obtain ⟨x_0, x_1, x_2, x_3, x_4, x_5⟩ := k_x.facts
  obtain ⟨y_0, y_1, y_2, y_3, y_4, y_5⟩ := k_y.facts
  obtain ⟨u_0, u_1, u_2, u_3, u_4, u_5⟩ := k_u.facts
  clear v_0 v_1 v_2 v_3 v_4 v_5 x_0 x_1 x_2 x_3 x_4 x_5 y_0 y_1 y_2 y_3 y_4 y_5 u_0 u_1 u_2 u_3 u_4 u_5
  go_wp2
  go_ret
  exact ⟨rfl, HB⟩

set_option maxRecDepth 100000 in
set_option maxHeartbeats 16000000 in
theorem DecBack_false (v : Rv) (r : Rat) (E : ByteArray) (w : World) (hE : Hid (ExW E false r)) (h0 : Rw w v r 16) (hlen : v.n + v.m ≤ 16) (ht : Tb w) (hm : Mx w) :
    Calls Tryz.prog 5 #[.agg #[.bool v.s, .slice v.A v.n v.c, .slice v.B v.m v.d]] w fun e w' => e = .returned (.bool true) ∧ Below w.heap.size w w' := by
  obtain ⟨F, hF⟩ := str_data (dpr r)
  have HF := Lib.hid hF
  have sz := h0.sz (by omega)
  have TF : Hid (Txt F r) := txt_dpr hF sz
  have zr : Hid (∀ (z : Rv) (w : World) (lo : Nat), Rt w lo z r → z.n ≤ 100000 ∧ z.m ≤ 100000) := fun z w lo h => h.len sz (by omega)
  clear hF sz
  go_enter Tryz.func5, Tryz.ntmps5
  go_wp2_with fail
  generalize hW : (w.alloc (.cells #[.bool v.s, .slice v.A v.n v.c, .slice v.B v.m v.d] 24)).alloc (.cells #[.bool v.s, .slice v.A v.n v.c, .slice v.B v.m v.d] 24) = W
  obtain ⟨k_v, HB, hsW, hbig⟩ := open1b w v W hW
  clear hW
  refine (big_any (pick v v v) (w.heap.size + 1) 1 _ (by omega) ?_ hbig).mono ?_
  · intro i hi
    have : i = 0 := by omega
    subst this
    simp only [pick]; omega
  rintro e w0 ⟨rfl, hb⟩
  rw [decide_eq_false (show ¬ 16 < tot (pick v v v) 1 by simp only [tot, pick]; omega)]
  replace HB := HB.trans (hb.mono (by omega))
  replace k_v := k_v.below hb
  have h_v := (h0.below HB).more (show 16 ≤ 400 by omega)
  have g_v := (h0.below HB).more (show 16 ≤ 40 by omega)
  replace ht := ht.below HB
  replace hm := hm.below HB
  clear hb hbig hsW hlen h0
  obtain ⟨v_0, v_1, v_2, v_3, v_4, v_5⟩ := k_v.facts
  go_wp2_with fail
  refine (rNorm_c v r _ (g_v.more (by omega))).mono ?_
  rintro e w1 ⟨x, rfl, ht_x, hb⟩
  replace HB := HB.trans (hb.mono HB.size)
  replace k_v := k_v.below hb
  replace h_v := h_v.below hb
  replace g_v := g_v.below hb
  replace ht := ht.below hb
  replace hm := hm.below hb
  clear hb
  clear v_0 v_1 v_2 v_3 v_4 v_5
  obtain ⟨v_0, v_1, v_2, v_3, v_4, v_5⟩ := k_v.facts
  have k_x := C3.new w1 (.bool x.s) (.slice x.A x.n x.c) (.slice x.B x.m x.d)
  have hbn := (Below.refl w1.heap.size w1).alloc (Nat.le_refl _) (.cells #[.bool x.s, .slice x.A x.n x.c, .slice x.B x.m x.d] 24)
  replace HB := HB.trans (hbn.mono HB.size)
  replace k_v := k_v.below hbn
  replace h_v := h_v.below hbn
  replace g_v := g_v.below hbn
  replace ht := ht.below hbn
  replace hm := hm.below hbn
  replace ht_x := ht_x.below hbn
  clear hbn v_0 v_1 v_2 v_3 v_4 v_5
  obtain ⟨v_0, v_1, v_2, v_3, v_4, v_5⟩ := k_v.facts
  obtain ⟨x_0, x_1, x_2, x_3, x_4, x_5⟩ := k_x.facts
  go_wp2_with fail
  generalize hWx : w1.alloc (.cells #[.bool x.s, .slice x.A x.n x.c, .slice x.B x.m x.d] 24) = Wg1 at *
  clear hWx
  refine (dPrint_any F v r _ HF.out h_v ht).mono ?_
  rintro e w2 ⟨rfl, hb⟩
  replace HB := HB.trans (hb.mono HB.size)
  replace k_v := k_v.below hb
  replace k_x := k_x.below hb
  replace h_v := h_v.below hb
  replace g_v := g_v.below hb
  replace ht := ht.below hb
  replace hm := hm.below hb
  replace ht_x := ht_x.below hb
  clear hb
  clear v_0 v_1 v_2 v_3 v_4 v_5 x_0 x_1 x_2 x_3 x_4 x_5
  obtain ⟨v_0, v_1, v_2, v_3, v_4, v_5⟩ := k_v.facts
  obtain ⟨x_0, x_1, x_2, x_3, x_4, x_5⟩ := k_x.facts
  go_wp2_with fail
  refine (dParse_v F r _ TF.out hm).mono ?_
  rintro e w3 ⟨y, rfl, ht_y, hb⟩
  replace HB := HB.trans (hb.mono HB.size)
  replace k_v := k_v.below hb
  replace k_x := k_x.below hb
  replace h_v := h_v.below hb
  replace g_v := g_v.below hb
  replace ht := ht.below hb
  replace hm := hm.below hb
  replace ht_x := ht_x.below hb
  clear hb
  clear v_0 v_1 v_2 v_3 v_4 v_5 x_0 x_1 x_2 x_3 x_4 x_5
  obtain ⟨v_0, v_1, v_2, v_3, v_4, v_5⟩ := k_v.facts
  obtain ⟨x_0, x_1, x_2, x_3, x_4, x_5⟩ := k_x.facts
  have k_y := C3.new w3 (.bool y.s) (.slice y.A y.n y.c) (.slice y.B y.m y.d)
  have hbn := (Below.refl w3.heap.size w3).alloc (Nat.le_refl _) (.cells #[.bool y.s, .slice y.A y.n y.c, .slice y.B y.m y.d] 24)
  replace HB := HB.trans (hbn.mono HB.size)
  replace k_v := k_v.below hbn
  replace k_x := k_x.below hbn
  replace h_v := h_v.below hbn
  replace g_v := g_v.below hbn
  replace ht := ht.below hbn
  replace hm := hm.below hbn
  replace ht_x := ht_x.below hbn
  replace ht_y := ht_y.below hbn
  clear hbn v_0 v_1 v_2 v_3 v_4 v_5 x_0 x_1 x_2 x_3 x_4 x_5
  obtain ⟨v_0, v_1, v_2, v_3, v_4, v_5⟩ := k_v.facts
  obtain ⟨x_0, x_1, x_2, x_3, x_4, x_5⟩ := k_x.facts
  obtain ⟨y_0, y_1, y_2, y_3, y_4, y_5⟩ := k_y.facts
  go_wp2_with fail
  generalize hWx : w3.alloc (.cells #[.bool y.s, .slice y.A y.n y.c, .slice y.B y.m y.d] 24) = Wg3 at *
  clear hWx
  refine (dExact_v E false v r _ hE.out h_v ht).mono ?_
  rintro e w4 ⟨rfl, hb⟩
  replace HB := HB.trans (hb.mono HB.size)
  replace k_v := k_v.below hb
  replace k_x := k_x.below hb
  replace k_y := k_y.below hb
  replace h_v := h_v.below hb
  replace g_v := g_v.below hb
  replace ht := ht.below hb
  replace hm := hm.below hb
  replace ht_x := ht_x.below hb
  replace ht_y := ht_y.below hb
  clear hb
  clear v_0 v_1 v_2 v_3 v_4 v_5 x_0 x_1 x_2 x_3 x_4 x_5 y_0 y_1 y_2 y_3 y_4 y_5
  obtain ⟨v_0, v_1, v_2, v_3, v_4, v_5⟩ := k_v.facts
  obtain ⟨x_0, x_1, x_2, x_3, x_4, x_5⟩ := k_x.facts
  obtain ⟨y_0, y_1, y_2, y_3, y_4, y_5⟩ := k_y.facts
  go_wp2_with fail
  refine (one_yes y x _ _ _ _ _ ht_y ht_x rfl (zr.out _ _ _ ht_y).1 (zr.out _ _ _ ht_y).2).mono ?_
  rintro e w5 ⟨rfl, hb⟩
  replace HB := HB.trans (hb.mono HB.size)
  replace k_v := k_v.below hb
  replace k_x := k_x.below hb
  replace k_y := k_y.below hb
  replace h_v := h_v.below hb
  replace g_v := g_v.below hb
  replace ht := ht.below hb
  replace hm := hm.below hb
  replace ht_x := ht_x.below hb
  replace ht_y := ht_y.below hb
  clear hb
  clear v_0 v_1 v_2 v_3 v_4 v_5 x_0 x_1 x_2 x_3 x_4 x_5 y_0 y_1 y_2 y_3 y_4 y_5
  obtain ⟨v_0, v_1, v_2, v_3, v_4, v_5⟩ := k_v.facts
  obtain ⟨x_0, x_1, x_2, x_3, x_4, x_5⟩ := k_x.facts
  obtain ⟨y_0, y_1, y_2, y_3, y_4, y_5⟩ := k_y.facts
  go_wp2_with fail
  refine (known3_any _ ht).mono ?_
  rintro e w6 ⟨rfl, hb⟩
  replace HB := HB.trans (hb.mono HB.size)
  replace k_v := k_v.below hb
  replace k_x := k_x.below hb
  replace k_y := k_y.below hb
  replace h_v := h_v.below hb
  replace g_v := g_v.below hb
  replace ht := ht.below hb
  replace hm := hm.below hb
  replace ht_x := ht_x.below hb
  replace ht_y := ht_y.below hb
  clear hb
  clear v_0 v_1 v_2 v_3 v_4 v_5 x_0 x_1 x_2 x_3 x_4 x_5 y_0 y_1 y_2 y_3 y_4 y_5
  obtain ⟨v_0, v_1, v_2, v_3, v_4, v_5⟩ := k_v.facts
  obtain ⟨x_0, x_1, x_2, x_3, x_4, x_5⟩ := k_x.facts
  obtain ⟨y_0, y_1, y_2, y_3, y_4, y_5⟩ := k_y.facts
  clear v_0 v_1 v_2 v_3 v_4 v_5 x_0 x_1 x_2 x_3 x_4 x_5 y_0 y_1 y_2 y_3 y_4 y_5
  go_wp2
  go_ret
  exact ⟨rfl, HB⟩

theorem DecBack_any (v : Rv) (w : World) (hc : v.n ≤ v.c ∧ v.m ≤ v.d) (hl : v.n ≤ 100000000000000 ∧ v.m ≤ 100000000000000) (hr : ∃ a b, Row w 0 v.A v.n a ∧ Row w 0 v.B v.m b) (ht : Tb w) (hm : Mx w) :
    Calls Tryz.prog 5 #[.agg #[.bool v.s, .slice v.A v.n v.c, .slice v.B v.m v.d]] w fun e w' => e = .returned (.bool true) ∧ Below w.heap.size w w' := by
  by_cases h : 16 < v.n + v.m
  · exact DecBack_many v w hl.1 hl.2 h
  · obtain ⟨a, b, ra, rb⟩ := hr
    obtain ⟨E, f, hE⟩ := exW_ex (rn v.s (val a) (val b))
    have h0 : Rw w v (rn v.s (val a) (val b)) 16 := ⟨hc.1, hc.2, by omega, by omega, a, b, ra, rb, rfl⟩
    cases f with
    | true => exact DecBack_true v _ E w hE h0 (by omega) ht hm
    | false => exact DecBack_false v _ E w hE h0 (by omega) ht hm
end Go.Proofs.YtcmomoalohibiaaGreatDoor
