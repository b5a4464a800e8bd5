/-
  DecInts: the walk of the law.
-/
import Derived.Test.YtcmomoalohibiaaGreatDoorDecW
namespace Go.Proofs.YtcmomoalohibiaaGreatDoor
set_option maxRecDepth 20000
open Go.RowKit

set_option maxRecDepth 100000 in
set_option maxHeartbeats 4000000 in
theorem DecInts_many (A : Option Addr) (n c : Nat) (neg : Bool) (w : World) (hn : 6 < n) :
    Calls Tryz.prog 8 #[.slice A n c, .bool neg] w fun e w' => e = .returned (.bool true) ∧ Below w.heap.size w w' := by
  have hni : (6 : Int) < (n : Int) := by omega
  go_enter Tryz.func8, Tryz.ntmps8
  go_wp2
  go_ret
  exact ⟨rfl, Below.refl _ _⟩

set_option maxRecDepth 100000 in
set_option maxHeartbeats 16000000 in
theorem DecInts_true (A : Option Addr) (n c x : Nat) (l : List Nat) (neg : Bool) (r : Rat) (S F : ByteArray) (w : World) (hx : Hid (val l = x)) (hr : Hid (rn neg x 1 = r)) (hsg : Hid (decide (r.num < 0) = true)) (HS : Hid (S.data.toList = Lib.decDigits x)) (HF : Hid (F.data.toList = sgnd true S.data.toList)) (hn : n ≤ 6) (hc : n ≤ c) (ha : Row w 0 A n l) (ht : Tb w) (hm : Mx w) :
    Calls Tryz.prog 8 #[.slice A n c, .bool neg] w fun e w' => e = .returned (.bool true) ∧ Below w.heap.size w w' := by
  have sz : Sz r 6 := Sz.ofRn hr.out (by have := ha.bd hn; rw [hx.out] at this; exact this) (show 1 < 4294967296 ^ 6 by omega) (by omega)
  have d1 : r.den = 1 := by rw [← hr.out]; exact rn_one.1
  have ab : r.num.natAbs = x := by rw [← hr.out]; exact rn_one.2
  have hF : F.data.toList = sgnd (decide (r.num < 0)) (Lib.decDigits r.num.natAbs) := by rw [HF.out, HS.out, hsg.out, ab]
  have sz16 : Sz r 16 := ⟨sz.num.more (by omega), sz.den.more (by omega)⟩
  have HP : Hid (F.data.toList = dpr r) := by show _ = _; rw [hF, int_dpr d1]
  have HX : Hid (F.data.toList = fxd r (hsc 0)) := by show _ = _; rw [hF]; exact (int_fxd d1).symm
  have HE : Hid (ExW F true r) := int_exW d1 hF
  have TF : Hid (Txt F r) := txt_dpr HP.out sz16
  have HR : Hid (rnd r (hsc 3) = r) := rnd_int d1 _
  have zr : Hid (∀ (z : Rv) (w : World) (lo : Nat), Rt w lo z r → z.n ≤ 100000 ∧ z.m ≤ 100000) := fun z w lo h => h.len sz (by omega)
  have zz : Hid (∀ (z : Rv) (w : World) (lo : Nat), Rt w lo z r → Rw w z r 400) := fun z w lo h => (h.rw sz).more (by omega)
  have sl : S.size ≤ 60 := by
    rw [str_size HS.out]
    have h6 : Bd x 6 := by have := ha.bd hn; rwa [hx.out] at this
    have := dec_len_lim (x := x) (p := 6) (by omega) h6.len
    omega
  have sl2 : ¬ (9223372036854775807 < 1 + S.size) := by omega
  have sl3 : ¬ (1 + S.size > 9223372036854775807) := by omega
  have HFE : Hid ((⟨#[45]⟩ : ByteArray) ++ S = F) := by
    show _ = _
    rw [str_of F _ HF.out]; rw [str_of ((⟨#[45]⟩ : ByteArray) ++ S) _ rfl, app_data]; rfl
  have hni : (n : Int) ≤ 6 := by omega
  have HB := Below.refl w.heap.size w
  clear hF ab d1 sz16 HF
  go_enter Tryz.func8, Tryz.ntmps8
  go_wp2_with fail
  have hb0 : Below w.heap.size w (w.alloc (.cells #[.int .u32 1] 50)) := (Below.refl _ _).alloc (Nat.le_refl _) _
  replace HB := HB.trans hb0
  have hlit := Row.lit1 w 1 1 rfl (by omega)
  replace ha := ha.below hb0
  replace ht := ht.below hb0
  replace hm := hm.below hb0
  clear hb0
  refine (rOf_n neg A _ n 1 c 1 x 1 l [1] r _ hx.out (val_one 1) (by omega) (by omega) hc (Nat.le_refl _) ha hlit hr.out).mono ?_
  rintro e w1 ⟨⟨zs, zA, zn, zc, zB, zm, zd⟩, rfl, ht_z, hb⟩
  have hs := ht_z.sign
  rw [hsg.out] at hs
  have hs' : zs = true := hs
  subst hs'
  replace HB := HB.trans (hb.mono HB.size)
  replace ha := ha.below hb
  replace ht := ht.below hb
  replace hm := hm.below hb
  clear hb hs hlit
  dsimp only
  have k_z := C3.new w1 (.bool true) (.slice zA zn zc) (.slice zB zm zd)
  have hbn := (Below.refl w1.heap.size w1).alloc (Nat.le_refl _) (.cells #[.bool true, .slice zA zn zc, .slice zB zm zd] 24)
  replace HB := HB.trans (hbn.mono HB.size)
  replace ha := ha.below hbn
  replace ht := ht.below hbn
  replace hm := hm.below hbn
  replace ht_z := ht_z.below hbn
  clear hbn
  obtain ⟨z_0, z_1, z_2, z_3, z_4, z_5⟩ := k_z.facts
  go_wp2_with fail
  generalize hWx : w1.alloc (.cells #[.bool true, .slice zA zn zc, .slice zB zm zd] 24) = Wg1 at *
  clear hWx
  refine (rPrint_s S A n c x l _ HS.out hx.out (by omega) hc ha).mono ?_
  rintro e w2 ⟨rfl, hb⟩
  replace HB := HB.trans (hb.mono HB.size)
  replace k_z := k_z.below hb
  replace ha := ha.below hb
  replace ht := ht.below hb
  replace hm := hm.below hb
  replace ht_z := ht_z.below hb
  clear hb
  clear ha
  clear z_0 z_1 z_2 z_3 z_4 z_5
  obtain ⟨z_0, z_1, z_2, z_3, z_4, z_5⟩ := k_z.facts
  have hF := HFE.out
  go_wp2_with fail
  try rw [hF]
  clear hF
  refine (dExact_v F true ⟨true, zA, zn, zc, zB, zm, zd⟩ r _ HE.out (zz.out _ _ _ ht_z) ht).mono ?_
  rintro e w3 ⟨rfl, hb⟩
  replace HB := HB.trans (hb.mono HB.size)
  replace k_z := k_z.below hb
  replace ht := ht.below hb
  replace hm := hm.below hb
  replace ht_z := ht_z.below hb
  clear hb
  clear z_0 z_1 z_2 z_3 z_4 z_5
  obtain ⟨z_0, z_1, z_2, z_3, z_4, z_5⟩ := k_z.facts
  go_wp2_with fail
  refine (dParse_v F r _ TF.out hm).mono ?_
  rintro e w4 ⟨y, rfl, ht_y, hb⟩
  replace HB := HB.trans (hb.mono HB.size)
  replace k_z := k_z.below hb
  replace ht := ht.below hb
  replace hm := hm.below hb
  replace ht_z := ht_z.below hb
  clear hb
  clear z_0 z_1 z_2 z_3 z_4 z_5
  obtain ⟨z_0, z_1, z_2, z_3, z_4, z_5⟩ := k_z.facts
  have k_y := C3.new w4 (.bool y.s) (.slice y.A y.n y.c) (.slice y.B y.m y.d)
  have hbn := (Below.refl w4.heap.size w4).alloc (Nat.le_refl _) (.cells #[.bool y.s, .slice y.A y.n y.c, .slice y.B y.m y.d] 24)
  replace HB := HB.trans (hbn.mono HB.size)
  replace k_z := k_z.below hbn
  replace ht := ht.below hbn
  replace hm := hm.below hbn
  replace ht_z := ht_z.below hbn
  replace ht_y := ht_y.below hbn
  clear hbn z_0 z_1 z_2 z_3 z_4 z_5
  obtain ⟨z_0, z_1, z_2, z_3, z_4, z_5⟩ := k_z.facts
  obtain ⟨y_0, y_1, y_2, y_3, y_4, y_5⟩ := k_y.facts
  go_wp2_with fail
  generalize hWx : w4.alloc (.cells #[.bool y.s, .slice y.A y.n y.c, .slice y.B y.m y.d] 24) = Wg4 at *
  clear hWx
  clear hm
  clear z_0 z_1 z_2 z_3 z_4 z_5 y_0 y_1 y_2 y_3 y_4 y_5
  replace k_z := k_z.drew
  replace k_y := k_y.drew
  replace HB := HB.drew
  replace ht := ht.drewn
  replace ht_z := ht_z.drewn
  replace ht_y := ht_y.drewn
  obtain ⟨z_0, z_1, z_2, z_3, z_4, z_5⟩ := k_z.facts
  obtain ⟨y_0, y_1, y_2, y_3, y_4, y_5⟩ := k_y.facts
  have mk0 : Hid True := trivial
  go_region_held3 (fun w' => w'.cell? ⟨w1.heap.size, 0, none⟩ = some (.bool true) ∧ w'.cell? ⟨w1.heap.size, 1, none⟩ = some (.slice zA zn zc) ∧ w'.cell? ⟨w1.heap.size, 2, none⟩ = some (.slice zB zm zd) ∧ w'.cell? ⟨w4.heap.size, 0, none⟩ = some (.bool y.s) ∧ w'.cell? ⟨w4.heap.size, 1, none⟩ = some (.slice y.A y.n y.c) ∧ w'.cell? ⟨w4.heap.size, 2, none⟩ = some (.slice y.B y.m y.d)) (go_keep)
      (first
      | (go_at_call 18
         have mk1 := mk0
         clear mk0
         refine (dPrint_any F ⟨true, zA, zn, zc, zB, zm, zd⟩ r _ HP.out (zz.out _ _ _ ht_z) ht).mono ?_
         rintro e w5 ⟨rfl, hb⟩
         replace HB := HB.trans (hb.mono HB.size)
         replace k_z := k_z.below hb
         replace k_y := k_y.below hb
         replace ht := ht.below hb
         replace ht_z := ht_z.below hb
         replace ht_y := ht_y.below hb
         clear hb
         clear z_0 z_1 z_2 z_3 z_4 z_5 y_0 y_1 y_2 y_3 y_4 y_5
         obtain ⟨z_0, z_1, z_2, z_3, z_4, z_5⟩ := k_z.facts
         obtain ⟨y_0, y_1, y_2, y_3, y_4, y_5⟩ := k_y.facts)
      | (go_at_call 22
         have mk2 := mk1
         clear mk1
         refine (Fixed_any F ⟨true, zA, zn, zc, zB, zm, zd⟩ r 0 _ HX.out (by omega) (zz.out _ _ _ ht_z) ht).mono ?_
         rintro e w6 ⟨rfl, hb⟩
         replace HB := HB.trans (hb.mono HB.size)
         replace k_z := k_z.below hb
         replace k_y := k_y.below hb
         replace ht := ht.below hb
         replace ht_z := ht_z.below hb
         replace ht_y := ht_y.below hb
         clear hb
         clear z_0 z_1 z_2 z_3 z_4 z_5 y_0 y_1 y_2 y_3 y_4 y_5
         obtain ⟨z_0, z_1, z_2, z_3, z_4, z_5⟩ := k_z.facts
         obtain ⟨y_0, y_1, y_2, y_3, y_4, y_5⟩ := k_y.facts)
      | (go_at_call 13
         have mk3 := mk2
         clear mk2
         refine (one_yes y ⟨true, zA, zn, zc, zB, zm, zd⟩ _ _ _ _ _ ht_y ht_z rfl (zr.out _ _ _ ht_y).1 (zr.out _ _ _ ht_y).2).mono ?_
         rintro e w7 ⟨rfl, hb⟩
         replace HB := HB.trans (hb.mono HB.size)
         replace k_z := k_z.below hb
         replace k_y := k_y.below hb
         replace ht := ht.below hb
         replace ht_z := ht_z.below hb
         replace ht_y := ht_y.below hb
         clear hb
         clear z_0 z_1 z_2 z_3 z_4 z_5 y_0 y_1 y_2 y_3 y_4 y_5
         obtain ⟨z_0, z_1, z_2, z_3, z_4, z_5⟩ := k_z.facts
         obtain ⟨y_0, y_1, y_2, y_3, y_4, y_5⟩ := k_y.facts)
      | (go_at_call 20
         have mk4 := mk3
         clear mk3
         refine (Round_any ⟨true, zA, zn, zc, zB, zm, zd⟩ r 3 _ (by omega) (zz.out _ _ _ ht_z)).mono ?_
         rintro e w8 ⟨x1, rfl, ht_x, hb⟩
         replace HB := HB.trans (hb.mono HB.size)
         replace k_z := k_z.below hb
         replace k_y := k_y.below hb
         replace ht := ht.below hb
         replace ht_z := ht_z.below hb
         replace ht_y := ht_y.below hb
         rw [HR.out] at ht_x
         clear hb
         clear z_0 z_1 z_2 z_3 z_4 z_5 y_0 y_1 y_2 y_3 y_4 y_5
         obtain ⟨z_0, z_1, z_2, z_3, z_4, z_5⟩ := k_z.facts
         obtain ⟨y_0, y_1, y_2, y_3, y_4, y_5⟩ := k_y.facts)
      | (go_at_call 13
         have mk5 := mk4
         clear mk4
         refine (one_yes x1 ⟨true, zA, zn, zc, zB, zm, zd⟩ _ _ _ _ _ ht_x ht_z rfl (zr.out _ _ _ ht_x).1 (zr.out _ _ _ ht_x).2).mono ?_
         rintro e w9 ⟨rfl, hb⟩
         replace HB := HB.trans (hb.mono HB.size)
         replace k_z := k_z.below hb
         replace k_y := k_y.below hb
         replace ht := ht.below hb
         replace ht_z := ht_z.below hb
         replace ht_y := ht_y.below hb
         replace ht_x := ht_x.below hb
         clear hb
         clear z_0 z_1 z_2 z_3 z_4 z_5 y_0 y_1 y_2 y_3 y_4 y_5
         obtain ⟨z_0, z_1, z_2, z_3, z_4, z_5⟩ := k_z.facts
         obtain ⟨y_0, y_1, y_2, y_3, y_4, y_5⟩ := k_y.facts)
      | (go_at_call 14
         have mk6 := mk5
         clear mk5
         refine (known3_any _ ht).mono ?_
         rintro e w10 ⟨rfl, hb⟩
         replace HB := HB.trans (hb.mono HB.size)
         replace k_z := k_z.below hb
         replace k_y := k_y.below hb
         replace ht := ht.below hb
         replace ht_z := ht_z.below hb
         replace ht_y := ht_y.below hb
         replace ht_x := ht_x.below hb
         clear hb
         clear z_0 z_1 z_2 z_3 z_4 z_5 y_0 y_1 y_2 y_3 y_4 y_5
         obtain ⟨z_0, z_1, z_2, z_3, z_4, z_5⟩ := k_z.facts
         obtain ⟨y_0, y_1, y_2, y_3, y_4, y_5⟩ := k_y.facts))
  clear z_0 z_1 z_2 z_3 z_4 z_5 y_0 y_1 y_2 y_3 y_4 y_5
  go_wp2
  go_ret
  exact ⟨rfl, HB⟩

set_option maxRecDepth 100000 in
set_option maxHeartbeats 16000000 in
theorem DecInts_false (A : Option Addr) (n c x : Nat) (l : List Nat) (neg : Bool) (r : Rat) (S F : ByteArray) (w : World) (hx : Hid (val l = x)) (hr : Hid (rn neg x 1 = r)) (hsg : Hid (decide (r.num < 0) = false)) (HS : Hid (S.data.toList = Lib.decDigits x)) (HF : Hid (F.data.toList = sgnd false S.data.toList)) (hn : n ≤ 6) (hc : n ≤ c) (ha : Row w 0 A n l) (ht : Tb w) (hm : Mx w) :
    Calls Tryz.prog 8 #[.slice A n c, .bool neg] w fun e w' => e = .returned (.bool true) ∧ Below w.heap.size w w' := by
  have sz : Sz r 6 := Sz.ofRn hr.out (by have := ha.bd hn; rw [hx.out] at this; exact this) (show 1 < 4294967296 ^ 6 by omega) (by omega)
  have d1 : r.den = 1 := by rw [← hr.out]; exact rn_one.1
  have ab : r.num.natAbs = x := by rw [← hr.out]; exact rn_one.2
  have hF : F.data.toList = sgnd (decide (r.num < 0)) (Lib.decDigits r.num.natAbs) := by rw [HF.out, HS.out, hsg.out, ab]
  have sz16 : Sz r 16 := ⟨sz.num.more (by omega), sz.den.more (by omega)⟩
  have HP : Hid (F.data.toList = dpr r) := by show _ = _; rw [hF, int_dpr d1]
  have HX : Hid (F.data.toList = fxd r (hsc 0)) := by show _ = _; rw [hF]; exact (int_fxd d1).symm
  have HE : Hid (ExW F true r) := int_exW d1 hF
  have TF : Hid (Txt F r) := txt_dpr HP.out sz16
  have HR : Hid (rnd r (hsc 3) = r) := rnd_int d1 _
  have zr : Hid (∀ (z : Rv) (w : World) (lo : Nat), Rt w lo z r → z.n ≤ 100000 ∧ z.m ≤ 100000) := fun z w lo h => h.len sz (by omega)
  have zz : Hid (∀ (z : Rv) (w : World) (lo : Nat), Rt w lo z r → Rw w z r 400) := fun z w lo h => (h.rw sz).more (by omega)
  have sl : S.size ≤ 60 := by
    rw [str_size HS.out]
    have h6 : Bd x 6 := by have := ha.bd hn; rwa [hx.out] at this
    have := dec_len_lim (x := x) (p := 6) (by omega) h6.len
    omega
  have sl2 : ¬ (9223372036854775807 < 1 + S.size) := by omega
  have sl3 : ¬ (1 + S.size > 9223372036854775807) := by omega
  have HFE : Hid (S = F) := by
    show _ = _
    rw [str_of F _ HF.out]; exact str_of S _ rfl
  have hni : (n : Int) ≤ 6 := by omega
  have HB := Below.refl w.heap.size w
  clear hF ab d1 sz16 HF
  go_enter Tryz.func8, Tryz.ntmps8
  go_wp2_with fail
  have hb0 : Below w.heap.size w (w.alloc (.cells #[.int .u32 1] 50)) := (Below.refl _ _).alloc (Nat.le_refl _) _
  replace HB := HB.trans hb0
  have hlit := Row.lit1 w 1 1 rfl (by omega)
  replace ha := ha.below hb0
  replace ht := ht.below hb0
  replace hm := hm.below hb0
  clear hb0
  refine (rOf_n neg A _ n 1 c 1 x 1 l [1] r _ hx.out (val_one 1) (by omega) (by omega) hc (Nat.le_refl _) ha hlit hr.out).mono ?_
  rintro e w1 ⟨⟨zs, zA, zn, zc, zB, zm, zd⟩, rfl, ht_z, hb⟩
  have hs := ht_z.sign
  rw [hsg.out] at hs
  have hs' : zs = false := hs
  subst hs'
  replace HB := HB.trans (hb.mono HB.size)
  replace ha := ha.below hb
  replace ht := ht.below hb
  replace hm := hm.below hb
  clear hb hs hlit
  dsimp only
  have k_z := C3.new w1 (.bool false) (.slice zA zn zc) (.slice zB zm zd)
  have hbn := (Below.refl w1.heap.size w1).alloc (Nat.le_refl _) (.cells #[.bool false, .slice zA zn zc, .slice zB zm zd] 24)
  replace HB := HB.trans (hbn.mono HB.size)
  replace ha := ha.below hbn
  replace ht := ht.below hbn
  replace hm := hm.below hbn
  replace ht_z := ht_z.below hbn
  clear hbn
  obtain ⟨z_0, z_1, z_2, z_3, z_4, z_5⟩ := k_z.facts
  go_wp2_with fail
  generalize hWx : w1.alloc (.cells #[.bool false, .slice zA zn zc, .slice zB zm zd] 24) = Wg1 at *
  clear hWx
  refine (rPrint_s S A n c x l _ HS.out hx.out (by omega) hc ha).mono ?_
  rintro e w2 ⟨rfl, hb⟩
  replace HB := HB.trans (hb.mono HB.size)
  replace k_z := k_z.below hb
  replace ha := ha.below hb
  replace ht := ht.below hb
  replace hm := hm.below hb
  replace ht_z := ht_z.below hb
  clear hb
  clear ha
  clear z_0 z_1 z_2 z_3 z_4 z_5
  obtain ⟨z_0, z_1, z_2, z_3, z_4, z_5⟩ := k_z.facts
  have hF := HFE.out
  go_wp2_with fail
  subst hF
  refine (dExact_v S true ⟨false, zA, zn, zc, zB, zm, zd⟩ r _ HE.out (zz.out _ _ _ ht_z) ht).mono ?_
  rintro e w3 ⟨rfl, hb⟩
  replace HB := HB.trans (hb.mono HB.size)
  replace k_z := k_z.below hb
  replace ht := ht.below hb
  replace hm := hm.below hb
  replace ht_z := ht_z.below hb
  clear hb
  clear z_0 z_1 z_2 z_3 z_4 z_5
  obtain ⟨z_0, z_1, z_2, z_3, z_4, z_5⟩ := k_z.facts
  go_wp2_with fail
  refine (dParse_v S r _ TF.out hm).mono ?_
  rintro e w4 ⟨y, rfl, ht_y, hb⟩
  replace HB := HB.trans (hb.mono HB.size)
  replace k_z := k_z.below hb
  replace ht := ht.below hb
  replace hm := hm.below hb
  replace ht_z := ht_z.below hb
  clear hb
  clear z_0 z_1 z_2 z_3 z_4 z_5
  obtain ⟨z_0, z_1, z_2, z_3, z_4, z_5⟩ := k_z.facts
  have k_y := C3.new w4 (.bool y.s) (.slice y.A y.n y.c) (.slice y.B y.m y.d)
  have hbn := (Below.refl w4.heap.size w4).alloc (Nat.le_refl _) (.cells #[.bool y.s, .slice y.A y.n y.c, .slice y.B y.m y.d] 24)
  replace HB := HB.trans (hbn.mono HB.size)
  replace k_z := k_z.below hbn
  replace ht := ht.below hbn
  replace hm := hm.below hbn
  replace ht_z := ht_z.below hbn
  replace ht_y := ht_y.below hbn
  clear hbn z_0 z_1 z_2 z_3 z_4 z_5
  obtain ⟨z_0, z_1, z_2, z_3, z_4, z_5⟩ := k_z.facts
  obtain ⟨y_0, y_1, y_2, y_3, y_4, y_5⟩ := k_y.facts
  go_wp2_with fail
  generalize hWx : w4.alloc (.cells #[.bool y.s, .slice y.A y.n y.c, .slice y.B y.m y.d] 24) = Wg4 at *
  clear hWx
  clear hm
  clear z_0 z_1 z_2 z_3 z_4 z_5 y_0 y_1 y_2 y_3 y_4 y_5
  replace k_z := k_z.drew
  replace k_y := k_y.drew
  replace HB := HB.drew
  replace ht := ht.drewn
  replace ht_z := ht_z.drewn
  replace ht_y := ht_y.drewn
  obtain ⟨z_0, z_1, z_2, z_3, z_4, z_5⟩ := k_z.facts
  obtain ⟨y_0, y_1, y_2, y_3, y_4, y_5⟩ := k_y.facts
  have mk0 : Hid True := trivial
  go_region_held3 (fun w' => w'.cell? ⟨w1.heap.size, 0, none⟩ = some (.bool false) ∧ w'.cell? ⟨w1.heap.size, 1, none⟩ = some (.slice zA zn zc) ∧ w'.cell? ⟨w1.heap.size, 2, none⟩ = some (.slice zB zm zd) ∧ w'.cell? ⟨w4.heap.size, 0, none⟩ = some (.bool y.s) ∧ w'.cell? ⟨w4.heap.size, 1, none⟩ = some (.slice y.A y.n y.c) ∧ w'.cell? ⟨w4.heap.size, 2, none⟩ = some (.slice y.B y.m y.d)) (go_keep)
      (first
      | (go_at_call 18
         have mk1 := mk0
         clear mk0
         refine (dPrint_any S ⟨false, zA, zn, zc, zB, zm, zd⟩ r _ HP.out (zz.out _ _ _ ht_z) ht).mono ?_
         rintro e w5 ⟨rfl, hb⟩
         replace HB := HB.trans (hb.mono HB.size)
         replace k_z := k_z.below hb
         replace k_y := k_y.below hb
         replace ht := ht.below hb
         replace ht_z := ht_z.below hb
         replace ht_y := ht_y.below hb
         clear hb
         clear z_0 z_1 z_2 z_3 z_4 z_5 y_0 y_1 y_2 y_3 y_4 y_5
         obtain ⟨z_0, z_1, z_2, z_3, z_4, z_5⟩ := k_z.facts
         obtain ⟨y_0, y_1, y_2, y_3, y_4, y_5⟩ := k_y.facts)
      | (go_at_call 22
         have mk2 := mk1
         clear mk1
         refine (Fixed_any S ⟨false, zA, zn, zc, zB, zm, zd⟩ r 0 _ HX.out (by omega) (zz.out _ _ _ ht_z) ht).mono ?_
         rintro e w6 ⟨rfl, hb⟩
         replace HB := HB.trans (hb.mono HB.size)
         replace k_z := k_z.below hb
         replace k_y := k_y.below hb
         replace ht := ht.below hb
         replace ht_z := ht_z.below hb
         replace ht_y := ht_y.below hb
         clear hb
         clear z_0 z_1 z_2 z_3 z_4 z_5 y_0 y_1 y_2 y_3 y_4 y_5
         obtain ⟨z_0, z_1, z_2, z_3, z_4, z_5⟩ := k_z.facts
         obtain ⟨y_0, y_1, y_2, y_3, y_4, y_5⟩ := k_y.facts)
      | (go_at_call 13
         have mk3 := mk2
         clear mk2
         refine (one_yes y ⟨false, zA, zn, zc, zB, zm, zd⟩ _ _ _ _ _ ht_y ht_z rfl (zr.out _ _ _ ht_y).1 (zr.out _ _ _ ht_y).2).mono ?_
         rintro e w7 ⟨rfl, hb⟩
         replace HB := HB.trans (hb.mono HB.size)
         replace k_z := k_z.below hb
         replace k_y := k_y.below hb
         replace ht := ht.below hb
         replace ht_z := ht_z.below hb
         replace ht_y := ht_y.below hb
         clear hb
         clear z_0 z_1 z_2 z_3 z_4 z_5 y_0 y_1 y_2 y_3 y_4 y_5
         obtain ⟨z_0, z_1, z_2, z_3, z_4, z_5⟩ := k_z.facts
         obtain ⟨y_0, y_1, y_2, y_3, y_4, y_5⟩ := k_y.facts)
      | (go_at_call 20
         have mk4 := mk3
         clear mk3
         refine (Round_any ⟨false, zA, zn, zc, zB, zm, zd⟩ r 3 _ (by omega) (zz.out _ _ _ ht_z)).mono ?_
         rintro e w8 ⟨x1, rfl, ht_x, hb⟩
         replace HB := HB.trans (hb.mono HB.size)
         replace k_z := k_z.below hb
         replace k_y := k_y.below hb
         replace ht := ht.below hb
         replace ht_z := ht_z.below hb
         replace ht_y := ht_y.below hb
         rw [HR.out] at ht_x
         clear hb
         clear z_0 z_1 z_2 z_3 z_4 z_5 y_0 y_1 y_2 y_3 y_4 y_5
         obtain ⟨z_0, z_1, z_2, z_3, z_4, z_5⟩ := k_z.facts
         obtain ⟨y_0, y_1, y_2, y_3, y_4, y_5⟩ := k_y.facts)
      | (go_at_call 13
         have mk5 := mk4
         clear mk4
         refine (one_yes x1 ⟨false, zA, zn, zc, zB, zm, zd⟩ _ _ _ _ _ ht_x ht_z rfl (zr.out _ _ _ ht_x).1 (zr.out _ _ _ ht_x).2).mono ?_
         rintro e w9 ⟨rfl, hb⟩
         replace HB := HB.trans (hb.mono HB.size)
         replace k_z := k_z.below hb
         replace k_y := k_y.below hb
         replace ht := ht.below hb
         replace ht_z := ht_z.below hb
         replace ht_y := ht_y.below hb
         replace ht_x := ht_x.below hb
         clear hb
         clear z_0 z_1 z_2 z_3 z_4 z_5 y_0 y_1 y_2 y_3 y_4 y_5
         obtain ⟨z_0, z_1, z_2, z_3, z_4, z_5⟩ := k_z.facts
         obtain ⟨y_0, y_1, y_2, y_3, y_4, y_5⟩ := k_y.facts)
      | (go_at_call 14
         have mk6 := mk5
         clear mk5
         refine (known3_any _ ht).mono ?_
         rintro e w10 ⟨rfl, hb⟩
         replace HB := HB.trans (hb.mono HB.size)
         replace k_z := k_z.below hb
         replace k_y := k_y.below hb
         replace ht := ht.below hb
         replace ht_z := ht_z.below hb
         replace ht_y := ht_y.below hb
         replace ht_x := ht_x.below hb
         clear hb
         clear z_0 z_1 z_2 z_3 z_4 z_5 y_0 y_1 y_2 y_3 y_4 y_5
         obtain ⟨z_0, z_1, z_2, z_3, z_4, z_5⟩ := k_z.facts
         obtain ⟨y_0, y_1, y_2, y_3, y_4, y_5⟩ := k_y.facts))
  clear z_0 z_1 z_2 z_3 z_4 z_5 y_0 y_1 y_2 y_3 y_4 y_5
  go_wp2
  go_ret
  exact ⟨rfl, HB⟩

theorem DecInts_any (A : Option Addr) (n c : Nat) (l : List Nat) (neg : Bool) (w : World) (hc : n ≤ c) (ha : Row w 0 A n l) (ht : Tb w) (hm : Mx w) :
    Calls Tryz.prog 8 #[.slice A n c, .bool neg] w fun e w' => e = .returned (.bool true) ∧ Below w.heap.size w w' := by
  by_cases h : 6 < n
  · exact DecInts_many A n c neg w h
  · obtain ⟨sb, hsb⟩ : ∃ sb, decide ((rn neg (val l) 1).num < 0) = sb := ⟨_, rfl⟩
    obtain ⟨S, hS⟩ := str_data (Lib.decDigits (val l))
    obtain ⟨F, hF⟩ := str_data (sgnd sb S.data.toList)
    cases sb with
    | true => exact DecInts_true A n c _ l neg _ S F w rfl rfl hsb hS hF (by omega) hc ha ht hm
    | false => exact DecInts_false A n c _ l neg _ S F w rfl rfl hsb hS hF (by omega) hc ha ht hm
end Go.Proofs.YtcmomoalohibiaaGreatDoor
