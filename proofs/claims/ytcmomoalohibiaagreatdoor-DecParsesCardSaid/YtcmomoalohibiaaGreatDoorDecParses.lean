/-
  DecParses: the walk of the law.
-/
import Derived.Test.YtcmomoalohibiaaGreatDoorDecP4
import Derived.Test.YtcmomoalohibiaaGreatDoorRefS
namespace Go.Proofs.YtcmomoalohibiaaGreatDoor
set_option maxRecDepth 20000
open Go.RowKit

set_option maxRecDepth 100000 in
set_option maxHeartbeats 1000000 in
theorem DecParses_many (S : ByteArray) (w : World) (h : 500 < S.size) :
    Calls Tryz.prog 3 #[.string S] w fun e w' => e = .returned (.bool true) ∧ Below w.heap.size w w' := by
  have hi : (500 : Int) < (S.size : Int) := by omega
  go_enter Tryz.func3, Tryz.ntmps3
  go_wp2
  go_ret
  exact ⟨rfl, Below.refl _ _⟩

set_option maxRecDepth 100000 in
set_option maxHeartbeats 8000000 in
theorem DecParses_num (S : ByteArray) (r : Rat) (w : World) (hT : Hid (Txt S r)) (h : S.size ≤ 500) (ht : Tb w) (hm : Mx w) :
    Calls Tryz.prog 3 #[.string S] w fun e w' => e = .returned (.bool true) ∧ Below w.heap.size w w' := by
  have hi : (S.size : Int) ≤ 500 := by omega
  have sz := hT.out.sz
  have zr : Hid (∀ (z : Rv) (w : World) (lo : Nat), Rt w lo z r → z.n ≤ 100000 ∧ z.m ≤ 100000) := fun z w lo h => h.len sz (by omega)
  have zz : Hid (∀ (z : Rv) (w : World) (lo : Nat), Rt w lo z r → Rw w z r 60) := fun z w lo h => (h.rw sz).more (by omega)
  have HB := Below.refl w.heap.size w
  clear sz
  go_enter Tryz.func3, Tryz.ntmps3
  go_wp2_with fail
  refine (dParse_v S r _ hT.out hm).mono ?_
  rintro e w1 ⟨x, rfl, ht_x, hb⟩
  replace HB := HB.trans (hb.mono HB.size)
  replace ht := ht.below hb
  replace hm := hm.below hb
  clear hb
  have k_x := C3.new w1 (.bool x.s) (.slice x.A x.n x.c) (.slice x.B x.m x.d)
  have hbn := (Below.refl w1.heap.size w1).alloc (Nat.le_refl _) (.cells #[.bool x.s, .slice x.A x.n x.c, .slice x.B x.m x.d] 24)
  replace HB := HB.trans (hbn.mono HB.size)
  replace ht := ht.below hbn
  replace hm := hm.below hbn
  replace ht_x := ht_x.below hbn
  clear hbn
  obtain ⟨x_0, x_1, x_2, x_3, x_4, x_5⟩ := k_x.facts
  go_wp2_with fail
  generalize hWx : w1.alloc (.cells #[.bool x.s, .slice x.A x.n x.c, .slice x.B x.m x.d] 24) = Wg1 at *
  clear hWx
  refine (rfParse_v S r _ hT.out).mono ?_
  rintro e w2 ⟨y, rfl, ht_y, hb⟩
  replace HB := HB.trans (hb.mono HB.size)
  replace k_x := k_x.below hb
  replace ht := ht.below hb
  replace hm := hm.below hb
  replace ht_x := ht_x.below hb
  clear hb
  clear x_0 x_1 x_2 x_3 x_4 x_5
  obtain ⟨x_0, x_1, x_2, x_3, x_4, x_5⟩ := k_x.facts
  have k_y := C3.new w2 (.bool y.s) (.slice y.A y.n y.c) (.slice y.B y.m y.d)
  have hbn := (Below.refl w2.heap.size w2).alloc (Nat.le_refl _) (.cells #[.bool y.s, .slice y.A y.n y.c, .slice y.B y.m y.d] 24)
  replace HB := HB.trans (hbn.mono HB.size)
  replace k_x := k_x.below hbn
  replace ht := ht.below hbn
  replace hm := hm.below hbn
  replace ht_x := ht_x.below hbn
  replace ht_y := ht_y.below hbn
  clear hbn x_0 x_1 x_2 x_3 x_4 x_5
  obtain ⟨x_0, x_1, x_2, x_3, x_4, x_5⟩ := k_x.facts
  obtain ⟨y_0, y_1, y_2, y_3, y_4, y_5⟩ := k_y.facts
  go_wp2_with fail
  generalize hWx : w2.alloc (.cells #[.bool y.s, .slice y.A y.n y.c, .slice y.B y.m y.d] 24) = Wg2 at *
  clear hWx
  refine (rSame_v x y r r true _ (zz.out _ _ _ ht_x) (zz.out _ _ _ ht_y) (decide_eq_true rfl)).mono ?_
  rintro e w3 ⟨rfl, hb⟩
  replace HB := HB.trans (hb.mono HB.size)
  replace k_x := k_x.below hb
  replace k_y := k_y.below hb
  replace ht := ht.below hb
  replace hm := hm.below hb
  replace ht_x := ht_x.below hb
  replace ht_y := ht_y.below hb
  clear hb
  clear x_0 x_1 x_2 x_3 x_4 x_5 y_0 y_1 y_2 y_3 y_4 y_5
  obtain ⟨x_0, x_1, x_2, x_3, x_4, x_5⟩ := k_x.facts
  obtain ⟨y_0, y_1, y_2, y_3, y_4, y_5⟩ := k_y.facts
  go_wp2_with fail
  refine (one_yes x y _ _ _ _ _ ht_x ht_y rfl (zr.out _ _ _ ht_x).1 (zr.out _ _ _ ht_x).2).mono ?_
  rintro e w4 ⟨rfl, hb⟩
  replace HB := HB.trans (hb.mono HB.size)
  replace k_x := k_x.below hb
  replace k_y := k_y.below hb
  replace ht := ht.below hb
  replace hm := hm.below hb
  replace ht_x := ht_x.below hb
  replace ht_y := ht_y.below hb
  clear hb
  clear x_0 x_1 x_2 x_3 x_4 x_5 y_0 y_1 y_2 y_3 y_4 y_5
  obtain ⟨x_0, x_1, x_2, x_3, x_4, x_5⟩ := k_x.facts
  obtain ⟨y_0, y_1, y_2, y_3, y_4, y_5⟩ := k_y.facts
  go_wp2_with fail
  refine (known3_any _ ht).mono ?_
  rintro e w5 ⟨rfl, hb⟩
  replace HB := HB.trans (hb.mono HB.size)
  replace k_x := k_x.below hb
  replace k_y := k_y.below hb
  replace ht := ht.below hb
  replace hm := hm.below hb
  replace ht_x := ht_x.below hb
  replace ht_y := ht_y.below hb
  clear hb
  clear x_0 x_1 x_2 x_3 x_4 x_5 y_0 y_1 y_2 y_3 y_4 y_5
  obtain ⟨x_0, x_1, x_2, x_3, x_4, x_5⟩ := k_x.facts
  obtain ⟨y_0, y_1, y_2, y_3, y_4, y_5⟩ := k_y.facts
  clear x_0 x_1 x_2 x_3 x_4 x_5 y_0 y_1 y_2 y_3 y_4 y_5
  go_wp2
  go_ret
  exact ⟨rfl, HB⟩

set_option maxRecDepth 100000 in
set_option maxHeartbeats 8000000 in
theorem DecParses_bad2 (S : ByteArray) (w : World) (hT : Hid (Bad S 2)) (h : S.size ≤ 500) (ht : Tb w) (hm : Mx w) :
    Calls Tryz.prog 3 #[.string S] w fun e w' => e = .returned (.bool true) ∧ Below w.heap.size w w' := by
  have hi : (S.size : Int) ≤ 500 := by omega
  have zz : Hid (∀ (z : Rv) (w : World) (lo : Nat), Rt w lo z 0 → Rw w z 0 60) := fun z w lo h => (h.rw (p := 1) ⟨show (0 : Rat).num.natAbs < 4294967296 ^ 1 by decide, show (0 : Rat).den < 4294967296 ^ 1 by decide⟩).more (by omega)
  have HB := Below.refl w.heap.size w
  go_enter Tryz.func3, Tryz.ntmps3
  go_wp2_with fail
  refine (dParse_bad S 2 _ hT.out hm).mono ?_
  rintro e w1 ⟨rfl, hb⟩
  replace HB := HB.trans (hb.mono HB.size)
  replace ht := ht.below hb
  replace hm := hm.below hb
  clear hb
  have k_x := C3.new w1 (.bool false) (.slice none 0 0) (.slice none 0 0)
  have hbn := (Below.refl w1.heap.size w1).alloc (Nat.le_refl _) (.cells #[.bool false, .slice none 0 0, .slice none 0 0] 24)
  replace HB := HB.trans (hbn.mono HB.size)
  replace ht := ht.below hbn
  replace hm := hm.below hbn
  clear hbn
  obtain ⟨x_0, x_1, x_2, x_3, x_4, x_5⟩ := k_x.facts
  go_wp2_with fail
  generalize hWx : w1.alloc (.cells #[.bool false, .slice none 0 0, .slice none 0 0] 24) = Wg1 at *
  clear hWx
  refine (rfParse_bad S 2 _ hT.out).mono ?_
  rintro e w2 ⟨y, rfl, ht_y, hb⟩
  replace HB := HB.trans (hb.mono HB.size)
  replace k_x := k_x.below hb
  replace ht := ht.below hb
  replace hm := hm.below hb
  clear hb
  clear x_0 x_1 x_2 x_3 x_4 x_5
  obtain ⟨x_0, x_1, x_2, x_3, x_4, x_5⟩ := k_x.facts
  have k_y := C3.new w2 (.bool y.s) (.slice y.A y.n y.c) (.slice y.B y.m y.d)
  have hbn := (Below.refl w2.heap.size w2).alloc (Nat.le_refl _) (.cells #[.bool y.s, .slice y.A y.n y.c, .slice y.B y.m y.d] 24)
  replace HB := HB.trans (hbn.mono HB.size)
  replace k_x := k_x.below hbn
  replace ht := ht.below hbn
  replace hm := hm.below hbn
  replace ht_y := ht_y.below hbn
  clear hbn x_0 x_1 x_2 x_3 x_4 x_5
  obtain ⟨x_0, x_1, x_2, x_3, x_4, x_5⟩ := k_x.facts
  obtain ⟨y_0, y_1, y_2, y_3, y_4, y_5⟩ := k_y.facts
  go_wp2_with fail
  generalize hWx : w2.alloc (.cells #[.bool y.s, .slice y.A y.n y.c, .slice y.B y.m y.d] 24) = Wg2 at *
  clear hWx
  refine (rSame_v ⟨false, none, 0, 0, none, 0, 0⟩ y 0 0 true _ ((Rw.zero _).more (by omega)) (zz.out _ _ _ ht_y) (decide_eq_true rfl)).mono ?_
  rintro e w3 ⟨rfl, hb⟩
  replace HB := HB.trans (hb.mono HB.size)
  replace k_x := k_x.below hb
  replace k_y := k_y.below hb
  replace ht := ht.below hb
  replace hm := hm.below hb
  replace ht_y := ht_y.below hb
  clear hb
  clear x_0 x_1 x_2 x_3 x_4 x_5 y_0 y_1 y_2 y_3 y_4 y_5
  obtain ⟨x_0, x_1, x_2, x_3, x_4, x_5⟩ := k_x.facts
  obtain ⟨y_0, y_1, y_2, y_3, y_4, y_5⟩ := k_y.facts
  go_wp2_with fail
  refine (known3_any _ ht).mono ?_
  rintro e w4 ⟨rfl, hb⟩
  replace HB := HB.trans (hb.mono HB.size)
  replace k_x := k_x.below hb
  replace k_y := k_y.below hb
  replace ht := ht.below hb
  replace hm := hm.below hb
  replace ht_y := ht_y.below hb
  clear hb
  clear x_0 x_1 x_2 x_3 x_4 x_5 y_0 y_1 y_2 y_3 y_4 y_5
  obtain ⟨x_0, x_1, x_2, x_3, x_4, x_5⟩ := k_x.facts
  obtain ⟨y_0, y_1, y_2, y_3, y_4, y_5⟩ := k_y.facts
  clear x_0 x_1 x_2 x_3 x_4 x_5 y_0 y_1 y_2 y_3 y_4 y_5
  go_wp2
  go_ret
  exact ⟨rfl, HB⟩

set_option maxRecDepth 100000 in
set_option maxHeartbeats 8000000 in
theorem DecParses_bad3 (S : ByteArray) (w : World) (hT : Hid (Bad S 3)) (h : S.size ≤ 500) (ht : Tb w) (hm : Mx w) :
    Calls Tryz.prog 3 #[.string S] w fun e w' => e = .returned (.bool true) ∧ Below w.heap.size w w' := by
  have hi : (S.size : Int) ≤ 500 := by omega
  have zz : Hid (∀ (z : Rv) (w : World) (lo : Nat), Rt w lo z 0 → Rw w z 0 60) := fun z w lo h => (h.rw (p := 1) ⟨show (0 : Rat).num.natAbs < 4294967296 ^ 1 by decide, show (0 : Rat).den < 4294967296 ^ 1 by decide⟩).more (by omega)
  have HB := Below.refl w.heap.size w
  go_enter Tryz.func3, Tryz.ntmps3
  go_wp2_with fail
  refine (dParse_bad S 3 _ hT.out hm).mono ?_
  rintro e w1 ⟨rfl, hb⟩
  replace HB := HB.trans (hb.mono HB.size)
  replace ht := ht.below hb
  replace hm := hm.below hb
  clear hb
  have k_x := C3.new w1 (.bool false) (.slice none 0 0) (.slice none 0 0)
  have hbn := (Below.refl w1.heap.size w1).alloc (Nat.le_refl _) (.cells #[.bool false, .slice none 0 0, .slice none 0 0] 24)
  replace HB := HB.trans (hbn.mono HB.size)
  replace ht := ht.below hbn
  replace hm := hm.below hbn
  clear hbn
  obtain ⟨x_0, x_1, x_2, x_3, x_4, x_5⟩ := k_x.facts
  go_wp2_with fail
  generalize hWx : w1.alloc (.cells #[.bool false, .slice none 0 0, .slice none 0 0] 24) = Wg1 at *
  clear hWx
  refine (rfParse_bad S 3 _ hT.out).mono ?_
  rintro e w2 ⟨y, rfl, ht_y, hb⟩
  replace HB := HB.trans (hb.mono HB.size)
  replace k_x := k_x.below hb
  replace ht := ht.below hb
  replace hm := hm.below hb
  clear hb
  clear x_0 x_1 x_2 x_3 x_4 x_5
  obtain ⟨x_0, x_1, x_2, x_3, x_4, x_5⟩ := k_x.facts
  have k_y := C3.new w2 (.bool y.s) (.slice y.A y.n y.c) (.slice y.B y.m y.d)
  have hbn := (Below.refl w2.heap.size w2).alloc (Nat.le_refl _) (.cells #[.bool y.s, .slice y.A y.n y.c, .slice y.B y.m y.d] 24)
  replace HB := HB.trans (hbn.mono HB.size)
  replace k_x := k_x.below hbn
  replace ht := ht.below hbn
  replace hm := hm.below hbn
  replace ht_y := ht_y.below hbn
  clear hbn x_0 x_1 x_2 x_3 x_4 x_5
  obtain ⟨x_0, x_1, x_2, x_3, x_4, x_5⟩ := k_x.facts
  obtain ⟨y_0, y_1, y_2, y_3, y_4, y_5⟩ := k_y.facts
  go_wp2_with fail
  generalize hWx : w2.alloc (.cells #[.bool y.s, .slice y.A y.n y.c, .slice y.B y.m y.d] 24) = Wg2 at *
  clear hWx
  refine (rSame_v ⟨false, none, 0, 0, none, 0, 0⟩ y 0 0 true _ ((Rw.zero _).more (by omega)) (zz.out _ _ _ ht_y) (decide_eq_true rfl)).mono ?_
  rintro e w3 ⟨rfl, hb⟩
  replace HB := HB.trans (hb.mono HB.size)
  replace k_x := k_x.below hb
  replace k_y := k_y.below hb
  replace ht := ht.below hb
  replace hm := hm.below hb
  replace ht_y := ht_y.below hb
  clear hb
  clear x_0 x_1 x_2 x_3 x_4 x_5 y_0 y_1 y_2 y_3 y_4 y_5
  obtain ⟨x_0, x_1, x_2, x_3, x_4, x_5⟩ := k_x.facts
  obtain ⟨y_0, y_1, y_2, y_3, y_4, y_5⟩ := k_y.facts
  go_wp2_with fail
  refine (known3_any _ ht).mono ?_
  rintro e w4 ⟨rfl, hb⟩
  replace HB := HB.trans (hb.mono HB.size)
  replace k_x := k_x.below hb
  replace k_y := k_y.below hb
  replace ht := ht.below hb
  replace hm := hm.below hb
  replace ht_y := ht_y.below hb
  clear hb
  clear x_0 x_1 x_2 x_3 x_4 x_5 y_0 y_1 y_2 y_3 y_4 y_5
  obtain ⟨x_0, x_1, x_2, x_3, x_4, x_5⟩ := k_x.facts
  obtain ⟨y_0, y_1, y_2, y_3, y_4, y_5⟩ := k_y.facts
  clear x_0 x_1 x_2 x_3 x_4 x_5 y_0 y_1 y_2 y_3 y_4 y_5
  go_wp2
  go_ret
  exact ⟨rfl, HB⟩

theorem DecParses_any (S : ByteArray) (w : World) (ht : Tb w) (hm : Mx w) :
    Calls Tryz.prog 3 #[.string S] w fun e w' => e = .returned (.bool true) ∧ Below w.heap.size w w' := by
  by_cases h : 500 < S.size
  · exact DecParses_many S w h
  · rcases txt_or S (by omega) with ⟨r, hT⟩ | hT | hT
    · exact DecParses_num S r w hT (by omega) ht hm
    · exact DecParses_bad2 S w hT (by omega) ht hm
    · exact DecParses_bad3 S w hT (by omega) ht hm
end Go.Proofs.YtcmomoalohibiaaGreatDoor
