/-
  The document's rationals: a whole number.
-/
import Derived.Test.YtffnjdfmaebmhaaGreatDoorRef1
import Derived.Test.YtffnjdfmaebmhaaGreatDoorTo
namespace Go.Proofs.YtffnjdfmaebmhaaGreatDoor
set_option maxRecDepth 20000
open Go.RowKit

theorem one_row (w : World) (lo : Nat) (h : lo ≤ w.heap.size) : Row (w.alloc (.cells #[.int .u32 1] 74)) lo (some ⟨w.heap.size, 0, none⟩) 1 [1] := Row.one rfl (by omega) h

set_option maxHeartbeats 1600000 in
theorem rInt_true (x : Nat) (i : Int) (w : World) (hi : -9223372036854775808 ≤ i ∧ i ≤ 9223372036854775807) (hx : i = -(x : Int)) (h : i < 0) :
    Calls Tryz.prog 21 #[.int .i64 i] w fun e w' => ∃ z : Rv, e = .returned (.agg #[.bool z.s, .slice z.A z.n z.c, .slice z.B z.m z.d]) ∧ Rt w' w.heap.size z (i : Rat) ∧ Below w.heap.size w w' := by
  have hw : IntKind.u64.wrap (-IntKind.u64.wrap (-(x : Int))) = (x : Int) := by
    have e64 : ∀ n : Int, IntKind.u64.wrap n = n % 18446744073709551616 := fun _ => rfl
    rw [e64, e64]; omega
  have u_ := h
  clear u_
  have hri : rn true x 1 = (i : Rat) := rn_int_eq _ _ _ (by simp [hx])
  have HR := Lib.hid hri
  clear hri
  have hl1 : (lim x).length ≤ 2 := lim_len_lt (by omega)
  go_enter Tryz.func21, Tryz.ntmps21
  go_wp2_with fail
  refine (rOf_any x _ (by omega)).mono ?_
  rintro e w1 ⟨A, c, rfl, ho, hb1⟩
  have hr1 := ho.row.lower (Nat.zero_le _)
  have hc1 := ho.capLe
  have k := (C3.new w (.bool false) (.slice none 0 0) (.slice none 0 0)).at hb1 (by simp)
  have hk1 := k.lt
  have HB := (((Below.refl w.heap.size w).alloc (Nat.le_refl _) (.cells #[.bool false, .slice none 0 0, .slice none 0 0] 25)).trans (hb1.mono (by simp)))
  clear ho hb1
  go_wp2_with fail
  have hr2 := one_row w1 0 (Nat.zero_le _)
  have hbn := (Below.refl w1.heap.size w1).alloc (Nat.le_refl _) (.cells #[.int .u32 1] 74)
  replace hr1 := hr1.below hbn
  replace k := k.below hbn
  replace HB := HB.trans (hbn.mono HB.size)
  refine (rOf_n true A _ _ 1 c 1 x 1 _ [1] (i : Rat) _ (val_lim _) rfl (by omega) (by omega) hc1 (Nat.le_refl _) hr1 hr2 HR.out).mono ?_
  rintro e w3 ⟨u, rfl, hu, hb3⟩
  have hs3 : w1.heap.size + 1 ≤ w3.heap.size := by have := hb3.size; simpa using this
  have hsz : w.heap.size < (w1.alloc (.cells #[.int .u32 1] 74)).heap.size := k.lt
  replace k := k.below hb3
  replace HB := HB.trans (hb3.mono HB.size)
  obtain ⟨q0, q1, q2, g0, g1, g2⟩ := k.facts
  clear hb3 hr1 hr2 hbn
  go_wp2
  refine ret3 (fn := Tryz.f21) Tryz.results21 rfl rfl k ?_
  exact ⟨u, rfl, (hu.put hsz _ _ _).lower (Nat.le_of_lt hsz), HB.trans (put3_below (Nat.le_refl _) _ _ _)⟩

set_option maxHeartbeats 1600000 in
theorem rInt_false (x : Nat) (i : Int) (w : World) (hi : -9223372036854775808 ≤ i ∧ i ≤ 9223372036854775807) (hx : i = (x : Int)) (h : ¬ i < 0) :
    Calls Tryz.prog 21 #[.int .i64 i] w fun e w' => ∃ z : Rv, e = .returned (.agg #[.bool z.s, .slice z.A z.n z.c, .slice z.B z.m z.d]) ∧ Rt w' w.heap.size z (i : Rat) ∧ Below w.heap.size w w' := by
  have u_ := h
  clear u_
  have hri : rn false x 1 = (i : Rat) := rn_int_eq _ _ _ (by simp [hx])
  have HR := Lib.hid hri
  clear hri
  have hl1 : (lim x).length ≤ 2 := lim_len_lt (by omega)
  go_enter Tryz.func21, Tryz.ntmps21
  go_wp2_with fail
  refine (rOf_any x _ (by omega)).mono ?_
  rintro e w1 ⟨A, c, rfl, ho, hb1⟩
  have hr1 := ho.row.lower (Nat.zero_le _)
  have hc1 := ho.capLe
  have k := (C3.new w (.bool false) (.slice none 0 0) (.slice none 0 0)).at hb1 (by simp)
  have hk1 := k.lt
  have HB := (((Below.refl w.heap.size w).alloc (Nat.le_refl _) (.cells #[.bool false, .slice none 0 0, .slice none 0 0] 25)).trans (hb1.mono (by simp)))
  clear ho hb1
  go_wp2_with fail
  have hr2 := one_row w1 0 (Nat.zero_le _)
  have hbn := (Below.refl w1.heap.size w1).alloc (Nat.le_refl _) (.cells #[.int .u32 1] 74)
  replace hr1 := hr1.below hbn
  replace k := k.below hbn
  replace HB := HB.trans (hbn.mono HB.size)
  refine (rOf_n false A _ _ 1 c 1 x 1 _ [1] (i : Rat) _ (val_lim _) rfl (by omega) (by omega) hc1 (Nat.le_refl _) hr1 hr2 HR.out).mono ?_
  rintro e w3 ⟨u, rfl, hu, hb3⟩
  have hs3 : w1.heap.size + 1 ≤ w3.heap.size := by have := hb3.size; simpa using this
  have hsz : w.heap.size < (w1.alloc (.cells #[.int .u32 1] 74)).heap.size := k.lt
  replace k := k.below hb3
  replace HB := HB.trans (hb3.mono HB.size)
  obtain ⟨q0, q1, q2, g0, g1, g2⟩ := k.facts
  clear hb3 hr1 hr2 hbn
  go_wp2
  refine ret3 (fn := Tryz.f21) Tryz.results21 rfl rfl k ?_
  exact ⟨u, rfl, (hu.put hsz _ _ _).lower (Nat.le_of_lt hsz), HB.trans (put3_below (Nat.le_refl _) _ _ _)⟩

theorem rInt_c (i : Int) (w : World) (hi : -9223372036854775808 ≤ i ∧ i ≤ 9223372036854775807) :
    Calls Tryz.prog 21 #[.int .i64 i] w fun e w' => ∃ z : Rv, e = .returned (.agg #[.bool z.s, .slice z.A z.n z.c, .slice z.B z.m z.d]) ∧ Rt w' w.heap.size z (i : Rat) ∧ Below w.heap.size w w' := by
  by_cases h : i < 0
  · exact rInt_true i.natAbs i w hi (by omega) h
  · exact rInt_false i.natAbs i w hi (by omega) h

end Go.Proofs.YtffnjdfmaebmhaaGreatDoor
