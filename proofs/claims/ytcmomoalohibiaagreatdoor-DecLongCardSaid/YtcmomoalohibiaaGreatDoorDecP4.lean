/-
  Both Parses: what they answer of a text that is a number, and of one that is none.
-/
import Derived.Test.YtcmomoalohibiaaGreatDoorDecP3
namespace Go.Proofs.YtcmomoalohibiaaGreatDoor
set_option maxRecDepth 20000
open Go.RowKit

set_option maxRecDepth 100000 in
set_option maxHeartbeats 2000000 in
theorem rfParse_empty (w : World) :
    Calls Tryz.prog 11 #[.string ⟨#[]⟩] w (RParse false [] w) := by
  have HR : Hid (RunAt (⟨#[]⟩ : ByteArray).data.toList 0) := ⟨Nat.le_refl _, Dig.nil, .inl rfl⟩
  have HNN : Hid (∀ x y, ¬ Num [] x y) := num_no_start HR.out
  have e1 : (⟨#[]⟩ : ByteArray).extract 0 0 = ⟨#[]⟩ := rfl
  have e2 : (⟨#[]⟩ : ByteArray).size = 0 := rfl
  go_enter Tryz.func11, Tryz.ntmps11
  go_wp2_with fail
  have k2 : C3 (w.alloc (.cells #[.bool false, .slice none 0 0, .slice none 0 0] 24)) w.heap.size (.bool false) (.slice none 0 0) (.slice none 0 0) := C3.new w (.bool false) (.slice none 0 0) (.slice none 0 0)
  have HB := below_alloc w (.cells #[.bool false, .slice none 0 0, .slice none 0 0] 24)
  obtain ⟨q0, q1, q2, g0, g1, g2⟩ := k2.facts
  refine (run_any ⟨#[]⟩ 0 _ HR.out (by rw [e2]; omega)).mono ?_
  rintro e w1 ⟨rfl, rfl⟩
  go_wp2_with fail
  go_quiet (fail)
  replace k2 := k2.below (below_drewN' _ _ nq)
  replace HB := HB.trans ((below_drewN' _ _ nq).mono HB.size)
  clear q0 q1 q2 g0 g1 g2
  generalize (w.alloc (.cells #[.bool false, .slice none 0 0, .slice none 0 0] 24)).drewN nq = W1 at *
  obtain ⟨q0, q1, q2, g0, g1, g2⟩ := k2.facts
  go_wp2_with fail
  have hl0 := k2.lt
  clear q0 q1 q2 g0 g1 g2
  refine (rInt_c 0 _ (by omega)).mono ?_
  rintro e v1 ⟨z, rfl, hz, hb⟩
  replace k2 := k2.below hb
  replace HB := HB.trans (hb.mono HB.size)
  clear hb
  obtain ⟨q0, q1, q2, g0, g1, g2⟩ := k2.facts
  go_wp2
  refine ret3t (fn := Tryz.f11) Tryz.results11 rfl rfl rfl (k2.put (.bool z.s) (.slice z.A z.n z.c) (.slice z.B z.m z.d)) ?_
  exact ⟨z, 2, rfl, HB.trans (put3_below (Nat.le_refl _) _ _ _), .inr ⟨HNN.out, rfl, (hz.put (by omega) _ _ _).lower (by omega)⟩⟩

theorem rfParse_p (S M : ByteArray) (neg : Bool) (w : World) (h1 : S.size ≤ 400) (hs : Sgn S.data.toList neg M.data.toList) :
    Calls Tryz.prog 11 #[.string S] w (RParse neg M.data.toList w) := by
  obtain ⟨k, hk⟩ := run_ex M.data.toList
  cases neg with
  | true => exact rfParse_true S M k w h1 hs hk
  | false =>
    by_cases hpos : 0 < S.size
    · exact rfParse_false S M k hpos w h1 hs hk
    · have e := str_nil (S := S) (by omega)
      subst e
      have e := ba_ext (hs.no rfl).1
      subst e
      exact rfParse_empty w
theorem rfParse_v (F : ByteArray) (r : Rat) (w : World) (h : Txt F r) :
    Calls Tryz.prog 11 #[.string F] w fun e w' => ∃ z : Rv, e = .returned (.tuple #[.agg #[.bool z.s, .slice z.A z.n z.c, .slice z.B z.m z.d], .int .i64 0]) ∧ Rt w' w.heap.size z r ∧ Below w.heap.size w w' := by
  obtain ⟨h1, neg, M, x, y, hs, hn, rfl⟩ := h
  refine (rfParse_p F M neg w h1 hs).mono ?_
  rintro e w' ⟨v, code, rfl, hb, ⟨x', y', hn', rfl, hv⟩ | ⟨hno, _, _⟩⟩
  · obtain ⟨rfl, rfl⟩ := hn.one hn'
    exact ⟨v, rfl, hv, hb⟩
  · exact absurd hn (hno x y)
theorem Txt.sz {F : ByteArray} {r : Rat} (h : Txt F r) : Sz r 50 := by
  obtain ⟨h1, neg, M, x, y, hs, hn, rfl⟩ := h
  have hms : M.data.toList.length ≤ 400 := by
    rw [Lib.size_eq] at h1
    cases neg with
    | true => have := congrArg List.length (hs.yes rfl); rw [List.length_cons] at this; omega
    | false => have := congrArg List.length (hs.no rfl).1; omega
  have hl := hn.len hms
  exact Sz.ofRn rfl (Bd.ofL hl.1) (Bd.ofL hl.2) (by omega)
/-- F is no text of a number: the answer is the code c. -/
def Bad (F : ByteArray) (c : Int) : Prop :=
  (F.size ≤ 400 ∧ c = 2 ∧ ∃ (neg : Bool) (M : ByteArray), Sgn F.data.toList neg M.data.toList ∧ ∀ x y, ¬ Num M.data.toList x y) ∨ (400 < F.size ∧ F.size ≤ 1000000 ∧ c = 3)
theorem txt_or (F : ByteArray) (h : F.size ≤ 1000000) : (∃ r, Txt F r) ∨ Bad F 2 ∨ Bad F 3 := by
  by_cases h1 : F.size ≤ 400
  · obtain ⟨neg, m, hs⟩ := sgn_ex F.data.toList
    obtain ⟨M, rfl⟩ := str_data m
    by_cases h2 : ∃ x y, Num M.data.toList x y
    · obtain ⟨x, y, h2⟩ := h2
      exact .inl ⟨_, h1, neg, M, x, y, hs, h2, rfl⟩
    · exact .inr (.inl (.inl ⟨h1, rfl, neg, M, hs, fun x y h => h2 ⟨x, y, h⟩⟩))
  · exact .inr (.inr (.inr ⟨by omega, h, rfl⟩))
theorem dParse_bad (F : ByteArray) (c : Int) (w : World) (h : Bad F c) (hx : Mx w) :
    Calls Tryz.prog 10 #[.string F] w fun e w' => e = .returned (.tuple #[.agg #[.bool false, .slice none 0 0, .slice none 0 0], .int .i64 c]) ∧ Below w.heap.size w w' := by
  rcases h with ⟨h1, rfl, neg, M, hs, hno⟩ | ⟨h1, h2, rfl⟩
  · refine (dParse_p F M neg w h1 hs hx).mono ?_
    rintro e w' ⟨v, code, rfl, hb, ⟨x', y', hn', _, _⟩ | ⟨_, rfl, rfl⟩⟩
    · exact absurd hn' (hno _ _)
    · exact ⟨rfl, hb⟩
  · exact dParse_long F w h1 h2
theorem rfParse_bad (F : ByteArray) (c : Int) (w : World) (h : Bad F c) :
    Calls Tryz.prog 11 #[.string F] w fun e w' => ∃ z : Rv, e = .returned (.tuple #[.agg #[.bool z.s, .slice z.A z.n z.c, .slice z.B z.m z.d], .int .i64 c]) ∧ Rt w' w.heap.size z 0 ∧ Below w.heap.size w w' := by
  rcases h with ⟨h1, rfl, neg, M, hs, hno⟩ | ⟨h1, h2, rfl⟩
  · refine (rfParse_p F M neg w h1 hs).mono ?_
    rintro e w' ⟨v, code, rfl, hb, ⟨x', y', hn', _, _⟩ | ⟨_, rfl, hv⟩⟩
    · exact absurd hn' (hno _ _)
    · exact ⟨v, rfl, hv, hb⟩
  · exact rParse_long F w h1 h2
theorem Rw.zero (w : World) : Rw w ⟨false, none, 0, 0, none, 0, 0⟩ 0 50 := ⟨Nat.le_refl _, Nat.le_refl _, Nat.zero_le _, Nat.zero_le _, [], [], Row.nil_ _ _ _, Row.nil_ _ _ _, rn_zero (.inl rfl)⟩
end Go.Proofs.YtcmomoalohibiaaGreatDoor
