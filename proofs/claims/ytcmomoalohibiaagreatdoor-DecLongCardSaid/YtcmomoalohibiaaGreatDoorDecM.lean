/-
  The document's Parse, first part: how many digits stand at the beginning; texts' parts.
-/
import Derived.Test.YtcmomoalohibiaaGreatDoorDecR
import Derived.Test.YtcmomoalohibiaaGreatDoorRefI
namespace Go.Proofs.YtcmomoalohibiaaGreatDoor
set_option maxRecDepth 20000
open Go.RowKit

theorem RunAt.at {S : ByteArray} {k j : Nat} (h : RunAt S.data.toList k) (hj : j < k) (hl : j < S.size) : 48 ≤ S[j].toNat ∧ S[j].toNat ≤ 57 := by
  have e := byte_eq S j hl
  refine h.dig _ (List.mem_of_getElem? (i := j) ?_)
  rw [List.getElem?_take_of_lt hj]; exact e
theorem RunAt.no {S : ByteArray} {k : Nat} (h : RunAt S.data.toList k) (hl : k < S.size) : ¬ (48 ≤ S[k].toNat ∧ S[k].toNat ≤ 57) := by
  rcases h.stop with h1 | ⟨c, h1, h2⟩
  · rw [← Lib.size_eq] at h1; omega
  · have e := byte_eq S k hl
    rw [e] at h1
    injection h1 with h1
    rw [h1]; exact h2

set_option maxHeartbeats 1600000 in
theorem run_any (S : ByteArray) (k : Nat) (w : World) (h : RunAt S.data.toList k) (hs : S.size ≤ 1000000) :
    Calls Tryz.prog 36 #[.string S] w fun e w' => e = .returned (.int .i64 (k : Int)) ∧ w = w' := by
  have HR := Lib.hid h
  have hk : k ≤ S.size := by rw [Lib.size_eq]; exact h.le
  clear h
  go_enter Tryz.func36, Tryz.ntmps36
  go_wp2
  go_loopw [3] (fun iv wr => ∃ j : Nat, j ≤ k ∧ iv = .int .i64 j ∧ wr = w) (fun iv _ => k - (intOf iv).toNat)
  case atStart => exact ⟨0, Nat.zero_le _, rfl, rfl⟩
  case round =>
    obtain ⟨j, hj, rfl, rfl⟩ := hrel
    have i0 : (0 : Int) ≤ (j : Int) := by omega
    by_cases h1 : j < k
    · have hlt : j < S.size := by omega
      have i1 : (j : Int) < (S.size : Int) := by omega
      obtain ⟨d1, d2⟩ := HR.out.at h1 hlt
      go_wp2
      go_roundw
      case rel => exact ⟨j + 1, by omega, by go_num, by first | trivial | rfl⟩
      case measure => simp [intOf]; omega
    · have e : j = k := by omega
      subst e
      by_cases hlt : j < S.size
      · have i1 : (j : Int) < (S.size : Int) := by omega
        have hno := HR.out.no hlt
        by_cases d1 : 48 ≤ S[j].toNat
        · have d2 : 57 < S[j].toNat := by omega
          clear hno
          go_wp2
          go_ret
          exact ⟨rfl, rfl⟩
        · clear hno
          go_wp2
          go_ret
          exact ⟨rfl, rfl⟩
      · have i1 : ¬ ((j : Int) < (S.size : Int)) := by omega
        go_wp2
        go_ret
        exact ⟨rfl, rfl⟩

set_option maxHeartbeats 1600000 in
/-- A text that is longer than 400 bytes is none. -/
theorem dParse_long (S : ByteArray) (w : World) (h1 : 400 < S.size) (h2 : S.size ≤ 1000000) :
    Calls Tryz.prog 10 #[.string S] w fun e w' => e = .returned (.tuple #[.agg #[.bool false, .slice none 0 0, .slice none 0 0], .int .i64 3]) ∧ Below w.heap.size w w' := by
  have i1 : (400 : Int) < (S.size : Int) := by omega
  go_enter Tryz.func10, Tryz.ntmps10
  go_wp2_with fail
  have k := C3.new w (.bool false) (.slice none 0 0) (.slice none 0 0)
  have HB0 := below_alloc w (.cells #[.bool false, .slice none 0 0, .slice none 0 0] 24)
  obtain ⟨q0, q1, q2, g0, g1, g2⟩ := k.facts
  go_wp2
  refine ret3t (fn := Tryz.f10) Tryz.results10 rfl rfl rfl k ?_
  exact ⟨rfl, HB0⟩

set_option maxHeartbeats 1600000 in
theorem rParse_long (S : ByteArray) (w : World) (h1 : 400 < S.size) (h2 : S.size ≤ 1000000) :
    Calls Tryz.prog 11 #[.string S] w fun e w' => ∃ z : Rv, e = .returned (.tuple #[.agg #[.bool z.s, .slice z.A z.n z.c, .slice z.B z.m z.d], .int .i64 3]) ∧ Rt w' w.heap.size z 0 ∧ Below w.heap.size w w' := by
  have i1 : (400 : Int) < (S.size : Int) := by omega
  go_enter Tryz.func11, Tryz.ntmps11
  go_wp2_with fail
  have k := C3.new w (.bool false) (.slice none 0 0) (.slice none 0 0)
  have HB0 := below_alloc w (.cells #[.bool false, .slice none 0 0, .slice none 0 0] 24)
  have hw1 : (w.alloc (.cells #[.bool false, .slice none 0 0, .slice none 0 0] 24)).heap.size = w.heap.size + 1 := by simp
  have k2 : C3 (w.alloc (.cells #[.bool false, .slice none 0 0, .slice none 0 0] 24)) w.heap.size (.bool false) (.slice none 0 0) (.slice none 0 0) := k
  refine (rInt_c 0 _ (by omega)).mono ?_
  rintro e w1 ⟨z, rfl, hz, hb⟩
  replace k2 := k2.below hb
  have HB := HB0.trans (hb.mono HB0.size)
  clear hb k HB0
  obtain ⟨q0, q1, q2, g0, g1, g2⟩ := k2.facts
  go_wp2
  refine ret3t (fn := Tryz.f11) Tryz.results11 rfl rfl rfl (k2.put (.bool z.s) (.slice z.A z.n z.c) (.slice z.B z.m z.d)) ?_
  exact ⟨z, rfl, (hz.put (by omega) _ _ _).lower (by omega), HB.trans (put3_below (Nat.le_refl _) _ _ _)⟩
end Go.Proofs.YtcmomoalohibiaaGreatDoor
