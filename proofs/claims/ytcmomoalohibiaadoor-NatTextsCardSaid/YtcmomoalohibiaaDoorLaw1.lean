/-
  Two rows that are one, the known carry, as the laws of naturals ask them.
-/
import Derived.Test.YtcmomoalohibiaaDoorLawKit
namespace Go.Proofs.YtcmomoalohibiaaDoor
set_option maxRecDepth 20000
open Go.RowKit

set_option maxHeartbeats 400000 in
theorem limbs1_yes (A A' : Option Addr) (n c c' : Nat) (l : List Nat) (w : World) (hn : n ≤ 1000000) (hr : Row w 0 A n l) (hr' : Row w 0 A' n l) :
    Calls Tryd.prog 10 #[.slice A n c, .slice A' n c'] w fun e w' => e = .returned (.bool true) ∧ ∃ q, w' = w.drewN q := by
  go_enter Tryd.func10, Tryd.ntmps10
  go_wp2
  go_loopw [5] (fun i wr => ∃ k q : Nat, k ≤ n ∧ i = .int .i64 k ∧ wr = w.drewN q) (fun i _ => n - (intOf i).toNat)
  case atStart => exact ⟨0, 0, Nat.zero_le _, rfl, rfl⟩
  case round =>
    obtain ⟨k, q, hk, rfl, rfl⟩ := hrel
    by_cases h0 : k < n
    · obtain ⟨b, off, rfl, h1, h2, hc⟩ := hr.mem (by omega)
      obtain ⟨b', off', rfl, h1', h2', hc'⟩ := hr'.mem (by omega)
      have hc0 := hc k h0
      have hc0' := hc' k h0
      clear hc hc' hr hr'
      generalize dg l k = x at *
      go_wp2
      go_quiet (fail)
      go_wp2
      go_roundw
      case rel => exact ⟨k + 1, _, by omega, by go_num, rfl⟩
      case measure => simp [intOf]; omega
    · clear hr hr'
      go_wp2
      go_ret
      exact ⟨rfl, q, rfl⟩
/-- Two rows of one number. -/
theorem limbs1_v (x y : Nat) (A A' : Option Addr) (c c' : Nat) (w : World) (hxy : x = y) (hn : (lim x).length ≤ 1000000) (hr : Row w 0 A (lim x).length (lim x)) (hr' : Row w 0 A' (lim y).length (lim y)) :
    Calls Tryd.prog 10 #[.slice A (lim x).length c, .slice A' (lim y).length c'] w fun e w' => e = .returned (.bool true) ∧ Below w.heap.size w w' := by
  subst hxy
  refine (limbs1_yes A A' _ c c' _ w hn hr hr').mono ?_
  rintro e w' ⟨rfl, q, rfl⟩
  exact ⟨rfl, rfl, rfl, rfl, Nat.le_refl _, fun _ _ => rfl⟩
theorem known1_num : lim (val [4294967295] * val [2]) = [4294967294, 1] := by
  have e : val [4294967295] * val [2] = 8589934590 := by simp [val]
  rw [e, lim_pos (by omega), lim_pos (by omega), lim_zero_of (by omega)]
set_option maxHeartbeats 400000 in
theorem known1_any (w : World) : Calls Tryd.prog 11 #[] w fun e w' => e = .returned (.bool true) ∧ Below w.heap.size w w' := by
  go_enter Tryd.func11, Tryd.ntmps11
  go_wp2_with fail
  have h1 : Row (w.alloc (.cells #[.int .u32 4294967295] 40)) 0 (some ⟨w.heap.size, 0, none⟩) 1 [4294967295] := Row.one (by rfl) (by omega) (Nat.zero_le _)
  have h2 : Row ((w.alloc (.cells #[.int .u32 4294967295] 40)).alloc (.cells #[.int .u32 2] 40)) 0 (some ⟨w.heap.size + 1, 0, none⟩) 1 [2] := by
    have := Row.one (w := w.alloc (.cells #[.int .u32 4294967295] 40)) (x := 2) (v := 2) (lo := 0) (by rfl) (by omega) (Nat.zero_le _)
    simpa using this
  refine (Mul_any _ _ 1 1 1 1 _ _ _ (by omega) (by omega) (Nat.le_refl _) (Nat.le_refl _) (h1.alloc _) h2).mono ?_
  rintro e w1 ⟨A2, c2, rfl, ho, hb⟩
  rw [known1_num] at ho ⊢
  have hb0 : Below w.heap.size w w1 := (((Below.refl _ _).alloc (Nat.le_refl _) _).alloc (by simp) _).trans (hb.mono (by simp; omega))
  have hz := hb.size
  have hr := ho.row.lower (Nat.zero_le _)
  clear ho hb h1 h2
  go_wp2_with fail
  refine (limbs1_yes _ _ 2 _ _ [4294967294, 1] _ (by omega) (hr.alloc _) (Row.two rfl rfl (by omega) (by omega) (Nat.zero_le _))).mono ?_
  rintro e w2 ⟨rfl, q, rfl⟩
  go_wp2
  go_ret
  exact ⟨rfl, hb0.trans ((((Below.refl _ _).alloc (Nat.le_refl _) _)).mono hb0.size |>.trans ⟨rfl, rfl, rfl, Nat.le_refl _, fun _ _ => rfl⟩)⟩
end Go.Proofs.YtcmomoalohibiaaDoor
