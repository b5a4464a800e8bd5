/-
  limbs: two rows that read as one list are told to be one.
-/
import Derived.Test.YtgfajmnmeggaeaaLeaf
namespace Go.Proofs.Ytgfajmnmeggaeaa
set_option maxRecDepth 20000
open Go.RowKit

set_option maxHeartbeats 400000 in
theorem limbs_yes (A A' : Option Addr) (n c c' : Nat) (l : List Nat) (w : World) (hn : n ≤ 1000000) (hr : Row w 0 A n l) (hr' : Row w 0 A' n l) :
    Calls Try.prog 23 #[.slice A n c, .slice A' n c'] w fun e w' => e = .returned (.bool true) ∧ ∃ q, w' = w.drewN q := by
  go_enter Try.func23, Try.ntmps23
  go_wp2
  go_loopw [5] (fun i wr => ∃ k q : Nat, k ≤ n ∧ i = .int .i64 k ∧ wr = w.drewN q) (fun i _ => n - (intOf i).toNat)
  case atStart => exact ⟨0, 0, Nat.zero_le _, rfl, rfl⟩
  case round =>
    obtain ⟨k, q, hk, rfl, rfl⟩ := hrel
    by_cases h0 : k < n
    · obtain ⟨b, off, rfl, h1, h2, hc⟩ := hr.mem (by omega)
      obtain ⟨b', off', rfl, h1', h2', hc'⟩ := hr'.mem (by omega)
      have hc0 := hc k h0
      have hc0' := hc' k h0
      clear hc hc' hr hr'
      generalize dg l k = x at *
      go_wp2
      go_quiet (fail)
      go_wp2
      go_roundw
      case rel => exact ⟨k + 1, _, by omega, by go_num, rfl⟩
      case measure => simp [intOf]; omega
    · clear hr hr'
      go_wp2
      go_ret
      exact ⟨rfl, q, rfl⟩
end Go.Proofs.Ytgfajmnmeggaeaa
