/-
  The document's looks at a byte.
-/
import Derived.Test.YtdpbceipiappjaaGreatDoorMEa
namespace Go.Proofs.YtdpbceipiappjaaGreatDoor
set_option maxRecDepth 20000
open Go.RowKit

theorem ba_ext {S T : ByteArray} (h : S.data.toList = T.data.toList) : S = T := by
  rw [str_of S _ rfl, str_of T _ rfl, h]
set_option maxHeartbeats 800000 in
theorem rdigit_c (c : UInt8) (w : World) : Calls Tryz.prog 40 #[.int .u8 c.toNat] w fun e w' => e = .returned (.bool (isDg c)) ∧ w = w' := by
  unfold isDg
  by_cases h1 : 48 ≤ c.toNat
  · have i1 : (48 : Int) ≤ (c.toNat : Int) := by omega
    by_cases h2 : c.toNat ≤ 57
    · have i2 : (c.toNat : Int) ≤ 57 := by omega
      rw [decide_eq_true h1, decide_eq_true h2]
      go_enter Tryz.func40, Tryz.ntmps40
      go_wp2
      go_ret
      exact ⟨rfl, rfl⟩
    · have i2 : ¬ (c.toNat : Int) ≤ 57 := by omega
      rw [decide_eq_false h2, Bool.and_false]
      go_enter Tryz.func40, Tryz.ntmps40
      go_wp2
      go_ret
      exact ⟨rfl, rfl⟩
  · have i1 : ¬ (48 : Int) ≤ (c.toNat : Int) := by omega
    rw [decide_eq_false h1, Bool.false_and]
    go_enter Tryz.func40, Tryz.ntmps40
    go_wp2
    go_ret
    exact ⟨rfl, rfl⟩
set_option maxHeartbeats 800000 in
theorem rletter_c (c : UInt8) (w : World) : Calls Tryz.prog 39 #[.int .u8 c.toNat] w fun e w' => e = .returned (.bool (isLw c)) ∧ w = w' := by
  unfold isLw
  by_cases h1 : 97 ≤ c.toNat
  · have i1 : (97 : Int) ≤ (c.toNat : Int) := by omega
    by_cases h2 : c.toNat ≤ 122
    · have i2 : (c.toNat : Int) ≤ 122 := by omega
      rw [decide_eq_true h1, decide_eq_true h2]
      go_enter Tryz.func39, Tryz.ntmps39
      go_wp2
      go_ret
      exact ⟨rfl, rfl⟩
    · have i2 : ¬ (c.toNat : Int) ≤ 122 := by omega
      rw [decide_eq_false h2, Bool.and_false]
      go_enter Tryz.func39, Tryz.ntmps39
      go_wp2
      go_ret
      exact ⟨rfl, rfl⟩
  · have i1 : ¬ (97 : Int) ≤ (c.toNat : Int) := by omega
    rw [decide_eq_false h1, Bool.false_and]
    go_enter Tryz.func39, Tryz.ntmps39
    go_wp2
    go_ret
    exact ⟨rfl, rfl⟩
theorem rdigit_q (c : UInt8) (b : Bool) (h : isDg c = b) (w : World) (n : Nat) : Calls Tryz.prog 40 #[.int .u8 c.toNat] (w.drewN n) fun e w'' => e = .returned (.bool b) ∧ ∃ m, w'' = w.drewN m :=
  (rdigit_c c _).mono fun e w' ⟨he, hw⟩ => ⟨by rw [he, h], n, hw.symm⟩
theorem rletter_q (c : UInt8) (b : Bool) (h : isLw c = b) (w : World) (n : Nat) : Calls Tryz.prog 39 #[.int .u8 c.toNat] (w.drewN n) fun e w'' => e = .returned (.bool b) ∧ ∃ m, w'' = w.drewN m :=
  (rletter_c c _).mono fun e w' ⟨he, hw⟩ => ⟨by rw [he, h], n, hw.symm⟩
end Go.Proofs.YtdpbceipiappjaaGreatDoor
