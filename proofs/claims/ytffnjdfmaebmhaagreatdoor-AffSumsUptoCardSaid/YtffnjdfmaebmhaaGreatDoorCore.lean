/-
  The leaves: Is, head.
-/
import Derived.Test.YtffnjdfmaebmhaaGreatDoorWord
namespace Go.Proofs.YtffnjdfmaebmhaaGreatDoor
set_option maxRecDepth 20000
open Go.RowKit

set_option maxHeartbeats 400000 in
theorem Is_yes (A : Option Addr) (n c : Nat) (l : List Nat) (w : World) (hn : n ≤ 1000000) (hr : Row w 0 A n l) (ht : n = 0 ∨ dg l (n - 1) ≠ 0) :
    Calls Tryz.prog 55 #[.slice A n c] w fun e w' => e = .returned (.bool true) ∧ w = w' := by
  by_cases h0 : n = 0
  · subst h0
    go_enter Tryz.func55, Tryz.ntmps55
    go_wp2
    go_ret
    exact ⟨rfl, rfl⟩
  · obtain ⟨b, off, rfl, h1, h2, hc⟩ := hr.mem (by omega)
    have hc0 := hc (n - 1) (by omega)
    have ht2 : 0 < dg l (n - 1) := by omega
    have hx := hr.l32 (n - 1)
    clear hr hc ht
    generalize dg l (n - 1) = x at *
    have hb : ((x : Int) != 0) = true := by rw [bne_iff_ne]; omega
    go_enter Tryz.func55, Tryz.ntmps55
    go_wp2
    go_ret
    exact ⟨rfl, rfl⟩

set_option maxHeartbeats 400000 in
theorem Is_no (A : Option Addr) (n c : Nat) (l : List Nat) (w : World) (hn : n ≤ 1000000) (hr : Row w 0 A n l) (h0 : 0 < n) (ht : dg l (n - 1) = 0) :
    Calls Tryz.prog 55 #[.slice A n c] w fun e w' => e = .returned (.bool false) ∧ w = w' := by
  obtain ⟨b, off, rfl, h1, h2, hc⟩ := hr.mem (by omega)
  have hc0 := hc (n - 1) (by omega)
  rw [ht] at hc0
  have hc1 : w.cell? ⟨b, off + (n - 1), none⟩ = some (.int .u32 0) := hc0
  clear hr hc ht hc0
  have hb : ((n : Int) == 0) = false := beq_eq_false_iff_ne.2 (by omega)
  go_enter Tryz.func55, Tryz.ntmps55
  go_wp2
  go_ret
  exact ⟨rfl, rfl⟩

set_option maxHeartbeats 400000 in
theorem head_any (A : Option Addr) (n c : Nat) (l : List Nat) (w : World) (hn : n ≤ 1000000) (hcap : n ≤ c) (hr : Row w 0 A n l) :
    Calls Tryz.prog 81 #[.slice A n c] w fun e w' => e = .returned (.slice A (lim (val l)).length c) ∧ w = w' := by
  have hlen := hr.len
  have HL : Hid (val (l.take n) = val l) := by show _ = _; rw [List.take_of_length_le (by omega)]
  clear hlen
  go_enter Tryz.func81, Tryz.ntmps81
  go_wp2
  go_loop [0] (fun v => ∃ k : Nat, k ≤ n ∧ Hid (val (l.take k) = val l) ∧ v = .slice A k c) (fun v => match v with | .slice _ k _ => k | _ => 0)
  case atStart => exact ⟨n, Nat.le_refl _, HL, rfl⟩
  case round =>
    obtain ⟨k, hk, HV, rfl⟩ := hrel
    have hrk := hr.take hk
    by_cases ht : k = 0 ∨ dg (l.take k) (k - 1) ≠ 0
    · go_wp2_with fail
      refine (Is_yes A k c (l.take k) _ (by omega) hrk ht).mono ?_
      rintro e w' ⟨rfl, rfl⟩
      go_wp2
      go_ret
      have e1 : lim (val l) = l.take k := by
        rw [← HV.out]; refine lim_val hrk.l32 ?_
        unfold Tr; rw [hrk.len]; exact ht
      exact ⟨by rw [e1, hrk.len]; rfl, rfl⟩
    · have h0 : 0 < k := by omega
      have hz : dg (l.take k) (k - 1) = 0 := by omega
      clear ht
      go_wp2_with fail
      refine (Is_no A k c (l.take k) _ (by omega) hrk h0 hz).mono ?_
      rintro e w' ⟨rfl, rfl⟩
      have HV2 : Hid (val (l.take (k - 1)) = val l) := by
        show _ = _
        rw [← HV.out]
        refine val_take_pred l k h0 ?_
        simpa [dg_eq, show k - 1 < k by omega] using hz
      clear hz hrk
      go_wp2
      go_round
      case rel => exact ⟨k - 1, by omega, HV2, rfl⟩
      case measure => simp; omega
end Go.Proofs.YtffnjdfmaebmhaaGreatDoor
