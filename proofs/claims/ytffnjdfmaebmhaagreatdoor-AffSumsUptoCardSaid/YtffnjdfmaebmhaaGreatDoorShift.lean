/-
  Shift: n is held, then to the left or to the right.
-/
import Derived.Test.YtffnjdfmaebmhaaGreatDoorShiftDn
namespace Go.Proofs.YtffnjdfmaebmhaaGreatDoor
set_option maxRecDepth 20000
open Go.RowKit

theorem held_neg {i : Int} (h : i < 0) : ∃ k : Nat, held i = -(k : Int) ∧ 0 < k ∧ k ≤ 4096 := by
  refine ⟨(-held i).toNat, ?_, ?_, ?_⟩ <;> unfold held <;> omega
theorem held_pos {i : Int} (h : 0 ≤ i) : ∃ k : Nat, held i = (k : Int) ∧ k ≤ 4096 := by
  refine ⟨(held i).toNat, ?_, ?_⟩ <;> unfold held <;> omega

theorem shiftUp_i (A : Option Addr) (n c : Nat) (a : List Nat) (h : Nat) (i : Int) (w : World) (hi : i = (h : Int)) (hn : n ≤ 100000) (hh : h ≤ 4096) (ha : Row w 0 A n a) :
    Calls Tryz.prog 131 #[.slice A n c, .int .i64 i] w fun e w' => ∃ A2 c2, e = .returned (.slice A2 (lim (val a * 2 ^ h)).length c2) ∧ Own w' w.heap.size A2 c2 (lim (val a * 2 ^ h)).length (lim (val a * 2 ^ h)) ∧ Below w.heap.size w w' := by
  subst hi; exact shiftUp_any A n c a h w hn hh ha

set_option maxHeartbeats 400000 in
theorem Shift_neg (A : Option Addr) (n c : Nat) (a : List Nat) (i : Int) (w : World) (hn : n ≤ 100000) (hcn : n ≤ c) (ha : Row w 0 A n a) (h0 : i < 0) (hlo : -9223372036854775808 ≤ i) :
    Calls Tryz.prog 120 #[.slice A n c, .int .i64 i] w fun e w' => ∃ A2 c2, e = .returned (.slice A2 (lim (sh (val a) i)).length c2) ∧ Own w' w.heap.size A2 c2 (lim (sh (val a) i)).length (lim (sh (val a) i)) ∧ Below w.heap.size w w' := by
  obtain ⟨k, hk, hk0, hk1⟩ := held_neg h0
  have E : Hid (sh (val a) i = val (lim (val a)) / 2 ^ k) := by
    show _ = _
    unfold sh
    rw [if_pos (by omega), hk, val_lim]
    congr 2
    omega
  have hla := ha.lim
  have hna : (lim (val a)).length ≤ n := by have := lim_len_le ha.l32; have := ha.len; omega
  unfold held at hk
  by_cases hb : i < -4096
  all_goals
    go_enter Tryz.func120, Tryz.ntmps120
    go_wp2_with fail
    refine (head_any A n c a _ (by omega) hcn ha).mono ?_
    rintro e w' ⟨rfl, rfl⟩
    go_wp2_with fail
    refine (shiftDown_any A (lim (val a)).length c (lim (val a)) k _ _ (by omega) (by omega) hk1 hla).mono ?_
    rintro e w1 ⟨A2, c2, rfl, ho, hb1⟩
    have HO := Lib.hid ho
    clear ho
    go_wp2
    go_ret
    rw [E.out]
    exact ⟨A2, c2, rfl, HO.out, hb1⟩

set_option maxHeartbeats 400000 in
theorem Shift_pos (A : Option Addr) (n c : Nat) (a : List Nat) (i : Int) (w : World) (hn : n ≤ 100000) (hcn : n ≤ c) (ha : Row w 0 A n a) (h0 : 0 ≤ i) (hhi : i ≤ 9223372036854775807) :
    Calls Tryz.prog 120 #[.slice A n c, .int .i64 i] w fun e w' => ∃ A2 c2, e = .returned (.slice A2 (lim (sh (val a) i)).length c2) ∧ Own w' w.heap.size A2 c2 (lim (sh (val a) i)).length (lim (sh (val a) i)) ∧ Below w.heap.size w w' := by
  obtain ⟨k, hk, hk1⟩ := held_pos h0
  have E : Hid (sh (val a) i = val (lim (val a)) * 2 ^ k) := by
    show _ = _
    unfold sh
    rw [if_neg (by omega), hk, val_lim]
    congr 2
  have hla := ha.lim
  have hna : (lim (val a)).length ≤ n := by have := lim_len_le ha.l32; have := ha.len; omega
  unfold held at hk
  by_cases hb : 4096 < i
  all_goals
    go_enter Tryz.func120, Tryz.ntmps120
    go_wp2_with fail
    refine (head_any A n c a _ (by omega) hcn ha).mono ?_
    rintro e w' ⟨rfl, rfl⟩
    go_wp2_with fail
    refine (shiftUp_i A (lim (val a)).length c (lim (val a)) k _ _ (by omega) (by omega) hk1 hla).mono ?_
    rintro e w1 ⟨A2, c2, rfl, ho, hb1⟩
    have HO := Lib.hid ho
    clear ho
    go_wp2
    go_ret
    rw [E.out]
    exact ⟨A2, c2, rfl, HO.out, hb1⟩

theorem Shift_any (A : Option Addr) (n c : Nat) (a : List Nat) (i : Int) (w : World) (hn : n ≤ 100000) (hcn : n ≤ c) (ha : Row w 0 A n a) (hi : -9223372036854775808 ≤ i ∧ i ≤ 9223372036854775807) :
    Calls Tryz.prog 120 #[.slice A n c, .int .i64 i] w fun e w' => ∃ A2 c2, e = .returned (.slice A2 (lim (sh (val a) i)).length c2) ∧ Own w' w.heap.size A2 c2 (lim (sh (val a) i)).length (lim (sh (val a) i)) ∧ Below w.heap.size w w' := by
  by_cases h0 : i < 0
  · exact Shift_neg A n c a i w hn hcn ha h0 hi.1
  · exact Shift_pos A n c a i w hn hcn ha (by omega) hi.2
end Go.Proofs.YtffnjdfmaebmhaaGreatDoor
