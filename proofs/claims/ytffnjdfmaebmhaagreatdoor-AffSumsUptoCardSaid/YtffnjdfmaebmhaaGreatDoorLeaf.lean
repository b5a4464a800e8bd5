/-
  Leaves that read one limb, carry, and copy a row: limbAt, at, order, Add32, limbs, Trim.
-/
import Derived.Test.YtffnjdfmaebmhaaGreatDoorCore
namespace Go.Proofs.YtffnjdfmaebmhaaGreatDoor
set_option maxRecDepth 20000
open Go.RowKit

set_option maxHeartbeats 400000 in
theorem limbAt_any (A : Option Addr) (n c : Nat) (l : List Nat) (i : Int) (k : Nat) (w : World) (hn : n ≤ 1000000) (hr : Row w 0 A n l) (hi : i = (k : Int)) :
    Calls Tryz.prog 123 #[.slice A n c, .int .i64 i] w fun e w' => e = .returned (.int .u32 ((dg l k : Nat) : Int)) ∧ w = w' := by
  subst hi
  by_cases h0 : k < n
  · obtain ⟨b, off, rfl, h1, h2, hc⟩ := hr.mem (by omega)
    have hc0 := hc k h0
    clear hr hc
    go_enter Tryz.func123, Tryz.ntmps123
    go_wp2
    go_ret
    exact ⟨rfl, rfl⟩
  · have hz : dg l k = 0 := by
      have := hr.len
      rw [dg_eq, List.getElem?_eq_none (by omega)]; rfl
    rw [hz]
    clear hr hz
    go_enter Tryz.func123, Tryz.ntmps123
    go_wp2
    go_ret
    exact ⟨rfl, rfl⟩

set_option maxHeartbeats 400000 in
theorem at_any (A : Option Addr) (n c : Nat) (l : List Nat) (i : Int) (k : Nat) (w : World) (hn : n ≤ 1000000) (hr : Row w 0 A n l) (hi : i = (k : Int)) :
    Calls Tryz.prog 93 #[.slice A n c, .int .i64 i] w fun e w' => e = .returned (.int .u64 ((dg l k : Nat) : Int)) ∧ w = w' := by
  subst hi
  by_cases h0 : k < n
  · obtain ⟨b, off, rfl, h1, h2, hc⟩ := hr.mem (by omega)
    have hc0 := hc k h0
    have hx := hr.l32 k
    clear hr hc
    generalize dg l k = x at *
    go_enter Tryz.func93, Tryz.ntmps93
    go_wp2
    go_ret
    exact ⟨rfl, rfl⟩
  · have hz : dg l k = 0 := by
      have := hr.len
      rw [dg_eq, List.getElem?_eq_none (by omega)]; rfl
    rw [hz]
    clear hr hz
    go_enter Tryz.func93, Tryz.ntmps93
    go_wp2
    go_ret
    exact ⟨rfl, rfl⟩

theorem ret_int {k : IntKind} {a b : Int} (h : a = b) : Ending.returned (.int k a) = .returned (.int k b) := by rw [h]
theorem ret_int2 {k k' : IntKind} {a b a' b' : Int} (h : a = b) (h' : a' = b') : Ending.returned (.tuple #[.int k a, .int k' a']) = .returned (.tuple #[.int k b, .int k' b']) := by rw [h, h']

set_option maxHeartbeats 400000 in
theorem Add32_any (x y z : Nat) (w : World) (hx : x < 4294967296) (hy : y < 4294967296) (hz : z < 4294967296) :
    Calls Tryz.prog 122 #[.int .u32 (x : Int), .int .u32 (y : Int), .int .u32 (z : Int)] w fun e w' => e = .returned (.tuple #[.int .u32 (((x + y + z) % 4294967296 : Nat) : Int), .int .u32 (((x + y + z) / 4294967296 : Nat) : Int)]) ∧ w = w' := by
  go_enter Tryz.func122, Tryz.ntmps122
  go_wp2
  go_ret2
  exact ⟨ret_int2 (by omega) (by omega), rfl⟩

set_option maxHeartbeats 400000 in
theorem Trim_any (A : Option Addr) (n c : Nat) (l : List Nat) (w : World) (hn : n ≤ 1000000) (hcap : n ≤ c) (hr : Row w 0 A n l) :
    Calls Tryz.prog 83 #[.slice A n c] w fun e w' => ∃ g, e = .returned (.slice (some ⟨g, 0, none⟩) (lim (val l)).length (lim (val l)).length) ∧ Own w' w.heap.size (some ⟨g, 0, none⟩) (lim (val l)).length (lim (val l)).length (lim (val l)) ∧ Below w.heap.size w w' := by
  have hl := hr.lim
  have hln : (lim (val l)).length ≤ n := by have := lim_len_le hr.l32; have := hr.len; omega
  obtain ⟨i0, hi, hz0, hz1, hz2⟩ := info_parts Tryz.info74
  go_enter Tryz.func83, Tryz.ntmps83
  go_wp2_with fail
  refine (head_any A n c l _ hn hcap hr).mono ?_
  rintro e w' ⟨rfl, rfl⟩
  go_wp2_with (at_make; refine wpList_make_full _ rfl _ _ _ rfl w.heap.size 74 i0 (.int .u32 0) 1 Tryz.underlying23 hi hz0 hz1 .i64 .i64 _ _ (lim (val l)).length rfl rfl rfl rfl ?c1 ?c2 ?c3 ?_)
  case c1 => rw [hz2]; omega
  case c2 => unfold maxLen; omega
  case c3 => exact Nat.le_refl _
  intro w1 ho hg
  have ho1 := Own.made ho
  clear ho
  have hl1 := hl.below (below_of_grown hg)
  have hb1 := below_of_grown hg
  clear hg
  go_wp2_with (refine wpl_copy rfl _ _ rfl rfl rfl ho1 hl1 (Nat.le_refl _) ?_)
  intro w2 ho2 hs2 hg2
  go_wp2
  go_ret
  refine ⟨_, rfl, ?_, ?_⟩
  · simpa using ho2
  · exact hb1.trans (below_of_grown_row hg2 (by simp) hb1.size)

set_option maxHeartbeats 400000 in
theorem rTrim_any (A : Option Addr) (n c : Nat) (l : List Nat) (w : World) (hn : n ≤ 1000000) (hcap : n ≤ c) (hr : Row w 0 A n l) :
    Calls Tryz.prog 69 #[.slice A n c] w fun e w' => ∃ A2 c2, e = .returned (.slice A2 (lim (val l)).length c2) ∧ Own w' w.heap.size A2 c2 (lim (val l)).length (lim (val l)) ∧ Below w.heap.size w w' := by
  have hlen := hr.len
  have HL : Hid (val (l.take n) = val l) := by show _ = _; rw [List.take_of_length_le (by omega)]
  clear hlen
  go_enter Tryz.func69, Tryz.ntmps69
  go_wp2
  go_loop [3] (fun v => ∃ k : Nat, k ≤ n ∧ Hid (val (l.take k) = val l) ∧ v = .int .i64 k) (fun v => (intOf v).toNat)
  case atStart => exact ⟨n, Nat.le_refl _, HL, rfl⟩
  case round =>
    obtain ⟨k, hk, HV, rfl⟩ := hrel
    have hrk := hr.take hk
    have fin : ∀ (A2 : Option Addr) (c2 : Nat) (w' : World), lim (val l) = l.take k → Own w' w.heap.size A2 c2 k (l.take k) → (w.alloc (.cells #[] 74)).grownBy w' (some w.heap.size) →
        Own w' w.heap.size A2 c2 (lim (val l)).length (lim (val l)) ∧ Below w.heap.size w w' ∧ (lim (val l)).length = k := by
      intro A2 c2 w' e1 ho hg
      rw [e1, hrk.len]
      exact ⟨ho, (below_alloc _ _).trans (below_of_grown_row hg (Nat.le_refl _) (by simp)), rfl⟩
    by_cases ht : k = 0 ∨ dg l (k - 1) ≠ 0
    · have e1 : Hid (lim (val l) = l.take k) := lim_of_take hr.l32 (by rw [hr.len]; exact hk) HV.out ht
      have FIN := Lib.hid fin
      clear fin
      by_cases h0 : k = 0
      · subst h0
        go_wp2_with (at_builtin; refine wpl_append rfl _ _ rfl rfl rfl (Own.empty w) (hrk.alloc _) (by omega) (by simp) ?_)
        rintro A2 c2 w' ho hg
        go_wp2
        go_ret
        obtain ⟨f1, f2, f3⟩ := FIN.out A2 c2 w' e1.out (by simpa using ho) hg
        exact ⟨A2, c2, by rw [f3]; rfl, f1, f2⟩
      · have ht1 : 0 < dg l (k - 1) := by omega
        obtain ⟨b, off, rfl, h1, h2, hc⟩ := hr.mem (by omega)
        have hc0 := hc (k - 1) (by omega)
        have hx := hr.l32 (k - 1)
        generalize hxe : dg l (k - 1) = x at *
        clear hc hxe ht
        have hb : ((x : Int) == 0) = false := by rw [beq_eq_false_iff_ne]; omega
        go_wp2_with (at_builtin; refine wpl_append rfl _ _ rfl rfl rfl (Own.empty w) (hrk.alloc _) (by omega) (by simp) ?_)
        rintro A2 c2 w' ho hg
        go_wp2
        go_ret
        obtain ⟨f1, f2, f3⟩ := FIN.out A2 c2 w' e1.out (by simpa using ho) hg
        exact ⟨A2, c2, by rw [f3]; rfl, f1, f2⟩
    · have h0 : 0 < k := by omega
      have hz : dg l (k - 1) = 0 := by omega
      obtain ⟨b, off, rfl, h1, h2, hc⟩ := hr.mem (by omega)
      have hc0 := hc (k - 1) (by omega)
      have HV2 : Hid (val (l.take (k - 1)) = val l) := (val_take_pred l k h0 hz).trans HV.out
      rw [hz] at hc0
      clear hc fin ht hz
      go_wp2
      go_round
      case rel => exact ⟨k - 1, by omega, HV2, by go_num⟩
      case measure => simp [intOf]; omega
end Go.Proofs.YtffnjdfmaebmhaaGreatDoor
