/-
  The document's reader: digits, a sign, an expression of two.
-/
import Derived.Test.YtcmkgoikmleanaaGreatDoorExYa
namespace Go.Proofs.YtcmkgoikmleanaaGreatDoor
set_option maxRecDepth 20000
open Go.RowKit

theorem rdigit_q (c : UInt8) (b : Bool) (h : isDg c = b) (w : World) (n : Nat) : Calls Tryz.prog 51 #[.int .u8 c.toNat] (w.drewN n) fun e w'' => e = .returned (.bool b) ∧ ∃ m, w'' = w.drewN m :=
  (rdigit_c c _).mono fun e w' ⟨he, hw⟩ => ⟨by rw [he, h], n, hw.symm⟩
theorem rletter_q (c : UInt8) (b : Bool) (h : isLw c = b) (w : World) (n : Nat) : Calls Tryz.prog 50 #[.int .u8 c.toNat] (w.drewN n) fun e w'' => e = .returned (.bool b) ∧ ∃ m, w'' = w.drewN m :=
  (rletter_c c _).mono fun e w' ⟨he, hw⟩ => ⟨by rw [he, h], n, hw.symm⟩
set_option maxHeartbeats 3200000 in
theorem rdigits_c {w0 w : World} {g p e b d : Nat} {lg : Bool} {S : ByteArray} (h : RRd w0 g S w p e b d lg) (hp : p ≤ S.size) (hs : S.size ≤ 100000) :
    Calls Tryz.prog 134 #[.pointer (some ⟨g, 0, none⟩)] w fun z w' => z = .returned (.int .i64 ((run isDg S p - p : Nat) : Int)) ∧ RRd w0 g S w' (run isDg S p) e b d lg ∧ But g w w' := by
  have hq := le_run isDg S p
  have hq2 := run_le isDg S hp
  have HI : Hid (∀ j, p ≤ j → j < run isDg S p → j < S.size ∧ isDg (bt S j) = true) := fun j => run_in isDg S p j
  have HO : Hid (run isDg S p < S.size → isDg (bt S (run isDg S p)) = false) := fun h => run_out isDg S p hp h
  generalize run isDg S p = q at *
  go_enter Tryz.func134, Tryz.ntmps134
  go_wp2
  go_loopw [3] (fun nv wr => ∃ x : Nat, p ≤ x ∧ x ≤ q ∧ nv = .int .i64 ((x - p : Nat) : Int) ∧ RRd w0 g S wr x e b d lg ∧ But g w wr) (fun _ wr => q - atOf g wr)
  case atStart => exact ⟨p, Nat.le_refl _, hq, by rw [Nat.sub_self]; rfl, h, But.refl _ _⟩
  case round =>
    obtain ⟨x, hx1, hx2, rfl, hr, hbu⟩ := hrel
    obtain ⟨h0, h1, h2, h3, h4, h5⟩ := hr.facts
    obtain ⟨f1, f2, f3, f4, f5⟩ := hr.thaw
    by_cases hxq : x < q
    · obtain ⟨hl, hv⟩ := HI.out x hx1 hxq
      have i1 : (x : Int) < (S.size : Int) := by omega
      have i0 : (0 : Int) ≤ (x : Int) := by omega
      have i2 : (x : Int) ≤ 100000 := by omega
      have i3 : ((x - p : Nat) : Int) ≤ 100000 := by omega
      have i4 : (0 : Int) ≤ ((x - p : Nat) : Int) := by omega
      rw [bt_lt hl] at hv
      have HV := Lib.hid hv
      clear hv
      go_wp2
      go_quiet ((go_at_call 51; exact rdigit_q S[x] true HV.out _ _))
      go_wp2
      go_roundw
      case rel => exact ⟨x + 1, by omega, by omega, congrArg (Value.int .i64) (by omega), (hr.drewN _).set1 (by omega), (hbu.drewN _).set _ _⟩
      case measure =>
        rw [((hr.drewN _).set1 (q := x + 1) (v := (x : Int) + 1) (by omega)).atOf, hr.atOf]; omega
    · have e : x = q := by omega
      subst e
      by_cases hl : x < S.size
      · have i1 : (x : Int) < (S.size : Int) := by omega
        have i0 : (0 : Int) ≤ (x : Int) := by omega
        have hv := HO.out hl
        rw [bt_lt hl] at hv
        have HV := Lib.hid hv
        clear hv
        go_wp2
        go_quiet ((go_at_call 51; exact rdigit_q S[x] false HV.out _ _))
        go_wp2
        go_ret
        exact ⟨rfl, hr.drewN _, hbu.drewN _⟩
      · have i1 : ¬ (x : Int) < (S.size : Int) := by omega
        go_wp2
        go_quiet (fail)
        go_wp2
        go_ret
        exact ⟨rfl, hr.drewN _, hbu.drewN _⟩
set_option maxHeartbeats 3200000 in
theorem rsign_yes {w0 w : World} {g p d : Nat} {lg : Bool} {S : ByteArray} (h : RRd w0 g S w p 0 0 d lg) (hp : p ≤ S.size) (hs : S.size ≤ 100000) (hc : bt S (skp S p) = 41) :
    Calls Tryz.prog 98 #[.pointer (some ⟨g, 0, none⟩), .int .u8 41] w fun z w' => z = .returned (.bool true) ∧ RRd w0 g S w' (skp S p + 1) 0 0 d lg ∧ But g w w' := by
  have hq2 := skp_ge S hp
  have HB := Lib.hid (rblanks_c h hp hs)
  have hl := bt_some (S := S) (p := skp S p) (by rw [hc]; decide)
  generalize skp S p = q at *
  have i1 : (q : Int) < (S.size : Int) := by omega
  have i0 : (0 : Int) ≤ (q : Int) := by omega
  have i2 : (q : Int) ≤ 100000 := by omega
  have i3 : S[q].toNat = 41 := by rw [← bt_lt hl, hc]; rfl
  clear hc
  go_enter Tryz.func98, Tryz.ntmps98
  go_wp2_with fail
  refine HB.out.mono ?_
  rintro z w1 ⟨rfl, hr, hb⟩
  obtain ⟨h0, h1, h2, h3, h4, h5⟩ := hr.facts
  obtain ⟨f1, f2, f3, f4, f5⟩ := hr.thaw
  go_wp2_with fail
  go_quiet (fail)
  go_wp2
  go_ret
  exact ⟨rfl, (hr.drewN _).set1 (q := q + 1) (by omega), (hb.drewN _).set _ _⟩
set_option maxHeartbeats 3200000 in
theorem rsign_no {w0 w : World} {g p d : Nat} {lg : Bool} {S : ByteArray} (h : RRd w0 g S w p 0 0 d lg) (hp : p ≤ S.size) (hs : S.size ≤ 100000) (hc : bt S (skp S p) ≠ 41) :
    Calls Tryz.prog 98 #[.pointer (some ⟨g, 0, none⟩), .int .u8 41] w fun z w' => z = .returned (.bool false) ∧ RRd w0 g S w' (skp S p) 0 0 d lg ∧ But g w w' := by
  have hq2 := skp_ge S hp
  have HB := Lib.hid (rblanks_c h hp hs)
  generalize skp S p = q at *
  have i0 : (0 : Int) ≤ (q : Int) := by omega
  by_cases hl : q < S.size
  · have i1 : (q : Int) < (S.size : Int) := by omega
    have n3 : S[q].toNat ≠ 41 := by rw [← bt_lt hl]; exact u8_ne (k := 41) (by omega) hc
    have i3 : ¬ ((S[q].toNat : Int) = 41) := by omega
    have i4 : ((S[q].toNat : Int) == 41) = false := beq_eq_false_iff_ne.2 i3
    clear hc n3
    go_enter Tryz.func98, Tryz.ntmps98
    go_wp2_with fail
    refine HB.out.mono ?_
    rintro z w1 ⟨rfl, hr, hb⟩
    obtain ⟨h0, h1, h2, h3, h4, h5⟩ := hr.facts
    go_wp2_with fail
    go_quiet (fail)
    go_wp2
    go_ret
    exact ⟨rfl, hr.drewN _, hb.drewN _⟩
  · have i1 : ¬ (q : Int) < (S.size : Int) := by omega
    clear hc
    go_enter Tryz.func98, Tryz.ntmps98
    go_wp2_with fail
    refine HB.out.mono ?_
    rintro z w1 ⟨rfl, hr, hb⟩
    obtain ⟨h0, h1, h2, h3, h4, h5⟩ := hr.facts
    go_wp2_with fail
    go_quiet (fail)
    go_wp2
    go_ret
    exact ⟨rfl, hr.drewN _, hb.drewN _⟩
set_option maxHeartbeats 3200000 in
theorem rsign_err {w0 w : World} {g p e b d : Nat} {lg : Bool} {S : ByteArray} (h : RRd w0 g S w p e b d lg) (he : e = 2 ∨ e = 4) (hp : p ≤ S.size) (hs : S.size ≤ 100000) :
    Calls Tryz.prog 98 #[.pointer (some ⟨g, 0, none⟩), .int .u8 41] w fun z w' => z = .returned (.bool false) ∧ RRd w0 g S w' (skp S p) e b d lg ∧ But g w w' := by
  have HB := Lib.hid (rblanks_c h hp hs)
  have i0 : ¬ ((e : Int) = 0) := by omega
  have i1 : ((e : Int) == 0) = false := beq_eq_false_iff_ne.2 i0
  clear he
  generalize skp S p = q at *
  go_enter Tryz.func98, Tryz.ntmps98
  go_wp2_with fail
  refine HB.out.mono ?_
  rintro z w1 ⟨rfl, hr, hb⟩
  obtain ⟨h0, h1, h2, h3, h4, h5⟩ := hr.facts
  go_wp2_with fail
  go_quiet (fail)
  go_wp2
  go_ret
  exact ⟨rfl, hr.drewN _, hb.drewN _⟩
end Go.Proofs.YtcmkgoikmleanaaGreatDoor
