/-
  The document's looks over an expression that came in and may be; its nodes; its Print.
-/
import Derived.Test.YtdpbceipiappjaaGreatDoorTg
namespace Go.Proofs.YtdpbceipiappjaaGreatDoor
set_option maxRecDepth 20000
open Go.RowKit

set_option maxHeartbeats 1600000 in
theorem rblank_true (y : Rv) (w : World) (h : Blk w y) : Calls Tryz.prog 25 #[.agg #[.bool y.s, .slice y.A y.n y.c, .slice y.B y.m y.d]] w fun e w' => e = .returned (.bool true) ∧ Below w.heap.size w w' := by
  obtain ⟨hs, hn, hm⟩ := h
  have k_y := C3.new w (.bool y.s) (.slice y.A y.n y.c) (.slice y.B y.m y.d)
  have hb0 := (Below.refl w.heap.size w).alloc (Nat.le_refl _) (.cells #[.bool y.s, .slice y.A y.n y.c, .slice y.B y.m y.d] 24)
  obtain ⟨q0, q1, q2, q3, q4, q5⟩ := k_y.facts
  have i1 : (y.n : Int) = 0 := by omega
  have j1 : ((y.n : Int) == 0) = true := by rw [beq_iff_eq]; exact i1
  by_cases hm0 : y.m = 0
  · have i2 : (y.m : Int) = 0 := by omega
    have j2 : ((y.m : Int) == 0) = true := by rw [beq_iff_eq]; exact i2
    clear hn hm hm0 i1 i2
    obtain ⟨ys, yA, yn, yc, yB, ym, yd⟩ := y
    dsimp only at *
    subst hs
    go_enter Tryz.func25, Tryz.ntmps25
    go_wp2
    go_ret
    exact ⟨rfl, hb0⟩
  · have i2 : ¬ (y.m : Int) = 0 := by omega
    have j2 : ((y.m : Int) == 0) = false := beq_eq_false_iff_ne.2 i2
    have hr := hm.resolve_left hm0
    have hN := isN_rt hr
    have hw : Rw w y 0 90 := (hr.rw (Sz.zero (p := 90) (by omega)))
    have hr0 : rn y.s (val (lim (0 : Rat).num.natAbs)) (val (lim (0 : Rat).den)) = 0 := by rw [val_lim, val_lim, hr.sign]; exact rn_self 0
    have HC := Lib.hid (rIs_c y _ _ 0 true _ (hw.below hb0) (hr.num.below hb0) (hr.den.below hb0) hr0 ⟨fun _ => hN, fun _ => rfl⟩)
    clear hr hw hN hr0 hn hm hm0 i1
    obtain ⟨ys, yA, yn, yc, yB, ym, yd⟩ := y
    dsimp only at *
    subst hs
    go_enter Tryz.func25, Tryz.ntmps25
    go_wp2_with fail
    refine HC.out.mono ?_
    rintro e w1 ⟨rfl, hb1⟩
    clear q0 q1 q2 q3 q4 q5
    go_wp2
    go_ret
    exact ⟨rfl, hb0.trans (hb1.mono hb0.size)⟩
theorem Blk.below {w w' : World} {y : Rv} (h : Blk w y) (hb : Below w.heap.size w w') : Blk w' y := ⟨h.1, h.2.1, h.2.2.imp id (fun h => h.below hb)⟩
set_option maxHeartbeats 3200000 in
theorem oneT_num (y : Rv) (K : Option Addr) (c d : Nat) (r : Rat) (w : World) (hd : d ≤ 32) (hy : Rt w 0 y r) (sz : Sz r 75) (hN : NumOk r) :
    Calls Tryz.prog 13 #[.agg #[.int .i64 1, .bool y.s, .slice y.A y.n y.c, .slice y.B y.m y.d, .string ⟨#[]⟩, .slice K 0 c], .int .i64 d] w fun e w' => e = .returned (.bool true) ∧ Below w.heap.size w w' := by
  have i1 : ¬ (32 : Int) < (d : Int) := by omega
  obtain ⟨G, hE⟩ := hN.2.2.2
  have hs : y.s = false := by rw [hy.sign]; exact decide_eq_false hN.2.2.1
  have HS := Lib.hid hs
  clear hs
  have HE := Lib.hid hE
  have HG : Hid ((lim r.num.natAbs).length ≤ 16 ∧ (lim r.den).length ≤ 16) := ⟨hN.1, hN.2.1⟩
  have k_e := C6.new w (.int .i64 1) (.bool y.s) (.slice y.A y.n y.c) (.slice y.B y.m y.d) (.string ⟨#[]⟩) (.slice K 0 c)
  have hb0 := (Below.refl w.heap.size w).alloc (Nat.le_refl _) (.cells #[.int .i64 1, .bool y.s, .slice y.A y.n y.c, .slice y.B y.m y.d, .string ⟨#[]⟩, .slice K 0 c] 27)
  replace hy := hy.below hb0
  clear hE hN
  obtain ⟨e0, e1, e2, e3, e4, e5⟩ := k_e.facts
  go_enter Tryz.func13, Tryz.ntmps13
  go_wp2_with fail
  refine (rExact50_v G true y r _ HE.out (hy.rw sz)).mono ?_
  rintro e w2 ⟨rfl, hb2⟩
  replace k_e := k_e.below hb2
  replace hy := hy.below hb2
  replace hb0 := hb0.trans (hb2.mono hb0.size)
  clear hb2 e0 e1 e2 e3 e4 e5
  obtain ⟨e0, e1, e2, e3, e4, e5⟩ := k_e.facts
  go_wp2_with fail
  refine (rGood_c y r true _ hy sz ⟨fun _ => HG.out, fun _ => rfl⟩).mono ?_
  rintro e w3 ⟨rfl, hb2⟩
  replace k_e := k_e.below hb2
  replace hb0 := hb0.trans (hb2.mono hb0.size)
  clear hb2 e0 e1 e2 e3 e4 e5 hy
  obtain ⟨e0, e1, e2, e3, e4, e5⟩ := k_e.facts
  rw [HS.out] at e1
  go_wp2
  go_ret
  exact ⟨rfl, hb0⟩
set_option maxHeartbeats 3200000 in
theorem oneT_nm (y : Rv) (st : ByteArray) (K : Option Addr) (c d : Nat) (w : World) (hd : d ≤ 32) (hy : Blk w y) (hst : isName st = true) :
    Calls Tryz.prog 13 #[.agg #[.int .i64 2, .bool y.s, .slice y.A y.n y.c, .slice y.B y.m y.d, .string st, .slice K 0 c], .int .i64 d] w fun e w' => e = .returned (.bool true) ∧ Below w.heap.size w w' := by
  have i1 : ¬ (32 : Int) < (d : Int) := by omega
  have k_e := C6.new w (.int .i64 2) (.bool y.s) (.slice y.A y.n y.c) (.slice y.B y.m y.d) (.string st) (.slice K 0 c)
  have hb0 := (Below.refl w.heap.size w).alloc (Nat.le_refl _) (.cells #[.int .i64 2, .bool y.s, .slice y.A y.n y.c, .slice y.B y.m y.d, .string st, .slice K 0 c] 27)
  replace hy := hy.below hb0
  have HNM := Lib.hid (rName_c st)
  rw [hst] at HNM
  clear hst
  obtain ⟨e0, e1, e2, e3, e4, e5⟩ := k_e.facts
  go_enter Tryz.func13, Tryz.ntmps13
  go_wp2_with fail
  refine (HNM.out _).mono ?_
  rintro e w2 ⟨rfl, rfl⟩
  go_wp2_with fail
  refine (rblank_true y _ hy).mono ?_
  rintro e w3 ⟨rfl, hb2⟩
  replace hb0 := hb0.trans (hb2.mono hb0.size)
  clear hb2 e0 e1 e2 e3 e4 e5 k_e
  go_wp2
  go_ret
  exact ⟨rfl, hb0⟩
set_option maxHeartbeats 6400000 in
theorem oneT_step3 (y : Rv) (b0 off c d : Nat) (xs : Nat → Ev) (w w0 : World) (hd : d ≤ 32) (hy : Blk w0 y) (hbw : Below w0.heap.size w0 w) (hb : b0 < w0.heap.size) (hx : ∀ i, i < 2 → At6 w0 b0 (off + i * 6) (xs i))
    (IH : Hid (∀ i, i < 2 → ∀ w', Below w0.heap.size w0 w' → Calls Tryz.prog 13 #[.agg #[.int .i64 (xs i).k, .bool (xs i).r.s, .slice (xs i).r.A (xs i).r.n (xs i).r.c, .slice (xs i).r.B (xs i).r.m (xs i).r.d, .string (xs i).s, .slice (xs i).K (xs i).n (xs i).c], .int .i64 ((d + 1 : Nat) : Int)] w' fun e w'' => e = .returned (.bool true) ∧ Below w'.heap.size w' w'')) :
    Calls Tryz.prog 13 #[.agg #[.int .i64 3, .bool y.s, .slice y.A y.n y.c, .slice y.B y.m y.d, .string ⟨#[]⟩, .slice (some ⟨b0, off, none⟩) 2 c], .int .i64 d] w fun e w' => e = .returned (.bool true) ∧ Below w.heap.size w w' := by
  have i1 : ¬ (32 : Int) < (d : Int) := by omega
  have i2 : (d : Int) ≤ 32 := by omega
  have i3 : (0 : Int) ≤ (d : Int) := by omega
  have k_e := C6.new w (.int .i64 3) (.bool y.s) (.slice y.A y.n y.c) (.slice y.B y.m y.d) (.string ⟨#[]⟩) (.slice (some ⟨b0, off, none⟩) 2 c)
  have hb0 := (Below.refl w.heap.size w).alloc (Nat.le_refl _) (.cells #[.int .i64 3, .bool y.s, .slice y.A y.n y.c, .slice y.B y.m y.d, .string ⟨#[]⟩, .slice (some ⟨b0, off, none⟩) 2 c] 27)
  have hy1 := hy.below (hbw.trans (hb0.mono hbw.size))
  obtain ⟨e0, e1, e2, e3, e4, e5⟩ := k_e.facts
  go_enter Tryz.func13, Tryz.ntmps13
  go_wp2_with fail
  refine (rblank_true y _ hy1).mono ?_
  rintro e w1 ⟨rfl, hb2⟩
  replace k_e := k_e.below hb2
  replace hb0 := hb0.trans (hb2.mono hb0.size)
  clear hb2 e0 e1 e2 e3 e4 e5 hy1
  obtain ⟨e0, e1, e2, e3, e4, e5⟩ := k_e.facts
  go_wp2
  clear e0 e1 e2 e3 e4 e5
  go_loopw [8] (fun iv wr => ∃ i : Nat, i ≤ 2 ∧ iv = .int .i64 i ∧ C6 wr w.heap.size (.int .i64 3) (.bool y.s) (.slice y.A y.n y.c) (.slice y.B y.m y.d) (.string ⟨#[]⟩) (.slice (some ⟨b0, off, none⟩) 2 c) ∧ Below w.heap.size w wr) (fun iv _ => 2 - (intOf iv).toNat)
  case atStart => exact ⟨0, Nat.zero_le _, rfl, k_e, hb0⟩
  case round =>
    clear k_e hb0
    obtain ⟨i, hi, rfl, k_e, hb0⟩ := hrel
    obtain ⟨e0, e1, e2, e3, e4, e5⟩ := k_e.facts
    have a0 : (0 : Int) ≤ (i : Int) := by omega
    by_cases hlt : i < 2
    · have a1 : (i : Int) < 2 := by omega
      have hB : Below w0.heap.size w0 wr := hbw.trans (hb0.mono hbw.size)
      have HC := Lib.hid (IH.out i hlt wr hB)
      obtain ⟨x0, x1, x2, x3, x4, x5⟩ := (hx i hlt).keep (hB.block b0 hb)
      generalize xs i = x at *
      go_wp2_with fail
      have hd1 : (d : Int) + 1 = ((d + 1 : Nat) : Int) := by omega
      rw [hd1]
      clear hd1
      refine HC.out.mono ?_
      rintro e w2 ⟨rfl, hb2⟩
      replace k_e := k_e.below hb2
      replace hb0 := hb0.trans (hb2.mono hb0.size)
      clear hb2 HC e0 e1 e2 e3 e4 e5 x0 x1 x2 x3 x4 x5
      go_wp2
      go_roundw
      case rel => exact ⟨i + 1, by omega, by go_num, k_e, hb0⟩
      case measure => simp [intOf]; omega
    · have e : i = 2 := by omega
      have a1 : ¬ (i : Int) < 2 := by omega
      clear e
      go_wp2
      go_ret
      exact ⟨rfl, hb0⟩
set_option maxHeartbeats 6400000 in
theorem oneT_step4 (y : Rv) (b0 off c d : Nat) (xs : Nat → Ev) (w w0 : World) (hd : d ≤ 32) (hy : Blk w0 y) (hbw : Below w0.heap.size w0 w) (hb : b0 < w0.heap.size) (hx : ∀ i, i < 2 → At6 w0 b0 (off + i * 6) (xs i))
    (IH : Hid (∀ i, i < 2 → ∀ w', Below w0.heap.size w0 w' → Calls Tryz.prog 13 #[.agg #[.int .i64 (xs i).k, .bool (xs i).r.s, .slice (xs i).r.A (xs i).r.n (xs i).r.c, .slice (xs i).r.B (xs i).r.m (xs i).r.d, .string (xs i).s, .slice (xs i).K (xs i).n (xs i).c], .int .i64 ((d + 1 : Nat) : Int)] w' fun e w'' => e = .returned (.bool true) ∧ Below w'.heap.size w' w'')) :
    Calls Tryz.prog 13 #[.agg #[.int .i64 4, .bool y.s, .slice y.A y.n y.c, .slice y.B y.m y.d, .string ⟨#[]⟩, .slice (some ⟨b0, off, none⟩) 2 c], .int .i64 d] w fun e w' => e = .returned (.bool true) ∧ Below w.heap.size w w' := by
  have i1 : ¬ (32 : Int) < (d : Int) := by omega
  have i2 : (d : Int) ≤ 32 := by omega
  have i3 : (0 : Int) ≤ (d : Int) := by omega
  have k_e := C6.new w (.int .i64 4) (.bool y.s) (.slice y.A y.n y.c) (.slice y.B y.m y.d) (.string ⟨#[]⟩) (.slice (some ⟨b0, off, none⟩) 2 c)
  have hb0 := (Below.refl w.heap.size w).alloc (Nat.le_refl _) (.cells #[.int .i64 4, .bool y.s, .slice y.A y.n y.c, .slice y.B y.m y.d, .string ⟨#[]⟩, .slice (some ⟨b0, off, none⟩) 2 c] 27)
  have hy1 := hy.below (hbw.trans (hb0.mono hbw.size))
  obtain ⟨e0, e1, e2, e3, e4, e5⟩ := k_e.facts
  go_enter Tryz.func13, Tryz.ntmps13
  go_wp2_with fail
  refine (rblank_true y _ hy1).mono ?_
  rintro e w1 ⟨rfl, hb2⟩
  replace k_e := k_e.below hb2
  replace hb0 := hb0.trans (hb2.mono hb0.size)
  clear hb2 e0 e1 e2 e3 e4 e5 hy1
  obtain ⟨e0, e1, e2, e3, e4, e5⟩ := k_e.facts
  go_wp2
  clear e0 e1 e2 e3 e4 e5
  go_loopw [8] (fun iv wr => ∃ i : Nat, i ≤ 2 ∧ iv = .int .i64 i ∧ C6 wr w.heap.size (.int .i64 4) (.bool y.s) (.slice y.A y.n y.c) (.slice y.B y.m y.d) (.string ⟨#[]⟩) (.slice (some ⟨b0, off, none⟩) 2 c) ∧ Below w.heap.size w wr) (fun iv _ => 2 - (intOf iv).toNat)
  case atStart => exact ⟨0, Nat.zero_le _, rfl, k_e, hb0⟩
  case round =>
    clear k_e hb0
    obtain ⟨i, hi, rfl, k_e, hb0⟩ := hrel
    obtain ⟨e0, e1, e2, e3, e4, e5⟩ := k_e.facts
    have a0 : (0 : Int) ≤ (i : Int) := by omega
    by_cases hlt : i < 2
    · have a1 : (i : Int) < 2 := by omega
      have hB : Below w0.heap.size w0 wr := hbw.trans (hb0.mono hbw.size)
      have HC := Lib.hid (IH.out i hlt wr hB)
      obtain ⟨x0, x1, x2, x3, x4, x5⟩ := (hx i hlt).keep (hB.block b0 hb)
      generalize xs i = x at *
      go_wp2_with fail
      have hd1 : (d : Int) + 1 = ((d + 1 : Nat) : Int) := by omega
      rw [hd1]
      clear hd1
      refine HC.out.mono ?_
      rintro e w2 ⟨rfl, hb2⟩
      replace k_e := k_e.below hb2
      replace hb0 := hb0.trans (hb2.mono hb0.size)
      clear hb2 HC e0 e1 e2 e3 e4 e5 x0 x1 x2 x3 x4 x5
      go_wp2
      go_roundw
      case rel => exact ⟨i + 1, by omega, by go_num, k_e, hb0⟩
      case measure => simp [intOf]; omega
    · have e : i = 2 := by omega
      have a1 : ¬ (i : Int) < 2 := by omega
      clear e
      go_wp2
      go_ret
      exact ⟨rfl, hb0⟩
set_option maxHeartbeats 6400000 in
theorem oneT_step5 (y : Rv) (b0 off c d : Nat) (xs : Nat → Ev) (w w0 : World) (hd : d ≤ 32) (hy : Blk w0 y) (hbw : Below w0.heap.size w0 w) (hb : b0 < w0.heap.size) (hx : ∀ i, i < 2 → At6 w0 b0 (off + i * 6) (xs i))
    (IH : Hid (∀ i, i < 2 → ∀ w', Below w0.heap.size w0 w' → Calls Tryz.prog 13 #[.agg #[.int .i64 (xs i).k, .bool (xs i).r.s, .slice (xs i).r.A (xs i).r.n (xs i).r.c, .slice (xs i).r.B (xs i).r.m (xs i).r.d, .string (xs i).s, .slice (xs i).K (xs i).n (xs i).c], .int .i64 ((d + 1 : Nat) : Int)] w' fun e w'' => e = .returned (.bool true) ∧ Below w'.heap.size w' w'')) :
    Calls Tryz.prog 13 #[.agg #[.int .i64 5, .bool y.s, .slice y.A y.n y.c, .slice y.B y.m y.d, .string ⟨#[]⟩, .slice (some ⟨b0, off, none⟩) 2 c], .int .i64 d] w fun e w' => e = .returned (.bool true) ∧ Below w.heap.size w w' := by
  have i1 : ¬ (32 : Int) < (d : Int) := by omega
  have i2 : (d : Int) ≤ 32 := by omega
  have i3 : (0 : Int) ≤ (d : Int) := by omega
  have k_e := C6.new w (.int .i64 5) (.bool y.s) (.slice y.A y.n y.c) (.slice y.B y.m y.d) (.string ⟨#[]⟩) (.slice (some ⟨b0, off, none⟩) 2 c)
  have hb0 := (Below.refl w.heap.size w).alloc (Nat.le_refl _) (.cells #[.int .i64 5, .bool y.s, .slice y.A y.n y.c, .slice y.B y.m y.d, .string ⟨#[]⟩, .slice (some ⟨b0, off, none⟩) 2 c] 27)
  have hy1 := hy.below (hbw.trans (hb0.mono hbw.size))
  obtain ⟨e0, e1, e2, e3, e4, e5⟩ := k_e.facts
  go_enter Tryz.func13, Tryz.ntmps13
  go_wp2_with fail
  refine (rblank_true y _ hy1).mono ?_
  rintro e w1 ⟨rfl, hb2⟩
  replace k_e := k_e.below hb2
  replace hb0 := hb0.trans (hb2.mono hb0.size)
  clear hb2 e0 e1 e2 e3 e4 e5 hy1
  obtain ⟨e0, e1, e2, e3, e4, e5⟩ := k_e.facts
  go_wp2
  clear e0 e1 e2 e3 e4 e5
  go_loopw [8] (fun iv wr => ∃ i : Nat, i ≤ 2 ∧ iv = .int .i64 i ∧ C6 wr w.heap.size (.int .i64 5) (.bool y.s) (.slice y.A y.n y.c) (.slice y.B y.m y.d) (.string ⟨#[]⟩) (.slice (some ⟨b0, off, none⟩) 2 c) ∧ Below w.heap.size w wr) (fun iv _ => 2 - (intOf iv).toNat)
  case atStart => exact ⟨0, Nat.zero_le _, rfl, k_e, hb0⟩
  case round =>
    clear k_e hb0
    obtain ⟨i, hi, rfl, k_e, hb0⟩ := hrel
    obtain ⟨e0, e1, e2, e3, e4, e5⟩ := k_e.facts
    have a0 : (0 : Int) ≤ (i : Int) := by omega
    by_cases hlt : i < 2
    · have a1 : (i : Int) < 2 := by omega
      have hB : Below w0.heap.size w0 wr := hbw.trans (hb0.mono hbw.size)
      have HC := Lib.hid (IH.out i hlt wr hB)
      obtain ⟨x0, x1, x2, x3, x4, x5⟩ := (hx i hlt).keep (hB.block b0 hb)
      generalize xs i = x at *
      go_wp2_with fail
      have hd1 : (d : Int) + 1 = ((d + 1 : Nat) : Int) := by omega
      rw [hd1]
      clear hd1
      refine HC.out.mono ?_
      rintro e w2 ⟨rfl, hb2⟩
      replace k_e := k_e.below hb2
      replace hb0 := hb0.trans (hb2.mono hb0.size)
      clear hb2 HC e0 e1 e2 e3 e4 e5 x0 x1 x2 x3 x4 x5
      go_wp2
      go_roundw
      case rel => exact ⟨i + 1, by omega, by go_num, k_e, hb0⟩
      case measure => simp [intOf]; omega
    · have e : i = 2 := by omega
      have a1 : ¬ (i : Int) < 2 := by omega
      clear e
      go_wp2
      go_ret
      exact ⟨rfl, hb0⟩
set_option maxHeartbeats 6400000 in
theorem oneT_step6 (y : Rv) (b0 off c d : Nat) (xs : Nat → Ev) (w w0 : World) (hd : d ≤ 32) (hy : Blk w0 y) (hbw : Below w0.heap.size w0 w) (hb : b0 < w0.heap.size) (hx : ∀ i, i < 2 → At6 w0 b0 (off + i * 6) (xs i))
    (IH : Hid (∀ i, i < 2 → ∀ w', Below w0.heap.size w0 w' → Calls Tryz.prog 13 #[.agg #[.int .i64 (xs i).k, .bool (xs i).r.s, .slice (xs i).r.A (xs i).r.n (xs i).r.c, .slice (xs i).r.B (xs i).r.m (xs i).r.d, .string (xs i).s, .slice (xs i).K (xs i).n (xs i).c], .int .i64 ((d + 1 : Nat) : Int)] w' fun e w'' => e = .returned (.bool true) ∧ Below w'.heap.size w' w'')) :
    Calls Tryz.prog 13 #[.agg #[.int .i64 6, .bool y.s, .slice y.A y.n y.c, .slice y.B y.m y.d, .string ⟨#[]⟩, .slice (some ⟨b0, off, none⟩) 2 c], .int .i64 d] w fun e w' => e = .returned (.bool true) ∧ Below w.heap.size w w' := by
  have i1 : ¬ (32 : Int) < (d : Int) := by omega
  have i2 : (d : Int) ≤ 32 := by omega
  have i3 : (0 : Int) ≤ (d : Int) := by omega
  have k_e := C6.new w (.int .i64 6) (.bool y.s) (.slice y.A y.n y.c) (.slice y.B y.m y.d) (.string ⟨#[]⟩) (.slice (some ⟨b0, off, none⟩) 2 c)
  have hb0 := (Below.refl w.heap.size w).alloc (Nat.le_refl _) (.cells #[.int .i64 6, .bool y.s, .slice y.A y.n y.c, .slice y.B y.m y.d, .string ⟨#[]⟩, .slice (some ⟨b0, off, none⟩) 2 c] 27)
  have hy1 := hy.below (hbw.trans (hb0.mono hbw.size))
  obtain ⟨e0, e1, e2, e3, e4, e5⟩ := k_e.facts
  go_enter Tryz.func13, Tryz.ntmps13
  go_wp2_with fail
  refine (rblank_true y _ hy1).mono ?_
  rintro e w1 ⟨rfl, hb2⟩
  replace k_e := k_e.below hb2
  replace hb0 := hb0.trans (hb2.mono hb0.size)
  clear hb2 e0 e1 e2 e3 e4 e5 hy1
  obtain ⟨e0, e1, e2, e3, e4, e5⟩ := k_e.facts
  go_wp2
  clear e0 e1 e2 e3 e4 e5
  go_loopw [8] (fun iv wr => ∃ i : Nat, i ≤ 2 ∧ iv = .int .i64 i ∧ C6 wr w.heap.size (.int .i64 6) (.bool y.s) (.slice y.A y.n y.c) (.slice y.B y.m y.d) (.string ⟨#[]⟩) (.slice (some ⟨b0, off, none⟩) 2 c) ∧ Below w.heap.size w wr) (fun iv _ => 2 - (intOf iv).toNat)
  case atStart => exact ⟨0, Nat.zero_le _, rfl, k_e, hb0⟩
  case round =>
    clear k_e hb0
    obtain ⟨i, hi, rfl, k_e, hb0⟩ := hrel
    obtain ⟨e0, e1, e2, e3, e4, e5⟩ := k_e.facts
    have a0 : (0 : Int) ≤ (i : Int) := by omega
    by_cases hlt : i < 2
    · have a1 : (i : Int) < 2 := by omega
      have hB : Below w0.heap.size w0 wr := hbw.trans (hb0.mono hbw.size)
      have HC := Lib.hid (IH.out i hlt wr hB)
      obtain ⟨x0, x1, x2, x3, x4, x5⟩ := (hx i hlt).keep (hB.block b0 hb)
      generalize xs i = x at *
      go_wp2_with fail
      have hd1 : (d : Int) + 1 = ((d + 1 : Nat) : Int) := by omega
      rw [hd1]
      clear hd1
      refine HC.out.mono ?_
      rintro e w2 ⟨rfl, hb2⟩
      replace k_e := k_e.below hb2
      replace hb0 := hb0.trans (hb2.mono hb0.size)
      clear hb2 HC e0 e1 e2 e3 e4 e5 x0 x1 x2 x3 x4 x5
      go_wp2
      go_roundw
      case rel => exact ⟨i + 1, by omega, by go_num, k_e, hb0⟩
      case measure => simp [intOf]; omega
    · have e : i = 2 := by omega
      have a1 : ¬ (i : Int) < 2 := by omega
      clear e
      go_wp2
      go_ret
      exact ⟨rfl, hb0⟩
set_option maxHeartbeats 6400000 in
theorem oneT_step7 (y : Rv) (b0 off c d : Nat) (xs : Nat → Ev) (w w0 : World) (hd : d ≤ 32) (hy : Blk w0 y) (hbw : Below w0.heap.size w0 w) (hb : b0 < w0.heap.size) (hx : ∀ i, i < 1 → At6 w0 b0 (off + i * 6) (xs i))
    (IH : Hid (∀ i, i < 1 → ∀ w', Below w0.heap.size w0 w' → Calls Tryz.prog 13 #[.agg #[.int .i64 (xs i).k, .bool (xs i).r.s, .slice (xs i).r.A (xs i).r.n (xs i).r.c, .slice (xs i).r.B (xs i).r.m (xs i).r.d, .string (xs i).s, .slice (xs i).K (xs i).n (xs i).c], .int .i64 ((d + 1 : Nat) : Int)] w' fun e w'' => e = .returned (.bool true) ∧ Below w'.heap.size w' w'')) :
    Calls Tryz.prog 13 #[.agg #[.int .i64 7, .bool y.s, .slice y.A y.n y.c, .slice y.B y.m y.d, .string ⟨#[]⟩, .slice (some ⟨b0, off, none⟩) 1 c], .int .i64 d] w fun e w' => e = .returned (.bool true) ∧ Below w.heap.size w w' := by
  have i1 : ¬ (32 : Int) < (d : Int) := by omega
  have i2 : (d : Int) ≤ 32 := by omega
  have i3 : (0 : Int) ≤ (d : Int) := by omega
  have k_e := C6.new w (.int .i64 7) (.bool y.s) (.slice y.A y.n y.c) (.slice y.B y.m y.d) (.string ⟨#[]⟩) (.slice (some ⟨b0, off, none⟩) 1 c)
  have hb0 := (Below.refl w.heap.size w).alloc (Nat.le_refl _) (.cells #[.int .i64 7, .bool y.s, .slice y.A y.n y.c, .slice y.B y.m y.d, .string ⟨#[]⟩, .slice (some ⟨b0, off, none⟩) 1 c] 27)
  have hy1 := hy.below (hbw.trans (hb0.mono hbw.size))
  obtain ⟨e0, e1, e2, e3, e4, e5⟩ := k_e.facts
  go_enter Tryz.func13, Tryz.ntmps13
  go_wp2_with fail
  refine (rblank_true y _ hy1).mono ?_
  rintro e w1 ⟨rfl, hb2⟩
  replace k_e := k_e.below hb2
  replace hb0 := hb0.trans (hb2.mono hb0.size)
  clear hb2 e0 e1 e2 e3 e4 e5 hy1
  obtain ⟨e0, e1, e2, e3, e4, e5⟩ := k_e.facts
  go_wp2
  clear e0 e1 e2 e3 e4 e5
  go_loopw [8] (fun iv wr => ∃ i : Nat, i ≤ 1 ∧ iv = .int .i64 i ∧ C6 wr w.heap.size (.int .i64 7) (.bool y.s) (.slice y.A y.n y.c) (.slice y.B y.m y.d) (.string ⟨#[]⟩) (.slice (some ⟨b0, off, none⟩) 1 c) ∧ Below w.heap.size w wr) (fun iv _ => 1 - (intOf iv).toNat)
  case atStart => exact ⟨0, Nat.zero_le _, rfl, k_e, hb0⟩
  case round =>
    clear k_e hb0
    obtain ⟨i, hi, rfl, k_e, hb0⟩ := hrel
    obtain ⟨e0, e1, e2, e3, e4, e5⟩ := k_e.facts
    have a0 : (0 : Int) ≤ (i : Int) := by omega
    by_cases hlt : i < 1
    · have a1 : (i : Int) < 1 := by omega
      have hB : Below w0.heap.size w0 wr := hbw.trans (hb0.mono hbw.size)
      have HC := Lib.hid (IH.out i hlt wr hB)
      obtain ⟨x0, x1, x2, x3, x4, x5⟩ := (hx i hlt).keep (hB.block b0 hb)
      generalize xs i = x at *
      go_wp2_with fail
      have hd1 : (d : Int) + 1 = ((d + 1 : Nat) : Int) := by omega
      rw [hd1]
      clear hd1
      refine HC.out.mono ?_
      rintro e w2 ⟨rfl, hb2⟩
      replace k_e := k_e.below hb2
      replace hb0 := hb0.trans (hb2.mono hb0.size)
      clear hb2 HC e0 e1 e2 e3 e4 e5 x0 x1 x2 x3 x4 x5
      go_wp2
      go_roundw
      case rel => exact ⟨i + 1, by omega, by go_num, k_e, hb0⟩
      case measure => simp [intOf]; omega
    · have e : i = 1 := by omega
      have a1 : ¬ (i : Int) < 1 := by omega
      clear e
      go_wp2
      go_ret
      exact ⟨rfl, hb0⟩
theorem oneT_c {w0 : World} : ∀ (t : Ex) (v : Ev) (d : Nat) (w : World), t.fine → t.wf → t.szd → t.deep + d ≤ 33 → Tg w0 t v → Below w0.heap.size w0 w →
    Calls Tryz.prog 13 #[.agg #[.int .i64 v.k, .bool v.r.s, .slice v.r.A v.r.n v.r.c, .slice v.r.B v.r.m v.r.d, .string v.s, .slice v.K v.n v.c], .int .i64 d] w fun e w' => e = .returned (.bool true) ∧ Below w.heap.size w w' := by
  intro t
  induction t with
  | bad => exact fun v d w h => absurd h (fun h => h)
  | num r =>
    intro v d w hf _ hs hd ht hb
    obtain ⟨vk, y, st, K, n, c⟩ := v
    obtain ⟨h1, h2, h3, h4⟩ := ht
    dsimp only at *
    subst h1; subst h2; subst h3
    exact oneT_num y K c d r w (by have h1 : (Ex.num r).deep = 1 := rfl; omega) (h4.below hb) hs hf
  | nm s =>
    intro v d w hf _ _ hd ht hb
    obtain ⟨vk, y, st, K, n, c⟩ := v
    obtain ⟨h1, h2, h3, h4⟩ := ht
    dsimp only at *
    subst h1; subst h2; subst h3
    exact oneT_nm y st K c d w (by have h1 : (Ex.nm st).deep = 1 := rfl; omega) (h4.below hb) hf
  | neg a iha =>
    intro v d w hf hw hs hd ht hb
    obtain ⟨vk, y, st, K, n, c⟩ := v
    obtain ⟨h1, h2, h3, h4, b0, off, x, h5, h6, h7, h8⟩ := ht
    dsimp only at *
    subst h1; subst h2; subst h3; subst h5
    have hd' : a.deep + 1 + d ≤ 33 := hd
    refine oneT_step7 y b0 off c d (fun _ => x) w w0 (by omega) h4 hb h6 (fun i hi => ?_) (Lib.hid fun i _ w' hb' => iha x (d + 1) w' hf hw hs (by omega) h8 hb')
    have e : i = 0 := by omega
    subst e; exact h7
  | bin k a b iha ihb =>
    intro v d w hf hw hs hd ht hb
    obtain ⟨vk, y, st, K, n, c⟩ := v
    obtain ⟨h1, h2, h3, h4, b0, off, x, z, h5, h6, h7, h8, h9, h10⟩ := ht
    dsimp only at *
    subst h1; subst h2; subst h3; subst h5
    obtain ⟨hk, wa, wb⟩ := hw
    have hd' : max a.deep b.deep + 1 + d ≤ 33 := hd
    have H : ∀ i, i < 2 → At6 w0 b0 (off + i * 6) (two_ x z i) := by
      intro i hi
      rcases i with _ | _ | i
      · exact h7
      · exact h8
      · omega
    have I : Hid (∀ i, i < 2 → ∀ w', Below w0.heap.size w0 w' → Calls Tryz.prog 13 #[.agg #[.int .i64 (two_ x z i).k, .bool (two_ x z i).r.s, .slice (two_ x z i).r.A (two_ x z i).r.n (two_ x z i).r.c, .slice (two_ x z i).r.B (two_ x z i).r.m (two_ x z i).r.d, .string (two_ x z i).s, .slice (two_ x z i).K (two_ x z i).n (two_ x z i).c], .int .i64 ((d + 1 : Nat) : Int)] w' fun e w'' => e = .returned (.bool true) ∧ Below w'.heap.size w' w'') := by
      intro i hi w' hb'
      rcases i with _ | _ | i
      · exact iha x (d + 1) w' hf.1 wa hs.1 (by omega) h9 hb'
      · exact ihb z (d + 1) w' hf.2 wb hs.2 (by omega) h10 hb'
      · omega
    rcases hk with rfl | rfl | rfl | rfl
    · exact oneT_step3 y b0 off c d _ w w0 (by omega) h4 hb h6 H I
    · exact oneT_step4 y b0 off c d _ w w0 (by omega) h4 hb h6 H I
    · exact oneT_step5 y b0 off c d _ w w0 (by omega) h4 hb h6 H I
    · exact oneT_step6 y b0 off c d _ w w0 (by omega) h4 hb h6 H I
set_option maxHeartbeats 6400000 in
theorem NodesG_step (k : Int) (y : Rv) (st : ByteArray) (K : Option Addr) (n c : Nat) (ds : Nat → Nat) (w w0 : World) (hn : n ≤ 2) (hbw : Below w0.heap.size w0 w) (hd : ∀ i, ds i ≤ 1000000)
    (IH : Hid (∀ i, i < n → ∃ b off x, K = some ⟨b, off, none⟩ ∧ b < w0.heap.size ∧ At6 w0 b (off + i * 6) x ∧ ∀ w', Below w0.heap.size w0 w' → Calls Tryz.prog 14 #[.agg #[.int .i64 x.k, .bool x.r.s, .slice x.r.A x.r.n x.r.c, .slice x.r.B x.r.m x.r.d, .string x.s, .slice x.K x.n x.c]] w' fun e w'' => e = .returned (.int .i64 (ds i)) ∧ Below w'.heap.size w' w'')) :
    Calls Tryz.prog 14 #[.agg #[.int .i64 k, .bool y.s, .slice y.A y.n y.c, .slice y.B y.m y.d, .string st, .slice K n c]] w fun e w' => e = .returned (.int .i64 ((1 + sumD ds n : Nat) : Int)) ∧ Below w.heap.size w w' := by
  have hb0 := (Below.refl w.heap.size w).alloc (Nat.le_refl _) (.cells #[.int .i64 k, .bool y.s, .slice y.A y.n y.c, .slice y.B y.m y.d, .string st, .slice K n c] 27)
  have k_e := C6.new w (.int .i64 k) (.bool y.s) (.slice y.A y.n y.c) (.slice y.B y.m y.d) (.string st) (.slice K n c)
  obtain ⟨e0, e1, e2, e3, e4, e5⟩ := k_e.facts
  go_enter Tryz.func14, Tryz.ntmps14
  go_wp2
  clear e0 e1 e2 e3 e4 e5
  go_loopw [3, 4] (fun dv iv wr => ∃ i : Nat, i ≤ n ∧ iv = .int .i64 i ∧ dv = .int .i64 ((1 + sumD ds i : Nat) : Int) ∧ C6 wr w.heap.size (.int .i64 k) (.bool y.s) (.slice y.A y.n y.c) (.slice y.B y.m y.d) (.string st) (.slice K n c) ∧ Below w.heap.size w wr) (fun _ iv _ => n - (intOf iv).toNat)
  case atStart => exact ⟨0, Nat.zero_le _, rfl, rfl, k_e, hb0⟩
  case round =>
    clear hb0 k_e
    obtain ⟨i, hi, rfl, rfl, k_e, hb0⟩ := hrel
    obtain ⟨e0, e1, e2, e3, e4, e5⟩ := k_e.facts
    have a0 : (0 : Int) ≤ (i : Int) := by omega
    have hm := sumD_le ds hd i (by omega)
    have hm2 := hd i
    by_cases hlt : i < n
    · have a1 : (i : Int) < (n : Int) := by omega
      have a2 : (i : Int) ≤ 2 := by omega
      obtain ⟨b, off, x, hKb, hbl, hx, hcall⟩ := IH.out i hlt
      have hB : Below w0.heap.size w0 wr := hbw.trans (hb0.mono hbw.size)
      have HC := Lib.hid (hcall wr hB)
      obtain ⟨x0, x1, x2, x3, x4, x5⟩ := hx.keep (hB.block b hbl)
      have HKB := Lib.hid hKb
      rw [hKb] at e5
      clear hKb hx hbl hcall
      have HM : Hid (sumD ds (i + 1) = sumD ds i + ds i) := rfl
      generalize sumD ds i = D at *
      generalize ds i = dd at *
      have b1 : (0 : Int) ≤ ((1 + D : Nat) : Int) := by omega
      have b2 : ((1 + D : Nat) : Int) ≤ 2000001 := by omega
      have b3 : (0 : Int) ≤ (dd : Int) := by omega
      have b4 : (dd : Int) ≤ 1000000 := by omega
      go_wp2_with fail
      refine HC.out.mono ?_
      rintro e w2 ⟨rfl, hb2⟩
      replace k_e := k_e.below hb2
      replace hb0 := hb0.trans (hb2.mono hb0.size)
      clear hb2 x0 x1 x2 x3 x4 x5 e0 e1 e2 e3 e4 e5 HC
      go_wp2
      go_roundw
      case rel => exact ⟨i + 1, by omega, by go_num, by rw [HM.out]; exact congrArg (Value.int .i64) (by omega), k_e, hb0⟩
      case measure => simp [intOf]; omega
    · have e : i = n := by omega
      have a1 : ¬ (i : Int) < (n : Int) := by omega
      subst e
      go_wp2
      go_ret
      exact ⟨rfl, hb0⟩
theorem NodesG_c {w0 : World} : ∀ (t : Ex) (v : Ev) (w : World), t.nodes ≤ 1000000 → Tg w0 t v → Below w0.heap.size w0 w →
    Calls Tryz.prog 14 #[.agg #[.int .i64 v.k, .bool v.r.s, .slice v.r.A v.r.n v.r.c, .slice v.r.B v.r.m v.r.d, .string v.s, .slice v.K v.n v.c]] w fun e w' => e = .returned (.int .i64 t.nodes) ∧ Below w.heap.size w w' := by
  intro t
  induction t with
  | bad => exact fun v w _ h => h.elim
  | num r =>
    intro v w _ ht hb
    obtain ⟨vk, y, st, K, n, c⟩ := v
    obtain ⟨h1, h2, h3, h4⟩ := ht
    dsimp only at *
    subst h2
    exact NodesG_step vk y st K 0 c (fun _ => 0) w w0 (by omega) hb (fun _ => by omega) (fun i hi => by omega)
  | nm s =>
    intro v w _ ht hb
    obtain ⟨vk, y, st, K, n, c⟩ := v
    obtain ⟨h1, h2, h3, h4⟩ := ht
    dsimp only at *
    subst h2
    exact NodesG_step vk y st K 0 c (fun _ => 0) w w0 (by omega) hb (fun _ => by omega) (fun i hi => by omega)
  | neg a iha =>
    intro v w hn ht hb
    obtain ⟨vk, y, st, K, n, c⟩ := v
    obtain ⟨h1, h2, h3, h4, b0, off, x, h5, h6, h7, h8⟩ := ht
    dsimp only at *
    subst h2
    have hn' : 1 + a.nodes ≤ 1000000 := hn
    have e : (Ex.neg a).nodes = 1 + sumD (fun _ => a.nodes) 1 := by
      show 1 + a.nodes = 1 + (0 + a.nodes)
      omega
    rw [e]
    refine NodesG_step vk y st K 1 c (fun _ => a.nodes) w w0 (by omega) hb (fun _ => by omega) ?_
    intro i hi
    have e : i = 0 := by omega
    subst e
    exact ⟨b0, off, x, h5, h6, h7, fun w' hb' => iha x w' (by omega) h8 hb'⟩
  | bin k a b iha ihb =>
    intro v w hn ht hb
    obtain ⟨vk, y, st, K, n, c⟩ := v
    obtain ⟨h1, h2, h3, h4, b0, off, x, z, h5, h6, h7, h8, h9, h10⟩ := ht
    dsimp only at *
    subst h2
    have hn' : 1 + a.nodes + b.nodes ≤ 1000000 := hn
    have e : (Ex.bin k a b).nodes = 1 + sumD (two_ a.nodes b.nodes) 2 := by
      show 1 + a.nodes + b.nodes = 1 + (0 + a.nodes + b.nodes)
      omega
    rw [e]
    refine NodesG_step vk y st K 2 c (two_ a.nodes b.nodes) w w0 (by omega) hb (fun i => ?_) ?_
    · rcases i with _ | i
      · show a.nodes ≤ 1000000; omega
      · show b.nodes ≤ 1000000; omega
    · intro i hi
      rcases i with _ | _ | i
      · exact ⟨b0, off, x, h5, h6, h7, fun w' hb' => iha x w' (by omega) h9 hb'⟩
      · exact ⟨b0, off, z, h5, h6, h8, fun w' hb' => ihb z w' (by omega) h10 hb'⟩
      · omega
set_option maxHeartbeats 1600000 in
theorem IsT_c {w w0 : World} {t : Ex} {v : Ev} (hm : t.may 32 256) (hw : t.wf) (hs : t.szd) (ht : Tg w0 t v) (hb : Below w0.heap.size w0 w) :
    Calls Tryz.prog 6 #[.agg #[.int .i64 v.k, .bool v.r.s, .slice v.r.A v.r.n v.r.c, .slice v.r.B v.r.m v.r.d, .string v.s, .slice v.K v.n v.c]] w fun e w' => e = .returned (.bool true) ∧ Below w.heap.size w w' := by
  have k_e := C6.new w (.int .i64 v.k) (.bool v.r.s) (.slice v.r.A v.r.n v.r.c) (.slice v.r.B v.r.m v.r.d) (.string v.s) (.slice v.K v.n v.c)
  have hb0 := (Below.refl w.heap.size w).alloc (Nat.le_refl _) (.cells #[.int .i64 v.k, .bool v.r.s, .slice v.r.A v.r.n v.r.c, .slice v.r.B v.r.m v.r.d, .string v.s, .slice v.K v.n v.c] 27)
  have HC := Lib.hid (oneT_c t v 1 _ hm.1 hw hs (by have := hm.2.1; omega) ht (hb.trans (hb0.mono hb.size)))
  have hn := hm.2.2
  have i1 : (t.nodes : Int) ≤ 256 := by omega
  obtain ⟨e0, e1, e2, e3, e4, e5⟩ := k_e.facts
  go_enter Tryz.func6, Tryz.ntmps6
  go_wp2_with fail
  refine HC.out.mono ?_
  rintro e w1 ⟨rfl, hb1⟩
  replace k_e := k_e.below hb1
  replace hb0 := hb0.trans (hb1.mono hb0.size)
  clear e0 e1 e2 e3 e4 e5 hb1 HC
  obtain ⟨e0, e1, e2, e3, e4, e5⟩ := k_e.facts
  go_wp2_with fail
  refine (NodesG_c t v _ (by omega) ht (hb.trans (hb0.mono hb.size))).mono ?_
  rintro e w2 ⟨rfl, hb1⟩
  replace hb0 := hb0.trans (hb1.mono hb0.size)
  clear hb1 e0 e1 e2 e3 e4 e5
  go_wp2
  go_ret
  exact ⟨rfl, hb0⟩
set_option maxHeartbeats 1600000 in
theorem IsF_c {w w0 : World} {k L : Nat} {v : Ev} (hr : Raw w0 k v) (hl : Light w0 k v L) (hL : L ≤ 605) (hb : Below w0.heap.size w0 w) (hno : ¬ ∃ t : Ex, t.may 32 256 ∧ t.wf ∧ t.szd ∧ Tg w0 t v) :
    Calls Tryz.prog 6 #[.agg #[.int .i64 v.k, .bool v.r.s, .slice v.r.A v.r.n v.r.c, .slice v.r.B v.r.m v.r.d, .string v.s, .slice v.K v.n v.c]] w fun e w' => e = .returned (.bool false) ∧ Below w.heap.size w w' := by
  have k_e := C6.new w (.int .i64 v.k) (.bool v.r.s) (.slice v.r.A v.r.n v.r.c) (.slice v.r.B v.r.m v.r.d) (.string v.s) (.slice v.K v.n v.c)
  have hb0 := (Below.refl w.heap.size w).alloc (Nat.le_refl _) (.cells #[.int .i64 v.k, .bool v.r.s, .slice v.r.A v.r.n v.r.c, .slice v.r.B v.r.m v.r.d, .string v.s, .slice v.K v.n v.c] 27)
  have HC := Lib.hid (oneW_c k v w0 L hr hl hL _ 1 (hb.trans (hb0.mono hb.size)) (by omega))
  have HNO := Lib.hid hno
  clear hno
  obtain ⟨e0, e1, e2, e3, e4, e5⟩ := k_e.facts
  go_enter Tryz.func6, Tryz.ntmps6
  go_wp2_with fail
  refine HC.out.mono ?_
  rintro e w1 ⟨b, rfl, hbt, hb1⟩
  have hbf : b = false := by
    cases b with
    | false => rfl
    | true =>
      obtain ⟨t, h1, h2, h3, h4, h5, h6⟩ := hbt rfl
      exact absurd ⟨t, ⟨h1, by omega, by omega⟩, h2, h3, h6⟩ HNO.out
  subst hbf
  replace hb0 := hb0.trans (hb1.mono hb0.size)
  clear e0 e1 e2 e3 e4 e5 hb1 HC hbt
  go_wp2
  go_ret
  exact ⟨rfl, hb0⟩
end Go.Proofs.YtdpbceipiappjaaGreatDoor
