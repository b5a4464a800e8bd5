/-
  The document's looks: whether a tree may be, its nodes.
-/
import Derived.Test.YtdpbceipiappjaaGreatDoorExYg
namespace Go.Proofs.YtdpbceipiappjaaGreatDoor
set_option maxRecDepth 20000
open Go.RowKit

set_option maxHeartbeats 800000 in
theorem rblank_c (w : World) : Calls Tryz.prog 25 #[.agg #[.bool false, .slice none 0 0, .slice none 0 0]] w fun e w' => e = .returned (.bool true) ∧ Below w.heap.size w w' := by
  go_enter Tryz.func25, Tryz.ntmps25
  go_wp2
  go_ret
  exact ⟨rfl, (Below.refl _ _).alloc (Nat.le_refl _) _⟩
set_option maxHeartbeats 800000 in
theorem one_far (v : Ev) (d : Nat) (h : 32 < d) (w : World) : Calls Tryz.prog 13 #[.agg #[.int .i64 v.k, .bool v.r.s, .slice v.r.A v.r.n v.r.c, .slice v.r.B v.r.m v.r.d, .string v.s, .slice v.K v.n v.c], .int .i64 d] w fun e w' => e = .returned (.bool false) ∧ Below w.heap.size w w' := by
  have i1 : (32 : Int) < (d : Int) := by omega
  go_enter Tryz.func13, Tryz.ntmps13
  go_wp2
  go_ret
  exact ⟨rfl, (Below.refl _ _).alloc (Nat.le_refl _) _⟩
set_option maxHeartbeats 1600000 in
theorem one_bad (d : Nat) (w : World) : Calls Tryz.prog 13 #[.agg #[.int .i64 0, .bool false, .slice none 0 0, .slice none 0 0, .string ⟨#[]⟩, .slice none 0 0], .int .i64 d] w fun e w' => e = .returned (.bool false) ∧ Below w.heap.size w w' := by
  by_cases h : 32 < d
  · exact one_far Ez d h w
  · have i1 : ¬ (32 : Int) < (d : Int) := by omega
    go_enter Tryz.func13, Tryz.ntmps13
    go_wp2
    go_ret
    exact ⟨rfl, (Below.refl _ _).alloc (Nat.le_refl _) _⟩
set_option maxHeartbeats 3200000 in
theorem one_num (y : Rv) (r : Rat) (b : Bool) (d : Nat) (hd : d ≤ 32) (w : World) (hy : Rt w 0 y r) (sz : Sz r 75) (hb : b = true ↔ NumOk r) :
    Calls Tryz.prog 13 #[.agg #[.int .i64 1, .bool y.s, .slice y.A y.n y.c, .slice y.B y.m y.d, .string ⟨#[]⟩, .slice none 0 0], .int .i64 d] w fun e w' => e = .returned (.bool b) ∧ Below w.heap.size w w' := by
  have i1 : ¬ (32 : Int) < (d : Int) := by omega
  obtain ⟨G, b', hE⟩ := exW_ex r
  obtain ⟨gd, hgd⟩ : ∃ gd : Bool, Hid (gd = true ↔ (lim r.num.natAbs).length ≤ 16 ∧ (lim r.den).length ≤ 16) := by
    by_cases h : (lim r.num.natAbs).length ≤ 16 ∧ (lim r.den).length ≤ 16
    · exact ⟨true, fun _ => h, fun _ => rfl⟩
    · exact ⟨false, fun h => Bool.noConfusion h, fun h1 => absurd h1 h⟩
  have hbe : Hid (b = (gd && !y.s && b')) := by
    show _ = _
    rw [Bool.eq_iff_iff, hb]
    simp only [Bool.and_eq_true, Bool.not_eq_true', hgd.out]
    constructor
    · rintro ⟨h1, h2, h3, F, hF⟩
      refine ⟨⟨⟨h1, h2⟩, by rw [hy.sign]; exact decide_eq_false h3⟩, ?_⟩
      cases b' with
      | true => rfl
      | false => exact (exW_true hF hE).elim
    · rintro ⟨⟨⟨h1, h2⟩, h3⟩, h4⟩
      rw [hy.sign] at h3
      subst h4
      exact ⟨h1, h2, of_decide_eq_false h3, G, hE⟩
  have HE := Lib.hid hE
  clear hb hE
  have k_e := C6.new w (.int .i64 1) (.bool y.s) (.slice y.A y.n y.c) (.slice y.B y.m y.d) (.string ⟨#[]⟩) (.slice none 0 0)
  have hb0 := (Below.refl w.heap.size w).alloc (Nat.le_refl _) (.cells #[.int .i64 1, .bool y.s, .slice y.A y.n y.c, .slice y.B y.m y.d, .string ⟨#[]⟩, .slice none 0 0] 27)
  replace hy := hy.below hb0
  go_enter Tryz.func13, Tryz.ntmps13
  obtain ⟨e0, e1, e2, e3, e4, e5⟩ := k_e.facts
  go_wp2_with fail
  refine (rExact50_v G b' y r _ HE.out (hy.rw sz)).mono ?_
  rintro e w2 ⟨rfl, hb2⟩
  replace k_e := k_e.below hb2
  replace hy := hy.below hb2
  replace hb0 := hb0.trans (hb2.mono hb0.size)
  clear hb2 e0 e1 e2 e3 e4 e5
  obtain ⟨e0, e1, e2, e3, e4, e5⟩ := k_e.facts
  go_wp2_with fail
  refine (rGood_c y r gd _ hy sz hgd).mono ?_
  rintro e w3 ⟨rfl, hb2⟩
  replace k_e := k_e.below hb2
  replace hb0 := hb0.trans (hb2.mono hb0.size)
  clear hb2 e0 e1 e2 e3 e4 e5 hy
  obtain ⟨e0, e1, e2, e3, e4, e5⟩ := k_e.facts
  cases gd with
  | false =>
    go_wp2
    go_ret
    exact ⟨by rw [hbe.out]; rfl, hb0⟩
  | true =>
    rcases Bool.eq_false_or_eq_true y.s with hs | hs
    · rw [hs] at e1 hbe
      go_wp2
      go_ret
      exact ⟨by rw [hbe.out]; rfl, hb0⟩
    · rw [hs] at e1 hbe
      go_wp2
      go_ret
      exact ⟨by rw [hbe.out]; rfl, hb0⟩
set_option maxHeartbeats 1600000 in
theorem one_nm (s : ByteArray) (d : Nat) (hd : d ≤ 32) (w : World) :
    Calls Tryz.prog 13 #[.agg #[.int .i64 2, .bool false, .slice none 0 0, .slice none 0 0, .string s, .slice none 0 0], .int .i64 d] w fun e w' => e = .returned (.bool (isName s)) ∧ Below w.heap.size w w' := by
  have i1 : ¬ (32 : Int) < (d : Int) := by omega
  have k_e := C6.new w (.int .i64 2) (.bool false) (.slice none 0 0) (.slice none 0 0) (.string s) (.slice none 0 0)
  have hb0 := (Below.refl w.heap.size w).alloc (Nat.le_refl _) (.cells #[.int .i64 2, .bool false, .slice none 0 0, .slice none 0 0, .string s, .slice none 0 0] 27)
  obtain ⟨e0, e1, e2, e3, e4, e5⟩ := k_e.facts
  have HNM := Lib.hid (rName_c s)
  generalize isName s = b at *
  go_enter Tryz.func13, Tryz.ntmps13
  go_wp2_with fail
  refine (HNM.out _).mono ?_
  rintro e w2 ⟨rfl, rfl⟩
  clear e0 e1 e2 e3 e4 e5
  obtain ⟨e0, e1, e2, e3, e4, e5⟩ := k_e.facts
  cases b with
  | false =>
    go_wp2
    go_ret
    exact ⟨rfl, hb0⟩
  | true =>
    go_wp2_with fail
    refine (rblank_c _).mono ?_
    rintro e w3 ⟨rfl, hb2⟩
    replace hb0 := hb0.trans (hb2.mono hb0.size)
    clear hb2 e0 e1 e2 e3 e4 e5 k_e
    go_wp2
    go_ret
    exact ⟨rfl, hb0⟩
def OneR (w : World) (x : Ev) (t : Ex) : Prop := ∀ (w1 : World) (d : Nat) (b : Bool), Below w.heap.size w w1 → d ≤ 40 → (b = true ↔ t.fine ∧ t.deep + d ≤ 33) → Calls Tryz.prog 13 #[.agg #[.int .i64 x.k, .bool x.r.s, .slice x.r.A x.r.n x.r.c, .slice x.r.B x.r.m x.r.d, .string x.s, .slice x.K x.n x.c], .int .i64 d] w1 fun e w' => e = .returned (.bool b) ∧ Below w1.heap.size w1 w'
set_option maxHeartbeats 6400000 in
theorem one_step3 {w : World} (b0 : Nat) (xs : Nat → Ev) (ts : Nat → Ex) (d : Nat) (b : Bool) (hd : d ≤ 32) (hb0 : b0 < w.heap.size) (hx : ∀ i, i < 2 → At6 w b0 (i * 6) (xs i)) (IH : ∀ i, i < 2 → OneR w (xs i) (ts i))
    (hb : b = true ↔ ∀ i, i < 2 → (ts i).fine ∧ (ts i).deep + (d + 1) ≤ 33) :
    Calls Tryz.prog 13 #[.agg #[.int .i64 3, .bool false, .slice none 0 0, .slice none 0 0, .string ⟨#[]⟩, .slice (some ⟨b0, 0, none⟩) 2 2], .int .i64 d] w fun e w' => e = .returned (.bool b) ∧ Below w.heap.size w w' := by
  have i1 : ¬ (32 : Int) < (d : Int) := by omega
  have HBB := Lib.hid hb
  clear hb
  have k_e := C6.new w (.int .i64 3) (.bool false) (.slice none 0 0) (.slice none 0 0) (.string ⟨#[]⟩) (.slice (some ⟨b0, 0, none⟩) 2 2)
  have hbw := (Below.refl w.heap.size w).alloc (Nat.le_refl _) (.cells #[.int .i64 3, .bool false, .slice none 0 0, .slice none 0 0, .string ⟨#[]⟩, .slice (some ⟨b0, 0, none⟩) 2 2] 27)
  obtain ⟨e0, e1, e2, e3, e4, e5⟩ := k_e.facts
  go_enter Tryz.func13, Tryz.ntmps13
  go_wp2_with fail
  refine (rblank_c _).mono ?_
  rintro e w1 ⟨rfl, hb2⟩
  replace k_e := k_e.below hb2
  replace hbw := hbw.trans (hb2.mono hbw.size)
  clear hb2 e0 e1 e2 e3 e4 e5
  obtain ⟨e0, e1, e2, e3, e4, e5⟩ := k_e.facts
  go_wp2
  go_loopw [8] (fun iv wr => ∃ i : Nat, i ≤ 2 ∧ iv = .int .i64 i ∧ Hid (∀ j, j < i → (ts j).fine ∧ (ts j).deep + (d + 1) ≤ 33) ∧ C6 wr w.heap.size (.int .i64 3) (.bool false) (.slice none 0 0) (.slice none 0 0) (.string ⟨#[]⟩) (.slice (some ⟨b0, 0, none⟩) 2 2) ∧ Below w.heap.size w wr) (fun iv _ => 2 - (intOf iv).toNat)
  case atStart => exact ⟨0, Nat.zero_le _, rfl, fun j hj => absurd hj (by omega), k_e, hbw⟩
  case round =>
    clear e0 e1 e2 e3 e4 e5 k_e hbw
    obtain ⟨i, hi, rfl, HJ, k_e, hbw⟩ := hrel
    obtain ⟨e0, e1, e2, e3, e4, e5⟩ := k_e.facts
    have a0 : (0 : Int) ≤ (i : Int) := by omega
    by_cases hlt : i < 2
    · have a1 : (i : Int) < 2 := by omega
      have HI := Lib.hid (IH i hlt)
      have hx6 := (hx i hlt).keep (hbw.block b0 hb0)
      obtain ⟨c, hc⟩ : ∃ c : Bool, c = true ↔ (ts i).fine ∧ (ts i).deep + (d + 1) ≤ 33 := by
        by_cases h : (ts i).fine ∧ (ts i).deep + (d + 1) ≤ 33
        · exact ⟨true, fun _ => h, fun _ => rfl⟩
        · exact ⟨false, fun h => Bool.noConfusion h, fun h1 => absurd h1 h⟩
      have HC := Lib.hid hc
      clear hc
      generalize hxi : xs i = x at *
      clear hxi
      obtain ⟨x0, x1, x2, x3, x4, x5⟩ := hx6
      have hbx := hbw.alloc hbw.size (.cells #[.int .i64 x.k, .bool x.r.s, .slice x.r.A x.r.n x.r.c, .slice x.r.B x.r.m x.r.d, .string x.s, .slice x.K x.n x.c] 27)
      have k_x := k_e.alloc (.cells #[.int .i64 x.k, .bool x.r.s, .slice x.r.A x.r.n x.r.c, .slice x.r.B x.r.m x.r.d, .string x.s, .slice x.K x.n x.c] 27)
      have i2 : (d : Int) ≤ 32 := by omega
      have i3 : (0 : Int) ≤ (d : Int) := by omega
      go_wp2_with fail
      have hd1 : (d : Int) + 1 = ((d + 1 : Nat) : Int) := by omega
      rw [hd1]
      clear hd1
      first
        | refine (HI.out _ (d + 1) c hbx (by omega) HC.out).mono ?_
        | refine (HI.out _ (d + 1) c hbw (by omega) HC.out).mono ?_
      rintro e w2 ⟨rfl, hb2⟩
      first
        | replace k_e := k_x.below hb2
        | replace k_e := k_e.below hb2
      first
        | replace hbw := hbx.trans (hb2.mono hbx.size)
        | replace hbw := hbw.trans (hb2.mono hbw.size)
      clear hb2 e0 e1 e2 e3 e4 e5 x0 x1 x2 x3 x4 x5 k_x hbx
      obtain ⟨e0, e1, e2, e3, e4, e5⟩ := k_e.facts
      cases c with
      | false =>
        have HF : Hid (b = false) := by
          cases b with
          | false => rfl
          | true => exact absurd (HC.out.2 (HBB.out.1 rfl i hlt)) (by decide)
        go_wp2
        go_ret
        exact ⟨by rw [HF.out]; rfl, hbw⟩
      | true =>
        have HJ2 : Hid (∀ j, j < i + 1 → (ts j).fine ∧ (ts j).deep + (d + 1) ≤ 33) := fun j hj => by
          by_cases h : j = i
          · subst h; exact HC.out.1 rfl
          · exact HJ.out j (by omega)
        go_wp2
        go_roundw
        case rel => exact ⟨i + 1, by omega, by go_num, HJ2, k_e, hbw⟩
        case measure => simp [intOf]; omega
    · have e : i = 2 := by omega
      have a1 : ¬ (i : Int) < 2 := by omega
      have HF : Hid (b = true) := HBB.out.2 (fun j hj => HJ.out j (by omega))
      go_wp2
      go_ret
      exact ⟨by rw [HF.out]; rfl, hbw⟩
set_option maxHeartbeats 6400000 in
theorem one_step4 {w : World} (b0 : Nat) (xs : Nat → Ev) (ts : Nat → Ex) (d : Nat) (b : Bool) (hd : d ≤ 32) (hb0 : b0 < w.heap.size) (hx : ∀ i, i < 2 → At6 w b0 (i * 6) (xs i)) (IH : ∀ i, i < 2 → OneR w (xs i) (ts i))
    (hb : b = true ↔ ∀ i, i < 2 → (ts i).fine ∧ (ts i).deep + (d + 1) ≤ 33) :
    Calls Tryz.prog 13 #[.agg #[.int .i64 4, .bool false, .slice none 0 0, .slice none 0 0, .string ⟨#[]⟩, .slice (some ⟨b0, 0, none⟩) 2 2], .int .i64 d] w fun e w' => e = .returned (.bool b) ∧ Below w.heap.size w w' := by
  have i1 : ¬ (32 : Int) < (d : Int) := by omega
  have HBB := Lib.hid hb
  clear hb
  have k_e := C6.new w (.int .i64 4) (.bool false) (.slice none 0 0) (.slice none 0 0) (.string ⟨#[]⟩) (.slice (some ⟨b0, 0, none⟩) 2 2)
  have hbw := (Below.refl w.heap.size w).alloc (Nat.le_refl _) (.cells #[.int .i64 4, .bool false, .slice none 0 0, .slice none 0 0, .string ⟨#[]⟩, .slice (some ⟨b0, 0, none⟩) 2 2] 27)
  obtain ⟨e0, e1, e2, e3, e4, e5⟩ := k_e.facts
  go_enter Tryz.func13, Tryz.ntmps13
  go_wp2_with fail
  refine (rblank_c _).mono ?_
  rintro e w1 ⟨rfl, hb2⟩
  replace k_e := k_e.below hb2
  replace hbw := hbw.trans (hb2.mono hbw.size)
  clear hb2 e0 e1 e2 e3 e4 e5
  obtain ⟨e0, e1, e2, e3, e4, e5⟩ := k_e.facts
  go_wp2
  go_loopw [8] (fun iv wr => ∃ i : Nat, i ≤ 2 ∧ iv = .int .i64 i ∧ Hid (∀ j, j < i → (ts j).fine ∧ (ts j).deep + (d + 1) ≤ 33) ∧ C6 wr w.heap.size (.int .i64 4) (.bool false) (.slice none 0 0) (.slice none 0 0) (.string ⟨#[]⟩) (.slice (some ⟨b0, 0, none⟩) 2 2) ∧ Below w.heap.size w wr) (fun iv _ => 2 - (intOf iv).toNat)
  case atStart => exact ⟨0, Nat.zero_le _, rfl, fun j hj => absurd hj (by omega), k_e, hbw⟩
  case round =>
    clear e0 e1 e2 e3 e4 e5 k_e hbw
    obtain ⟨i, hi, rfl, HJ, k_e, hbw⟩ := hrel
    obtain ⟨e0, e1, e2, e3, e4, e5⟩ := k_e.facts
    have a0 : (0 : Int) ≤ (i : Int) := by omega
    by_cases hlt : i < 2
    · have a1 : (i : Int) < 2 := by omega
      have HI := Lib.hid (IH i hlt)
      have hx6 := (hx i hlt).keep (hbw.block b0 hb0)
      obtain ⟨c, hc⟩ : ∃ c : Bool, c = true ↔ (ts i).fine ∧ (ts i).deep + (d + 1) ≤ 33 := by
        by_cases h : (ts i).fine ∧ (ts i).deep + (d + 1) ≤ 33
        · exact ⟨true, fun _ => h, fun _ => rfl⟩
        · exact ⟨false, fun h => Bool.noConfusion h, fun h1 => absurd h1 h⟩
      have HC := Lib.hid hc
      clear hc
      generalize hxi : xs i = x at *
      clear hxi
      obtain ⟨x0, x1, x2, x3, x4, x5⟩ := hx6
      have hbx := hbw.alloc hbw.size (.cells #[.int .i64 x.k, .bool x.r.s, .slice x.r.A x.r.n x.r.c, .slice x.r.B x.r.m x.r.d, .string x.s, .slice x.K x.n x.c] 27)
      have k_x := k_e.alloc (.cells #[.int .i64 x.k, .bool x.r.s, .slice x.r.A x.r.n x.r.c, .slice x.r.B x.r.m x.r.d, .string x.s, .slice x.K x.n x.c] 27)
      have i2 : (d : Int) ≤ 32 := by omega
      have i3 : (0 : Int) ≤ (d : Int) := by omega
      go_wp2_with fail
      have hd1 : (d : Int) + 1 = ((d + 1 : Nat) : Int) := by omega
      rw [hd1]
      clear hd1
      first
        | refine (HI.out _ (d + 1) c hbx (by omega) HC.out).mono ?_
        | refine (HI.out _ (d + 1) c hbw (by omega) HC.out).mono ?_
      rintro e w2 ⟨rfl, hb2⟩
      first
        | replace k_e := k_x.below hb2
        | replace k_e := k_e.below hb2
      first
        | replace hbw := hbx.trans (hb2.mono hbx.size)
        | replace hbw := hbw.trans (hb2.mono hbw.size)
      clear hb2 e0 e1 e2 e3 e4 e5 x0 x1 x2 x3 x4 x5 k_x hbx
      obtain ⟨e0, e1, e2, e3, e4, e5⟩ := k_e.facts
      cases c with
      | false =>
        have HF : Hid (b = false) := by
          cases b with
          | false => rfl
          | true => exact absurd (HC.out.2 (HBB.out.1 rfl i hlt)) (by decide)
        go_wp2
        go_ret
        exact ⟨by rw [HF.out]; rfl, hbw⟩
      | true =>
        have HJ2 : Hid (∀ j, j < i + 1 → (ts j).fine ∧ (ts j).deep + (d + 1) ≤ 33) := fun j hj => by
          by_cases h : j = i
          · subst h; exact HC.out.1 rfl
          · exact HJ.out j (by omega)
        go_wp2
        go_roundw
        case rel => exact ⟨i + 1, by omega, by go_num, HJ2, k_e, hbw⟩
        case measure => simp [intOf]; omega
    · have e : i = 2 := by omega
      have a1 : ¬ (i : Int) < 2 := by omega
      have HF : Hid (b = true) := HBB.out.2 (fun j hj => HJ.out j (by omega))
      go_wp2
      go_ret
      exact ⟨by rw [HF.out]; rfl, hbw⟩
set_option maxHeartbeats 6400000 in
theorem one_step5 {w : World} (b0 : Nat) (xs : Nat → Ev) (ts : Nat → Ex) (d : Nat) (b : Bool) (hd : d ≤ 32) (hb0 : b0 < w.heap.size) (hx : ∀ i, i < 2 → At6 w b0 (i * 6) (xs i)) (IH : ∀ i, i < 2 → OneR w (xs i) (ts i))
    (hb : b = true ↔ ∀ i, i < 2 → (ts i).fine ∧ (ts i).deep + (d + 1) ≤ 33) :
    Calls Tryz.prog 13 #[.agg #[.int .i64 5, .bool false, .slice none 0 0, .slice none 0 0, .string ⟨#[]⟩, .slice (some ⟨b0, 0, none⟩) 2 2], .int .i64 d] w fun e w' => e = .returned (.bool b) ∧ Below w.heap.size w w' := by
  have i1 : ¬ (32 : Int) < (d : Int) := by omega
  have HBB := Lib.hid hb
  clear hb
  have k_e := C6.new w (.int .i64 5) (.bool false) (.slice none 0 0) (.slice none 0 0) (.string ⟨#[]⟩) (.slice (some ⟨b0, 0, none⟩) 2 2)
  have hbw := (Below.refl w.heap.size w).alloc (Nat.le_refl _) (.cells #[.int .i64 5, .bool false, .slice none 0 0, .slice none 0 0, .string ⟨#[]⟩, .slice (some ⟨b0, 0, none⟩) 2 2] 27)
  obtain ⟨e0, e1, e2, e3, e4, e5⟩ := k_e.facts
  go_enter Tryz.func13, Tryz.ntmps13
  go_wp2_with fail
  refine (rblank_c _).mono ?_
  rintro e w1 ⟨rfl, hb2⟩
  replace k_e := k_e.below hb2
  replace hbw := hbw.trans (hb2.mono hbw.size)
  clear hb2 e0 e1 e2 e3 e4 e5
  obtain ⟨e0, e1, e2, e3, e4, e5⟩ := k_e.facts
  go_wp2
  go_loopw [8] (fun iv wr => ∃ i : Nat, i ≤ 2 ∧ iv = .int .i64 i ∧ Hid (∀ j, j < i → (ts j).fine ∧ (ts j).deep + (d + 1) ≤ 33) ∧ C6 wr w.heap.size (.int .i64 5) (.bool false) (.slice none 0 0) (.slice none 0 0) (.string ⟨#[]⟩) (.slice (some ⟨b0, 0, none⟩) 2 2) ∧ Below w.heap.size w wr) (fun iv _ => 2 - (intOf iv).toNat)
  case atStart => exact ⟨0, Nat.zero_le _, rfl, fun j hj => absurd hj (by omega), k_e, hbw⟩
  case round =>
    clear e0 e1 e2 e3 e4 e5 k_e hbw
    obtain ⟨i, hi, rfl, HJ, k_e, hbw⟩ := hrel
    obtain ⟨e0, e1, e2, e3, e4, e5⟩ := k_e.facts
    have a0 : (0 : Int) ≤ (i : Int) := by omega
    by_cases hlt : i < 2
    · have a1 : (i : Int) < 2 := by omega
      have HI := Lib.hid (IH i hlt)
      have hx6 := (hx i hlt).keep (hbw.block b0 hb0)
      obtain ⟨c, hc⟩ : ∃ c : Bool, c = true ↔ (ts i).fine ∧ (ts i).deep + (d + 1) ≤ 33 := by
        by_cases h : (ts i).fine ∧ (ts i).deep + (d + 1) ≤ 33
        · exact ⟨true, fun _ => h, fun _ => rfl⟩
        · exact ⟨false, fun h => Bool.noConfusion h, fun h1 => absurd h1 h⟩
      have HC := Lib.hid hc
      clear hc
      generalize hxi : xs i = x at *
      clear hxi
      obtain ⟨x0, x1, x2, x3, x4, x5⟩ := hx6
      have hbx := hbw.alloc hbw.size (.cells #[.int .i64 x.k, .bool x.r.s, .slice x.r.A x.r.n x.r.c, .slice x.r.B x.r.m x.r.d, .string x.s, .slice x.K x.n x.c] 27)
      have k_x := k_e.alloc (.cells #[.int .i64 x.k, .bool x.r.s, .slice x.r.A x.r.n x.r.c, .slice x.r.B x.r.m x.r.d, .string x.s, .slice x.K x.n x.c] 27)
      have i2 : (d : Int) ≤ 32 := by omega
      have i3 : (0 : Int) ≤ (d : Int) := by omega
      go_wp2_with fail
      have hd1 : (d : Int) + 1 = ((d + 1 : Nat) : Int) := by omega
      rw [hd1]
      clear hd1
      first
        | refine (HI.out _ (d + 1) c hbx (by omega) HC.out).mono ?_
        | refine (HI.out _ (d + 1) c hbw (by omega) HC.out).mono ?_
      rintro e w2 ⟨rfl, hb2⟩
      first
        | replace k_e := k_x.below hb2
        | replace k_e := k_e.below hb2
      first
        | replace hbw := hbx.trans (hb2.mono hbx.size)
        | replace hbw := hbw.trans (hb2.mono hbw.size)
      clear hb2 e0 e1 e2 e3 e4 e5 x0 x1 x2 x3 x4 x5 k_x hbx
      obtain ⟨e0, e1, e2, e3, e4, e5⟩ := k_e.facts
      cases c with
      | false =>
        have HF : Hid (b = false) := by
          cases b with
          | false => rfl
          | true => exact absurd (HC.out.2 (HBB.out.1 rfl i hlt)) (by decide)
        go_wp2
        go_ret
        exact ⟨by rw [HF.out]; rfl, hbw⟩
      | true =>
        have HJ2 : Hid (∀ j, j < i + 1 → (ts j).fine ∧ (ts j).deep + (d + 1) ≤ 33) := fun j hj => by
          by_cases h : j = i
          · subst h; exact HC.out.1 rfl
          · exact HJ.out j (by omega)
        go_wp2
        go_roundw
        case rel => exact ⟨i + 1, by omega, by go_num, HJ2, k_e, hbw⟩
        case measure => simp [intOf]; omega
    · have e : i = 2 := by omega
      have a1 : ¬ (i : Int) < 2 := by omega
      have HF : Hid (b = true) := HBB.out.2 (fun j hj => HJ.out j (by omega))
      go_wp2
      go_ret
      exact ⟨by rw [HF.out]; rfl, hbw⟩
set_option maxHeartbeats 6400000 in
theorem one_step6 {w : World} (b0 : Nat) (xs : Nat → Ev) (ts : Nat → Ex) (d : Nat) (b : Bool) (hd : d ≤ 32) (hb0 : b0 < w.heap.size) (hx : ∀ i, i < 2 → At6 w b0 (i * 6) (xs i)) (IH : ∀ i, i < 2 → OneR w (xs i) (ts i))
    (hb : b = true ↔ ∀ i, i < 2 → (ts i).fine ∧ (ts i).deep + (d + 1) ≤ 33) :
    Calls Tryz.prog 13 #[.agg #[.int .i64 6, .bool false, .slice none 0 0, .slice none 0 0, .string ⟨#[]⟩, .slice (some ⟨b0, 0, none⟩) 2 2], .int .i64 d] w fun e w' => e = .returned (.bool b) ∧ Below w.heap.size w w' := by
  have i1 : ¬ (32 : Int) < (d : Int) := by omega
  have HBB := Lib.hid hb
  clear hb
  have k_e := C6.new w (.int .i64 6) (.bool false) (.slice none 0 0) (.slice none 0 0) (.string ⟨#[]⟩) (.slice (some ⟨b0, 0, none⟩) 2 2)
  have hbw := (Below.refl w.heap.size w).alloc (Nat.le_refl _) (.cells #[.int .i64 6, .bool false, .slice none 0 0, .slice none 0 0, .string ⟨#[]⟩, .slice (some ⟨b0, 0, none⟩) 2 2] 27)
  obtain ⟨e0, e1, e2, e3, e4, e5⟩ := k_e.facts
  go_enter Tryz.func13, Tryz.ntmps13
  go_wp2_with fail
  refine (rblank_c _).mono ?_
  rintro e w1 ⟨rfl, hb2⟩
  replace k_e := k_e.below hb2
  replace hbw := hbw.trans (hb2.mono hbw.size)
  clear hb2 e0 e1 e2 e3 e4 e5
  obtain ⟨e0, e1, e2, e3, e4, e5⟩ := k_e.facts
  go_wp2
  go_loopw [8] (fun iv wr => ∃ i : Nat, i ≤ 2 ∧ iv = .int .i64 i ∧ Hid (∀ j, j < i → (ts j).fine ∧ (ts j).deep + (d + 1) ≤ 33) ∧ C6 wr w.heap.size (.int .i64 6) (.bool false) (.slice none 0 0) (.slice none 0 0) (.string ⟨#[]⟩) (.slice (some ⟨b0, 0, none⟩) 2 2) ∧ Below w.heap.size w wr) (fun iv _ => 2 - (intOf iv).toNat)
  case atStart => exact ⟨0, Nat.zero_le _, rfl, fun j hj => absurd hj (by omega), k_e, hbw⟩
  case round =>
    clear e0 e1 e2 e3 e4 e5 k_e hbw
    obtain ⟨i, hi, rfl, HJ, k_e, hbw⟩ := hrel
    obtain ⟨e0, e1, e2, e3, e4, e5⟩ := k_e.facts
    have a0 : (0 : Int) ≤ (i : Int) := by omega
    by_cases hlt : i < 2
    · have a1 : (i : Int) < 2 := by omega
      have HI := Lib.hid (IH i hlt)
      have hx6 := (hx i hlt).keep (hbw.block b0 hb0)
      obtain ⟨c, hc⟩ : ∃ c : Bool, c = true ↔ (ts i).fine ∧ (ts i).deep + (d + 1) ≤ 33 := by
        by_cases h : (ts i).fine ∧ (ts i).deep + (d + 1) ≤ 33
        · exact ⟨true, fun _ => h, fun _ => rfl⟩
        · exact ⟨false, fun h => Bool.noConfusion h, fun h1 => absurd h1 h⟩
      have HC := Lib.hid hc
      clear hc
      generalize hxi : xs i = x at *
      clear hxi
      obtain ⟨x0, x1, x2, x3, x4, x5⟩ := hx6
      have hbx := hbw.alloc hbw.size (.cells #[.int .i64 x.k, .bool x.r.s, .slice x.r.A x.r.n x.r.c, .slice x.r.B x.r.m x.r.d, .string x.s, .slice x.K x.n x.c] 27)
      have k_x := k_e.alloc (.cells #[.int .i64 x.k, .bool x.r.s, .slice x.r.A x.r.n x.r.c, .slice x.r.B x.r.m x.r.d, .string x.s, .slice x.K x.n x.c] 27)
      have i2 : (d : Int) ≤ 32 := by omega
      have i3 : (0 : Int) ≤ (d : Int) := by omega
      go_wp2_with fail
      have hd1 : (d : Int) + 1 = ((d + 1 : Nat) : Int) := by omega
      rw [hd1]
      clear hd1
      first
        | refine (HI.out _ (d + 1) c hbx (by omega) HC.out).mono ?_
        | refine (HI.out _ (d + 1) c hbw (by omega) HC.out).mono ?_
      rintro e w2 ⟨rfl, hb2⟩
      first
        | replace k_e := k_x.below hb2
        | replace k_e := k_e.below hb2
      first
        | replace hbw := hbx.trans (hb2.mono hbx.size)
        | replace hbw := hbw.trans (hb2.mono hbw.size)
      clear hb2 e0 e1 e2 e3 e4 e5 x0 x1 x2 x3 x4 x5 k_x hbx
      obtain ⟨e0, e1, e2, e3, e4, e5⟩ := k_e.facts
      cases c with
      | false =>
        have HF : Hid (b = false) := by
          cases b with
          | false => rfl
          | true => exact absurd (HC.out.2 (HBB.out.1 rfl i hlt)) (by decide)
        go_wp2
        go_ret
        exact ⟨by rw [HF.out]; rfl, hbw⟩
      | true =>
        have HJ2 : Hid (∀ j, j < i + 1 → (ts j).fine ∧ (ts j).deep + (d + 1) ≤ 33) := fun j hj => by
          by_cases h : j = i
          · subst h; exact HC.out.1 rfl
          · exact HJ.out j (by omega)
        go_wp2
        go_roundw
        case rel => exact ⟨i + 1, by omega, by go_num, HJ2, k_e, hbw⟩
        case measure => simp [intOf]; omega
    · have e : i = 2 := by omega
      have a1 : ¬ (i : Int) < 2 := by omega
      have HF : Hid (b = true) := HBB.out.2 (fun j hj => HJ.out j (by omega))
      go_wp2
      go_ret
      exact ⟨by rw [HF.out]; rfl, hbw⟩
set_option maxHeartbeats 6400000 in
theorem one_step7 {w : World} (b0 : Nat) (xs : Nat → Ev) (ts : Nat → Ex) (d : Nat) (b : Bool) (hd : d ≤ 32) (hb0 : b0 < w.heap.size) (hx : ∀ i, i < 1 → At6 w b0 (i * 6) (xs i)) (IH : ∀ i, i < 1 → OneR w (xs i) (ts i))
    (hb : b = true ↔ ∀ i, i < 1 → (ts i).fine ∧ (ts i).deep + (d + 1) ≤ 33) :
    Calls Tryz.prog 13 #[.agg #[.int .i64 7, .bool false, .slice none 0 0, .slice none 0 0, .string ⟨#[]⟩, .slice (some ⟨b0, 0, none⟩) 1 1], .int .i64 d] w fun e w' => e = .returned (.bool b) ∧ Below w.heap.size w w' := by
  have i1 : ¬ (32 : Int) < (d : Int) := by omega
  have HBB := Lib.hid hb
  clear hb
  have k_e := C6.new w (.int .i64 7) (.bool false) (.slice none 0 0) (.slice none 0 0) (.string ⟨#[]⟩) (.slice (some ⟨b0, 0, none⟩) 1 1)
  have hbw := (Below.refl w.heap.size w).alloc (Nat.le_refl _) (.cells #[.int .i64 7, .bool false, .slice none 0 0, .slice none 0 0, .string ⟨#[]⟩, .slice (some ⟨b0, 0, none⟩) 1 1] 27)
  obtain ⟨e0, e1, e2, e3, e4, e5⟩ := k_e.facts
  go_enter Tryz.func13, Tryz.ntmps13
  go_wp2_with fail
  refine (rblank_c _).mono ?_
  rintro e w1 ⟨rfl, hb2⟩
  replace k_e := k_e.below hb2
  replace hbw := hbw.trans (hb2.mono hbw.size)
  clear hb2 e0 e1 e2 e3 e4 e5
  obtain ⟨e0, e1, e2, e3, e4, e5⟩ := k_e.facts
  go_wp2
  go_loopw [8] (fun iv wr => ∃ i : Nat, i ≤ 1 ∧ iv = .int .i64 i ∧ Hid (∀ j, j < i → (ts j).fine ∧ (ts j).deep + (d + 1) ≤ 33) ∧ C6 wr w.heap.size (.int .i64 7) (.bool false) (.slice none 0 0) (.slice none 0 0) (.string ⟨#[]⟩) (.slice (some ⟨b0, 0, none⟩) 1 1) ∧ Below w.heap.size w wr) (fun iv _ => 1 - (intOf iv).toNat)
  case atStart => exact ⟨0, Nat.zero_le _, rfl, fun j hj => absurd hj (by omega), k_e, hbw⟩
  case round =>
    clear e0 e1 e2 e3 e4 e5 k_e hbw
    obtain ⟨i, hi, rfl, HJ, k_e, hbw⟩ := hrel
    obtain ⟨e0, e1, e2, e3, e4, e5⟩ := k_e.facts
    have a0 : (0 : Int) ≤ (i : Int) := by omega
    by_cases hlt : i < 1
    · have a1 : (i : Int) < 1 := by omega
      have HI := Lib.hid (IH i hlt)
      have hx6 := (hx i hlt).keep (hbw.block b0 hb0)
      obtain ⟨c, hc⟩ : ∃ c : Bool, c = true ↔ (ts i).fine ∧ (ts i).deep + (d + 1) ≤ 33 := by
        by_cases h : (ts i).fine ∧ (ts i).deep + (d + 1) ≤ 33
        · exact ⟨true, fun _ => h, fun _ => rfl⟩
        · exact ⟨false, fun h => Bool.noConfusion h, fun h1 => absurd h1 h⟩
      have HC := Lib.hid hc
      clear hc
      generalize hxi : xs i = x at *
      clear hxi
      obtain ⟨x0, x1, x2, x3, x4, x5⟩ := hx6
      have hbx := hbw.alloc hbw.size (.cells #[.int .i64 x.k, .bool x.r.s, .slice x.r.A x.r.n x.r.c, .slice x.r.B x.r.m x.r.d, .string x.s, .slice x.K x.n x.c] 27)
      have k_x := k_e.alloc (.cells #[.int .i64 x.k, .bool x.r.s, .slice x.r.A x.r.n x.r.c, .slice x.r.B x.r.m x.r.d, .string x.s, .slice x.K x.n x.c] 27)
      have i2 : (d : Int) ≤ 32 := by omega
      have i3 : (0 : Int) ≤ (d : Int) := by omega
      go_wp2_with fail
      have hd1 : (d : Int) + 1 = ((d + 1 : Nat) : Int) := by omega
      rw [hd1]
      clear hd1
      first
        | refine (HI.out _ (d + 1) c hbx (by omega) HC.out).mono ?_
        | refine (HI.out _ (d + 1) c hbw (by omega) HC.out).mono ?_
      rintro e w2 ⟨rfl, hb2⟩
      first
        | replace k_e := k_x.below hb2
        | replace k_e := k_e.below hb2
      first
        | replace hbw := hbx.trans (hb2.mono hbx.size)
        | replace hbw := hbw.trans (hb2.mono hbw.size)
      clear hb2 e0 e1 e2 e3 e4 e5 x0 x1 x2 x3 x4 x5 k_x hbx
      obtain ⟨e0, e1, e2, e3, e4, e5⟩ := k_e.facts
      cases c with
      | false =>
        have HF : Hid (b = false) := by
          cases b with
          | false => rfl
          | true => exact absurd (HC.out.2 (HBB.out.1 rfl i hlt)) (by decide)
        go_wp2
        go_ret
        exact ⟨by rw [HF.out]; rfl, hbw⟩
      | true =>
        have HJ2 : Hid (∀ j, j < i + 1 → (ts j).fine ∧ (ts j).deep + (d + 1) ≤ 33) := fun j hj => by
          by_cases h : j = i
          · subst h; exact HC.out.1 rfl
          · exact HJ.out j (by omega)
        go_wp2
        go_roundw
        case rel => exact ⟨i + 1, by omega, by go_num, HJ2, k_e, hbw⟩
        case measure => simp [intOf]; omega
    · have e : i = 1 := by omega
      have a1 : ¬ (i : Int) < 1 := by omega
      have HF : Hid (b = true) := HBB.out.2 (fun j hj => HJ.out j (by omega))
      go_wp2
      go_ret
      exact ⟨by rw [HF.out]; rfl, hbw⟩
theorem one_c {P : Nat → Prop} : ∀ (t : Ex), t.wf → t.szd → ∀ (v : Ev) (w : World), Tw w P t v → OneR w v t := by
  intro t
  induction t with
  | bad =>
    intro _ _ v w hv w1 d b hb1 hd hb
    have hv' : v = Ez := hv
    subst hv'
    have e : b = false := by
      cases b with
      | false => rfl
      | true => exact absurd (hb.1 rfl).1 (fun h => h)
    subst e
    exact one_bad d w1
  | num r =>
    intro _ hs v w hv w1 d b hb1 hd hb
    by_cases h : 32 < d
    · have e : b = false := by
        cases b with
        | false => rfl
        | true => have := (hb.1 rfl).2; have h1 : (Ex.num r).deep = 1 := rfl; omega
      subst e
      exact one_far v d h w1
    · obtain ⟨hv, hr, _⟩ := hv
      generalize v.r = y at *
      subst hv
      exact one_num y r b d (by omega) w1 (hr.below hb1) hs ⟨fun h => (hb.1 h).1, fun h1 => hb.2 ⟨h1, by have h1 : (Ex.num r).deep = 1 := rfl; omega⟩⟩
  | nm s =>
    intro _ hs v w hv w1 d b hb1 hd hb
    have hv' : v = ⟨2, Rz, s, none, 0, 0⟩ := hv
    subst hv'
    by_cases h : 32 < d
    · have e : b = false := by
        cases b with
        | false => rfl
        | true => have := (hb.1 rfl).2; have h1 : (Ex.nm s).deep = 1 := rfl; omega
      subst e
      exact one_far _ d h w1
    · have e : isName s = b := by
        rw [Bool.eq_iff_iff, hb]
        exact ⟨fun h1 => ⟨h1, by have h1 : (Ex.nm s).deep = 1 := rfl; omega⟩, fun h1 => h1.1⟩
      rw [← e]
      exact one_nm s d (by omega) w1
  | bin k a b iha ihb =>
    intro hw hs v w hv w1 d bb hb1 hd hb
    by_cases h : 32 < d
    · have e : bb = false := by
        cases bb with
        | false => rfl
        | true => have := (hb.1 rfl).2; have h1 := (Ex.bin k a b).deep_pos; omega
      subst e
      exact one_far v d h w1
    · obtain ⟨hk, wa, wb⟩ := hw
      obtain ⟨b0, x, y, rfl, _, hb0, hbl, ha, hbt⟩ := hv
      obtain ⟨x6, y6⟩ := at6_two hbl
      have hz := hb1.size
      have H : ∀ i, i < 2 → At6 w1 b0 (i * 6) (two_ x y i) := by
        intro i hi
        rcases i with _ | _ | i
        · exact x6.keep (hb1.block b0 hb0)
        · exact y6.keep (hb1.block b0 hb0)
        · omega
      have I : ∀ i, i < 2 → OneR w1 (two_ x y i) (two_ a b i) := by
        intro i hi
        rcases i with _ | _ | i
        · exact iha wa hs.1 x w1 (ha.below hb1)
        · exact ihb wb hs.2 y w1 (hbt.below hb1)
        · omega
      have J : bb = true ↔ ∀ i, i < 2 → (two_ a b i).fine ∧ (two_ a b i).deep + (d + 1) ≤ 33 := by
        rw [hb]
        show (a.fine ∧ b.fine) ∧ max a.deep b.deep + 1 + d ≤ 33 ↔ _
        constructor
        · rintro ⟨⟨h1, h2⟩, h3⟩ i hi
          rcases i with _ | _ | i
          · exact ⟨h1, by show a.deep + (d + 1) ≤ 33; omega⟩
          · exact ⟨h2, by show b.deep + (d + 1) ≤ 33; omega⟩
          · omega
        · intro h1
          have h2 : a.fine ∧ a.deep + (d + 1) ≤ 33 := h1 0 (by omega)
          have h3 : b.fine ∧ b.deep + (d + 1) ≤ 33 := h1 1 (by omega)
          exact ⟨⟨h2.1, h3.1⟩, by have := h2.2; have := h3.2; omega⟩
      rcases hk with rfl | rfl | rfl | rfl
      · exact one_step3 b0 _ _ d bb (by omega) (by omega) H I J
      · exact one_step4 b0 _ _ d bb (by omega) (by omega) H I J
      · exact one_step5 b0 _ _ d bb (by omega) (by omega) H I J
      · exact one_step6 b0 _ _ d bb (by omega) (by omega) H I J
  | neg a iha =>
    intro hw hs v w hv w1 d bb hb1 hd hb
    by_cases h : 32 < d
    · have e : bb = false := by
        cases bb with
        | false => rfl
        | true => have := (hb.1 rfl).2; have h1 := (Ex.neg a).deep_pos; omega
      subst e
      exact one_far v d h w1
    · obtain ⟨b0, x, rfl, _, hb0, hbl, ha⟩ := hv
      have hz := hb1.size
      refine one_step7 b0 (fun _ => x) (fun _ => a) d bb (by omega) (by omega) ?_ ?_ ?_
      · intro i hi
        rcases i with _ | i
        · exact (at6_one hbl).keep (hb1.block b0 hb0)
        · omega
      · intro i hi
        exact iha hw hs x w1 (ha.below hb1)
      · rw [hb]
        show a.fine ∧ a.deep + 1 + d ≤ 33 ↔ _
        constructor
        · rintro ⟨h1, h2⟩ i hi
          exact ⟨h1, by show a.deep + (d + 1) ≤ 33; omega⟩
        · intro h1
          have h2 : a.fine ∧ a.deep + (d + 1) ≤ 33 := h1 0 (by omega)
          exact ⟨h2.1, by have := h2.2; omega⟩
def NodR (w : World) (x : Ev) (d : Nat) : Prop := ∀ w1, Below w.heap.size w w1 → Calls Tryz.prog 14 #[.agg #[.int .i64 x.k, .bool x.r.s, .slice x.r.A x.r.n x.r.c, .slice x.r.B x.r.m x.r.d, .string x.s, .slice x.K x.n x.c]] w1 fun e w' => e = .returned (.int .i64 d) ∧ Below w1.heap.size w1 w'
def sumD (ds : Nat → Nat) : Nat → Nat
  | 0 => 0
  | i + 1 => sumD ds i + ds i
theorem sumD_le (ds : Nat → Nat) (h : ∀ i, ds i ≤ 1000000) : ∀ n, n ≤ 2 → sumD ds n ≤ 2000000 := by
  intro n hn
  have h0 := h 0
  have h1 := h 1
  rcases n with _ | _ | _ | n
  · exact Nat.zero_le _
  · show 0 + ds 0 ≤ 2000000; omega
  · show 0 + ds 0 + ds 1 ≤ 2000000; omega
  · omega
set_option maxHeartbeats 1600000 in
theorem Nodes_leaf {w : World} (k : Int) (y : Rv) (s : ByteArray) : Calls Tryz.prog 14 #[.agg #[.int .i64 k, .bool y.s, .slice y.A y.n y.c, .slice y.B y.m y.d, .string s, .slice none 0 0]] w fun e w' => e = .returned (.int .i64 1) ∧ Below w.heap.size w w' := by
  have hb0 := (Below.refl w.heap.size w).alloc (Nat.le_refl _) (.cells #[.int .i64 k, .bool y.s, .slice y.A y.n y.c, .slice y.B y.m y.d, .string s, .slice none 0 0] 27)
  have k_e := C6.new w (.int .i64 k) (.bool y.s) (.slice y.A y.n y.c) (.slice y.B y.m y.d) (.string s) (.slice none 0 0)
  obtain ⟨e0, e1, e2, e3, e4, e5⟩ := k_e.facts
  go_enter Tryz.func14, Tryz.ntmps14
  go_wp2
  generalize w.alloc (.cells #[.int .i64 k, .bool y.s, .slice y.A y.n y.c, .slice y.B y.m y.d, .string s, .slice none 0 0] 27) = w1 at *
  go_loopw [3, 4] (fun dv iv wr => dv = .int .i64 1 ∧ iv = .int .i64 0 ∧ wr = w1) (fun _ _ _ => 0)
  case atStart => exact ⟨rfl, rfl, rfl⟩
  case round =>
    obtain ⟨rfl, rfl, rfl⟩ := hrel
    go_wp2
    go_ret
    exact ⟨rfl, hb0⟩
set_option maxHeartbeats 6400000 in
theorem Nodes_step {w : World} (k : Int) (y : Rv) (s : ByteArray) (b0 n : Nat) (xs : Nat → Ev) (ds : Nat → Nat) (hn : n ≤ 2) (hb : b0 < w.heap.size)
    (hx : ∀ i, i < n → At6 w b0 (i * 6) (xs i)) (IH : ∀ i, i < n → NodR w (xs i) (ds i)) (hd : ∀ i, ds i ≤ 1000000) :
    Calls Tryz.prog 14 #[.agg #[.int .i64 k, .bool y.s, .slice y.A y.n y.c, .slice y.B y.m y.d, .string s, .slice (some ⟨b0, 0, none⟩) n n]] w fun e w' => e = .returned (.int .i64 ((1 + sumD ds n : Nat) : Int)) ∧ Below w.heap.size w w' := by
  have hb0 := (Below.refl w.heap.size w).alloc (Nat.le_refl _) (.cells #[.int .i64 k, .bool y.s, .slice y.A y.n y.c, .slice y.B y.m y.d, .string s, .slice (some ⟨b0, 0, none⟩) n n] 27)
  have k_e := C6.new w (.int .i64 k) (.bool y.s) (.slice y.A y.n y.c) (.slice y.B y.m y.d) (.string s) (.slice (some ⟨b0, 0, none⟩) n n)
  obtain ⟨e0, e1, e2, e3, e4, e5⟩ := k_e.facts
  go_enter Tryz.func14, Tryz.ntmps14
  go_wp2
  generalize w.alloc (.cells #[.int .i64 k, .bool y.s, .slice y.A y.n y.c, .slice y.B y.m y.d, .string s, .slice (some ⟨b0, 0, none⟩) n n] 27) = w1 at *
  clear e0 e1 e2 e3 e4 e5
  go_loopw [3, 4] (fun dv iv wr => ∃ i : Nat, i ≤ n ∧ iv = .int .i64 i ∧ dv = .int .i64 ((1 + sumD ds i : Nat) : Int) ∧ C6 wr w.heap.size (.int .i64 k) (.bool y.s) (.slice y.A y.n y.c) (.slice y.B y.m y.d) (.string s) (.slice (some ⟨b0, 0, none⟩) n n) ∧ Below w.heap.size w wr) (fun _ iv _ => n - (intOf iv).toNat)
  case atStart => exact ⟨0, Nat.zero_le _, rfl, rfl, k_e, hb0⟩
  case round =>
    clear hb0 k_e
    obtain ⟨i, hi, rfl, rfl, k_e, hb0⟩ := hrel
    obtain ⟨e0, e1, e2, e3, e4, e5⟩ := k_e.facts
    have a0 : (0 : Int) ≤ (i : Int) := by omega
    have hm := sumD_le ds hd i (by omega)
    have hm2 := hd i
    by_cases hlt : i < n
    · have a1 : (i : Int) < (n : Int) := by omega
      have a2 : (i : Int) ≤ 2 := by omega
      have HI := Lib.hid (IH i hlt)
      have hx6 := (hx i hlt).keep (hb0.block b0 hb)
      have HM : Hid (sumD ds (i + 1) = sumD ds i + ds i) := rfl
      generalize sumD ds i = D at *
      generalize ds i = dd at *
      generalize xs i = x at *
      obtain ⟨x0, x1, x2, x3, x4, x5⟩ := hx6
      have b1 : (0 : Int) ≤ ((1 + D : Nat) : Int) := by omega
      have b2 : ((1 + D : Nat) : Int) ≤ 2000001 := by omega
      have b3 : (0 : Int) ≤ (dd : Int) := by omega
      have b4 : (dd : Int) ≤ 1000000 := by omega
      go_wp2_with fail
      have hb1 := hb0.alloc hb0.size (.cells #[.int .i64 x.k, .bool x.r.s, .slice x.r.A x.r.n x.r.c, .slice x.r.B x.r.m x.r.d, .string x.s, .slice x.K x.n x.c] 27)
      have k_x := k_e.alloc (.cells #[.int .i64 x.k, .bool x.r.s, .slice x.r.A x.r.n x.r.c, .slice x.r.B x.r.m x.r.d, .string x.s, .slice x.K x.n x.c] 27)
      first
        | refine (HI.out _ hb1).mono ?_
        | refine (HI.out _ hb0).mono ?_
      rintro e w2 ⟨rfl, hb2⟩
      first
        | replace k_e := k_x.below hb2
        | replace k_e := k_e.below hb2
      first
        | replace hb0 := hb1.trans (hb2.mono hb1.size)
        | replace hb0 := hb0.trans (hb2.mono hb0.size)
      clear hb2 x0 x1 x2 x3 x4 x5 hb1 k_x e0 e1 e2 e3 e4 e5
      go_wp2
      go_roundw
      case rel => exact ⟨i + 1, by omega, by go_num, by rw [HM.out]; exact congrArg (Value.int .i64) (by omega), k_e, hb0⟩
      case measure => simp [intOf]; omega

    · have e : i = n := by omega
      have a1 : ¬ (i : Int) < (n : Int) := by omega
      subst e
      go_wp2
      go_ret
      exact ⟨rfl, hb0⟩
theorem Nodes_c {P : Nat → Prop} : ∀ (t : Ex) (v : Ev) (w : World), t.nodes ≤ 1000000 → Tw w P t v → Calls Tryz.prog 14 #[.agg #[.int .i64 v.k, .bool v.r.s, .slice v.r.A v.r.n v.r.c, .slice v.r.B v.r.m v.r.d, .string v.s, .slice v.K v.n v.c]] w fun e w' => e = .returned (.int .i64 t.nodes) ∧ Below w.heap.size w w' := by
  intro t
  induction t with
  | bad => intro v w _ hv; have hv' : v = Ez := hv; subst hv'; exact Nodes_leaf 0 Rz ⟨#[]⟩
  | num r =>
    intro v w _ hv
    obtain ⟨hv, _⟩ := hv
    generalize v.r = y at *
    subst hv
    exact Nodes_leaf 1 y ⟨#[]⟩
  | nm s => intro v w _ hv; have hv' : v = ⟨2, Rz, s, none, 0, 0⟩ := hv; subst hv'; exact Nodes_leaf 2 Rz s
  | bin k a b iha ihb =>
    intro v w hn hv
    have hn' : 1 + a.nodes + b.nodes ≤ 1000000 := hn
    obtain ⟨b0, x, y, rfl, _, hb0, hbl, ha, hb⟩ := hv
    obtain ⟨x6, y6⟩ := at6_two hbl
    have e : (Ex.bin k a b).nodes = 1 + sumD (two_ a.nodes b.nodes) 2 := by
      show 1 + a.nodes + b.nodes = 1 + (0 + a.nodes + b.nodes)
      omega
    rw [e]
    refine Nodes_step (k : Int) Rz ⟨#[]⟩ b0 2 (two_ x y) (two_ a.nodes b.nodes) (by omega) hb0 ?_ ?_ ?_
    · intro i hi
      rcases i with _ | _ | i
      · exact x6
      · exact y6
      · omega
    · intro i hi w1 hb1
      rcases i with _ | _ | i
      · exact iha x w1 (by omega) (ha.below hb1)
      · exact ihb y w1 (by omega) (hb.below hb1)
      · omega
    · intro i
      rcases i with _ | i
      · show a.nodes ≤ 1000000; omega
      · show b.nodes ≤ 1000000; omega
  | neg a iha =>
    intro v w hn hv
    have hn' : 1 + a.nodes ≤ 1000000 := hn
    obtain ⟨b0, x, rfl, _, hb0, hbl, ha⟩ := hv
    have e : (Ex.neg a).nodes = 1 + sumD (fun _ => a.nodes) 1 := by
      show 1 + a.nodes = 1 + (0 + a.nodes)
      omega
    rw [e]
    refine Nodes_step 7 Rz ⟨#[]⟩ b0 1 (fun _ => x) (fun _ => a.nodes) (by omega) hb0 ?_ ?_ ?_
    · intro i hi
      rcases i with _ | i
      · exact at6_one hbl
      · omega
    · intro i hi w1 hb1
      exact iha x w1 (by omega) (ha.below hb1)
    · intro i; show a.nodes ≤ 1000000; omega
set_option maxHeartbeats 1600000 in
theorem rIsE_c {w : World} {P : Nat → Prop} {t : Ex} {v : Ev} (b : Bool) (hb : b = true ↔ t.may 32 256) (hw : t.wf) (hs : t.szd) (hn : t.nodes ≤ 1000000) (hv : Tw w P t v) :
    Calls Tryz.prog 6 #[.agg #[.int .i64 v.k, .bool v.r.s, .slice v.r.A v.r.n v.r.c, .slice v.r.B v.r.m v.r.d, .string v.s, .slice v.K v.n v.c]] w fun e w' => e = .returned (.bool b) ∧ Below w.heap.size w w' := by
  obtain ⟨c, hc⟩ : ∃ c : Bool, c = true ↔ t.fine ∧ t.deep + 1 ≤ 33 := by
    by_cases h : t.fine ∧ t.deep + 1 ≤ 33
    · exact ⟨true, fun _ => h, fun _ => rfl⟩
    · exact ⟨false, fun h => Bool.noConfusion h, fun h1 => absurd h1 h⟩
  have k_e := C6.new w (.int .i64 v.k) (.bool v.r.s) (.slice v.r.A v.r.n v.r.c) (.slice v.r.B v.r.m v.r.d) (.string v.s) (.slice v.K v.n v.c)
  have hb0 := (Below.refl w.heap.size w).alloc (Nat.le_refl _) (.cells #[.int .i64 v.k, .bool v.r.s, .slice v.r.A v.r.n v.r.c, .slice v.r.B v.r.m v.r.d, .string v.s, .slice v.K v.n v.c] 27)
  have hv2 := hv.below hb0
  have HC := Lib.hid (one_c t hw hs v w hv _ 1 c hb0 (by omega) hc)
  have HB := Lib.hid hb
  have HCC := Lib.hid hc
  clear hc hb
  obtain ⟨e0, e1, e2, e3, e4, e5⟩ := k_e.facts
  go_enter Tryz.func6, Tryz.ntmps6
  go_wp2_with fail
  refine HC.out.mono ?_
  rintro e w1 ⟨rfl, hb1⟩
  replace k_e := k_e.below hb1
  replace hv2 := hv2.below hb1
  replace hb0 := hb0.trans (hb1.mono hb0.size)
  clear e0 e1 e2 e3 e4 e5 hb1
  obtain ⟨e0, e1, e2, e3, e4, e5⟩ := k_e.facts
  cases c with
  | false =>
    have HF : Hid (b = false) := by
      cases b with
      | false => rfl
      | true => exact absurd (HCC.out.2 ⟨(HB.out.1 rfl).1, by have := (HB.out.1 rfl).2.1; omega⟩) (by decide)
    go_wp2
    go_ret
    exact ⟨by rw [HF.out]; rfl, hb0⟩
  | true =>
    go_wp2_with fail
    refine (Nodes_c t v _ hn hv2).mono ?_
    rintro e w2 ⟨rfl, hb1⟩
    replace hb0 := hb0.trans (hb1.mono hb0.size)
    clear hb1
    by_cases h : t.nodes ≤ 256
    · have HF : Hid (b = true) := HB.out.2 ⟨(HCC.out.1 (by first | rfl | trivial)).1, by have := (HCC.out.1 (by first | rfl | trivial)).2; omega, h⟩
      have i1 : (t.nodes : Int) ≤ 256 := by omega
      go_wp2
      go_ret
      exact ⟨by first | (rw [HF.out]; rfl) | (show Ending.returned (Value.bool (decide ((t.nodes : Int) ≤ 256))) = _; rw [HF.out, decide_eq_true i1]), hb0⟩
    · have HF : Hid (b = false) := by
        cases b with
        | false => rfl
        | true => exact absurd (HB.out.1 rfl).2.2 h
      have i1 : ¬ (t.nodes : Int) ≤ 256 := by omega
      go_wp2
      go_ret
      exact ⟨by first | (rw [HF.out]; rfl) | (show Ending.returned (Value.bool (decide ((t.nodes : Int) ≤ 256))) = _; rw [HF.out, decide_eq_false (by omega)]), hb0⟩
end Go.Proofs.YtdpbceipiappjaaGreatDoor
