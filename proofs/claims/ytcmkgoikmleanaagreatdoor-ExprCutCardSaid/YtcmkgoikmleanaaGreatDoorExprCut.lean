/-
  ExprCut: the walk of the law.
-/
import Derived.Test.YtcmkgoikmleanaaGreatDoorTrue
import Derived.Deep.RegionWith
import Derived.Test.YtcmkgoikmleanaaGreatDoorExZb
namespace Go.Proofs.YtcmkgoikmleanaaGreatDoor
set_option maxRecDepth 20000
open Go.RowKit

/-- The sign that is told. -/
def cutB (m : Nat) : UInt8 := if m = 0 then 43 else if m = 1 then 45 else if m = 2 then 42 else 47
theorem cutB_is (m : Nat) : cutB m = 43 ∨ cutB m = 45 ∨ cutB m = 42 ∨ cutB m = 47 := by
  unfold cutB
  split
  · exact .inl rfl
  · split
    · exact .inr (.inl rfl)
    · split
      · exact .inr (.inr (.inl rfl))
      · exact .inr (.inr (.inr rfl))
set_option maxHeartbeats 3200000 in
theorem ExprCut_heavy (v : Ev) (k : Nat) (i : Int) (w : World) (hr : Raw w k v) (hno : ¬ ∃ L, Light w k v L ∧ L ≤ 300) : Calls Tryz.prog 5 #[.agg #[.int .i64 v.k, .bool v.r.s, .slice v.r.A v.r.n v.r.c, .slice v.r.B v.r.m v.r.d, .string v.s, .slice v.K v.n v.c], .int .i64 i] w fun e w' => e = .returned (.bool true) ∧ Below w.heap.size w w' := by
  have k_e := C6.new w (.int .i64 v.k) (.bool v.r.s) (.slice v.r.A v.r.n v.r.c) (.slice v.r.B v.r.m v.r.d) (.string v.s) (.slice v.K v.n v.c)
  have hb0 := (Below.refl w.heap.size w).alloc (Nat.le_refl _) (.cells #[.int .i64 v.k, .bool v.r.s, .slice v.r.A v.r.n v.r.c, .slice v.r.B v.r.m v.r.d, .string v.s, .slice v.K v.n v.c] 27)
  have HC := Lib.hid (weight_c k v _ w 300 hr hb0 (by omega) (by omega))
  have HNO := Lib.hid hno
  clear hno
  obtain ⟨e0, e1, e2, e3, e4, e5⟩ := k_e.facts
  go_enter Tryz.func5, Tryz.ntmps5
  go_wp2_with fail
  refine HC.out.mono ?_
  rintro e w1 ⟨R, rfl, hL, hb1⟩
  have hR : R < 0 := by
    rcases hL.2 with h | ⟨L, h1, h2, h3⟩
    · exact h
    · exact absurd ⟨L, h1, by omega⟩ HNO.out
  replace hb0 := hb0.trans (hb1.mono hb0.size)
  clear hL HC hb1 e0 e1 e2 e3 e4 e5
  go_wp2
  go_ret
  exact ⟨rfl, hb0⟩
set_option maxHeartbeats 3200000 in
theorem ExprCut_none (v : Ev) (k L : Nat) (i : Int) (w : World) (hr : Raw w k v) (hl : Light w k v L) (hL : L ≤ 300) (hno : ¬ ∃ t : Ex, t.may 32 256 ∧ t.wf ∧ t.szd ∧ Tg w t v) : Calls Tryz.prog 5 #[.agg #[.int .i64 v.k, .bool v.r.s, .slice v.r.A v.r.n v.r.c, .slice v.r.B v.r.m v.r.d, .string v.s, .slice v.K v.n v.c], .int .i64 i] w fun e w' => e = .returned (.bool true) ∧ Below w.heap.size w w' := by
  have k_e := C6.new w (.int .i64 v.k) (.bool v.r.s) (.slice v.r.A v.r.n v.r.c) (.slice v.r.B v.r.m v.r.d) (.string v.s) (.slice v.K v.n v.c)
  have hb0 := (Below.refl w.heap.size w).alloc (Nat.le_refl _) (.cells #[.int .i64 v.k, .bool v.r.s, .slice v.r.A v.r.n v.r.c, .slice v.r.B v.r.m v.r.d, .string v.s, .slice v.K v.n v.c] 27)
  have HC := Lib.hid (weight_c k v _ w 300 hr hb0 (by omega) (by omega))
  have HI : Hid (∀ w', Below w.heap.size w w' → Calls Tryz.prog 7 #[.agg #[.int .i64 v.k, .bool v.r.s, .slice v.r.A v.r.n v.r.c, .slice v.r.B v.r.m v.r.d, .string v.s, .slice v.K v.n v.c]] w' fun e w'' => e = .returned (.bool false) ∧ Below w'.heap.size w' w'') := fun w' hb => IsF_c hr hl (by omega) hb hno
  clear hno
  obtain ⟨e0, e1, e2, e3, e4, e5⟩ := k_e.facts
  go_enter Tryz.func5, Tryz.ntmps5
  go_wp2_with fail
  refine HC.out.mono ?_
  rintro e w1 ⟨R, rfl, _, hb1⟩
  replace k_e := k_e.below hb1
  replace hb0 := hb0.trans (hb1.mono hb0.size)
  clear HC hb1 e0 e1 e2 e3 e4 e5
  obtain ⟨e0, e1, e2, e3, e4, e5⟩ := k_e.facts
  by_cases hR : R < 0
  · go_wp2
    go_ret
    exact ⟨rfl, hb0⟩
  · go_wp2_with fail
    refine (HI.out _ hb0).mono ?_
    rintro e w2 ⟨rfl, hb1⟩
    replace hb0 := hb0.trans (hb1.mono hb0.size)
    clear hb1 e0 e1 e2 e3 e4 e5
    go_wp2
    go_ret
    exact ⟨rfl, hb0⟩
theorem land3 (n : Nat) : n &&& 3 = n % 4 := Nat.and_two_pow_sub_one_eq_mod n 2
theorem bits_three (i : Int) : bits BinOp.and IntKind.i64 i 3 = 0 ∨ bits BinOp.and IntKind.i64 i 3 = 1 ∨ bits BinOp.and IntKind.i64 i 3 = 2 ∨ bits BinOp.and IntKind.i64 i 3 = 3 := by
  unfold bits
  simp only []
  have h3 : (BitVec.ofInt IntKind.i64.bits 3).toNat = 3 := by decide
  have e : (BitVec.ofInt IntKind.i64.bits i &&& BitVec.ofInt IntKind.i64.bits 3).toNat < 4 := by
    rw [BitVec.toNat_and, h3, land3]; omega
  generalize (BitVec.ofInt IntKind.i64.bits i &&& BitVec.ofInt IntKind.i64.bits 3).toNat = N at e ⊢
  have : N = 0 ∨ N = 1 ∨ N = 2 ∨ N = 3 := by omega
  rcases this with rfl | rfl | rfl | rfl
  · exact .inl rfl
  · exact .inr (.inl rfl)
  · exact .inr (.inr (.inl rfl))
  · exact .inr (.inr (.inr rfl))
theorem cut_conv (W : World) (g : Nat) (x : UInt8) (h : W.cell? ⟨g, 0, none⟩ = some (.int .u8 (x.toNat : Int))) : (Go.convert 39 9 (.slice (some ⟨g, 0, none⟩) 1 1)).run Tryz.prog W = .ok (.string ⟨#[x]⟩) W := by
  refine run_convert_bytes_back (P := Tryz.prog) _ 39 9 5 ⟨g, 0, none⟩ 1 [x] Tryz.underlying39 Tryz.underlying5 Tryz.underlying9 (fun j hj => ?_)
  have : j = 0 := by simpa using hj
  subst this
  simpa [Addr.add] using h
theorem cut_cell (W : World) (x : Value) : (W.alloc (.cells #[x] 5)).cell? ⟨W.heap.size, 0, none⟩ = some x := by
  have h := heap_alloc_new W (.cells #[x] 5)
  simp only [World.cell?]
  rw [h]
  rfl
set_option maxRecDepth 100000 in
set_option maxHeartbeats 12800000 in
theorem ExprCut_m0 (v : Ev) (k : Nat) (i : Int) (t : Ex) (w : World) (hr : Raw w k v) (hm : t.may 32 256) (hw : t.wf) (hs : t.szd) (hg : Tg w t v) (hi : bits BinOp.and IntKind.i64 i 3 = 0) (hT0 : Tb w) (hM0 : Mx w) : Calls Tryz.prog 5 #[.agg #[.int .i64 v.k, .bool v.r.s, .slice v.r.A v.r.n v.r.c, .slice v.r.B v.r.m v.r.d, .string v.s, .slice v.K v.n v.c], .int .i64 i] w fun e w' => e = .returned (.bool true) ∧ Below w.heap.size w w' := by
  have k_e := C6.new w (.int .i64 v.k) (.bool v.r.s) (.slice v.r.A v.r.n v.r.c) (.slice v.r.B v.r.m v.r.d) (.string v.s) (.slice v.K v.n v.c)
  have hb0 := (Below.refl w.heap.size w).alloc (Nat.le_refl _) (.cells #[.int .i64 v.k, .bool v.r.s, .slice v.r.A v.r.n v.r.c, .slice v.r.B v.r.m v.r.d, .string v.s, .slice v.K v.n v.c] 27)
  have HC := Lib.hid (weight_c k v _ w 300 hr hb0 (by omega) (by omega))
  have HI : Hid (∀ w', Below w.heap.size w w' → Calls Tryz.prog 7 #[.agg #[.int .i64 v.k, .bool v.r.s, .slice v.r.A v.r.n v.r.c, .slice v.r.B v.r.m v.r.d, .string v.s, .slice v.K v.n v.c]] w' fun e w'' => e = .returned (.bool true) ∧ Below w'.heap.size w' w'') := fun w' hb => IsT_c hm hw hs hg hb
  have HP : Hid (∀ w', Below w.heap.size w w' → Calls Tryz.prog 12 #[.agg #[.int .i64 v.k, .bool v.r.s, .slice v.r.A v.r.n v.r.c, .slice v.r.B v.r.m v.r.d, .string v.s, .slice v.K v.n v.c]] w' fun e w'' => e = .returned (.string (tx t.pr)) ∧ Below w'.heap.size w' w'') := fun w' hb => PrintT_c hm hw hs hg hb
  have hsz : (tx t.pr).size ≤ 100000 - 2 := by
    have h1 := pr_len2 t hm.1
    have h2 := hm.2.2
    rw [tx_size]; omega
  have HF : Hid (fin (tx t.pr ++ (⟨#[32]⟩ : ByteArray) ++ (⟨#[43]⟩ : ByteArray)) = .err (tx t.pr ++ (⟨#[32]⟩ : ByteArray) ++ (⟨#[43]⟩ : ByteArray)).size 2) := by
    refine cut_fin (c := 43) hm hw (by decide) ?_
    rw [app_list (app_list (tx_list _) (m := [32]) rfl) (m := [43]) rfl]; simp
  generalize tx t.pr = T at *
  have HPA : Hid (∀ w', Below w.heap.size w w' → Calls Tryz.prog 8 #[.string (T ++ (⟨#[32]⟩ : ByteArray) ++ (⟨#[43]⟩ : ByteArray))] w' (FP w' (.err (T ++ (⟨#[32]⟩ : ByteArray) ++ (⟨#[43]⟩ : ByteArray)).size 2))) := fun w' hb => by
    have h := eParse_c (T ++ (⟨#[32]⟩ : ByteArray) ++ (⟨#[43]⟩ : ByteArray)) w' (by simp only [ByteArray.size_append]; show T.size + 1 + 1 ≤ _; omega) (hM0.below hb) (hT0.below hb)
    rw [HF.out] at h
    exact h
  have HT := Lib.hid hT0
  have HM := Lib.hid hM0
  have g1 : ¬ (9223372036854775807 < T.size + 1) := by omega
  have g2 : ¬ (T.size + 1 > 9223372036854775807) := by omega
  have g3 : ¬ (9223372036854775807 < T.size + 1 + 1) := by omega
  have g4 : ¬ (T.size + 1 + 1 > 9223372036854775807) := by omega
  have hcv : ∀ (W : World), (Go.convert 39 9 (.slice (some ⟨W.heap.size, 0, none⟩) 1 1)).run Tryz.prog (W.alloc (.cells #[.int .u8 (((⟨#[43, 45, 42, 47]⟩ : ByteArray)[0]).toNat : Int)] 5)) = .ok (.string ⟨#[43]⟩) (W.alloc (.cells #[.int .u8 (((⟨#[43, 45, 42, 47]⟩ : ByteArray)[0]).toNat : Int)] 5)) := fun W => cut_conv _ _ ((⟨#[43, 45, 42, 47]⟩ : ByteArray)[0]) (cut_cell W _)
  have hcw : ∀ (W : World), (Go.convert 39 9 (.slice (some ⟨W.heap.size, 0, none⟩) 1 1)).run Tryz.prog (W.alloc (.cells #[.int .u8 (((⟨#[43, 45, 42, 47]⟩ : ByteArray)[0]).toNat : Int)] 5)).drew = .ok (.string ⟨#[43]⟩) (W.alloc (.cells #[.int .u8 (((⟨#[43, 45, 42, 47]⟩ : ByteArray)[0]).toNat : Int)] 5)).drew := fun W => cut_conv _ _ ((⟨#[43, 45, 42, 47]⟩ : ByteArray)[0]) (cut_cell W _)
  clear hT0 hM0 hr hg hm hw hs HF
  obtain ⟨e0, e1, e2, e3, e4, e5⟩ := k_e.facts
  go_enter Tryz.func5, Tryz.ntmps5
  go_wp2_with fail
  refine HC.out.mono ?_
  rintro e w1 ⟨R, rfl, _, hb1⟩
  replace k_e := k_e.below hb1
  replace hb0 := hb0.trans (hb1.mono hb0.size)
  clear HC hb1 e0 e1 e2 e3 e4 e5
  obtain ⟨e0, e1, e2, e3, e4, e5⟩ := k_e.facts
  by_cases hR : R < 0
  · go_wp2
    go_ret
    exact ⟨rfl, hb0⟩
  · go_wp2_with fail
    refine (HI.out _ hb0).mono ?_
    rintro e w2 ⟨rfl, hb1⟩
    replace k_e := k_e.below hb1
    replace hb0 := hb0.trans (hb1.mono hb0.size)
    clear hb1 e0 e1 e2 e3 e4 e5
    obtain ⟨e0, e1, e2, e3, e4, e5⟩ := k_e.facts
    go_wp2_with fail
    clear hR
    have h0 := k_e.lt
    go_region_with
      (first
      | (go_at_call 12
         refine (HP.out _ hb0).mono ?_
         rintro e w3 ⟨rfl, hb3⟩
         replace hb0 := hb0.trans (hb3.mono hb0.size)
         clear hb3 e0 e1 e2 e3 e4 e5)
      | (go_at_call 12
         refine (HP.out _ hb0.drew).mono ?_
         rintro e w3 ⟨rfl, hb3⟩
         replace hb0 := hb0.drew.trans (hb3.mono hb0.drew.size)
         clear hb3 e0 e1 e2 e3 e4 e5)
      | (go_at_call 12
         have hcc := cut_cell w2 (.int .u8 (((⟨#[43, 45, 42, 47]⟩ : ByteArray)[0]).toNat : Int))
         have hal := (hb0.alloc hb0.size (.cells #[.int .u8 (((⟨#[43, 45, 42, 47]⟩ : ByteArray)[0]).toNat : Int)] 5)).drew
         refine (HP.out _ hal).mono ?_
         rintro e w3 ⟨rfl, hb3⟩
         have hcv3 := cut_conv w3 w2.heap.size ((⟨#[43, 45, 42, 47]⟩ : ByteArray)[0]) ((hb3.cell (p := ⟨w2.heap.size, 0, none⟩) (by simp)).trans hcc)
         replace hb0 := hal.trans (hb3.mono hal.size)
         clear hb3 hal hcc e0 e1 e2 e3 e4 e5))
    all_goals
      go_wp2_with fail
      first
        | refine (HPA.out _ hb0).mono ?_
        | (replace hb0 := hb0.alloc hb0.size (.cells #[.int .u8 (((⟨#[43, 45, 42, 47]⟩ : ByteArray)[0]).toNat : Int)] 5); refine (HPA.out _ hb0).mono ?_)
      rintro e w4 ⟨rfl, hb4⟩
      replace hb0 := hb0.trans (hb4.mono hb0.size)
      have k_z := C6.new w4 (.int .i64 0) (.bool false) (.slice none 0 0) (.slice none 0 0) (.string ⟨#[]⟩) (.slice none 0 0)
      have hbz := (Below.refl w4.heap.size w4).alloc (Nat.le_refl _) (.cells #[.int .i64 0, .bool false, .slice none 0 0, .slice none 0 0, .string ⟨#[]⟩, .slice none 0 0] 27)
      clear hb4
      obtain ⟨z0, z1, z2, z3, z4, z5⟩ := k_z.facts
      go_wp2_with fail
      refine (Same_bad _).mono ?_
      rintro e w5 ⟨rfl, hb5⟩
      replace hb0 := (hb0.trans (hbz.mono hb0.size)).trans (hb5.mono (hb0.trans (hbz.mono hb0.size)).size)
      clear hb5 hbz z0 z1 z2 z3 z4 z5 k_z
      have HB := Lib.hid hb0
      go_wp2_with fail
      refine (known5_any _ (HT.out.below hb0) (HM.out.below hb0)).mono ?_
      rintro e w6 ⟨rfl, hb6⟩
      go_wp2
      go_ret
      exact ⟨rfl, HB.out.trans (hb6.mono HB.out.size)⟩
set_option maxRecDepth 100000 in
set_option maxHeartbeats 12800000 in
theorem ExprCut_m1 (v : Ev) (k : Nat) (i : Int) (t : Ex) (w : World) (hr : Raw w k v) (hm : t.may 32 256) (hw : t.wf) (hs : t.szd) (hg : Tg w t v) (hi : bits BinOp.and IntKind.i64 i 3 = 1) (hT0 : Tb w) (hM0 : Mx w) : Calls Tryz.prog 5 #[.agg #[.int .i64 v.k, .bool v.r.s, .slice v.r.A v.r.n v.r.c, .slice v.r.B v.r.m v.r.d, .string v.s, .slice v.K v.n v.c], .int .i64 i] w fun e w' => e = .returned (.bool true) ∧ Below w.heap.size w w' := by
  have k_e := C6.new w (.int .i64 v.k) (.bool v.r.s) (.slice v.r.A v.r.n v.r.c) (.slice v.r.B v.r.m v.r.d) (.string v.s) (.slice v.K v.n v.c)
  have hb0 := (Below.refl w.heap.size w).alloc (Nat.le_refl _) (.cells #[.int .i64 v.k, .bool v.r.s, .slice v.r.A v.r.n v.r.c, .slice v.r.B v.r.m v.r.d, .string v.s, .slice v.K v.n v.c] 27)
  have HC := Lib.hid (weight_c k v _ w 300 hr hb0 (by omega) (by omega))
  have HI : Hid (∀ w', Below w.heap.size w w' → Calls Tryz.prog 7 #[.agg #[.int .i64 v.k, .bool v.r.s, .slice v.r.A v.r.n v.r.c, .slice v.r.B v.r.m v.r.d, .string v.s, .slice v.K v.n v.c]] w' fun e w'' => e = .returned (.bool true) ∧ Below w'.heap.size w' w'') := fun w' hb => IsT_c hm hw hs hg hb
  have HP : Hid (∀ w', Below w.heap.size w w' → Calls Tryz.prog 12 #[.agg #[.int .i64 v.k, .bool v.r.s, .slice v.r.A v.r.n v.r.c, .slice v.r.B v.r.m v.r.d, .string v.s, .slice v.K v.n v.c]] w' fun e w'' => e = .returned (.string (tx t.pr)) ∧ Below w'.heap.size w' w'') := fun w' hb => PrintT_c hm hw hs hg hb
  have hsz : (tx t.pr).size ≤ 100000 - 2 := by
    have h1 := pr_len2 t hm.1
    have h2 := hm.2.2
    rw [tx_size]; omega
  have HF : Hid (fin (tx t.pr ++ (⟨#[32]⟩ : ByteArray) ++ (⟨#[45]⟩ : ByteArray)) = .err (tx t.pr ++ (⟨#[32]⟩ : ByteArray) ++ (⟨#[45]⟩ : ByteArray)).size 2) := by
    refine cut_fin (c := 45) hm hw (by decide) ?_
    rw [app_list (app_list (tx_list _) (m := [32]) rfl) (m := [45]) rfl]; simp
  generalize tx t.pr = T at *
  have HPA : Hid (∀ w', Below w.heap.size w w' → Calls Tryz.prog 8 #[.string (T ++ (⟨#[32]⟩ : ByteArray) ++ (⟨#[45]⟩ : ByteArray))] w' (FP w' (.err (T ++ (⟨#[32]⟩ : ByteArray) ++ (⟨#[45]⟩ : ByteArray)).size 2))) := fun w' hb => by
    have h := eParse_c (T ++ (⟨#[32]⟩ : ByteArray) ++ (⟨#[45]⟩ : ByteArray)) w' (by simp only [ByteArray.size_append]; show T.size + 1 + 1 ≤ _; omega) (hM0.below hb) (hT0.below hb)
    rw [HF.out] at h
    exact h
  have HT := Lib.hid hT0
  have HM := Lib.hid hM0
  have g1 : ¬ (9223372036854775807 < T.size + 1) := by omega
  have g2 : ¬ (T.size + 1 > 9223372036854775807) := by omega
  have g3 : ¬ (9223372036854775807 < T.size + 1 + 1) := by omega
  have g4 : ¬ (T.size + 1 + 1 > 9223372036854775807) := by omega
  have hcv : ∀ (W : World), (Go.convert 39 9 (.slice (some ⟨W.heap.size, 0, none⟩) 1 1)).run Tryz.prog (W.alloc (.cells #[.int .u8 (((⟨#[43, 45, 42, 47]⟩ : ByteArray)[1]).toNat : Int)] 5)) = .ok (.string ⟨#[45]⟩) (W.alloc (.cells #[.int .u8 (((⟨#[43, 45, 42, 47]⟩ : ByteArray)[1]).toNat : Int)] 5)) := fun W => cut_conv _ _ ((⟨#[43, 45, 42, 47]⟩ : ByteArray)[1]) (cut_cell W _)
  have hcw : ∀ (W : World), (Go.convert 39 9 (.slice (some ⟨W.heap.size, 0, none⟩) 1 1)).run Tryz.prog (W.alloc (.cells #[.int .u8 (((⟨#[43, 45, 42, 47]⟩ : ByteArray)[1]).toNat : Int)] 5)).drew = .ok (.string ⟨#[45]⟩) (W.alloc (.cells #[.int .u8 (((⟨#[43, 45, 42, 47]⟩ : ByteArray)[1]).toNat : Int)] 5)).drew := fun W => cut_conv _ _ ((⟨#[43, 45, 42, 47]⟩ : ByteArray)[1]) (cut_cell W _)
  clear hT0 hM0 hr hg hm hw hs HF
  obtain ⟨e0, e1, e2, e3, e4, e5⟩ := k_e.facts
  go_enter Tryz.func5, Tryz.ntmps5
  go_wp2_with fail
  refine HC.out.mono ?_
  rintro e w1 ⟨R, rfl, _, hb1⟩
  replace k_e := k_e.below hb1
  replace hb0 := hb0.trans (hb1.mono hb0.size)
  clear HC hb1 e0 e1 e2 e3 e4 e5
  obtain ⟨e0, e1, e2, e3, e4, e5⟩ := k_e.facts
  by_cases hR : R < 0
  · go_wp2
    go_ret
    exact ⟨rfl, hb0⟩
  · go_wp2_with fail
    refine (HI.out _ hb0).mono ?_
    rintro e w2 ⟨rfl, hb1⟩
    replace k_e := k_e.below hb1
    replace hb0 := hb0.trans (hb1.mono hb0.size)
    clear hb1 e0 e1 e2 e3 e4 e5
    obtain ⟨e0, e1, e2, e3, e4, e5⟩ := k_e.facts
    go_wp2_with fail
    clear hR
    have h0 := k_e.lt
    go_region_with
      (first
      | (go_at_call 12
         refine (HP.out _ hb0).mono ?_
         rintro e w3 ⟨rfl, hb3⟩
         replace hb0 := hb0.trans (hb3.mono hb0.size)
         clear hb3 e0 e1 e2 e3 e4 e5)
      | (go_at_call 12
         refine (HP.out _ hb0.drew).mono ?_
         rintro e w3 ⟨rfl, hb3⟩
         replace hb0 := hb0.drew.trans (hb3.mono hb0.drew.size)
         clear hb3 e0 e1 e2 e3 e4 e5)
      | (go_at_call 12
         have hcc := cut_cell w2 (.int .u8 (((⟨#[43, 45, 42, 47]⟩ : ByteArray)[1]).toNat : Int))
         have hal := (hb0.alloc hb0.size (.cells #[.int .u8 (((⟨#[43, 45, 42, 47]⟩ : ByteArray)[1]).toNat : Int)] 5)).drew
         refine (HP.out _ hal).mono ?_
         rintro e w3 ⟨rfl, hb3⟩
         have hcv3 := cut_conv w3 w2.heap.size ((⟨#[43, 45, 42, 47]⟩ : ByteArray)[1]) ((hb3.cell (p := ⟨w2.heap.size, 0, none⟩) (by simp)).trans hcc)
         replace hb0 := hal.trans (hb3.mono hal.size)
         clear hb3 hal hcc e0 e1 e2 e3 e4 e5))
    all_goals
      go_wp2_with fail
      first
        | refine (HPA.out _ hb0).mono ?_
        | (replace hb0 := hb0.alloc hb0.size (.cells #[.int .u8 (((⟨#[43, 45, 42, 47]⟩ : ByteArray)[1]).toNat : Int)] 5); refine (HPA.out _ hb0).mono ?_)
      rintro e w4 ⟨rfl, hb4⟩
      replace hb0 := hb0.trans (hb4.mono hb0.size)
      have k_z := C6.new w4 (.int .i64 0) (.bool false) (.slice none 0 0) (.slice none 0 0) (.string ⟨#[]⟩) (.slice none 0 0)
      have hbz := (Below.refl w4.heap.size w4).alloc (Nat.le_refl _) (.cells #[.int .i64 0, .bool false, .slice none 0 0, .slice none 0 0, .string ⟨#[]⟩, .slice none 0 0] 27)
      clear hb4
      obtain ⟨z0, z1, z2, z3, z4, z5⟩ := k_z.facts
      go_wp2_with fail
      refine (Same_bad _).mono ?_
      rintro e w5 ⟨rfl, hb5⟩
      replace hb0 := (hb0.trans (hbz.mono hb0.size)).trans (hb5.mono (hb0.trans (hbz.mono hb0.size)).size)
      clear hb5 hbz z0 z1 z2 z3 z4 z5 k_z
      have HB := Lib.hid hb0
      go_wp2_with fail
      refine (known5_any _ (HT.out.below hb0) (HM.out.below hb0)).mono ?_
      rintro e w6 ⟨rfl, hb6⟩
      go_wp2
      go_ret
      exact ⟨rfl, HB.out.trans (hb6.mono HB.out.size)⟩
set_option maxRecDepth 100000 in
set_option maxHeartbeats 12800000 in
theorem ExprCut_m2 (v : Ev) (k : Nat) (i : Int) (t : Ex) (w : World) (hr : Raw w k v) (hm : t.may 32 256) (hw : t.wf) (hs : t.szd) (hg : Tg w t v) (hi : bits BinOp.and IntKind.i64 i 3 = 2) (hT0 : Tb w) (hM0 : Mx w) : Calls Tryz.prog 5 #[.agg #[.int .i64 v.k, .bool v.r.s, .slice v.r.A v.r.n v.r.c, .slice v.r.B v.r.m v.r.d, .string v.s, .slice v.K v.n v.c], .int .i64 i] w fun e w' => e = .returned (.bool true) ∧ Below w.heap.size w w' := by
  have k_e := C6.new w (.int .i64 v.k) (.bool v.r.s) (.slice v.r.A v.r.n v.r.c) (.slice v.r.B v.r.m v.r.d) (.string v.s) (.slice v.K v.n v.c)
  have hb0 := (Below.refl w.heap.size w).alloc (Nat.le_refl _) (.cells #[.int .i64 v.k, .bool v.r.s, .slice v.r.A v.r.n v.r.c, .slice v.r.B v.r.m v.r.d, .string v.s, .slice v.K v.n v.c] 27)
  have HC := Lib.hid (weight_c k v _ w 300 hr hb0 (by omega) (by omega))
  have HI : Hid (∀ w', Below w.heap.size w w' → Calls Tryz.prog 7 #[.agg #[.int .i64 v.k, .bool v.r.s, .slice v.r.A v.r.n v.r.c, .slice v.r.B v.r.m v.r.d, .string v.s, .slice v.K v.n v.c]] w' fun e w'' => e = .returned (.bool true) ∧ Below w'.heap.size w' w'') := fun w' hb => IsT_c hm hw hs hg hb
  have HP : Hid (∀ w', Below w.heap.size w w' → Calls Tryz.prog 12 #[.agg #[.int .i64 v.k, .bool v.r.s, .slice v.r.A v.r.n v.r.c, .slice v.r.B v.r.m v.r.d, .string v.s, .slice v.K v.n v.c]] w' fun e w'' => e = .returned (.string (tx t.pr)) ∧ Below w'.heap.size w' w'') := fun w' hb => PrintT_c hm hw hs hg hb
  have hsz : (tx t.pr).size ≤ 100000 - 2 := by
    have h1 := pr_len2 t hm.1
    have h2 := hm.2.2
    rw [tx_size]; omega
  have HF : Hid (fin (tx t.pr ++ (⟨#[32]⟩ : ByteArray) ++ (⟨#[42]⟩ : ByteArray)) = .err (tx t.pr ++ (⟨#[32]⟩ : ByteArray) ++ (⟨#[42]⟩ : ByteArray)).size 2) := by
    refine cut_fin (c := 42) hm hw (by decide) ?_
    rw [app_list (app_list (tx_list _) (m := [32]) rfl) (m := [42]) rfl]; simp
  generalize tx t.pr = T at *
  have HPA : Hid (∀ w', Below w.heap.size w w' → Calls Tryz.prog 8 #[.string (T ++ (⟨#[32]⟩ : ByteArray) ++ (⟨#[42]⟩ : ByteArray))] w' (FP w' (.err (T ++ (⟨#[32]⟩ : ByteArray) ++ (⟨#[42]⟩ : ByteArray)).size 2))) := fun w' hb => by
    have h := eParse_c (T ++ (⟨#[32]⟩ : ByteArray) ++ (⟨#[42]⟩ : ByteArray)) w' (by simp only [ByteArray.size_append]; show T.size + 1 + 1 ≤ _; omega) (hM0.below hb) (hT0.below hb)
    rw [HF.out] at h
    exact h
  have HT := Lib.hid hT0
  have HM := Lib.hid hM0
  have g1 : ¬ (9223372036854775807 < T.size + 1) := by omega
  have g2 : ¬ (T.size + 1 > 9223372036854775807) := by omega
  have g3 : ¬ (9223372036854775807 < T.size + 1 + 1) := by omega
  have g4 : ¬ (T.size + 1 + 1 > 9223372036854775807) := by omega
  have hcv : ∀ (W : World), (Go.convert 39 9 (.slice (some ⟨W.heap.size, 0, none⟩) 1 1)).run Tryz.prog (W.alloc (.cells #[.int .u8 (((⟨#[43, 45, 42, 47]⟩ : ByteArray)[2]).toNat : Int)] 5)) = .ok (.string ⟨#[42]⟩) (W.alloc (.cells #[.int .u8 (((⟨#[43, 45, 42, 47]⟩ : ByteArray)[2]).toNat : Int)] 5)) := fun W => cut_conv _ _ ((⟨#[43, 45, 42, 47]⟩ : ByteArray)[2]) (cut_cell W _)
  have hcw : ∀ (W : World), (Go.convert 39 9 (.slice (some ⟨W.heap.size, 0, none⟩) 1 1)).run Tryz.prog (W.alloc (.cells #[.int .u8 (((⟨#[43, 45, 42, 47]⟩ : ByteArray)[2]).toNat : Int)] 5)).drew = .ok (.string ⟨#[42]⟩) (W.alloc (.cells #[.int .u8 (((⟨#[43, 45, 42, 47]⟩ : ByteArray)[2]).toNat : Int)] 5)).drew := fun W => cut_conv _ _ ((⟨#[43, 45, 42, 47]⟩ : ByteArray)[2]) (cut_cell W _)
  clear hT0 hM0 hr hg hm hw hs HF
  obtain ⟨e0, e1, e2, e3, e4, e5⟩ := k_e.facts
  go_enter Tryz.func5, Tryz.ntmps5
  go_wp2_with fail
  refine HC.out.mono ?_
  rintro e w1 ⟨R, rfl, _, hb1⟩
  replace k_e := k_e.below hb1
  replace hb0 := hb0.trans (hb1.mono hb0.size)
  clear HC hb1 e0 e1 e2 e3 e4 e5
  obtain ⟨e0, e1, e2, e3, e4, e5⟩ := k_e.facts
  by_cases hR : R < 0
  · go_wp2
    go_ret
    exact ⟨rfl, hb0⟩
  · go_wp2_with fail
    refine (HI.out _ hb0).mono ?_
    rintro e w2 ⟨rfl, hb1⟩
    replace k_e := k_e.below hb1
    replace hb0 := hb0.trans (hb1.mono hb0.size)
    clear hb1 e0 e1 e2 e3 e4 e5
    obtain ⟨e0, e1, e2, e3, e4, e5⟩ := k_e.facts
    go_wp2_with fail
    clear hR
    have h0 := k_e.lt
    go_region_with
      (first
      | (go_at_call 12
         refine (HP.out _ hb0).mono ?_
         rintro e w3 ⟨rfl, hb3⟩
         replace hb0 := hb0.trans (hb3.mono hb0.size)
         clear hb3 e0 e1 e2 e3 e4 e5)
      | (go_at_call 12
         refine (HP.out _ hb0.drew).mono ?_
         rintro e w3 ⟨rfl, hb3⟩
         replace hb0 := hb0.drew.trans (hb3.mono hb0.drew.size)
         clear hb3 e0 e1 e2 e3 e4 e5)
      | (go_at_call 12
         have hcc := cut_cell w2 (.int .u8 (((⟨#[43, 45, 42, 47]⟩ : ByteArray)[2]).toNat : Int))
         have hal := (hb0.alloc hb0.size (.cells #[.int .u8 (((⟨#[43, 45, 42, 47]⟩ : ByteArray)[2]).toNat : Int)] 5)).drew
         refine (HP.out _ hal).mono ?_
         rintro e w3 ⟨rfl, hb3⟩
         have hcv3 := cut_conv w3 w2.heap.size ((⟨#[43, 45, 42, 47]⟩ : ByteArray)[2]) ((hb3.cell (p := ⟨w2.heap.size, 0, none⟩) (by simp)).trans hcc)
         replace hb0 := hal.trans (hb3.mono hal.size)
         clear hb3 hal hcc e0 e1 e2 e3 e4 e5))
    all_goals
      go_wp2_with fail
      first
        | refine (HPA.out _ hb0).mono ?_
        | (replace hb0 := hb0.alloc hb0.size (.cells #[.int .u8 (((⟨#[43, 45, 42, 47]⟩ : ByteArray)[2]).toNat : Int)] 5); refine (HPA.out _ hb0).mono ?_)
      rintro e w4 ⟨rfl, hb4⟩
      replace hb0 := hb0.trans (hb4.mono hb0.size)
      have k_z := C6.new w4 (.int .i64 0) (.bool false) (.slice none 0 0) (.slice none 0 0) (.string ⟨#[]⟩) (.slice none 0 0)
      have hbz := (Below.refl w4.heap.size w4).alloc (Nat.le_refl _) (.cells #[.int .i64 0, .bool false, .slice none 0 0, .slice none 0 0, .string ⟨#[]⟩, .slice none 0 0] 27)
      clear hb4
      obtain ⟨z0, z1, z2, z3, z4, z5⟩ := k_z.facts
      go_wp2_with fail
      refine (Same_bad _).mono ?_
      rintro e w5 ⟨rfl, hb5⟩
      replace hb0 := (hb0.trans (hbz.mono hb0.size)).trans (hb5.mono (hb0.trans (hbz.mono hb0.size)).size)
      clear hb5 hbz z0 z1 z2 z3 z4 z5 k_z
      have HB := Lib.hid hb0
      go_wp2_with fail
      refine (known5_any _ (HT.out.below hb0) (HM.out.below hb0)).mono ?_
      rintro e w6 ⟨rfl, hb6⟩
      go_wp2
      go_ret
      exact ⟨rfl, HB.out.trans (hb6.mono HB.out.size)⟩
set_option maxRecDepth 100000 in
set_option maxHeartbeats 12800000 in
theorem ExprCut_m3 (v : Ev) (k : Nat) (i : Int) (t : Ex) (w : World) (hr : Raw w k v) (hm : t.may 32 256) (hw : t.wf) (hs : t.szd) (hg : Tg w t v) (hi : bits BinOp.and IntKind.i64 i 3 = 3) (hT0 : Tb w) (hM0 : Mx w) : Calls Tryz.prog 5 #[.agg #[.int .i64 v.k, .bool v.r.s, .slice v.r.A v.r.n v.r.c, .slice v.r.B v.r.m v.r.d, .string v.s, .slice v.K v.n v.c], .int .i64 i] w fun e w' => e = .returned (.bool true) ∧ Below w.heap.size w w' := by
  have k_e := C6.new w (.int .i64 v.k) (.bool v.r.s) (.slice v.r.A v.r.n v.r.c) (.slice v.r.B v.r.m v.r.d) (.string v.s) (.slice v.K v.n v.c)
  have hb0 := (Below.refl w.heap.size w).alloc (Nat.le_refl _) (.cells #[.int .i64 v.k, .bool v.r.s, .slice v.r.A v.r.n v.r.c, .slice v.r.B v.r.m v.r.d, .string v.s, .slice v.K v.n v.c] 27)
  have HC := Lib.hid (weight_c k v _ w 300 hr hb0 (by omega) (by omega))
  have HI : Hid (∀ w', Below w.heap.size w w' → Calls Tryz.prog 7 #[.agg #[.int .i64 v.k, .bool v.r.s, .slice v.r.A v.r.n v.r.c, .slice v.r.B v.r.m v.r.d, .string v.s, .slice v.K v.n v.c]] w' fun e w'' => e = .returned (.bool true) ∧ Below w'.heap.size w' w'') := fun w' hb => IsT_c hm hw hs hg hb
  have HP : Hid (∀ w', Below w.heap.size w w' → Calls Tryz.prog 12 #[.agg #[.int .i64 v.k, .bool v.r.s, .slice v.r.A v.r.n v.r.c, .slice v.r.B v.r.m v.r.d, .string v.s, .slice v.K v.n v.c]] w' fun e w'' => e = .returned (.string (tx t.pr)) ∧ Below w'.heap.size w' w'') := fun w' hb => PrintT_c hm hw hs hg hb
  have hsz : (tx t.pr).size ≤ 100000 - 2 := by
    have h1 := pr_len2 t hm.1
    have h2 := hm.2.2
    rw [tx_size]; omega
  have HF : Hid (fin (tx t.pr ++ (⟨#[32]⟩ : ByteArray) ++ (⟨#[47]⟩ : ByteArray)) = .err (tx t.pr ++ (⟨#[32]⟩ : ByteArray) ++ (⟨#[47]⟩ : ByteArray)).size 2) := by
    refine cut_fin (c := 47) hm hw (by decide) ?_
    rw [app_list (app_list (tx_list _) (m := [32]) rfl) (m := [47]) rfl]; simp
  generalize tx t.pr = T at *
  have HPA : Hid (∀ w', Below w.heap.size w w' → Calls Tryz.prog 8 #[.string (T ++ (⟨#[32]⟩ : ByteArray) ++ (⟨#[47]⟩ : ByteArray))] w' (FP w' (.err (T ++ (⟨#[32]⟩ : ByteArray) ++ (⟨#[47]⟩ : ByteArray)).size 2))) := fun w' hb => by
    have h := eParse_c (T ++ (⟨#[32]⟩ : ByteArray) ++ (⟨#[47]⟩ : ByteArray)) w' (by simp only [ByteArray.size_append]; show T.size + 1 + 1 ≤ _; omega) (hM0.below hb) (hT0.below hb)
    rw [HF.out] at h
    exact h
  have HT := Lib.hid hT0
  have HM := Lib.hid hM0
  have g1 : ¬ (9223372036854775807 < T.size + 1) := by omega
  have g2 : ¬ (T.size + 1 > 9223372036854775807) := by omega
  have g3 : ¬ (9223372036854775807 < T.size + 1 + 1) := by omega
  have g4 : ¬ (T.size + 1 + 1 > 9223372036854775807) := by omega
  have hcv : ∀ (W : World), (Go.convert 39 9 (.slice (some ⟨W.heap.size, 0, none⟩) 1 1)).run Tryz.prog (W.alloc (.cells #[.int .u8 (((⟨#[43, 45, 42, 47]⟩ : ByteArray)[3]).toNat : Int)] 5)) = .ok (.string ⟨#[47]⟩) (W.alloc (.cells #[.int .u8 (((⟨#[43, 45, 42, 47]⟩ : ByteArray)[3]).toNat : Int)] 5)) := fun W => cut_conv _ _ ((⟨#[43, 45, 42, 47]⟩ : ByteArray)[3]) (cut_cell W _)
  have hcw : ∀ (W : World), (Go.convert 39 9 (.slice (some ⟨W.heap.size, 0, none⟩) 1 1)).run Tryz.prog (W.alloc (.cells #[.int .u8 (((⟨#[43, 45, 42, 47]⟩ : ByteArray)[3]).toNat : Int)] 5)).drew = .ok (.string ⟨#[47]⟩) (W.alloc (.cells #[.int .u8 (((⟨#[43, 45, 42, 47]⟩ : ByteArray)[3]).toNat : Int)] 5)).drew := fun W => cut_conv _ _ ((⟨#[43, 45, 42, 47]⟩ : ByteArray)[3]) (cut_cell W _)
  clear hT0 hM0 hr hg hm hw hs HF
  obtain ⟨e0, e1, e2, e3, e4, e5⟩ := k_e.facts
  go_enter Tryz.func5, Tryz.ntmps5
  go_wp2_with fail
  refine HC.out.mono ?_
  rintro e w1 ⟨R, rfl, _, hb1⟩
  replace k_e := k_e.below hb1
  replace hb0 := hb0.trans (hb1.mono hb0.size)
  clear HC hb1 e0 e1 e2 e3 e4 e5
  obtain ⟨e0, e1, e2, e3, e4, e5⟩ := k_e.facts
  by_cases hR : R < 0
  · go_wp2
    go_ret
    exact ⟨rfl, hb0⟩
  · go_wp2_with fail
    refine (HI.out _ hb0).mono ?_
    rintro e w2 ⟨rfl, hb1⟩
    replace k_e := k_e.below hb1
    replace hb0 := hb0.trans (hb1.mono hb0.size)
    clear hb1 e0 e1 e2 e3 e4 e5
    obtain ⟨e0, e1, e2, e3, e4, e5⟩ := k_e.facts
    go_wp2_with fail
    clear hR
    have h0 := k_e.lt
    go_region_with
      (first
      | (go_at_call 12
         refine (HP.out _ hb0).mono ?_
         rintro e w3 ⟨rfl, hb3⟩
         replace hb0 := hb0.trans (hb3.mono hb0.size)
         clear hb3 e0 e1 e2 e3 e4 e5)
      | (go_at_call 12
         refine (HP.out _ hb0.drew).mono ?_
         rintro e w3 ⟨rfl, hb3⟩
         replace hb0 := hb0.drew.trans (hb3.mono hb0.drew.size)
         clear hb3 e0 e1 e2 e3 e4 e5)
      | (go_at_call 12
         have hcc := cut_cell w2 (.int .u8 (((⟨#[43, 45, 42, 47]⟩ : ByteArray)[3]).toNat : Int))
         have hal := (hb0.alloc hb0.size (.cells #[.int .u8 (((⟨#[43, 45, 42, 47]⟩ : ByteArray)[3]).toNat : Int)] 5)).drew
         refine (HP.out _ hal).mono ?_
         rintro e w3 ⟨rfl, hb3⟩
         have hcv3 := cut_conv w3 w2.heap.size ((⟨#[43, 45, 42, 47]⟩ : ByteArray)[3]) ((hb3.cell (p := ⟨w2.heap.size, 0, none⟩) (by simp)).trans hcc)
         replace hb0 := hal.trans (hb3.mono hal.size)
         clear hb3 hal hcc e0 e1 e2 e3 e4 e5))
    all_goals
      go_wp2_with fail
      first
        | refine (HPA.out _ hb0).mono ?_
        | (replace hb0 := hb0.alloc hb0.size (.cells #[.int .u8 (((⟨#[43, 45, 42, 47]⟩ : ByteArray)[3]).toNat : Int)] 5); refine (HPA.out _ hb0).mono ?_)
      rintro e w4 ⟨rfl, hb4⟩
      replace hb0 := hb0.trans (hb4.mono hb0.size)
      have k_z := C6.new w4 (.int .i64 0) (.bool false) (.slice none 0 0) (.slice none 0 0) (.string ⟨#[]⟩) (.slice none 0 0)
      have hbz := (Below.refl w4.heap.size w4).alloc (Nat.le_refl _) (.cells #[.int .i64 0, .bool false, .slice none 0 0, .slice none 0 0, .string ⟨#[]⟩, .slice none 0 0] 27)
      clear hb4
      obtain ⟨z0, z1, z2, z3, z4, z5⟩ := k_z.facts
      go_wp2_with fail
      refine (Same_bad _).mono ?_
      rintro e w5 ⟨rfl, hb5⟩
      replace hb0 := (hb0.trans (hbz.mono hb0.size)).trans (hb5.mono (hb0.trans (hbz.mono hb0.size)).size)
      clear hb5 hbz z0 z1 z2 z3 z4 z5 k_z
      have HB := Lib.hid hb0
      go_wp2_with fail
      refine (known5_any _ (HT.out.below hb0) (HM.out.below hb0)).mono ?_
      rintro e w6 ⟨rfl, hb6⟩
      go_wp2
      go_ret
      exact ⟨rfl, HB.out.trans (hb6.mono HB.out.size)⟩
theorem ExprCut_all (v : Ev) (k : Nat) (i : Int) (w : World) (hr : Raw w k v) (hT : Tb w) (hM : Mx w) : Calls Tryz.prog 5 #[.agg #[.int .i64 v.k, .bool v.r.s, .slice v.r.A v.r.n v.r.c, .slice v.r.B v.r.m v.r.d, .string v.s, .slice v.K v.n v.c], .int .i64 i] w fun e w' => e = .returned (.bool true) ∧ Below w.heap.size w w' := by
  by_cases h : ∃ L, Light w k v L ∧ L ≤ 300
  · obtain ⟨L, hl, hL⟩ := h
    by_cases h2 : ∃ t : Ex, t.may 32 256 ∧ t.wf ∧ t.szd ∧ Tg w t v
    · obtain ⟨t, hm, hw, hs, hg⟩ := h2
      rcases bits_three i with h | h | h | h
      · exact ExprCut_m0 v k i t w hr hm hw hs hg h hT hM
      · exact ExprCut_m1 v k i t w hr hm hw hs hg h hT hM
      · exact ExprCut_m2 v k i t w hr hm hw hs hg h hT hM
      · exact ExprCut_m3 v k i t w hr hm hw hs hg h hT hM
    · exact ExprCut_none v k L i w hr hl hL h2
  · exact ExprCut_heavy v k i w hr h
end Go.Proofs.YtcmkgoikmleanaaGreatDoor
