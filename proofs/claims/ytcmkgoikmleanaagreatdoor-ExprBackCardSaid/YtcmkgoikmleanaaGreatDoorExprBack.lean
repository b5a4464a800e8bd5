/-
  ExprBack: the walk of the law.
-/
import Derived.Test.YtcmkgoikmleanaaGreatDoorTgQ
import Derived.Test.YtcmkgoikmleanaaGreatDoorTgS
namespace Go.Proofs.YtcmkgoikmleanaaGreatDoor
set_option maxRecDepth 20000
open Go.RowKit

set_option maxHeartbeats 3200000 in
theorem ExprBack_heavy (v : Ev) (k : Nat) (w : World) (hr : Raw w k v) (hno : ¬ ∃ L, Light w k v L ∧ L ≤ 600) : Calls Tryz.prog 3 #[.agg #[.int .i64 v.k, .bool v.r.s, .slice v.r.A v.r.n v.r.c, .slice v.r.B v.r.m v.r.d, .string v.s, .slice v.K v.n v.c]] w fun e w' => e = .returned (.bool true) ∧ Below w.heap.size w w' := by
  have k_e := C6.new w (.int .i64 v.k) (.bool v.r.s) (.slice v.r.A v.r.n v.r.c) (.slice v.r.B v.r.m v.r.d) (.string v.s) (.slice v.K v.n v.c)
  have hb0 := (Below.refl w.heap.size w).alloc (Nat.le_refl _) (.cells #[.int .i64 v.k, .bool v.r.s, .slice v.r.A v.r.n v.r.c, .slice v.r.B v.r.m v.r.d, .string v.s, .slice v.K v.n v.c] 27)
  have HC := Lib.hid (weight_c k v _ w 600 hr hb0 (by omega) (by omega))
  have HNO := Lib.hid hno
  clear hno
  obtain ⟨e0, e1, e2, e3, e4, e5⟩ := k_e.facts
  go_enter Tryz.func3, Tryz.ntmps3
  go_wp2_with fail
  refine HC.out.mono ?_
  rintro e w1 ⟨R, rfl, hL, hb1⟩
  have hR : R < 0 := by
    rcases hL.2 with h | ⟨L, h1, h2, h3⟩
    · exact h
    · exact absurd ⟨L, h1, by omega⟩ HNO.out
  replace hb0 := hb0.trans (hb1.mono hb0.size)
  clear hL HC hb1 e0 e1 e2 e3 e4 e5
  go_wp2
  go_ret
  exact ⟨rfl, hb0⟩
set_option maxHeartbeats 3200000 in
theorem ExprBack_none (v : Ev) (k L : Nat) (w : World) (hr : Raw w k v) (hl : Light w k v L) (hL : L ≤ 600) (hno : ¬ ∃ t : Ex, t.may 32 256 ∧ t.wf ∧ t.szd ∧ Tg w t v) : Calls Tryz.prog 3 #[.agg #[.int .i64 v.k, .bool v.r.s, .slice v.r.A v.r.n v.r.c, .slice v.r.B v.r.m v.r.d, .string v.s, .slice v.K v.n v.c]] w fun e w' => e = .returned (.bool true) ∧ Below w.heap.size w w' := by
  have k_e := C6.new w (.int .i64 v.k) (.bool v.r.s) (.slice v.r.A v.r.n v.r.c) (.slice v.r.B v.r.m v.r.d) (.string v.s) (.slice v.K v.n v.c)
  have hb0 := (Below.refl w.heap.size w).alloc (Nat.le_refl _) (.cells #[.int .i64 v.k, .bool v.r.s, .slice v.r.A v.r.n v.r.c, .slice v.r.B v.r.m v.r.d, .string v.s, .slice v.K v.n v.c] 27)
  have HC := Lib.hid (weight_c k v _ w 600 hr hb0 (by omega) (by omega))
  have HI : Hid (∀ w', Below w.heap.size w w' → Calls Tryz.prog 7 #[.agg #[.int .i64 v.k, .bool v.r.s, .slice v.r.A v.r.n v.r.c, .slice v.r.B v.r.m v.r.d, .string v.s, .slice v.K v.n v.c]] w' fun e w'' => e = .returned (.bool false) ∧ Below w'.heap.size w' w'') := fun w' hb => IsF_c hr hl (by omega) hb hno
  clear hno
  obtain ⟨e0, e1, e2, e3, e4, e5⟩ := k_e.facts
  go_enter Tryz.func3, Tryz.ntmps3
  go_wp2_with fail
  refine HC.out.mono ?_
  rintro e w1 ⟨R, rfl, _, hb1⟩
  replace k_e := k_e.below hb1
  replace hb0 := hb0.trans (hb1.mono hb0.size)
  clear HC hb1 e0 e1 e2 e3 e4 e5
  obtain ⟨e0, e1, e2, e3, e4, e5⟩ := k_e.facts
  by_cases hR : R < 0
  · go_wp2
    go_ret
    exact ⟨rfl, hb0⟩
  · go_wp2_with fail
    refine (HI.out _ hb0).mono ?_
    rintro e w2 ⟨rfl, hb1⟩
    replace hb0 := hb0.trans (hb1.mono hb0.size)
    clear hb1 e0 e1 e2 e3 e4 e5
    go_wp2
    go_ret
    exact ⟨rfl, hb0⟩
set_option maxRecDepth 100000 in
set_option maxHeartbeats 12800000 in
theorem ExprBack_tree (v : Ev) (k : Nat) (t : Ex) (w : World) (hr : Raw w k v) (hm : t.may 32 256) (hw : t.wf) (hs : t.szd) (hg : Tg w t v) (hT0 : Tb w) (hM0 : Mx w) : Calls Tryz.prog 3 #[.agg #[.int .i64 v.k, .bool v.r.s, .slice v.r.A v.r.n v.r.c, .slice v.r.B v.r.m v.r.d, .string v.s, .slice v.K v.n v.c]] w fun e w' => e = .returned (.bool true) ∧ Below w.heap.size w w' := by
  have k_e := C6.new w (.int .i64 v.k) (.bool v.r.s) (.slice v.r.A v.r.n v.r.c) (.slice v.r.B v.r.m v.r.d) (.string v.s) (.slice v.K v.n v.c)
  have hb0 := (Below.refl w.heap.size w).alloc (Nat.le_refl _) (.cells #[.int .i64 v.k, .bool v.r.s, .slice v.r.A v.r.n v.r.c, .slice v.r.B v.r.m v.r.d, .string v.s, .slice v.K v.n v.c] 27)
  have HC := Lib.hid (weight_c k v _ w 600 hr hb0 (by omega) (by omega))
  have HI : Hid (∀ w', Below w.heap.size w w' → Calls Tryz.prog 7 #[.agg #[.int .i64 v.k, .bool v.r.s, .slice v.r.A v.r.n v.r.c, .slice v.r.B v.r.m v.r.d, .string v.s, .slice v.K v.n v.c]] w' fun e w'' => e = .returned (.bool true) ∧ Below w'.heap.size w' w'') := fun w' hb => IsT_c hm hw hs hg hb
  have HP : Hid (∀ w', Below w.heap.size w w' → Calls Tryz.prog 9 #[.agg #[.int .i64 v.k, .bool v.r.s, .slice v.r.A v.r.n v.r.c, .slice v.r.B v.r.m v.r.d, .string v.s, .slice v.K v.n v.c]] w' fun e w'' => e = .returned (.string ⟨t.pr.toArray⟩) ∧ Below w'.heap.size w' w'') := fun w' hb => gPrint_c hm hw (Tg.below hb t v hg) (hT0.below hb)
  have HFIT := Lib.hid (pr_fits hm)
  have HPP : Hid (fin ⟨t.pr.toArray⟩ = .ok t) := parse_pr hm hw rfl
  have HMAY := Lib.hid hm
  have HG := Lib.hid hg
  have HT := Lib.hid hT0
  have HM := Lib.hid hM0
  obtain ⟨T, hTd⟩ : ∃ T : ByteArray, Hid (T = ⟨t.pr.toArray⟩) := ⟨_, rfl⟩
  rw [← hTd.out] at HP HPP HFIT
  clear hTd hT0 hM0 hr hg hm hw hs
  obtain ⟨e0, e1, e2, e3, e4, e5⟩ := k_e.facts
  go_enter Tryz.func3, Tryz.ntmps3
  go_wp2_with fail
  refine HC.out.mono ?_
  rintro e w1 ⟨R, rfl, _, hb1⟩
  replace k_e := k_e.below hb1
  replace hb0 := hb0.trans (hb1.mono hb0.size)
  clear HC hb1 e0 e1 e2 e3 e4 e5
  obtain ⟨e0, e1, e2, e3, e4, e5⟩ := k_e.facts
  by_cases hR : R < 0
  · go_wp2
    go_ret
    exact ⟨rfl, hb0⟩
  · go_wp2_with fail
    refine (HI.out _ hb0).mono ?_
    rintro e w2 ⟨rfl, hb1⟩
    replace k_e := k_e.below hb1
    replace hb0 := hb0.trans (hb1.mono hb0.size)
    clear hb1 e0 e1 e2 e3 e4 e5
    obtain ⟨e0, e1, e2, e3, e4, e5⟩ := k_e.facts
    go_wp2_with fail
    refine (HP.out _ hb0).mono ?_
    rintro e w3 ⟨rfl, hb1⟩
    replace k_e := k_e.below hb1
    replace hb0 := hb0.trans (hb1.mono hb0.size)
    clear hb1 hR e0 e1 e2 e3 e4 e5
    have HC := eParse_c T w3 HFIT.out (HM.out.below hb0) (HT.out.below hb0)
    rw [HPP.out] at HC
    have HCC := Lib.hid HC
    clear HC
    go_wp2_with fail
    refine HCC.out.mono ?_
    rintro e w4 ⟨u, rfl, hu, hb1⟩
    have hgu := tg_of_tw t u HMAY.out.1 hu
    replace k_e := (k_e.below hb1).alloc (.cells #[.int .i64 u.k, .bool u.r.s, .slice u.r.A u.r.n u.r.c, .slice u.r.B u.r.m u.r.d, .string u.s, .slice u.K u.n u.c] 27)
    replace hb0 := hb0.trans (hb1.mono hb0.size)
    have k_2 := C6.new w4 (.int .i64 u.k) (.bool u.r.s) (.slice u.r.A u.r.n u.r.c) (.slice u.r.B u.r.m u.r.d) (.string u.s) (.slice u.K u.n u.c)
    have hal := (Below.refl w4.heap.size w4).alloc (Nat.le_refl _) (.cells #[.int .i64 u.k, .bool u.r.s, .slice u.r.A u.r.n u.r.c, .slice u.r.B u.r.m u.r.d, .string u.s, .slice u.K u.n u.c] 27)
    replace hgu := Tg.below hal t u hgu
    replace hb0 := hb0.trans (hal.mono hb0.size)
    clear hb1 HCC hu hal
    obtain ⟨e0, e1, e2, e3, e4, e5⟩ := k_e.facts
    obtain ⟨d0, d1, d2, d3, d4, d5⟩ := k_2.facts
    go_wp2_with fail
    refine (gSame_c t v u _ HMAY.out.1 (Tg.below hb0 t v HG.out) hgu).mono ?_
    rintro e w5 ⟨rfl, hb1⟩
    replace hb0 := hb0.trans (hb1.mono hb0.size)
    clear hb1 e0 e1 e2 e3 e4 e5 d0 d1 d2 d3 d4 d5 k_e k_2 hgu
    have HB := Lib.hid hb0
    go_wp2_with fail
    refine (known5_any _ (HT.out.below hb0) (HM.out.below hb0)).mono ?_
    rintro e w6 ⟨rfl, hb5⟩
    go_wp2
    go_ret
    exact ⟨rfl, HB.out.trans (hb5.mono HB.out.size)⟩
theorem ExprBack_all (v : Ev) (k : Nat) (w : World) (hr : Raw w k v) (hT : Tb w) (hM : Mx w) : Calls Tryz.prog 3 #[.agg #[.int .i64 v.k, .bool v.r.s, .slice v.r.A v.r.n v.r.c, .slice v.r.B v.r.m v.r.d, .string v.s, .slice v.K v.n v.c]] w fun e w' => e = .returned (.bool true) ∧ Below w.heap.size w w' := by
  by_cases h : ∃ L, Light w k v L ∧ L ≤ 600
  · obtain ⟨L, hl, hL⟩ := h
    by_cases h2 : ∃ t : Ex, t.may 32 256 ∧ t.wf ∧ t.szd ∧ Tg w t v
    · obtain ⟨t, hm, hw, hs, hg⟩ := h2
      exact ExprBack_tree v k t w hr hm hw hs hg hT hM
    · exact ExprBack_none v k L w hr hl hL h2
  · exact ExprBack_heavy v k w hr h
end Go.Proofs.YtcmkgoikmleanaaGreatDoor
