/-
  The document's text of an expression that came in.
-/
import Derived.Test.YtcmkgoikmleanaaGreatDoorTg
import Derived.Test.YtcmkgoikmleanaaGreatDoorExprSettles
import Derived.Test.YtcmkgoikmleanaaGreatDoorExprDeep0
import Derived.Deep.RegionHeld3
namespace Go.Proofs.YtcmkgoikmleanaaGreatDoor
set_option maxRecDepth 20000
open Go.RowKit

theorem rrow1 (w : World) : Calls Tryz.prog 41 #[.int .i64 1] w fun e w' => e = .returned (.int .i64 4) ∧ w = w' := by
  go_enter Tryz.func41, Tryz.ntmps41
  go_wp2
  go_ret
  exact ⟨rfl, rfl⟩
theorem rrow2 (w : World) : Calls Tryz.prog 41 #[.int .i64 2] w fun e w' => e = .returned (.int .i64 4) ∧ w = w' := by
  go_enter Tryz.func41, Tryz.ntmps41
  go_wp2
  go_ret
  exact ⟨rfl, rfl⟩
theorem rrow3 (w : World) : Calls Tryz.prog 41 #[.int .i64 3] w fun e w' => e = .returned (.int .i64 1) ∧ w = w' := by
  go_enter Tryz.func41, Tryz.ntmps41
  go_wp2
  go_ret
  exact ⟨rfl, rfl⟩
theorem rrow4 (w : World) : Calls Tryz.prog 41 #[.int .i64 4] w fun e w' => e = .returned (.int .i64 1) ∧ w = w' := by
  go_enter Tryz.func41, Tryz.ntmps41
  go_wp2
  go_ret
  exact ⟨rfl, rfl⟩
theorem rrow5 (w : World) : Calls Tryz.prog 41 #[.int .i64 5] w fun e w' => e = .returned (.int .i64 2) ∧ w = w' := by
  go_enter Tryz.func41, Tryz.ntmps41
  go_wp2
  go_ret
  exact ⟨rfl, rfl⟩
theorem rrow6 (w : World) : Calls Tryz.prog 41 #[.int .i64 6] w fun e w' => e = .returned (.int .i64 2) ∧ w = w' := by
  go_enter Tryz.func41, Tryz.ntmps41
  go_wp2
  go_ret
  exact ⟨rfl, rfl⟩
theorem rrow7 (w : World) : Calls Tryz.prog 41 #[.int .i64 7] w fun e w' => e = .returned (.int .i64 3) ∧ w = w' := by
  go_enter Tryz.func41, Tryz.ntmps41
  go_wp2
  go_ret
  exact ⟨rfl, rfl⟩
set_option maxHeartbeats 1600000 in
theorem text_num (y : Rv) (K : Option Addr) (n c asks : Nat) (r : Rat) (w : World) (T : ByteArray) (hy : Rt w 0 y r) (hN : NumOk r) (hT : T.data.toList = dxt r) (ha : asks ≤ 3) :
    Calls Tryz.prog 23 #[.agg #[.int .i64 1, .bool y.s, .slice y.A y.n y.c, .slice y.B y.m y.d, .string ⟨#[]⟩, .slice K n c], .int .i64 asks] w fun e w' => e = .returned (.string T) ∧ Below w.heap.size w w' := by
  obtain ⟨F, hE, hF⟩ := dxt_of hN
  have hFT : F = T := ba_ext (by rw [hF, hT])
  subst hFT
  have sz : Sz r 75 := ⟨(show Bd r.num.natAbs 16 from Bd.ofL hN.1).more (by omega), (show Bd r.den 16 from Bd.ofL hN.2.1).more (by omega)⟩
  have HE := Lib.hid hE
  have k_e := C6.new w (.int .i64 1) (.bool y.s) (.slice y.A y.n y.c) (.slice y.B y.m y.d) (.string ⟨#[]⟩) (.slice K n c)
  have hb0 := (Below.refl w.heap.size w).alloc (Nat.le_refl _) (.cells #[.int .i64 1, .bool y.s, .slice y.A y.n y.c, .slice y.B y.m y.d, .string ⟨#[]⟩, .slice K n c] 27)
  replace hy := hy.below hb0
  clear hE hF hT hN
  obtain ⟨e0, e1, e2, e3, e4, e5⟩ := k_e.facts
  go_enter Tryz.func23, Tryz.ntmps23
  go_wp2_with fail
  refine (rExact50_v F true y r _ HE.out (hy.rw sz)).mono ?_
  rintro e w2 ⟨rfl, hb2⟩
  replace k_e := k_e.below hb2
  replace hb0 := hb0.trans (hb2.mono hb0.size)
  clear hb2 e0 e1 e2 e3 e4 e5 hy sz
  obtain ⟨e0, e1, e2, e3, e4, e5⟩ := k_e.facts
  go_wp2_with fail
  refine (rrow1 _).mono ?_
  rintro e w9 ⟨rfl, rfl⟩
  have r1 : ¬ (4 : Int) < (asks : Int) := by omega
  go_wp2
  go_ret
  exact ⟨rfl, hb0⟩
set_option maxHeartbeats 1600000 in
theorem text_nm (y : Rv) (st : ByteArray) (K : Option Addr) (n c asks : Nat) (w : World) (ha : asks ≤ 3) :
    Calls Tryz.prog 23 #[.agg #[.int .i64 2, .bool y.s, .slice y.A y.n y.c, .slice y.B y.m y.d, .string st, .slice K n c], .int .i64 asks] w fun e w' => e = .returned (.string st) ∧ Below w.heap.size w w' := by
  have k_e := C6.new w (.int .i64 2) (.bool y.s) (.slice y.A y.n y.c) (.slice y.B y.m y.d) (.string st) (.slice K n c)
  have hb0 := (Below.refl w.heap.size w).alloc (Nat.le_refl _) (.cells #[.int .i64 2, .bool y.s, .slice y.A y.n y.c, .slice y.B y.m y.d, .string st, .slice K n c] 27)
  obtain ⟨e0, e1, e2, e3, e4, e5⟩ := k_e.facts
  go_enter Tryz.func23, Tryz.ntmps23
  go_wp2_with fail
  refine (rrow2 _).mono ?_
  rintro e w9 ⟨rfl, rfl⟩
  have r1 : ¬ (4 : Int) < (asks : Int) := by omega
  go_wp2
  go_ret
  exact ⟨rfl, hb0⟩
set_option maxHeartbeats 3200000 in
theorem text_neg (y : Rv) (b0 off c asks : Nat) (x : Ev) (T : ByteArray) (w w0 : World) (hbw : Below w0.heap.size w0 w) (hb : b0 < w0.heap.size) (hx : At6 w0 b0 off x) (ha : asks ≤ 3) (hs : T.size ≤ 1000000)
    (HC : Hid (∀ w', Below w0.heap.size w0 w' → Calls Tryz.prog 23 #[.agg #[.int .i64 x.k, .bool x.r.s, .slice x.r.A x.r.n x.r.c, .slice x.r.B x.r.m x.r.d, .string x.s, .slice x.K x.n x.c], .int .i64 3] w' fun e w'' => e = .returned (.string T) ∧ Below w'.heap.size w' w'')) :
    Calls Tryz.prog 23 #[.agg #[.int .i64 7, .bool y.s, .slice y.A y.n y.c, .slice y.B y.m y.d, .string ⟨#[]⟩, .slice (some ⟨b0, off, none⟩) 1 c], .int .i64 asks] w fun e w' => e = .returned (.string ((⟨#[45]⟩ : ByteArray) ++ T)) ∧ Below w.heap.size w w' := by
  have k_e := C6.new w (.int .i64 7) (.bool y.s) (.slice y.A y.n y.c) (.slice y.B y.m y.d) (.string ⟨#[]⟩) (.slice (some ⟨b0, off, none⟩) 1 c)
  have hb0 := (Below.refl w.heap.size w).alloc (Nat.le_refl _) (.cells #[.int .i64 7, .bool y.s, .slice y.A y.n y.c, .slice y.B y.m y.d, .string ⟨#[]⟩, .slice (some ⟨b0, off, none⟩) 1 c] 27)
  have hB := hbw.trans (hb0.mono hbw.size)
  obtain ⟨x0, x1, x2, x3, x4, x5⟩ := hx.keep (hB.block b0 hb)
  obtain ⟨e0, e1, e2, e3, e4, e5⟩ := k_e.facts
  have g1 : ¬ (9223372036854775807 < 1 + T.size) := by omega
  have g2 : ¬ (1 + T.size > 9223372036854775807) := by omega
  have HB := Lib.hid hB
  clear hx hB
  go_enter Tryz.func23, Tryz.ntmps23
  go_wp2_with fail
  refine (HC.out _ HB.out).mono ?_
  rintro e w2 ⟨rfl, hb2⟩
  replace k_e := k_e.below hb2
  replace hb0 := hb0.trans (hb2.mono hb0.size)
  clear hb2 e0 e1 e2 e3 e4 e5 x0 x1 x2 x3 x4 x5 HB
  obtain ⟨e0, e1, e2, e3, e4, e5⟩ := k_e.facts
  go_wp2_with fail
  refine (rrow7 _).mono ?_
  rintro e w9 ⟨rfl, rfl⟩
  have r1 : ¬ (3 : Int) < (asks : Int) := by omega
  go_wp2
  go_ret
  exact ⟨rfl, hb0⟩
set_option maxRecDepth 100000 in
set_option maxHeartbeats 12800000 in
theorem text_bin3 (y : Rv) (b0 off c asks : Nat) (x z : Ev) (TA TB RES : ByteArray) (w w0 : World) (hbw : Below w0.heap.size w0 w) (hb : b0 < w0.heap.size) (hx : At6 w0 b0 off x) (hz : At6 w0 b0 (off + 6) z) (ha : asks ≤ 3) (hsa : TA.size ≤ 1000000) (hsb : TB.size ≤ 1000000)
    (HCA : Hid (∀ w', Below w0.heap.size w0 w' → Calls Tryz.prog 23 #[.agg #[.int .i64 x.k, .bool x.r.s, .slice x.r.A x.r.n x.r.c, .slice x.r.B x.r.m x.r.d, .string x.s, .slice x.K x.n x.c], .int .i64 1] w' fun e w'' => e = .returned (.string TA) ∧ Below w'.heap.size w' w''))
    (HCB : Hid (∀ w', Below w0.heap.size w0 w' → Calls Tryz.prog 23 #[.agg #[.int .i64 z.k, .bool z.r.s, .slice z.r.A z.r.n z.r.c, .slice z.r.B z.r.m z.r.d, .string z.s, .slice z.K z.n z.c], .int .i64 2] w' fun e w'' => e = .returned (.string TB) ∧ Below w'.heap.size w' w''))
    (HRES0 : RES = if 1 < asks then (⟨#[40]⟩ : ByteArray) ++ (TA ++ (⟨#[32, 43, 32]⟩ : ByteArray) ++ TB) ++ (⟨#[41]⟩ : ByteArray) else TA ++ (⟨#[32, 43, 32]⟩ : ByteArray) ++ TB) :
    Calls Tryz.prog 23 #[.agg #[.int .i64 3, .bool y.s, .slice y.A y.n y.c, .slice y.B y.m y.d, .string ⟨#[]⟩, .slice (some ⟨b0, off, none⟩) 2 c], .int .i64 asks] w fun e w' => e = .returned (.string RES) ∧ Below w.heap.size w w' := by
  have k_e := C6.new w (.int .i64 3) (.bool y.s) (.slice y.A y.n y.c) (.slice y.B y.m y.d) (.string ⟨#[]⟩) (.slice (some ⟨b0, off, none⟩) 2 c)
  have hb0 := (Below.refl w.heap.size w).alloc (Nat.le_refl _) (.cells #[.int .i64 3, .bool y.s, .slice y.A y.n y.c, .slice y.B y.m y.d, .string ⟨#[]⟩, .slice (some ⟨b0, off, none⟩) 2 c] 27)
  have s3 : (TA ++ (⟨#[32, 43, 32]⟩ : ByteArray)).size = TA.size + 3 := by rw [ByteArray.size_append]; rfl
  have sS : (TA ++ (⟨#[32, 43, 32]⟩ : ByteArray) ++ TB).size ≤ 2000003 := by rw [ByteArray.size_append, s3]; omega
  have g1 : ¬ (9223372036854775807 < TA.size + 3) := by omega
  have g2 : ¬ (TA.size + 3 > 9223372036854775807) := by omega
  have g3 : ¬ (9223372036854775807 < TA.size + 3 + TB.size) := by omega
  have g4 : ¬ (TA.size + 3 + TB.size > 9223372036854775807) := by omega
  have g5 : ¬ (9223372036854775807 < (TA ++ (⟨#[32, 43, 32]⟩ : ByteArray)).size + TB.size) := by omega
  have g6 : ¬ ((TA ++ (⟨#[32, 43, 32]⟩ : ByteArray)).size + TB.size > 9223372036854775807) := by omega
  have HRES := Lib.hid HRES0
  have S3 := Lib.hid s3
  clear HRES0 s3
  go_enter Tryz.func23, Tryz.ntmps23
  go_upto_region 10 with fail
  generalize w.alloc (.cells #[.int .i64 3, .bool y.s, .slice y.A y.n y.c, .slice y.B y.m y.d, .string ⟨#[]⟩, .slice (some ⟨b0, off, none⟩) 2 c] 27) = w1 at *
  replace k_e := k_e.drew
  replace hb0 := hb0.drew
  obtain ⟨x0, x1, x2, x3, x4, x5⟩ := hx.keep ((hbw.trans (hb0.mono hbw.size)).block b0 hb)
  obtain ⟨z0, z1, z2, z3, z4, z5⟩ := hz.keep ((hbw.trans (hb0.mono hbw.size)).block b0 hb)
  obtain ⟨e0, e1, e2, e3, e4, e5⟩ := k_e.facts
  have mk0 : Hid True := trivial
  go_region_held3 (fun w' => w'.cell? ⟨w.heap.size, 5, none⟩ = some (.slice (some ⟨b0, off, none⟩) 2 c) ∧ w'.cell? ⟨b0, off, none⟩ = some (.int .i64 x.k) ∧ w'.cell? ⟨b0, off + 1, none⟩ = some (.bool x.r.s) ∧ w'.cell? ⟨b0, off + 2, none⟩ = some (.slice x.r.A x.r.n x.r.c) ∧ w'.cell? ⟨b0, off + 3, none⟩ = some (.slice x.r.B x.r.m x.r.d) ∧ w'.cell? ⟨b0, off + 4, none⟩ = some (.string x.s) ∧ w'.cell? ⟨b0, off + 5, none⟩ = some (.slice x.K x.n x.c) ∧ w'.cell? ⟨b0, off + 6, none⟩ = some (.int .i64 z.k) ∧ w'.cell? ⟨b0, off + 6 + 1, none⟩ = some (.bool z.r.s) ∧ w'.cell? ⟨b0, off + 6 + 2, none⟩ = some (.slice z.r.A z.r.n z.r.c) ∧ w'.cell? ⟨b0, off + 6 + 3, none⟩ = some (.slice z.r.B z.r.m z.r.d) ∧ w'.cell? ⟨b0, off + 6 + 4, none⟩ = some (.string z.s) ∧ w'.cell? ⟨b0, off + 6 + 5, none⟩ = some (.slice z.K z.n z.c)) (go_keep)
    (first
     | (go_at_call 23
        have mk1 := mk0
        clear mk0
        refine (HCA.out _ (hbw.trans (hb0.mono hbw.size))).mono ?_
        rintro e w2 ⟨rfl, hb2⟩
        replace k_e := k_e.below hb2
        replace hb0 := hb0.trans (hb2.mono hb0.size)
        clear hb2 e0 e1 e2 e3 e4 e5 x0 x1 x2 x3 x4 x5 z0 z1 z2 z3 z4 z5
        obtain ⟨x0, x1, x2, x3, x4, x5⟩ := hx.keep ((hbw.trans (hb0.mono hbw.size)).block b0 hb)
        obtain ⟨z0, z1, z2, z3, z4, z5⟩ := hz.keep ((hbw.trans (hb0.mono hbw.size)).block b0 hb)
        obtain ⟨e0, e1, e2, e3, e4, e5⟩ := k_e.facts)
     | (go_at_call 23
        have mk2 := mk1
        clear mk1
        refine (HCB.out _ (hbw.trans (hb0.mono hbw.size))).mono ?_
        rintro e w2 ⟨rfl, hb2⟩
        replace k_e := k_e.below hb2
        replace hb0 := hb0.trans (hb2.mono hb0.size)
        clear hb2 e0 e1 e2 e3 e4 e5 x0 x1 x2 x3 x4 x5 z0 z1 z2 z3 z4 z5
        obtain ⟨x0, x1, x2, x3, x4, x5⟩ := hx.keep ((hbw.trans (hb0.mono hbw.size)).block b0 hb)
        obtain ⟨z0, z1, z2, z3, z4, z5⟩ := hz.keep ((hbw.trans (hb0.mono hbw.size)).block b0 hb)
        obtain ⟨e0, e1, e2, e3, e4, e5⟩ := k_e.facts))
  all_goals (
    have HB9 := hb0
    clear x0 x1 x2 x3 x4 x5 z0 z1 z2 z3 z4 z5
    go_wp2_with fail
    refine (rrow3 _).mono ?_
    rintro e w9 ⟨rfl, rfl⟩
    by_cases hR : 1 < asks
    · have r1 : (1 : Int) < (asks : Int) := by omega
      rw [if_pos hR] at HRES
      have z1 : ¬ (9223372036854775807 < 1 + (TA ++ (⟨#[32, 43, 32]⟩ : ByteArray) ++ TB).size) := by omega
      have z2 : ¬ (1 + (TA ++ (⟨#[32, 43, 32]⟩ : ByteArray) ++ TB).size > 9223372036854775807) := by omega
      have z3 : ¬ (9223372036854775807 < 1 + (TA ++ (⟨#[32, 43, 32]⟩ : ByteArray) ++ TB).size + 1) := by omega
      have z4 : ¬ (1 + (TA ++ (⟨#[32, 43, 32]⟩ : ByteArray) ++ TB).size + 1 > 9223372036854775807) := by omega
      go_wp2
      go_ret
      exact ⟨(by rw [HRES.out]; rfl), HB9⟩
    · have r1 : ¬ (1 : Int) < (asks : Int) := by omega
      rw [if_neg hR] at HRES
      go_wp2
      go_ret
      exact ⟨(by rw [HRES.out]; rfl), HB9⟩)
set_option maxRecDepth 100000 in
set_option maxHeartbeats 12800000 in
theorem text_bin4 (y : Rv) (b0 off c asks : Nat) (x z : Ev) (TA TB RES : ByteArray) (w w0 : World) (hbw : Below w0.heap.size w0 w) (hb : b0 < w0.heap.size) (hx : At6 w0 b0 off x) (hz : At6 w0 b0 (off + 6) z) (ha : asks ≤ 3) (hsa : TA.size ≤ 1000000) (hsb : TB.size ≤ 1000000)
    (HCA : Hid (∀ w', Below w0.heap.size w0 w' → Calls Tryz.prog 23 #[.agg #[.int .i64 x.k, .bool x.r.s, .slice x.r.A x.r.n x.r.c, .slice x.r.B x.r.m x.r.d, .string x.s, .slice x.K x.n x.c], .int .i64 1] w' fun e w'' => e = .returned (.string TA) ∧ Below w'.heap.size w' w''))
    (HCB : Hid (∀ w', Below w0.heap.size w0 w' → Calls Tryz.prog 23 #[.agg #[.int .i64 z.k, .bool z.r.s, .slice z.r.A z.r.n z.r.c, .slice z.r.B z.r.m z.r.d, .string z.s, .slice z.K z.n z.c], .int .i64 2] w' fun e w'' => e = .returned (.string TB) ∧ Below w'.heap.size w' w''))
    (HRES0 : RES = if 1 < asks then (⟨#[40]⟩ : ByteArray) ++ (TA ++ (⟨#[32, 45, 32]⟩ : ByteArray) ++ TB) ++ (⟨#[41]⟩ : ByteArray) else TA ++ (⟨#[32, 45, 32]⟩ : ByteArray) ++ TB) :
    Calls Tryz.prog 23 #[.agg #[.int .i64 4, .bool y.s, .slice y.A y.n y.c, .slice y.B y.m y.d, .string ⟨#[]⟩, .slice (some ⟨b0, off, none⟩) 2 c], .int .i64 asks] w fun e w' => e = .returned (.string RES) ∧ Below w.heap.size w w' := by
  have k_e := C6.new w (.int .i64 4) (.bool y.s) (.slice y.A y.n y.c) (.slice y.B y.m y.d) (.string ⟨#[]⟩) (.slice (some ⟨b0, off, none⟩) 2 c)
  have hb0 := (Below.refl w.heap.size w).alloc (Nat.le_refl _) (.cells #[.int .i64 4, .bool y.s, .slice y.A y.n y.c, .slice y.B y.m y.d, .string ⟨#[]⟩, .slice (some ⟨b0, off, none⟩) 2 c] 27)
  have s3 : (TA ++ (⟨#[32, 45, 32]⟩ : ByteArray)).size = TA.size + 3 := by rw [ByteArray.size_append]; rfl
  have sS : (TA ++ (⟨#[32, 45, 32]⟩ : ByteArray) ++ TB).size ≤ 2000003 := by rw [ByteArray.size_append, s3]; omega
  have g1 : ¬ (9223372036854775807 < TA.size + 3) := by omega
  have g2 : ¬ (TA.size + 3 > 9223372036854775807) := by omega
  have g3 : ¬ (9223372036854775807 < TA.size + 3 + TB.size) := by omega
  have g4 : ¬ (TA.size + 3 + TB.size > 9223372036854775807) := by omega
  have g5 : ¬ (9223372036854775807 < (TA ++ (⟨#[32, 45, 32]⟩ : ByteArray)).size + TB.size) := by omega
  have g6 : ¬ ((TA ++ (⟨#[32, 45, 32]⟩ : ByteArray)).size + TB.size > 9223372036854775807) := by omega
  have HRES := Lib.hid HRES0
  have S3 := Lib.hid s3
  clear HRES0 s3
  go_enter Tryz.func23, Tryz.ntmps23
  go_upto_region 12 with fail
  generalize w.alloc (.cells #[.int .i64 4, .bool y.s, .slice y.A y.n y.c, .slice y.B y.m y.d, .string ⟨#[]⟩, .slice (some ⟨b0, off, none⟩) 2 c] 27) = w1 at *
  replace k_e := k_e.drew
  replace hb0 := hb0.drew
  obtain ⟨x0, x1, x2, x3, x4, x5⟩ := hx.keep ((hbw.trans (hb0.mono hbw.size)).block b0 hb)
  obtain ⟨z0, z1, z2, z3, z4, z5⟩ := hz.keep ((hbw.trans (hb0.mono hbw.size)).block b0 hb)
  obtain ⟨e0, e1, e2, e3, e4, e5⟩ := k_e.facts
  have mk0 : Hid True := trivial
  go_region_held3 (fun w' => w'.cell? ⟨w.heap.size, 5, none⟩ = some (.slice (some ⟨b0, off, none⟩) 2 c) ∧ w'.cell? ⟨b0, off, none⟩ = some (.int .i64 x.k) ∧ w'.cell? ⟨b0, off + 1, none⟩ = some (.bool x.r.s) ∧ w'.cell? ⟨b0, off + 2, none⟩ = some (.slice x.r.A x.r.n x.r.c) ∧ w'.cell? ⟨b0, off + 3, none⟩ = some (.slice x.r.B x.r.m x.r.d) ∧ w'.cell? ⟨b0, off + 4, none⟩ = some (.string x.s) ∧ w'.cell? ⟨b0, off + 5, none⟩ = some (.slice x.K x.n x.c) ∧ w'.cell? ⟨b0, off + 6, none⟩ = some (.int .i64 z.k) ∧ w'.cell? ⟨b0, off + 6 + 1, none⟩ = some (.bool z.r.s) ∧ w'.cell? ⟨b0, off + 6 + 2, none⟩ = some (.slice z.r.A z.r.n z.r.c) ∧ w'.cell? ⟨b0, off + 6 + 3, none⟩ = some (.slice z.r.B z.r.m z.r.d) ∧ w'.cell? ⟨b0, off + 6 + 4, none⟩ = some (.string z.s) ∧ w'.cell? ⟨b0, off + 6 + 5, none⟩ = some (.slice z.K z.n z.c)) (go_keep)
    (first
     | (go_at_call 23
        have mk1 := mk0
        clear mk0
        refine (HCA.out _ (hbw.trans (hb0.mono hbw.size))).mono ?_
        rintro e w2 ⟨rfl, hb2⟩
        replace k_e := k_e.below hb2
        replace hb0 := hb0.trans (hb2.mono hb0.size)
        clear hb2 e0 e1 e2 e3 e4 e5 x0 x1 x2 x3 x4 x5 z0 z1 z2 z3 z4 z5
        obtain ⟨x0, x1, x2, x3, x4, x5⟩ := hx.keep ((hbw.trans (hb0.mono hbw.size)).block b0 hb)
        obtain ⟨z0, z1, z2, z3, z4, z5⟩ := hz.keep ((hbw.trans (hb0.mono hbw.size)).block b0 hb)
        obtain ⟨e0, e1, e2, e3, e4, e5⟩ := k_e.facts)
     | (go_at_call 23
        have mk2 := mk1
        clear mk1
        refine (HCB.out _ (hbw.trans (hb0.mono hbw.size))).mono ?_
        rintro e w2 ⟨rfl, hb2⟩
        replace k_e := k_e.below hb2
        replace hb0 := hb0.trans (hb2.mono hb0.size)
        clear hb2 e0 e1 e2 e3 e4 e5 x0 x1 x2 x3 x4 x5 z0 z1 z2 z3 z4 z5
        obtain ⟨x0, x1, x2, x3, x4, x5⟩ := hx.keep ((hbw.trans (hb0.mono hbw.size)).block b0 hb)
        obtain ⟨z0, z1, z2, z3, z4, z5⟩ := hz.keep ((hbw.trans (hb0.mono hbw.size)).block b0 hb)
        obtain ⟨e0, e1, e2, e3, e4, e5⟩ := k_e.facts))
  all_goals (
    have HB9 := hb0
    clear x0 x1 x2 x3 x4 x5 z0 z1 z2 z3 z4 z5
    go_wp2_with fail
    refine (rrow4 _).mono ?_
    rintro e w9 ⟨rfl, rfl⟩
    by_cases hR : 1 < asks
    · have r1 : (1 : Int) < (asks : Int) := by omega
      rw [if_pos hR] at HRES
      have z1 : ¬ (9223372036854775807 < 1 + (TA ++ (⟨#[32, 45, 32]⟩ : ByteArray) ++ TB).size) := by omega
      have z2 : ¬ (1 + (TA ++ (⟨#[32, 45, 32]⟩ : ByteArray) ++ TB).size > 9223372036854775807) := by omega
      have z3 : ¬ (9223372036854775807 < 1 + (TA ++ (⟨#[32, 45, 32]⟩ : ByteArray) ++ TB).size + 1) := by omega
      have z4 : ¬ (1 + (TA ++ (⟨#[32, 45, 32]⟩ : ByteArray) ++ TB).size + 1 > 9223372036854775807) := by omega
      go_wp2
      go_ret
      exact ⟨(by rw [HRES.out]; rfl), HB9⟩
    · have r1 : ¬ (1 : Int) < (asks : Int) := by omega
      rw [if_neg hR] at HRES
      go_wp2
      go_ret
      exact ⟨(by rw [HRES.out]; rfl), HB9⟩)
set_option maxRecDepth 100000 in
set_option maxHeartbeats 12800000 in
theorem text_bin5 (y : Rv) (b0 off c asks : Nat) (x z : Ev) (TA TB RES : ByteArray) (w w0 : World) (hbw : Below w0.heap.size w0 w) (hb : b0 < w0.heap.size) (hx : At6 w0 b0 off x) (hz : At6 w0 b0 (off + 6) z) (ha : asks ≤ 3) (hsa : TA.size ≤ 1000000) (hsb : TB.size ≤ 1000000)
    (HCA : Hid (∀ w', Below w0.heap.size w0 w' → Calls Tryz.prog 23 #[.agg #[.int .i64 x.k, .bool x.r.s, .slice x.r.A x.r.n x.r.c, .slice x.r.B x.r.m x.r.d, .string x.s, .slice x.K x.n x.c], .int .i64 2] w' fun e w'' => e = .returned (.string TA) ∧ Below w'.heap.size w' w''))
    (HCB : Hid (∀ w', Below w0.heap.size w0 w' → Calls Tryz.prog 23 #[.agg #[.int .i64 z.k, .bool z.r.s, .slice z.r.A z.r.n z.r.c, .slice z.r.B z.r.m z.r.d, .string z.s, .slice z.K z.n z.c], .int .i64 3] w' fun e w'' => e = .returned (.string TB) ∧ Below w'.heap.size w' w''))
    (HRES0 : RES = if 2 < asks then (⟨#[40]⟩ : ByteArray) ++ (TA ++ (⟨#[32, 42, 32]⟩ : ByteArray) ++ TB) ++ (⟨#[41]⟩ : ByteArray) else TA ++ (⟨#[32, 42, 32]⟩ : ByteArray) ++ TB) :
    Calls Tryz.prog 23 #[.agg #[.int .i64 5, .bool y.s, .slice y.A y.n y.c, .slice y.B y.m y.d, .string ⟨#[]⟩, .slice (some ⟨b0, off, none⟩) 2 c], .int .i64 asks] w fun e w' => e = .returned (.string RES) ∧ Below w.heap.size w w' := by
  have k_e := C6.new w (.int .i64 5) (.bool y.s) (.slice y.A y.n y.c) (.slice y.B y.m y.d) (.string ⟨#[]⟩) (.slice (some ⟨b0, off, none⟩) 2 c)
  have hb0 := (Below.refl w.heap.size w).alloc (Nat.le_refl _) (.cells #[.int .i64 5, .bool y.s, .slice y.A y.n y.c, .slice y.B y.m y.d, .string ⟨#[]⟩, .slice (some ⟨b0, off, none⟩) 2 c] 27)
  have s3 : (TA ++ (⟨#[32, 42, 32]⟩ : ByteArray)).size = TA.size + 3 := by rw [ByteArray.size_append]; rfl
  have sS : (TA ++ (⟨#[32, 42, 32]⟩ : ByteArray) ++ TB).size ≤ 2000003 := by rw [ByteArray.size_append, s3]; omega
  have g1 : ¬ (9223372036854775807 < TA.size + 3) := by omega
  have g2 : ¬ (TA.size + 3 > 9223372036854775807) := by omega
  have g3 : ¬ (9223372036854775807 < TA.size + 3 + TB.size) := by omega
  have g4 : ¬ (TA.size + 3 + TB.size > 9223372036854775807) := by omega
  have g5 : ¬ (9223372036854775807 < (TA ++ (⟨#[32, 42, 32]⟩ : ByteArray)).size + TB.size) := by omega
  have g6 : ¬ ((TA ++ (⟨#[32, 42, 32]⟩ : ByteArray)).size + TB.size > 9223372036854775807) := by omega
  have HRES := Lib.hid HRES0
  have S3 := Lib.hid s3
  clear HRES0 s3
  go_enter Tryz.func23, Tryz.ntmps23
  go_upto_region 14 with fail
  generalize w.alloc (.cells #[.int .i64 5, .bool y.s, .slice y.A y.n y.c, .slice y.B y.m y.d, .string ⟨#[]⟩, .slice (some ⟨b0, off, none⟩) 2 c] 27) = w1 at *
  replace k_e := k_e.drew
  replace hb0 := hb0.drew
  obtain ⟨x0, x1, x2, x3, x4, x5⟩ := hx.keep ((hbw.trans (hb0.mono hbw.size)).block b0 hb)
  obtain ⟨z0, z1, z2, z3, z4, z5⟩ := hz.keep ((hbw.trans (hb0.mono hbw.size)).block b0 hb)
  obtain ⟨e0, e1, e2, e3, e4, e5⟩ := k_e.facts
  have mk0 : Hid True := trivial
  go_region_held3 (fun w' => w'.cell? ⟨w.heap.size, 5, none⟩ = some (.slice (some ⟨b0, off, none⟩) 2 c) ∧ w'.cell? ⟨b0, off, none⟩ = some (.int .i64 x.k) ∧ w'.cell? ⟨b0, off + 1, none⟩ = some (.bool x.r.s) ∧ w'.cell? ⟨b0, off + 2, none⟩ = some (.slice x.r.A x.r.n x.r.c) ∧ w'.cell? ⟨b0, off + 3, none⟩ = some (.slice x.r.B x.r.m x.r.d) ∧ w'.cell? ⟨b0, off + 4, none⟩ = some (.string x.s) ∧ w'.cell? ⟨b0, off + 5, none⟩ = some (.slice x.K x.n x.c) ∧ w'.cell? ⟨b0, off + 6, none⟩ = some (.int .i64 z.k) ∧ w'.cell? ⟨b0, off + 6 + 1, none⟩ = some (.bool z.r.s) ∧ w'.cell? ⟨b0, off + 6 + 2, none⟩ = some (.slice z.r.A z.r.n z.r.c) ∧ w'.cell? ⟨b0, off + 6 + 3, none⟩ = some (.slice z.r.B z.r.m z.r.d) ∧ w'.cell? ⟨b0, off + 6 + 4, none⟩ = some (.string z.s) ∧ w'.cell? ⟨b0, off + 6 + 5, none⟩ = some (.slice z.K z.n z.c)) (go_keep)
    (first
     | (go_at_call 23
        have mk1 := mk0
        clear mk0
        refine (HCA.out _ (hbw.trans (hb0.mono hbw.size))).mono ?_
        rintro e w2 ⟨rfl, hb2⟩
        replace k_e := k_e.below hb2
        replace hb0 := hb0.trans (hb2.mono hb0.size)
        clear hb2 e0 e1 e2 e3 e4 e5 x0 x1 x2 x3 x4 x5 z0 z1 z2 z3 z4 z5
        obtain ⟨x0, x1, x2, x3, x4, x5⟩ := hx.keep ((hbw.trans (hb0.mono hbw.size)).block b0 hb)
        obtain ⟨z0, z1, z2, z3, z4, z5⟩ := hz.keep ((hbw.trans (hb0.mono hbw.size)).block b0 hb)
        obtain ⟨e0, e1, e2, e3, e4, e5⟩ := k_e.facts)
     | (go_at_call 23
        have mk2 := mk1
        clear mk1
        refine (HCB.out _ (hbw.trans (hb0.mono hbw.size))).mono ?_
        rintro e w2 ⟨rfl, hb2⟩
        replace k_e := k_e.below hb2
        replace hb0 := hb0.trans (hb2.mono hb0.size)
        clear hb2 e0 e1 e2 e3 e4 e5 x0 x1 x2 x3 x4 x5 z0 z1 z2 z3 z4 z5
        obtain ⟨x0, x1, x2, x3, x4, x5⟩ := hx.keep ((hbw.trans (hb0.mono hbw.size)).block b0 hb)
        obtain ⟨z0, z1, z2, z3, z4, z5⟩ := hz.keep ((hbw.trans (hb0.mono hbw.size)).block b0 hb)
        obtain ⟨e0, e1, e2, e3, e4, e5⟩ := k_e.facts))
  all_goals (
    have HB9 := hb0
    clear x0 x1 x2 x3 x4 x5 z0 z1 z2 z3 z4 z5
    go_wp2_with fail
    refine (rrow5 _).mono ?_
    rintro e w9 ⟨rfl, rfl⟩
    by_cases hR : 2 < asks
    · have r1 : (2 : Int) < (asks : Int) := by omega
      rw [if_pos hR] at HRES
      have z1 : ¬ (9223372036854775807 < 1 + (TA ++ (⟨#[32, 42, 32]⟩ : ByteArray) ++ TB).size) := by omega
      have z2 : ¬ (1 + (TA ++ (⟨#[32, 42, 32]⟩ : ByteArray) ++ TB).size > 9223372036854775807) := by omega
      have z3 : ¬ (9223372036854775807 < 1 + (TA ++ (⟨#[32, 42, 32]⟩ : ByteArray) ++ TB).size + 1) := by omega
      have z4 : ¬ (1 + (TA ++ (⟨#[32, 42, 32]⟩ : ByteArray) ++ TB).size + 1 > 9223372036854775807) := by omega
      go_wp2
      go_ret
      exact ⟨(by rw [HRES.out]; rfl), HB9⟩
    · have r1 : ¬ (2 : Int) < (asks : Int) := by omega
      rw [if_neg hR] at HRES
      go_wp2
      go_ret
      exact ⟨(by rw [HRES.out]; rfl), HB9⟩)
set_option maxRecDepth 100000 in
set_option maxHeartbeats 12800000 in
theorem text_bin6 (y : Rv) (b0 off c asks : Nat) (x z : Ev) (TA TB RES : ByteArray) (w w0 : World) (hbw : Below w0.heap.size w0 w) (hb : b0 < w0.heap.size) (hx : At6 w0 b0 off x) (hz : At6 w0 b0 (off + 6) z) (ha : asks ≤ 3) (hsa : TA.size ≤ 1000000) (hsb : TB.size ≤ 1000000)
    (HCA : Hid (∀ w', Below w0.heap.size w0 w' → Calls Tryz.prog 23 #[.agg #[.int .i64 x.k, .bool x.r.s, .slice x.r.A x.r.n x.r.c, .slice x.r.B x.r.m x.r.d, .string x.s, .slice x.K x.n x.c], .int .i64 2] w' fun e w'' => e = .returned (.string TA) ∧ Below w'.heap.size w' w''))
    (HCB : Hid (∀ w', Below w0.heap.size w0 w' → Calls Tryz.prog 23 #[.agg #[.int .i64 z.k, .bool z.r.s, .slice z.r.A z.r.n z.r.c, .slice z.r.B z.r.m z.r.d, .string z.s, .slice z.K z.n z.c], .int .i64 3] w' fun e w'' => e = .returned (.string TB) ∧ Below w'.heap.size w' w''))
    (HRES0 : RES = if 2 < asks then (⟨#[40]⟩ : ByteArray) ++ (TA ++ (⟨#[32, 47, 32]⟩ : ByteArray) ++ TB) ++ (⟨#[41]⟩ : ByteArray) else TA ++ (⟨#[32, 47, 32]⟩ : ByteArray) ++ TB) :
    Calls Tryz.prog 23 #[.agg #[.int .i64 6, .bool y.s, .slice y.A y.n y.c, .slice y.B y.m y.d, .string ⟨#[]⟩, .slice (some ⟨b0, off, none⟩) 2 c], .int .i64 asks] w fun e w' => e = .returned (.string RES) ∧ Below w.heap.size w w' := by
  have k_e := C6.new w (.int .i64 6) (.bool y.s) (.slice y.A y.n y.c) (.slice y.B y.m y.d) (.string ⟨#[]⟩) (.slice (some ⟨b0, off, none⟩) 2 c)
  have hb0 := (Below.refl w.heap.size w).alloc (Nat.le_refl _) (.cells #[.int .i64 6, .bool y.s, .slice y.A y.n y.c, .slice y.B y.m y.d, .string ⟨#[]⟩, .slice (some ⟨b0, off, none⟩) 2 c] 27)
  have s3 : (TA ++ (⟨#[32, 47, 32]⟩ : ByteArray)).size = TA.size + 3 := by rw [ByteArray.size_append]; rfl
  have sS : (TA ++ (⟨#[32, 47, 32]⟩ : ByteArray) ++ TB).size ≤ 2000003 := by rw [ByteArray.size_append, s3]; omega
  have g1 : ¬ (9223372036854775807 < TA.size + 3) := by omega
  have g2 : ¬ (TA.size + 3 > 9223372036854775807) := by omega
  have g3 : ¬ (9223372036854775807 < TA.size + 3 + TB.size) := by omega
  have g4 : ¬ (TA.size + 3 + TB.size > 9223372036854775807) := by omega
  have g5 : ¬ (9223372036854775807 < (TA ++ (⟨#[32, 47, 32]⟩ : ByteArray)).size + TB.size) := by omega
  have g6 : ¬ ((TA ++ (⟨#[32, 47, 32]⟩ : ByteArray)).size + TB.size > 9223372036854775807) := by omega
  have HRES := Lib.hid HRES0
  have S3 := Lib.hid s3
  clear HRES0 s3
  go_enter Tryz.func23, Tryz.ntmps23
  go_upto_region 16 with fail
  generalize w.alloc (.cells #[.int .i64 6, .bool y.s, .slice y.A y.n y.c, .slice y.B y.m y.d, .string ⟨#[]⟩, .slice (some ⟨b0, off, none⟩) 2 c] 27) = w1 at *
  replace k_e := k_e.drew
  replace hb0 := hb0.drew
  obtain ⟨x0, x1, x2, x3, x4, x5⟩ := hx.keep ((hbw.trans (hb0.mono hbw.size)).block b0 hb)
  obtain ⟨z0, z1, z2, z3, z4, z5⟩ := hz.keep ((hbw.trans (hb0.mono hbw.size)).block b0 hb)
  obtain ⟨e0, e1, e2, e3, e4, e5⟩ := k_e.facts
  have mk0 : Hid True := trivial
  go_region_held3 (fun w' => w'.cell? ⟨w.heap.size, 5, none⟩ = some (.slice (some ⟨b0, off, none⟩) 2 c) ∧ w'.cell? ⟨b0, off, none⟩ = some (.int .i64 x.k) ∧ w'.cell? ⟨b0, off + 1, none⟩ = some (.bool x.r.s) ∧ w'.cell? ⟨b0, off + 2, none⟩ = some (.slice x.r.A x.r.n x.r.c) ∧ w'.cell? ⟨b0, off + 3, none⟩ = some (.slice x.r.B x.r.m x.r.d) ∧ w'.cell? ⟨b0, off + 4, none⟩ = some (.string x.s) ∧ w'.cell? ⟨b0, off + 5, none⟩ = some (.slice x.K x.n x.c) ∧ w'.cell? ⟨b0, off + 6, none⟩ = some (.int .i64 z.k) ∧ w'.cell? ⟨b0, off + 6 + 1, none⟩ = some (.bool z.r.s) ∧ w'.cell? ⟨b0, off + 6 + 2, none⟩ = some (.slice z.r.A z.r.n z.r.c) ∧ w'.cell? ⟨b0, off + 6 + 3, none⟩ = some (.slice z.r.B z.r.m z.r.d) ∧ w'.cell? ⟨b0, off + 6 + 4, none⟩ = some (.string z.s) ∧ w'.cell? ⟨b0, off + 6 + 5, none⟩ = some (.slice z.K z.n z.c)) (go_keep)
    (first
     | (go_at_call 23
        have mk1 := mk0
        clear mk0
        refine (HCA.out _ (hbw.trans (hb0.mono hbw.size))).mono ?_
        rintro e w2 ⟨rfl, hb2⟩
        replace k_e := k_e.below hb2
        replace hb0 := hb0.trans (hb2.mono hb0.size)
        clear hb2 e0 e1 e2 e3 e4 e5 x0 x1 x2 x3 x4 x5 z0 z1 z2 z3 z4 z5
        obtain ⟨x0, x1, x2, x3, x4, x5⟩ := hx.keep ((hbw.trans (hb0.mono hbw.size)).block b0 hb)
        obtain ⟨z0, z1, z2, z3, z4, z5⟩ := hz.keep ((hbw.trans (hb0.mono hbw.size)).block b0 hb)
        obtain ⟨e0, e1, e2, e3, e4, e5⟩ := k_e.facts)
     | (go_at_call 23
        have mk2 := mk1
        clear mk1
        refine (HCB.out _ (hbw.trans (hb0.mono hbw.size))).mono ?_
        rintro e w2 ⟨rfl, hb2⟩
        replace k_e := k_e.below hb2
        replace hb0 := hb0.trans (hb2.mono hb0.size)
        clear hb2 e0 e1 e2 e3 e4 e5 x0 x1 x2 x3 x4 x5 z0 z1 z2 z3 z4 z5
        obtain ⟨x0, x1, x2, x3, x4, x5⟩ := hx.keep ((hbw.trans (hb0.mono hbw.size)).block b0 hb)
        obtain ⟨z0, z1, z2, z3, z4, z5⟩ := hz.keep ((hbw.trans (hb0.mono hbw.size)).block b0 hb)
        obtain ⟨e0, e1, e2, e3, e4, e5⟩ := k_e.facts))
  all_goals (
    have HB9 := hb0
    clear x0 x1 x2 x3 x4 x5 z0 z1 z2 z3 z4 z5
    go_wp2_with fail
    refine (rrow6 _).mono ?_
    rintro e w9 ⟨rfl, rfl⟩
    by_cases hR : 2 < asks
    · have r1 : (2 : Int) < (asks : Int) := by omega
      rw [if_pos hR] at HRES
      have z1 : ¬ (9223372036854775807 < 1 + (TA ++ (⟨#[32, 47, 32]⟩ : ByteArray) ++ TB).size) := by omega
      have z2 : ¬ (1 + (TA ++ (⟨#[32, 47, 32]⟩ : ByteArray) ++ TB).size > 9223372036854775807) := by omega
      have z3 : ¬ (9223372036854775807 < 1 + (TA ++ (⟨#[32, 47, 32]⟩ : ByteArray) ++ TB).size + 1) := by omega
      have z4 : ¬ (1 + (TA ++ (⟨#[32, 47, 32]⟩ : ByteArray) ++ TB).size + 1 > 9223372036854775807) := by omega
      go_wp2
      go_ret
      exact ⟨(by rw [HRES.out]; rfl), HB9⟩
    · have r1 : ¬ (2 : Int) < (asks : Int) := by omega
      rw [if_neg hR] at HRES
      go_wp2
      go_ret
      exact ⟨(by rw [HRES.out]; rfl), HB9⟩)
/-- Bytes as a text. -/
def tx (l : List UInt8) : ByteArray := ⟨l.toArray⟩
theorem tx_list (l : List UInt8) : (tx l).data.toList = l := by simp [tx]
theorem tx_size (l : List UInt8) : (tx l).size = l.length := by show l.toArray.size = _; simp
theorem wrapK_tx (n k : Nat) (S : ByteArray) : tx (wrapK n k S.data.toList) = if k < n then (⟨#[40]⟩ : ByteArray) ++ S ++ (⟨#[41]⟩ : ByteArray) else S := by
  apply ba_ext
  rw [tx_list]
  unfold wrapK
  by_cases h : n ≤ k
  · rw [if_pos h, if_neg (by omega)]
  · rw [if_neg h, if_pos (by omega), app_list (app_list (m := S.data.toList) (l := [40]) rfl rfl) (m := [41]) rfl]; rfl
theorem rtext_c {w0 : World} : ∀ (t : Ex) (v : Ev) (asks : Nat) (w : World), t.fine → t.wf → t.nodes ≤ 1000 → Tg w0 t v → Below w0.heap.size w0 w → asks ≤ 3 →
    Calls Tryz.prog 23 #[.agg #[.int .i64 v.k, .bool v.r.s, .slice v.r.A v.r.n v.r.c, .slice v.r.B v.r.m v.r.d, .string v.s, .slice v.K v.n v.c], .int .i64 asks] w fun e w' => e = .returned (.string (tx (wrapK asks t.row t.pr))) ∧ Below w.heap.size w w' := by
  intro t
  induction t with
  | bad => exact fun v asks w h => absurd h (fun h => h)
  | num r =>
    intro v asks w hf _ _ ht hb ha
    obtain ⟨vk, y, st, K, n, c⟩ := v
    obtain ⟨h1, h2, h3, h4⟩ := ht
    dsimp only at *
    subst h1; subst h3
    exact text_num y K n c asks r w _ (h4.below hb) hf (by rw [tx_list]; exact wrapK_yes (show asks ≤ 4 by omega)) ha
  | nm s =>
    intro v asks w _ _ _ ht hb ha
    obtain ⟨vk, y, st, K, n, c⟩ := v
    obtain ⟨h1, h2, h3, h4⟩ := ht
    dsimp only at *
    subst h1; subst h3
    have e : tx (wrapK asks (Ex.nm st).row (Ex.nm st).pr) = st := by
      apply ba_ext
      rw [tx_list]; exact wrapK_yes (show asks ≤ 4 by omega)
    rw [e]
    exact text_nm y st K n c asks w ha
  | neg a iha =>
    intro v asks w hf hw hn ht hb ha
    obtain ⟨vk, y, st, K, n, c⟩ := v
    obtain ⟨h1, h2, h3, h4, b0, off, x, h5, h6, h7, h8⟩ := ht
    dsimp only at *
    subst h1; subst h2; subst h3; subst h5
    have hn' : 1 + a.nodes ≤ 1000 := hn
    have hl := pr_len2 a hf
    have hl2 := wrapK_len 3 a.row a.pr
    have e : tx (wrapK asks (Ex.neg a).row (Ex.neg a).pr) = (⟨#[45]⟩ : ByteArray) ++ tx (wrapK 3 a.row a.pr) := by
      apply ba_ext
      rw [tx_list, app_list (l := [45]) rfl (tx_list _)]
      exact wrapK_yes (show asks ≤ 3 by omega)
    rw [e]
    exact text_neg y b0 off c asks x _ w w0 hb h6 h7 ha (by rw [tx_size]; omega) (Lib.hid fun w' hb' => iha x 3 w' hf hw (by omega) h8 hb' (by omega))
  | bin k a b iha ihb =>
    intro v asks w hf hw hn ht hb ha
    obtain ⟨vk, y, st, K, n, c⟩ := v
    obtain ⟨h1, h2, h3, h4, b0, off, x, z, h5, h6, h7, h8, h9, h10⟩ := ht
    dsimp only at *
    subst h1; subst h2; subst h3; subst h5
    obtain ⟨hk, wa, wb⟩ := hw
    have hn' : 1 + a.nodes + b.nodes ≤ 1000 := hn
    have hla := pr_len2 a hf.1
    have hlb := pr_len2 b hf.2
    rcases hk with rfl | rfl | rfl | rfl
    · have l1 := wrapK_len 1 a.row a.pr
      have l2 := wrapK_len 2 b.row b.pr
      refine text_bin3 y b0 off c asks x z (tx (wrapK 1 a.row a.pr)) (tx (wrapK 2 b.row b.pr)) _ w w0 hb h6 h7 h8 ha (by rw [tx_size]; omega) (by rw [tx_size]; omega)
        (Lib.hid fun w' hb' => iha x 1 w' hf.1 wa (by omega) h9 hb' (by omega)) (Lib.hid fun w' hb' => ihb z 2 w' hf.2 wb (by omega) h10 hb' (by omega)) ?_
      rw [← wrapK_tx asks 1 (tx (wrapK 1 a.row a.pr) ++ (⟨#[32, 43, 32]⟩ : ByteArray) ++ tx (wrapK 2 b.row b.pr))]
      congr 2
      all_goals first | (rw [app_list (app_list (tx_list _) (m := [32, 43, 32]) rfl) (tx_list _)]; done) | (rw [app_list (app_list (tx_list _) (m := [32, 43, 32]) rfl) (tx_list _)]; rfl)
    · have l1 := wrapK_len 1 a.row a.pr
      have l2 := wrapK_len 2 b.row b.pr
      refine text_bin4 y b0 off c asks x z (tx (wrapK 1 a.row a.pr)) (tx (wrapK 2 b.row b.pr)) _ w w0 hb h6 h7 h8 ha (by rw [tx_size]; omega) (by rw [tx_size]; omega)
        (Lib.hid fun w' hb' => iha x 1 w' hf.1 wa (by omega) h9 hb' (by omega)) (Lib.hid fun w' hb' => ihb z 2 w' hf.2 wb (by omega) h10 hb' (by omega)) ?_
      rw [← wrapK_tx asks 1 (tx (wrapK 1 a.row a.pr) ++ (⟨#[32, 45, 32]⟩ : ByteArray) ++ tx (wrapK 2 b.row b.pr))]
      congr 2
      all_goals first | (rw [app_list (app_list (tx_list _) (m := [32, 45, 32]) rfl) (tx_list _)]; done) | (rw [app_list (app_list (tx_list _) (m := [32, 45, 32]) rfl) (tx_list _)]; rfl)
    · have l1 := wrapK_len 2 a.row a.pr
      have l2 := wrapK_len 3 b.row b.pr
      refine text_bin5 y b0 off c asks x z (tx (wrapK 2 a.row a.pr)) (tx (wrapK 3 b.row b.pr)) _ w w0 hb h6 h7 h8 ha (by rw [tx_size]; omega) (by rw [tx_size]; omega)
        (Lib.hid fun w' hb' => iha x 2 w' hf.1 wa (by omega) h9 hb' (by omega)) (Lib.hid fun w' hb' => ihb z 3 w' hf.2 wb (by omega) h10 hb' (by omega)) ?_
      rw [← wrapK_tx asks 2 (tx (wrapK 2 a.row a.pr) ++ (⟨#[32, 42, 32]⟩ : ByteArray) ++ tx (wrapK 3 b.row b.pr))]
      congr 2
      all_goals first | (rw [app_list (app_list (tx_list _) (m := [32, 42, 32]) rfl) (tx_list _)]; done) | (rw [app_list (app_list (tx_list _) (m := [32, 42, 32]) rfl) (tx_list _)]; rfl)
    · have l1 := wrapK_len 2 a.row a.pr
      have l2 := wrapK_len 3 b.row b.pr
      refine text_bin6 y b0 off c asks x z (tx (wrapK 2 a.row a.pr)) (tx (wrapK 3 b.row b.pr)) _ w w0 hb h6 h7 h8 ha (by rw [tx_size]; omega) (by rw [tx_size]; omega)
        (Lib.hid fun w' hb' => iha x 2 w' hf.1 wa (by omega) h9 hb' (by omega)) (Lib.hid fun w' hb' => ihb z 3 w' hf.2 wb (by omega) h10 hb' (by omega)) ?_
      rw [← wrapK_tx asks 2 (tx (wrapK 2 a.row a.pr) ++ (⟨#[32, 47, 32]⟩ : ByteArray) ++ tx (wrapK 3 b.row b.pr))]
      congr 2
      all_goals first | (rw [app_list (app_list (tx_list _) (m := [32, 47, 32]) rfl) (tx_list _)]; done) | (rw [app_list (app_list (tx_list _) (m := [32, 47, 32]) rfl) (tx_list _)]; rfl)
end Go.Proofs.YtcmkgoikmleanaaGreatDoor
