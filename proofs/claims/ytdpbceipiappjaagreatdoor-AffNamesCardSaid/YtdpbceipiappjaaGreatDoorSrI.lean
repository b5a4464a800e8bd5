/-
  What an expression comes to as a sum: the signs of two.
-/
import Derived.Test.YtdpbceipiappjaaGreatDoorSrG
namespace Go.Proofs.YtdpbceipiappjaaGreatDoor
set_option maxRecDepth 20000
open Go.RowKit

set_option maxHeartbeats 25600000 in
theorem walkS_bin (x0 x1 x2 x3 : Value) (y : Rv) (b0 off c : Nat) (x u : Ev) (ra rb : SR) (w : World) (k m n : Nat) (hlt : b0 < w.heap.size) (hx : At6 w b0 off x) (hu : At6 w b0 (off + 6) u) (iha : (∀ w', Below w.heap.size w w' → Calls Tryz.prog 28 #[.agg #[x0, x1, x2, x3], .agg #[.int .i64 x.k, .bool x.r.s, .slice x.r.A x.r.n x.r.c, .slice x.r.B x.r.m x.r.d, .string x.s, .slice x.K x.n x.c]] w' (KR w' ra))) (hea : (∀ e, ra = .err e → e = 5 ∨ e = 6 ∨ e = 7)) (hsa : ra.Szd n) (ihb : (∀ w', Below w.heap.size w w' → Calls Tryz.prog 28 #[.agg #[x0, x1, x2, x3], .agg #[.int .i64 u.k, .bool u.r.s, .slice u.r.A u.r.n u.r.c, .slice u.r.B u.r.m u.r.d, .string u.s, .slice u.K u.n u.c]] w' (KR w' rb))) (heb : (∀ e, rb = .err e → e = 5 ∨ e = 6 ∨ e = 7)) (hsb : rb.Szd m) (hk : k = 3 ∨ k = 4 ∨ k = 5 ∨ k = 6) (hnm : 1 + n + m ≤ 111) :
    Calls Tryz.prog 28 #[.agg #[x0, x1, x2, x3], .agg #[.int .i64 (k : Int), .bool y.s, .slice y.A y.n y.c, .slice y.B y.m y.d, .string ⟨#[]⟩, .slice (some ⟨b0, off, none⟩) 2 c]] w (KR w (ra.then fun L q => rb.then fun M r => joinS k L q M r)) := by
  have e1 : (w.alloc (.cells #[x0, x1, x2, x3] 52)).heap.size = w.heap.size + 1 := by simp
  have e2 : ((w.alloc (.cells #[x0, x1, x2, x3] 52)).alloc (.cells #[.int .i64 (k : Int), .bool y.s, .slice y.A y.n y.c, .slice y.B y.m y.d, .string ⟨#[]⟩, .slice (some ⟨b0, off, none⟩) 2 c] 27)).heap.size = w.heap.size + 1 + 1 := by simp
  have hB2 : Below w.heap.size w ((w.alloc (.cells #[x0, x1, x2, x3] 52)).alloc (.cells #[.int .i64 (k : Int), .bool y.s, .slice y.A y.n y.c, .slice y.B y.m y.d, .string ⟨#[]⟩, .slice (some ⟨b0, off, none⟩) 2 c] 27)) := ((Below.refl _ _).alloc (Nat.le_refl _) _).alloc (by simp) _
  have hg := ((R4.new w x0 x1 x2 x3).below ((Below.refl _ _).alloc (Nat.le_refl _) (.cells #[.int .i64 (k : Int), .bool y.s, .slice y.A y.n y.c, .slice y.B y.m y.d, .string ⟨#[]⟩, .slice (some ⟨b0, off, none⟩) 2 c] 27))).below ((Below.refl _ _).alloc (Nat.le_refl _) (.cells #[.int .i64 0, .slice none 0 0, .bool false, .slice none 0 0, .slice none 0 0] 39))
  have he := (C6.new (w.alloc (.cells #[x0, x1, x2, x3] 52)) (.int .i64 (k : Int)) (.bool y.s) (.slice y.A y.n y.c) (.slice y.B y.m y.d) (.string ⟨#[]⟩) (.slice (some ⟨b0, off, none⟩) 2 c)).below ((Below.refl _ _).alloc (Nat.le_refl _) (.cells #[.int .i64 0, .slice none 0 0, .bool false, .slice none 0 0, .slice none 0 0] 39))
  have hz := C5.new ((w.alloc (.cells #[x0, x1, x2, x3] 52)).alloc (.cells #[.int .i64 (k : Int), .bool y.s, .slice y.A y.n y.c, .slice y.B y.m y.d, .string ⟨#[]⟩, .slice (some ⟨b0, off, none⟩) 2 c] 27)) (.int .i64 0) (.slice none 0 0) (.bool false) (.slice none 0 0) (.slice none 0 0)
  have hB := hB2.alloc hB2.size (.cells #[.int .i64 0, .slice none 0 0, .bool false, .slice none 0 0, .slice none 0 0] 39)
  have hs : (((w.alloc (.cells #[x0, x1, x2, x3] 52)).alloc (.cells #[.int .i64 (k : Int), .bool y.s, .slice y.A y.n y.c, .slice y.B y.m y.d, .string ⟨#[]⟩, .slice (some ⟨b0, off, none⟩) 2 c] 27)).alloc (.cells #[.int .i64 0, .slice none 0 0, .bool false, .slice none 0 0, .slice none 0 0] 39)).heap.size = w.heap.size + 3 := by simp
  rw [e1] at he
  rw [e2] at hz
  clear e1 e2 hB2
  obtain ⟨g0, g1, g2, g3⟩ := hg.facts
  obtain ⟨e0, e1, e2, e3, e4, e5⟩ := he.facts
  have q1 : ((k : Int) == 1) = false := beq_eq_false_iff_ne.2 (by omega)
  have q2 : ((k : Int) == 2) = false := beq_eq_false_iff_ne.2 (by omega)
  have q7 : ((k : Int) == 7) = false := beq_eq_false_iff_ne.2 (by omega)
  have HKK := Lib.hid hk
  have IHB := Lib.hid ihb
  have HEB := Lib.hid heb
  have HSB := Lib.hid hsb
  clear hk ihb heb hsb
  have IHA := Lib.hid iha
  have HEA := Lib.hid hea
  have HSA := Lib.hid hsa
  have HNM := Lib.hid hnm
  have HLT : Hid (b0 < w.heap.size) := hlt
  have HAL : Hid (∀ w', Below (((w.alloc (.cells #[x0, x1, x2, x3] 52)).alloc (.cells #[.int .i64 (k : Int), .bool y.s, .slice y.A y.n y.c, .slice y.B y.m y.d, .string ⟨#[]⟩, .slice (some ⟨b0, off, none⟩) 2 c] 27)).alloc (.cells #[.int .i64 0, .slice none 0 0, .bool false, .slice none 0 0, .slice none 0 0] 39)).heap.size (((w.alloc (.cells #[x0, x1, x2, x3] 52)).alloc (.cells #[.int .i64 (k : Int), .bool y.s, .slice y.A y.n y.c, .slice y.B y.m y.d, .string ⟨#[]⟩, .slice (some ⟨b0, off, none⟩) 2 c] 27)).alloc (.cells #[.int .i64 0, .slice none 0 0, .bool false, .slice none 0 0, .slice none 0 0] 39)) w' → R4 w' w.heap.size x0 x1 x2 x3 ∧ C6 w' (w.heap.size + 1) (.int .i64 (k : Int)) (.bool y.s) (.slice y.A y.n y.c) (.slice y.B y.m y.d) (.string ⟨#[]⟩) (.slice (some ⟨b0, off, none⟩) 2 c) ∧ C5 w' (w.heap.size + 1 + 1) (.int .i64 0) (.slice none 0 0) (.bool false) (.slice none 0 0) (.slice none 0 0) ∧ At6 w' b0 off x ∧ At6 w' b0 (off + 6) u ∧ Below w.heap.size w w') := fun w' h =>
    ⟨hg.below h, he.below h, hz.below h, (hx.keep (hB.block b0 hlt)).keep (h.block b0 (by have := hB.size; omega)), (hu.keep (hB.block b0 hlt)).keep (h.block b0 (by have := hB.size; omega)), hB.trans (h.mono hB.size)⟩
  clear iha hea hsa hx hu hg he hz hlt hnm
  go_enter Tryz.func28, Tryz.ntmps28
  go_wp2_with fail
  generalize (((w.alloc (.cells #[x0, x1, x2, x3] 52)).alloc (.cells #[.int .i64 (k : Int), .bool y.s, .slice y.A y.n y.c, .slice y.B y.m y.d, .string ⟨#[]⟩, .slice (some ⟨b0, off, none⟩) 2 c] 27)).alloc (.cells #[.int .i64 0, .slice none 0 0, .bool false, .slice none 0 0, .slice none 0 0] 39)) = W at *
  have HSW : Hid (w.heap.size + 3 ≤ W.heap.size) := by show _ ≤ _; omega
  have HBW : Hid (Below W.heap.size W W) := Below.refl _ _
  clear hs hB g0 g1 g2 g3 e0 e1 e2 e3 e4 e5
  go_cut [6, 7] from 24 to 32 (fun lv ev wx => ∃ (lb : Nat) (z : Cv) (cc : Int), lv = .pointer (some ⟨lb, 0, none⟩) ∧ ev = .int .i64 cc ∧ Hid (SAt W wx lb z cc ra))
  case first =>
    have hs := HSW.out
    obtain ⟨g0, g1, g2, g3⟩ := (HAL.out _ HBW.out).1.facts
    obtain ⟨e0, e1, e2, e3, e4, e5⟩ := (HAL.out _ HBW.out).2.1.facts
    obtain ⟨c0, c1, c2, c3, c4, c5⟩ := (HAL.out _ HBW.out).2.2.2.1
    have m1 : ¬ w.heap.size = W.heap.size := by omega
    have m2 : ¬ W.heap.size = w.heap.size := by omega
    have m3 : ¬ w.heap.size + 1 = W.heap.size := by omega
    have m4 : ¬ W.heap.size = w.heap.size + 1 := by omega
    have m5 : ¬ b0 = W.heap.size := by have h9 := HLT.out; omega
    have m6 : ¬ W.heap.size = b0 := by have h9 := HLT.out; omega
    clear hs
    have HWA : Hid (Below W.heap.size W (W.alloc (.cells #[.int .i64 0, .slice none 0 0, .bool false, .slice none 0 0, .slice none 0 0] 39)).drew ∧ C5 (W.alloc (.cells #[.int .i64 0, .slice none 0 0, .bool false, .slice none 0 0, .slice none 0 0] 39)).drew W.heap.size (.int .i64 0) (.slice none 0 0) (.bool false) (.slice none 0 0) (.slice none 0 0) ∧ (W.alloc (.cells #[.int .i64 0, .slice none 0 0, .bool false, .slice none 0 0, .slice none 0 0] 39)).drew.heap.size = W.heap.size + 1) := ⟨((Below.refl _ _).alloc (Nat.le_refl _) _).drew, C5.new W (.int .i64 0) (.slice none 0 0) (.bool false) (.slice none 0 0) (.slice none 0 0), by simp⟩
    go_region_held3 (fun w' => w'.cell? ⟨w.heap.size, 0, none⟩ = some x0 ∧ w'.cell? ⟨w.heap.size, 1, none⟩ = some x1 ∧ w'.cell? ⟨w.heap.size, 2, none⟩ = some x2 ∧ w'.cell? ⟨w.heap.size, 3, none⟩ = some x3 ∧ w'.cell? ⟨w.heap.size + 1, 5, none⟩ = some (.slice (some ⟨b0, off, none⟩) 2 c) ∧ w'.cell? ⟨b0, off, none⟩ = some (.int .i64 x.k) ∧ w'.cell? ⟨b0, off + 1, none⟩ = some (.bool x.r.s) ∧ w'.cell? ⟨b0, off + 2, none⟩ = some (.slice x.r.A x.r.n x.r.c) ∧ w'.cell? ⟨b0, off + 3, none⟩ = some (.slice x.r.B x.r.m x.r.d) ∧ w'.cell? ⟨b0, off + 4, none⟩ = some (.string x.s) ∧ w'.cell? ⟨b0, off + 5, none⟩ = some (.slice x.K x.n x.c)) (go_keep)
      (first
      | (go_at_call 28
         refine ((IHA.out _ ?_).mono fun e w' h => KR.open_ h).mono ?_
         · first
           | (with_reducible exact (HAL.out _ (HBW.out.trans ((bel1 W).mono HBW.out.size))).2.2.2.2.2)
           | (with_reducible exact (HAL.out _ (HBW.out.trans (HWA.out.1.mono HBW.out.size))).2.2.2.2.2)
         rintro e w5 ⟨z, cc, rfl, hr, hb⟩
         have hbW : Below W.heap.size W w5 := by
           first
           | (have hbq : Below W.drew.heap.size W.drew w5 := by with_reducible exact hb
              exact (bel1 W).trans hbq)
           | (have hbq : Below (W.alloc (.cells #[.int .i64 0, .slice none 0 0, .bool false, .slice none 0 0, .slice none 0 0] 39)).drew.heap.size (W.alloc (.cells #[.int .i64 0, .slice none 0 0, .bool false, .slice none 0 0, .slice none 0 0] 39)).drew w5 := by with_reducible exact hb
              exact HWA.out.1.trans (hbq.mono HWA.out.1.size))
         first
         | (have hbq : Below (W.alloc (.cells #[.int .i64 0, .slice none 0 0, .bool false, .slice none 0 0, .slice none 0 0] 39)).drew.heap.size (W.alloc (.cells #[.int .i64 0, .slice none 0 0, .bool false, .slice none 0 0, .slice none 0 0] 39)).drew w5 := by with_reducible exact hb
            have KN := Lib.hid (HWA.out.2.1.below hbq)
            obtain ⟨q0, q1, q2, q3, q4⟩ := KN.out.facts
            obtain ⟨t0, t1, t2, t3, t4⟩ := KN.out.thaw
            have HR := Lib.hid (hr.lower (show W.heap.size + 1 ≤ (W.alloc (.cells #[.int .i64 0, .slice none 0 0, .bool false, .slice none 0 0, .slice none 0 0] 39)).drew.heap.size by rw [HWA.out.2.2]; exact Nat.le_refl _))
            clear hbq)
         | (have HR := Lib.hid (hr.lower (show W.heap.size ≤ W.drew.heap.size from Nat.le_refl _)))
         have hbA := HBW.out.trans (hbW.mono HBW.out.size)
         obtain ⟨g0, g1, g2, g3⟩ := (HAL.out _ hbA).1.facts
         obtain ⟨e0, e1, e2, e3, e4, e5⟩ := (HAL.out _ hbA).2.1.facts
         obtain ⟨c0, c1, c2, c3, c4, c5⟩ := (HAL.out _ hbA).2.2.2.1
         have hs := HSW.out
         have hsz := hbW.size
         have n1 : ¬ w.heap.size = w5.heap.size := by omega
         have n2 : ¬ w5.heap.size = w.heap.size := by omega
         have n3 : ¬ w.heap.size + 1 = w5.heap.size := by omega
         have n4 : ¬ w5.heap.size = w.heap.size + 1 := by omega
         have n5 : ¬ b0 = w5.heap.size := by have h9 := HLT.out; omega
         have n6 : ¬ w5.heap.size = b0 := by have h9 := HLT.out; omega
         have HW5 := Lib.hid hbW
         clear hs hr hb hbW hbA))
    all_goals
      go_wp2_with fail
      go_meet
      first
      | exact ⟨_, z, cc, rfl, rfl, Lib.hid (SAt.put KN.out HR.out (Nat.le_refl _) (Nat.lt_succ_self _) HW5.out)⟩
      | exact ⟨_, z, cc, rfl, rfl, Lib.hid (SAt.new HR.out (Nat.le_refl _) HW5.out)⟩
  case rest =>
    obtain ⟨lb, z, cc, rfl, rfl, HL⟩ := hcut
    have HK := Lib.hid (HAL.out _ HL.out.below)
    have hsz := HL.out.below.size
    obtain ⟨e0, e1, e2, e3, e4, e5⟩ := HK.out.2.1.facts
    obtain ⟨l0, l1, l2, l3, l4⟩ := HL.out.cell.facts
    have h8 := HL.out.res
    obtain ⟨r, hr⟩ : ∃ r, r = ra := ⟨_, rfl⟩
    rw [← hr] at h8
    cases r with
    | err e =>
      obtain ⟨z0, z1, z2, z3, z4⟩ := HK.out.2.2.1.facts
      obtain ⟨t0, t1, t2, t3, t4⟩ := HK.out.2.2.1.thaw
      have HR := Lib.hid hr
      have h9 := HEA.out _ hr.symm
      have hcc : cc = (e : Int) := h8
      clear hr h8
      rcases h9 with rfl | rfl | rfl
      all_goals
        subst hcc
        go_wp2
        refine ret5t (fn := Tryz.f28) Tryz.results28 rfl rfl rfl (HK.out.2.2.1.put _ _ _ _ _) ?_
        refine ⟨HK.out.2.2.2.2.2.trans (put5_below (by omega) _ _ _ _ _), ?_⟩
        rw [← HR.out]
        exact ⟨Kz, rfl⟩
    | ok L q =>
      obtain ⟨rfl, h8⟩ := h8
      have HR := Lib.hid hr
      have HC := Lib.hid h8
      have h7 := HSA.out
      rw [← hr] at h7
      have HSZ : Hid (SzS n L q) := h7
      clear hr h8 h7
      go_wp2_with fail
      clear e0 e1 e2 e3 e4 e5 l0 l1 l2 l3 l4 hsz
      have HSwc : Hid (w.heap.size + 3 ≤ wc.heap.size) := by have h1 := HSW.out; have h2 := HL.out.below.size; show _ ≤ _; omega
      have HBwc : Hid (Below W.heap.size W wc) := HL.out.below
      go_cut [7, 8] from 42 to 50 (fun ev lv wx => ∃ (lb : Nat) (z : Cv) (cc : Int), lv = .pointer (some ⟨lb, 0, none⟩) ∧ ev = .int .i64 cc ∧ Hid (SAt wc wx lb z cc rb))
      case first =>
        have hs := HSwc.out
        obtain ⟨g0, g1, g2, g3⟩ := (HAL.out _ HBwc.out).1.facts
        obtain ⟨e0, e1, e2, e3, e4, e5⟩ := (HAL.out _ HBwc.out).2.1.facts
        obtain ⟨c0, c1, c2, c3, c4, c5⟩ := (HAL.out _ HBwc.out).2.2.2.2.1
        have m1 : ¬ w.heap.size = wc.heap.size := by omega
        have m2 : ¬ wc.heap.size = w.heap.size := by omega
        have m3 : ¬ w.heap.size + 1 = wc.heap.size := by omega
        have m4 : ¬ wc.heap.size = w.heap.size + 1 := by omega
        have m5 : ¬ b0 = wc.heap.size := by have h9 := HLT.out; omega
        have m6 : ¬ wc.heap.size = b0 := by have h9 := HLT.out; omega
        clear hs
        have HWA : Hid (Below wc.heap.size wc (wc.alloc (.cells #[.int .i64 0, .slice none 0 0, .bool false, .slice none 0 0, .slice none 0 0] 39)).drew ∧ C5 (wc.alloc (.cells #[.int .i64 0, .slice none 0 0, .bool false, .slice none 0 0, .slice none 0 0] 39)).drew wc.heap.size (.int .i64 0) (.slice none 0 0) (.bool false) (.slice none 0 0) (.slice none 0 0) ∧ (wc.alloc (.cells #[.int .i64 0, .slice none 0 0, .bool false, .slice none 0 0, .slice none 0 0] 39)).drew.heap.size = wc.heap.size + 1) := ⟨((Below.refl _ _).alloc (Nat.le_refl _) _).drew, C5.new wc (.int .i64 0) (.slice none 0 0) (.bool false) (.slice none 0 0) (.slice none 0 0), by simp⟩
        go_region_held3 (fun w' => w'.cell? ⟨w.heap.size, 0, none⟩ = some x0 ∧ w'.cell? ⟨w.heap.size, 1, none⟩ = some x1 ∧ w'.cell? ⟨w.heap.size, 2, none⟩ = some x2 ∧ w'.cell? ⟨w.heap.size, 3, none⟩ = some x3 ∧ w'.cell? ⟨w.heap.size + 1, 5, none⟩ = some (.slice (some ⟨b0, off, none⟩) 2 c) ∧ w'.cell? ⟨b0, off + 6, none⟩ = some (.int .i64 u.k) ∧ w'.cell? ⟨b0, off + 6 + 1, none⟩ = some (.bool u.r.s) ∧ w'.cell? ⟨b0, off + 6 + 2, none⟩ = some (.slice u.r.A u.r.n u.r.c) ∧ w'.cell? ⟨b0, off + 6 + 3, none⟩ = some (.slice u.r.B u.r.m u.r.d) ∧ w'.cell? ⟨b0, off + 6 + 4, none⟩ = some (.string u.s) ∧ w'.cell? ⟨b0, off + 6 + 5, none⟩ = some (.slice u.K u.n u.c)) (go_keep)
          (first
          | (go_at_call 28
             refine ((IHB.out _ ?_).mono fun e w' h => KR.open_ h).mono ?_
             · first
               | (with_reducible exact (HAL.out _ (HBwc.out.trans ((bel1 wc).mono HBwc.out.size))).2.2.2.2.2)
               | (with_reducible exact (HAL.out _ (HBwc.out.trans (HWA.out.1.mono HBwc.out.size))).2.2.2.2.2)
             rintro e w5 ⟨z, cc, rfl, hr, hb⟩
             have hbW : Below wc.heap.size wc w5 := by
               first
               | (have hbq : Below wc.drew.heap.size wc.drew w5 := by with_reducible exact hb
                  exact (bel1 wc).trans hbq)
               | (have hbq : Below (wc.alloc (.cells #[.int .i64 0, .slice none 0 0, .bool false, .slice none 0 0, .slice none 0 0] 39)).drew.heap.size (wc.alloc (.cells #[.int .i64 0, .slice none 0 0, .bool false, .slice none 0 0, .slice none 0 0] 39)).drew w5 := by with_reducible exact hb
                  exact HWA.out.1.trans (hbq.mono HWA.out.1.size))
             first
             | (have hbq : Below (wc.alloc (.cells #[.int .i64 0, .slice none 0 0, .bool false, .slice none 0 0, .slice none 0 0] 39)).drew.heap.size (wc.alloc (.cells #[.int .i64 0, .slice none 0 0, .bool false, .slice none 0 0, .slice none 0 0] 39)).drew w5 := by with_reducible exact hb
                have KN := Lib.hid (HWA.out.2.1.below hbq)
                obtain ⟨q0, q1, q2, q3, q4⟩ := KN.out.facts
                obtain ⟨t0, t1, t2, t3, t4⟩ := KN.out.thaw
                have HR := Lib.hid (hr.lower (show wc.heap.size + 1 ≤ (wc.alloc (.cells #[.int .i64 0, .slice none 0 0, .bool false, .slice none 0 0, .slice none 0 0] 39)).drew.heap.size by rw [HWA.out.2.2]; exact Nat.le_refl _))
                clear hbq)
             | (have HR := Lib.hid (hr.lower (show wc.heap.size ≤ wc.drew.heap.size from Nat.le_refl _)))
             have hbA := HBwc.out.trans (hbW.mono HBwc.out.size)
             obtain ⟨g0, g1, g2, g3⟩ := (HAL.out _ hbA).1.facts
             obtain ⟨e0, e1, e2, e3, e4, e5⟩ := (HAL.out _ hbA).2.1.facts
             obtain ⟨c0, c1, c2, c3, c4, c5⟩ := (HAL.out _ hbA).2.2.2.2.1
             have hs := HSwc.out
             have hsz := hbW.size
             have n1 : ¬ w.heap.size = w5.heap.size := by omega
             have n2 : ¬ w5.heap.size = w.heap.size := by omega
             have n3 : ¬ w.heap.size + 1 = w5.heap.size := by omega
             have n4 : ¬ w5.heap.size = w.heap.size + 1 := by omega
             have n5 : ¬ b0 = w5.heap.size := by have h9 := HLT.out; omega
             have n6 : ¬ w5.heap.size = b0 := by have h9 := HLT.out; omega
             have HW5 := Lib.hid hbW
             clear hs hr hb hbW hbA))
        all_goals
          go_wp2_with fail
          go_meet
          first
          | exact ⟨_, z, cc, rfl, rfl, Lib.hid (SAt.put KN.out HR.out (Nat.le_refl _) (Nat.lt_succ_self _) HW5.out)⟩
          | exact ⟨_, z, cc, rfl, rfl, Lib.hid (SAt.new HR.out (Nat.le_refl _) HW5.out)⟩
      case rest =>
        obtain ⟨ub, u', cc, rfl, rfl, HM⟩ := hcut
        have HBA := Lib.hid (HBwc.out.trans (HM.out.below.mono HBwc.out.size))
        have HK := Lib.hid (HAL.out _ HBA.out)
        have hsz := HBA.out.size
        obtain ⟨e0, e1, e2, e3, e4, e5⟩ := HK.out.2.1.facts
        have kl := HL.out.cell.below HM.out.below
        obtain ⟨l0, l1, l2, l3, l4⟩ := kl.facts
        obtain ⟨u0, u1, u2, u3, u4⟩ := HM.out.cell.facts
        have HCL := Lib.hid (HC.out.below HM.out.below)
        have h8 := HM.out.res
        obtain ⟨r, hr⟩ : ∃ r, r = rb := ⟨_, rfl⟩
        rw [← hr] at h8
        have HRA := Lib.hid HR.out
        clear HR
        cases r with
        | err e =>
          obtain ⟨z0, z1, z2, z3, z4⟩ := HK.out.2.2.1.facts
          obtain ⟨t0, t1, t2, t3, t4⟩ := HK.out.2.2.1.thaw
          have HR := Lib.hid hr
          have h9 := HEB.out _ hr.symm
          have hcc : cc = (e : Int) := h8
          clear hr h8
          rcases h9 with rfl | rfl | rfl
          all_goals
            subst hcc
            go_wp2
            refine ret5t (fn := Tryz.f28) Tryz.results28 rfl rfl rfl (HK.out.2.2.1.put _ _ _ _ _) ?_
            refine ⟨HK.out.2.2.2.2.2.trans (put5_below (by omega) _ _ _ _ _), ?_⟩
            rw [← HRA.out, ← HR.out]
            exact ⟨Kz, rfl⟩
        | ok M r =>
          obtain ⟨rfl, h8⟩ := h8
          have HR := Lib.hid hr
          have HC2 := Lib.hid h8
          have h7 := HSB.out
          rw [← hr] at h7
          have HSZ2 : Hid (SzS m M r) := h7
          clear hr h8 h7
          obtain ⟨z0, z1, z2, z3, z4⟩ := HK.out.2.2.1.facts
          obtain ⟨t0, t1, t2, t3, t4⟩ := HK.out.2.2.1.thaw
          go_wp2_with fail
          refine ((joined_c k n m z u' L M q r _ HKK.out (HCL.out.cw (HSZ.out.row.more (by have := HNM.out; omega)) (HSZ.out.num.more (by have := HNM.out; omega))) (HC2.out.cw (HSZ2.out.row.more (by have := HNM.out; omega)) (HSZ2.out.num.more (by have := HNM.out; omega))) HSZ.out HSZ2.out HNM.out).mono fun e w' h => KR.open_ h).mono ?_
          rintro e w2 ⟨z', c2, rfl, hz, hb⟩
          have kz2 := HK.out.2.2.1.below hb
          have hB2 := HK.out.2.2.2.2.2.trans (hb.mono HK.out.2.2.2.2.2.size)
          have HZ := Lib.hid (Res.lower (lo' := w.heap.size + 3) hz (by have h1 := HSW.out; have h2 := HBA.out.size; omega))
          clear e0 e1 e2 e3 e4 e5 l0 l1 l2 l3 l4 u0 u1 u2 u3 u4 z0 z1 z2 z3 z4 t0 t1 t2 t3 t4 hb hz hsz kl
          obtain ⟨q0, q1, q2, q3, q4⟩ := kz2.facts
          obtain ⟨t0, t1, t2, t3, t4⟩ := kz2.thaw
          go_wp2
          refine ret5t (fn := Tryz.f28) Tryz.results28 rfl rfl rfl (kz2.put _ _ _ _ _) ?_
          refine ⟨hB2.trans (put5_below (by omega) _ _ _ _ _), ?_⟩
          rw [← HRA.out, ← HR.out]
          have h9 := HZ.out
          show match joinS k L q M r with | .ok L k => _ | .err c => _
          cases hj : joinS k L q M r with
          | ok L3 k3 => rw [hj] at h9; obtain ⟨rfl, h9⟩ := h9; exact ⟨z', rfl, (h9.put (by omega) _ _ _ _ _).lower (by omega)⟩
          | err e => rw [hj] at h9; subst h9; exact ⟨z', rfl⟩
end Go.Proofs.YtdpbceipiappjaaGreatDoor
