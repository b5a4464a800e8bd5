/-
  What an expression comes to as a sum: the sign of one.
-/
import Derived.Test.YtdpbceipiappjaaGreatDoorSrG
namespace Go.Proofs.YtdpbceipiappjaaGreatDoor
set_option maxRecDepth 20000
open Go.RowKit

set_option maxHeartbeats 25600000 in
theorem walkS_neg (x0 x1 x2 x3 : Value) (y : Rv) (b0 off c : Nat) (x : Ev) (ra : SR) (w : World) (n : Nat) (hlt : b0 < w.heap.size) (hx : At6 w b0 off x) (iha : (∀ w', Below w.heap.size w w' → Calls Tryz.prog 28 #[.agg #[x0, x1, x2, x3], .agg #[.int .i64 x.k, .bool x.r.s, .slice x.r.A x.r.n x.r.c, .slice x.r.B x.r.m x.r.d, .string x.s, .slice x.K x.n x.c]] w' (KR w' ra))) (hea : (∀ e, ra = .err e → e = 5 ∨ e = 6 ∨ e = 7)) (hsa : ra.Szd n) (hnm : n ≤ 111) :
    Calls Tryz.prog 28 #[.agg #[x0, x1, x2, x3], .agg #[.int .i64 7, .bool y.s, .slice y.A y.n y.c, .slice y.B y.m y.d, .string ⟨#[]⟩, .slice (some ⟨b0, off, none⟩) 1 c]] w (KR w (ra.then fun L q => .ok (scaleL ((-1 : Int) : Rat) L) (q * ((-1 : Int) : Rat)))) := by
  have e1 : (w.alloc (.cells #[x0, x1, x2, x3] 52)).heap.size = w.heap.size + 1 := by simp
  have e2 : ((w.alloc (.cells #[x0, x1, x2, x3] 52)).alloc (.cells #[.int .i64 7, .bool y.s, .slice y.A y.n y.c, .slice y.B y.m y.d, .string ⟨#[]⟩, .slice (some ⟨b0, off, none⟩) 1 c] 27)).heap.size = w.heap.size + 1 + 1 := by simp
  have hB2 : Below w.heap.size w ((w.alloc (.cells #[x0, x1, x2, x3] 52)).alloc (.cells #[.int .i64 7, .bool y.s, .slice y.A y.n y.c, .slice y.B y.m y.d, .string ⟨#[]⟩, .slice (some ⟨b0, off, none⟩) 1 c] 27)) := ((Below.refl _ _).alloc (Nat.le_refl _) _).alloc (by simp) _
  have hg := ((R4.new w x0 x1 x2 x3).below ((Below.refl _ _).alloc (Nat.le_refl _) (.cells #[.int .i64 7, .bool y.s, .slice y.A y.n y.c, .slice y.B y.m y.d, .string ⟨#[]⟩, .slice (some ⟨b0, off, none⟩) 1 c] 27))).below ((Below.refl _ _).alloc (Nat.le_refl _) (.cells #[.int .i64 0, .slice none 0 0, .bool false, .slice none 0 0, .slice none 0 0] 39))
  have he := (C6.new (w.alloc (.cells #[x0, x1, x2, x3] 52)) (.int .i64 7) (.bool y.s) (.slice y.A y.n y.c) (.slice y.B y.m y.d) (.string ⟨#[]⟩) (.slice (some ⟨b0, off, none⟩) 1 c)).below ((Below.refl _ _).alloc (Nat.le_refl _) (.cells #[.int .i64 0, .slice none 0 0, .bool false, .slice none 0 0, .slice none 0 0] 39))
  have hz := C5.new ((w.alloc (.cells #[x0, x1, x2, x3] 52)).alloc (.cells #[.int .i64 7, .bool y.s, .slice y.A y.n y.c, .slice y.B y.m y.d, .string ⟨#[]⟩, .slice (some ⟨b0, off, none⟩) 1 c] 27)) (.int .i64 0) (.slice none 0 0) (.bool false) (.slice none 0 0) (.slice none 0 0)
  have hB := hB2.alloc hB2.size (.cells #[.int .i64 0, .slice none 0 0, .bool false, .slice none 0 0, .slice none 0 0] 39)
  have hs : (((w.alloc (.cells #[x0, x1, x2, x3] 52)).alloc (.cells #[.int .i64 7, .bool y.s, .slice y.A y.n y.c, .slice y.B y.m y.d, .string ⟨#[]⟩, .slice (some ⟨b0, off, none⟩) 1 c] 27)).alloc (.cells #[.int .i64 0, .slice none 0 0, .bool false, .slice none 0 0, .slice none 0 0] 39)).heap.size = w.heap.size + 3 := by simp
  rw [e1] at he
  rw [e2] at hz
  clear e1 e2 hB2
  obtain ⟨g0, g1, g2, g3⟩ := hg.facts
  obtain ⟨e0, e1, e2, e3, e4, e5⟩ := he.facts
  have IHA := Lib.hid iha
  have HEA := Lib.hid hea
  have HSA := Lib.hid hsa
  have HNM := Lib.hid hnm
  have HLT : Hid (b0 < w.heap.size) := hlt
  have HAL : Hid (∀ w', Below (((w.alloc (.cells #[x0, x1, x2, x3] 52)).alloc (.cells #[.int .i64 7, .bool y.s, .slice y.A y.n y.c, .slice y.B y.m y.d, .string ⟨#[]⟩, .slice (some ⟨b0, off, none⟩) 1 c] 27)).alloc (.cells #[.int .i64 0, .slice none 0 0, .bool false, .slice none 0 0, .slice none 0 0] 39)).heap.size (((w.alloc (.cells #[x0, x1, x2, x3] 52)).alloc (.cells #[.int .i64 7, .bool y.s, .slice y.A y.n y.c, .slice y.B y.m y.d, .string ⟨#[]⟩, .slice (some ⟨b0, off, none⟩) 1 c] 27)).alloc (.cells #[.int .i64 0, .slice none 0 0, .bool false, .slice none 0 0, .slice none 0 0] 39)) w' → R4 w' w.heap.size x0 x1 x2 x3 ∧ C6 w' (w.heap.size + 1) (.int .i64 7) (.bool y.s) (.slice y.A y.n y.c) (.slice y.B y.m y.d) (.string ⟨#[]⟩) (.slice (some ⟨b0, off, none⟩) 1 c) ∧ C5 w' (w.heap.size + 1 + 1) (.int .i64 0) (.slice none 0 0) (.bool false) (.slice none 0 0) (.slice none 0 0) ∧ At6 w' b0 off x ∧ True ∧ Below w.heap.size w w') := fun w' h =>
    ⟨hg.below h, he.below h, hz.below h, (hx.keep (hB.block b0 hlt)).keep (h.block b0 (by have := hB.size; omega)), trivial, hB.trans (h.mono hB.size)⟩
  clear iha hea hsa hx hg he hz hlt hnm
  go_enter Tryz.func28, Tryz.ntmps28
  go_wp2_with fail
  generalize (((w.alloc (.cells #[x0, x1, x2, x3] 52)).alloc (.cells #[.int .i64 7, .bool y.s, .slice y.A y.n y.c, .slice y.B y.m y.d, .string ⟨#[]⟩, .slice (some ⟨b0, off, none⟩) 1 c] 27)).alloc (.cells #[.int .i64 0, .slice none 0 0, .bool false, .slice none 0 0, .slice none 0 0] 39)) = W at *
  have HSW : Hid (w.heap.size + 3 ≤ W.heap.size) := by show _ ≤ _; omega
  have HBW : Hid (Below W.heap.size W W) := Below.refl _ _
  clear hs hB g0 g1 g2 g3 e0 e1 e2 e3 e4 e5
  go_cut [6, 7] from 24 to 32 (fun lv ev wx => ∃ (lb : Nat) (z : Cv) (cc : Int), lv = .pointer (some ⟨lb, 0, none⟩) ∧ ev = .int .i64 cc ∧ Hid (SAt W wx lb z cc ra))
  case first =>
    have hs := HSW.out
    obtain ⟨g0, g1, g2, g3⟩ := (HAL.out _ HBW.out).1.facts
    obtain ⟨e0, e1, e2, e3, e4, e5⟩ := (HAL.out _ HBW.out).2.1.facts
    obtain ⟨c0, c1, c2, c3, c4, c5⟩ := (HAL.out _ HBW.out).2.2.2.1
    have m1 : ¬ w.heap.size = W.heap.size := by omega
    have m2 : ¬ W.heap.size = w.heap.size := by omega
    have m3 : ¬ w.heap.size + 1 = W.heap.size := by omega
    have m4 : ¬ W.heap.size = w.heap.size + 1 := by omega
    have m5 : ¬ b0 = W.heap.size := by have h9 := HLT.out; omega
    have m6 : ¬ W.heap.size = b0 := by have h9 := HLT.out; omega
    clear hs
    have HWA : Hid (Below W.heap.size W (W.alloc (.cells #[.int .i64 0, .slice none 0 0, .bool false, .slice none 0 0, .slice none 0 0] 39)).drew ∧ C5 (W.alloc (.cells #[.int .i64 0, .slice none 0 0, .bool false, .slice none 0 0, .slice none 0 0] 39)).drew W.heap.size (.int .i64 0) (.slice none 0 0) (.bool false) (.slice none 0 0) (.slice none 0 0) ∧ (W.alloc (.cells #[.int .i64 0, .slice none 0 0, .bool false, .slice none 0 0, .slice none 0 0] 39)).drew.heap.size = W.heap.size + 1) := ⟨((Below.refl _ _).alloc (Nat.le_refl _) _).drew, C5.new W (.int .i64 0) (.slice none 0 0) (.bool false) (.slice none 0 0) (.slice none 0 0), by simp⟩
    go_region_held3 (fun w' => w'.cell? ⟨w.heap.size, 0, none⟩ = some x0 ∧ w'.cell? ⟨w.heap.size, 1, none⟩ = some x1 ∧ w'.cell? ⟨w.heap.size, 2, none⟩ = some x2 ∧ w'.cell? ⟨w.heap.size, 3, none⟩ = some x3 ∧ w'.cell? ⟨w.heap.size + 1, 5, none⟩ = some (.slice (some ⟨b0, off, none⟩) 1 c) ∧ w'.cell? ⟨b0, off, none⟩ = some (.int .i64 x.k) ∧ w'.cell? ⟨b0, off + 1, none⟩ = some (.bool x.r.s) ∧ w'.cell? ⟨b0, off + 2, none⟩ = some (.slice x.r.A x.r.n x.r.c) ∧ w'.cell? ⟨b0, off + 3, none⟩ = some (.slice x.r.B x.r.m x.r.d) ∧ w'.cell? ⟨b0, off + 4, none⟩ = some (.string x.s) ∧ w'.cell? ⟨b0, off + 5, none⟩ = some (.slice x.K x.n x.c)) (go_keep)
      (first
      | (go_at_call 28
         refine ((IHA.out _ ?_).mono fun e w' h => KR.open_ h).mono ?_
         · first
           | (with_reducible exact (HAL.out _ (HBW.out.trans ((bel1 W).mono HBW.out.size))).2.2.2.2.2)
           | (with_reducible exact (HAL.out _ (HBW.out.trans (HWA.out.1.mono HBW.out.size))).2.2.2.2.2)
         rintro e w5 ⟨z, cc, rfl, hr, hb⟩
         have hbW : Below W.heap.size W w5 := by
           first
           | (have hbq : Below W.drew.heap.size W.drew w5 := by with_reducible exact hb
              exact (bel1 W).trans hbq)
           | (have hbq : Below (W.alloc (.cells #[.int .i64 0, .slice none 0 0, .bool false, .slice none 0 0, .slice none 0 0] 39)).drew.heap.size (W.alloc (.cells #[.int .i64 0, .slice none 0 0, .bool false, .slice none 0 0, .slice none 0 0] 39)).drew w5 := by with_reducible exact hb
              exact HWA.out.1.trans (hbq.mono HWA.out.1.size))
         first
         | (have hbq : Below (W.alloc (.cells #[.int .i64 0, .slice none 0 0, .bool false, .slice none 0 0, .slice none 0 0] 39)).drew.heap.size (W.alloc (.cells #[.int .i64 0, .slice none 0 0, .bool false, .slice none 0 0, .slice none 0 0] 39)).drew w5 := by with_reducible exact hb
            have KN := Lib.hid (HWA.out.2.1.below hbq)
            obtain ⟨q0, q1, q2, q3, q4⟩ := KN.out.facts
            obtain ⟨t0, t1, t2, t3, t4⟩ := KN.out.thaw
            have HR := Lib.hid (hr.lower (show W.heap.size + 1 ≤ (W.alloc (.cells #[.int .i64 0, .slice none 0 0, .bool false, .slice none 0 0, .slice none 0 0] 39)).drew.heap.size by rw [HWA.out.2.2]; exact Nat.le_refl _))
            clear hbq)
         | (have HR := Lib.hid (hr.lower (show W.heap.size ≤ W.drew.heap.size from Nat.le_refl _)))
         have hbA := HBW.out.trans (hbW.mono HBW.out.size)
         obtain ⟨g0, g1, g2, g3⟩ := (HAL.out _ hbA).1.facts
         obtain ⟨e0, e1, e2, e3, e4, e5⟩ := (HAL.out _ hbA).2.1.facts
         obtain ⟨c0, c1, c2, c3, c4, c5⟩ := (HAL.out _ hbA).2.2.2.1
         have hs := HSW.out
         have hsz := hbW.size
         have n1 : ¬ w.heap.size = w5.heap.size := by omega
         have n2 : ¬ w5.heap.size = w.heap.size := by omega
         have n3 : ¬ w.heap.size + 1 = w5.heap.size := by omega
         have n4 : ¬ w5.heap.size = w.heap.size + 1 := by omega
         have n5 : ¬ b0 = w5.heap.size := by have h9 := HLT.out; omega
         have n6 : ¬ w5.heap.size = b0 := by have h9 := HLT.out; omega
         have HW5 := Lib.hid hbW
         clear hs hr hb hbW hbA))
    all_goals
      go_wp2_with fail
      go_meet
      first
      | exact ⟨_, z, cc, rfl, rfl, Lib.hid (SAt.put KN.out HR.out (Nat.le_refl _) (Nat.lt_succ_self _) HW5.out)⟩
      | exact ⟨_, z, cc, rfl, rfl, Lib.hid (SAt.new HR.out (Nat.le_refl _) HW5.out)⟩
  case rest =>
    obtain ⟨lb, z, cc, rfl, rfl, HL⟩ := hcut
    have HK := Lib.hid (HAL.out _ HL.out.below)
    have hsz := HL.out.below.size
    obtain ⟨e0, e1, e2, e3, e4, e5⟩ := HK.out.2.1.facts
    obtain ⟨l0, l1, l2, l3, l4⟩ := HL.out.cell.facts
    have h8 := HL.out.res
    obtain ⟨r, hr⟩ : ∃ r, r = ra := ⟨_, rfl⟩
    rw [← hr] at h8
    cases r with
    | err e =>
      obtain ⟨z0, z1, z2, z3, z4⟩ := HK.out.2.2.1.facts
      obtain ⟨t0, t1, t2, t3, t4⟩ := HK.out.2.2.1.thaw
      have HR := Lib.hid hr
      have h9 := HEA.out _ hr.symm
      have hcc : cc = (e : Int) := h8
      clear hr h8
      rcases h9 with rfl | rfl | rfl
      all_goals
        subst hcc
        go_wp2
        refine ret5t (fn := Tryz.f28) Tryz.results28 rfl rfl rfl (HK.out.2.2.1.put _ _ _ _ _) ?_
        refine ⟨HK.out.2.2.2.2.2.trans (put5_below (by omega) _ _ _ _ _), ?_⟩
        rw [← HR.out]
        exact ⟨Kz, rfl⟩
    | ok L q =>
      obtain ⟨rfl, h8⟩ := h8
      have HR := Lib.hid hr
      have HC := Lib.hid h8
      have h7 := HSA.out
      rw [← hr] at h7
      have HSZ : Hid (SzS n L q) := h7
      clear hr h8 h7
      obtain ⟨z0, z1, z2, z3, z4⟩ := HK.out.2.2.1.facts
      obtain ⟨t0, t1, t2, t3, t4⟩ := HK.out.2.2.1.thaw
      go_wp2_with fail
      refine (minus_c z L q _ (HC.out.cw (HSZ.out.row.more (by have := HNM.out; omega)) (HSZ.out.num.more (by have := HNM.out; omega))) (by rw [HC.out.len]; have := HSZ.out.len; have := HNM.out; omega)).mono ?_
      rintro e w2 ⟨z', rfl, hz, hb⟩
      have kz2 := HK.out.2.2.1.below hb
      have hB2 := HK.out.2.2.2.2.2.trans (hb.mono HK.out.2.2.2.2.2.size)
      have HZ := Lib.hid (hz.lower (show w.heap.size + 3 ≤ wc.heap.size by have := HSW.out; omega))
      clear e0 e1 e2 e3 e4 e5 l0 l1 l2 l3 l4 z0 z1 z2 z3 z4 t0 t1 t2 t3 t4 hb hz hsz
      obtain ⟨q0, q1, q2, q3, q4⟩ := kz2.facts
      obtain ⟨t0, t1, t2, t3, t4⟩ := kz2.thaw
      go_wp2
      refine ret5t (fn := Tryz.f28) Tryz.results28 rfl rfl rfl (kz2.put _ _ _ _ _) ?_
      refine ⟨hB2.trans (put5_below (by omega) _ _ _ _ _), ?_⟩
      rw [← HR.out]
      exact ⟨z', rfl, (HZ.out.put (by omega) _ _ _ _ _).lower (by omega)⟩
end Go.Proofs.YtdpbceipiappjaaGreatDoor
