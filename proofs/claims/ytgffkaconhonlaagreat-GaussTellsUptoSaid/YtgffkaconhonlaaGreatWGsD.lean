/-
  A sum in lowest whole numbers.
-/
import Derived.Test.YtgffkaconhonlaaGreatWGsC
import Derived.Test.YtgffkaconhonlaaGreatWCRow
import Derived.Test.YtgffkaconhonlaaGreatWRgn
namespace Go.Proofs.YtgffkaconhonlaaGreat
set_option maxRecDepth 20000
open Go.RowKit
theorem put3_grown (w : World) (b : Nat) (x y z : Value) : w.grownBy (put3 w b x y z) (some b) := by
 have h1 : ∀ (w : World) (j : Nat) (x : Value), w.grownBy (w.setCell ⟨b, j, none⟩ x) (some b) := fun w j x => ⟨rfl, rfl, rfl, by simp [World.setCell], fun k _ hk => heap_setCell_other w ⟨b, j, none⟩ k x (fun e => hk (by simp [e]))⟩
 exact ((h1 w 0 x).trans (h1 _ 1 y)).trans (h1 _ 2 z)
theorem openKz (w : World) (v : Cv) (W : World) (h : (w.alloc (.cells #[.int .i64 v.s, .slice v.A v.n v.c, .bool v.K.s, .slice v.K.A v.K.n v.K.c, .slice v.K.B v.K.m v.K.d] 28)).alloc (.cells #[.int .i64 0, .slice none 0 0, .bool false, .slice none 0 0, .slice none 0 0] 28) = W) :
  C5 W w.heap.size (.int .i64 v.s) (.slice v.A v.n v.c) (.bool v.K.s) (.slice v.K.A v.K.n v.K.c) (.slice v.K.B v.K.m v.K.d) ∧ C5 W (w.heap.size + 1) (.int .i64 0) (.slice none 0 0) (.bool false) (.slice none 0 0) (.slice none 0 0) ∧ Below w.heap.size w W ∧ W.heap.size = w.heap.size + 2 := by
 subst h
 have e1 : (w.alloc (.cells #[.int .i64 v.s, .slice v.A v.n v.c, .bool v.K.s, .slice v.K.A v.K.n v.K.c, .slice v.K.B v.K.m v.K.d] 28)).heap.size = w.heap.size + 1 := by simp
 refine ⟨(C5.new w (.int .i64 v.s) (.slice v.A v.n v.c) (.bool v.K.s) (.slice v.K.A v.K.n v.K.c) (.slice v.K.B v.K.m v.K.d)).alloc _, ?_, ((Below.refl w.heap.size w).alloc (Nat.le_refl _) _).alloc (by simp) _, by simp⟩
 have := C5.new (w.alloc (.cells #[.int .i64 v.s, .slice v.A v.n v.c, .bool v.K.s, .slice v.K.A v.K.n v.K.c, .slice v.K.B v.K.m v.K.d] 28)) (.int .i64 0) (.slice none 0 0) (.bool false) (.slice none 0 0) (.slice none 0 0)
 rw [e1] at this; exact this
structure LowAt (w W wr : World) (X d E p : Nat) (L : List (Int × Rat)) (i : Nat) (u : Rat) (z : Rv) : Prop where
 at_ : UAt d E L i u
 cell : C3 wr X (.bool z.s) (.slice z.A z.n z.c) (.slice z.B z.m z.d)
 num : Rw wr z u p
 grown : W.grownBy wr (some X)
theorem LowAt.below {w W wr : World} {X d E p i : Nat} {L : List (Int × Rat)} {u : Rat} {z : Rv} (h : LowAt w W wr X d E p L i u z) (hb : Below w.heap.size w W) (hX : w.heap.size ≤ X) : Below w.heap.size w wr :=
 hb.trans ⟨h.grown.os, h.grown.tape, h.grown.output, h.grown.size, fun q hq => h.grown.block q (by have := hb.size; omega) (fun e => by injection e with e; omega)⟩
theorem LowAt.next {w W wr wa w2 : World} {X d E p i lo : Nat} {L : List (Int × Rat)} {u : Rat} {z z2 : Rv} {y : Int × Rat} (h : LowAt w W wr X d E p L i u z) (ha : Below wr.heap.size wr wa) (hb : Below wa.heap.size wa w2) (hz : Rt w2 lo z2 (com u y.2)) (hlo : X < lo) (hy : L[i]? = some y) (hf : Fd d E y.2) (hd : 0 < d) (hdE : d ≤ E) (hp : Bd E p) :
  LowAt w W (put3 w2 X (.bool z2.s) (.slice z2.A z2.n z2.c) (.slice z2.B z2.m z2.d)) X d E p L (i + 1) (com u y.2) z2 := by
 have h1 := h.at_.step hd hy hf hp (by omega)
 have hb2 : Below wr.heap.size wr w2 := ha.trans (hb.mono ha.size)
 exact ⟨h1, (h.cell.below hb2).put _ _ _, (hz.put hlo _ _ _).rw (h1.fd.sz hd hdE hp), (h.grown.trans (grown_row hb2 _)).trans (put3_grown _ _ _ _ _)⟩
set_option maxHeartbeats 12800000 in
theorem inLowest_c (va : Cv) (v : Int) (q k : Rat) (l : List (Int × Rat)) (E p : Nat) (w : World) (ha : Cw w va ((v, q) :: l) k p) (hq : q ≠ 0) (hF : Fr E ((v, q) :: l) k) (hE : Bd E p) (hn : va.n ≤ 400) (hp : p ≤ 1000000000) :
  Calls Tryz.prog 98 #[.agg #[.int .i64 va.s, .slice va.A va.n va.c, .bool va.K.s, .slice va.K.A va.K.n va.K.c, .slice va.K.B va.K.m va.K.d]] w fun e w' => ∃ (z : Cv) (t : Rat), e = .returned (.agg #[.int .i64 z.s, .slice z.A z.n z.c, .bool z.K.s, .slice z.K.A z.K.n z.K.c, .slice z.K.B z.K.m z.K.d]) ∧ t ≠ 0 ∧ z.s = va.s ∧ z.n ≤ va.n ∧ Ct w' w.heap.size z (scaleL t ((v, q) :: l)) (k * t) ∧ Wh E (scaleL t ((v, q) :: l)) (k * t) ∧ Below w.heap.size w w' := by
 obtain ⟨d, hd, hdE, hL, hk⟩ := hF
 obtain ⟨na, ba, oa, xa, eA, hba, hxa, _, hxar⟩ := ha.first
 obtain ⟨hcap, ⟨la, hT, hR⟩, hK⟩ := ha
 have n0 : (0 : Int) < (va.n : Int) := by omega
 have n1 : (1 : Int) ≤ (va.n : Int) := by omega
 have n9 : (va.n : Int) ≤ 400 := by omega
 have EA := Lib.hid eA
 have HFR := Lib.hid (And.intro hd (And.intro hdE (And.intro hL (And.intro hk hE))))
 have HQ := Lib.hid hq
 have HLA : Hid (la.length = va.n ∧ la.length = ((v, q) :: l).length) := ⟨hT.len, hR.len⟩
 clear eA hd hdE hL hk hE hq
 go_enter Tryz.func98, Tryz.ntmps98
 go_upto_region 1 with fail
 generalize hW : (w.alloc (.cells #[.int .i64 va.s, .slice va.A va.n va.c, .bool va.K.s, .slice va.K.A va.K.n va.K.c, .slice va.K.B va.K.m va.K.d] 28)).alloc (.cells #[.int .i64 0, .slice none 0 0, .bool false, .slice none 0 0, .slice none 0 0] 28) = W
 obtain ⟨ka, kz, HW, hsW⟩ := openKz w va W hW
 clear hW
 obtain ⟨_, a1, _, _, _⟩ := ka.facts
 rw [EA.out] at a1
 obtain ⟨_, x1, x2, x3⟩ := hxa.keep (HW.block ba hba)
 have hbaW : ba < W.heap.size := Nat.lt_of_lt_of_le hba HW.size
 have HL0 : Hid (LowAt w (W.alloc (.cells #[.bool xa.r.s, .slice xa.r.A xa.r.n xa.r.c, .slice xa.r.B xa.r.m xa.r.d] 26)) (W.alloc (.cells #[.bool xa.r.s, .slice xa.r.A xa.r.n xa.r.c, .slice xa.r.B xa.r.m xa.r.d] 26)) W.heap.size d E p ((v, q) :: l) 1 q xa.r) := ⟨UAt.start HQ.out (HFR.out.2.2.1 _ List.mem_cons_self), C3.new W (.bool xa.r.s) (.slice xa.r.A xa.r.n xa.r.c) (.slice xa.r.B xa.r.m xa.r.d), (hxar.below HW).alloc _, grown_refl _ _⟩
 have HK : Hid (C5 (W.alloc (.cells #[.bool xa.r.s, .slice xa.r.A xa.r.n xa.r.c, .slice xa.r.B xa.r.m xa.r.d] 26)) w.heap.size (.int .i64 va.s) (.slice va.A va.n va.c) (.bool va.K.s) (.slice va.K.A va.K.n va.K.c) (.slice va.K.B va.K.m va.K.d) ∧ C5 (W.alloc (.cells #[.bool xa.r.s, .slice xa.r.A xa.r.n xa.r.c, .slice xa.r.B xa.r.m xa.r.d] 26)) (w.heap.size + 1) (.int .i64 0) (.slice none 0 0) (.bool false) (.slice none 0 0) (.slice none 0 0) ∧ Below w.heap.size w (W.alloc (.cells #[.bool xa.r.s, .slice xa.r.A xa.r.n xa.r.c, .slice xa.r.B xa.r.m xa.r.d] 26)) ∧ W.heap.size = w.heap.size + 2 ∧ (W.alloc (.cells #[.bool xa.r.s, .slice xa.r.A xa.r.n xa.r.c, .slice xa.r.B xa.r.m xa.r.d] 26)).heap.size = w.heap.size + 3) := ⟨ka.alloc _, kz.alloc _, HW.alloc HW.size _, hsW, by simp; omega⟩
 have HIN := Lib.hid (And.intro hT (And.intro hR hK))
 have HXE := Lib.hid hsW
 have hc1 : (va.n : Int) ≤ (va.c : Int) := by omega
 have hc0 : (1 : Int) ≤ (va.c : Int) := by omega
 clear ka kz HW hxa hxar hT hR hK hsW
 have hne1 : ¬ w.heap.size = W.heap.size := by have := HXE.out; omega
 have hne2 : ¬ W.heap.size = w.heap.size := fun e => hne1 e.symm
 go_upto_region 2 with fail
 clear a1 x1 x2 x3
 obtain ⟨X, hXe⟩ : ∃ X, X = W.heap.size := ⟨_, rfl⟩
 rw [← hXe] at HL0
 rw [← hXe]
 have HXX : Hid (w.heap.size ≤ X ∧ X = w.heap.size + 2) := by show _ ∧ _; have := HXE.out; omega
 have HBX : Hid (ba < W.heap.size) := hbaW
 clear hXe hbaW hne1 hne2
 generalize (W.alloc (.cells #[.bool xa.r.s, .slice xa.r.A xa.r.n xa.r.c, .slice xa.r.B xa.r.m xa.r.d] 26)) = WX at *
 have a1 := (HK.out.1.facts).2.1
 rw [EA.out] at a1
 go_cut [15, 16, 17] from 13 (fun sv nv iv wx => ∃ A2 : Option Addr, sv = .slice A2 (va.n - 1) (va.c - 1) ∧ nv = .int .i64 ((va.n - 1 : Nat) : Int) ∧ iv = .int .i64 0 ∧ WX = wx ∧ Hid (1 < va.n → A2 = some ⟨ba, oa + 4, none⟩))
 case first =>
  by_cases hcc : va.c = 1
  ·
   clear HL0 HK HIN HLA EA
   obtain ⟨vs, vA, vn, vc, vK⟩ := va
   dsimp only at *
   subst hcc
   go_wp2
   go_meet
   exact ⟨some ⟨ba, oa, none⟩, by rw [show vn - 1 = 0 by omega], by rw [show vn - 1 = 0 by omega]; rfl, rfl, rfl, Lib.hid (fun h => by exfalso; omega)⟩
  ·
   go_wp2
   go_meet
   exact ⟨_, rfl, rfl, rfl, rfl, Lib.hid (fun _ => rfl)⟩
 case rest =>
  obtain ⟨A2, rfl, rfl, rfl, rfl, HA2⟩ := hcut
  clear a1
  have HKB := HK
  go_wp2_with fail
  go_loopw [17] (fun iv wr => ∃ i : Nat, i ≤ va.n - 1 ∧ iv = .int .i64 i ∧ ∃ (u : Rat) (z : Rv), Hid (LowAt w WX wr X d E p ((v, q) :: l) (i + 1) u z)) (fun iv _ => va.n - (intOf iv).toNat)
  case atStart => exact ⟨0, by omega, rfl, _, _, HL0⟩
  case round =>
   clear HL0
   obtain ⟨i, hi, rfl, HLL⟩ := hrel
   have i0 : (0 : Int) ≤ (i : Int) := by omega
   by_cases hlt : i < va.n - 1
   ·
    have i1 : (i : Int) < ((va.n - 1 : Nat) : Int) := by omega
    obtain ⟨u, z, HL⟩ := HLL
    have hlen := HLA.out
    obtain ⟨x, y, hx, hy, hxv, hxr⟩ := HIN.out.2.1.get (i + 1) (by omega)
    obtain ⟨b2, off2, e2, _, hb2, hc2⟩ := HIN.out.1.mem (by omega)
    have e3 := EA.out.symm.trans e2
    injection e3 with e3
    injection e3 with e3 e4 _
    subst e3 e4
    have HBW := Lib.hid (HL.out.below HKB.out.2.2.1 HXX.out.1)
    have hx4 := (hc2 (i + 1) x hx).keep (HBW.out.block _ hb2)
    rw [show oa + (i + 1) * 4 = oa + 4 + i * 4 by omega] at hx4
    rw [HA2.out (by omega)]
    obtain ⟨x0, x1, x2, x3⟩ := hx4
    have HY := Lib.hid hy
    have HYF := Lib.hid (HFR.out.2.2.1 y (List.mem_of_getElem? hy))
    have HXR := Lib.hid (hxr.below HBW.out)
    have hsW := HL.out.grown.size
    have HSW := Lib.hid hsW
    obtain ⟨z0, z1, z2, t0, t1, t2⟩ := HL.out.cell.facts
    obtain ⟨_, _, _, _, g5, g6⟩ := com_fd HFR.out.1 HL.out.at_.fd HYF.out HL.out.at_.ne HFR.out.2.2.2.2 (by have := HFR.out.1; have := HFR.out.2.1; omega)
    have HG := Lib.hid (And.intro g5 g6)
    have hXlt : X < wr.heap.size := HL.out.cell.lt
    clear hx hy hxv hxr hb2 hc2 e2 hlen g5 g6 hsW
    go_wp2_with fail
    have hb0 : Below wr.heap.size wr (wr.alloc (.cells #[.int .i64 x.v, .bool x.r.s, .slice x.r.A x.r.n x.r.c, .slice x.r.B x.r.m x.r.d] 47)) := (Below.refl _ _).alloc (Nat.le_refl _) _
    refine (common_c z x.r u y.2 p _ (HL.out.num.below hb0) (HXR.out.below hb0) HL.out.at_.ne HG.out.1 HG.out.2 (by omega)).mono ?_
    rintro ee w2 ⟨z2', rfl, hz, hb⟩
    have HST := Lib.hid (LowAt.next HL.out hb0 hb hz (by have := hb0.size; omega) HY.out HYF.out HFR.out.1 HFR.out.2.1 HFR.out.2.2.2.2)
    have kx := (HL.out.cell.below hb0).below hb
    obtain ⟨z0, z1, z2, t0, t1, t2⟩ := kx.facts
    clear hb0 hb hz kx x0 x1 x2 x3
    go_wp2
    go_roundw
    case rel => exact ⟨i + 1, by omega, by go_num, _, z2', HST⟩
    case measure => simp [intOf]; omega
   ·
    have i1 : ¬ (i : Int) < ((va.n - 1 : Nat) : Int) := by omega
    obtain ⟨u, z, HL⟩ := HLL
    obtain rfl : i = va.n - 1 := by omega
    go_upto_region 7 with fail
    have HAT : Hid (UAt d E ((v, q) :: l) ((v, q) :: l).length u) := by
     have h1 := HL.out.at_
     rw [show va.n - 1 + 1 = ((v, q) :: l).length by have := HLA.out; omega] at h1
     exact h1
    have HSZ : Hid (u ≠ 0 ∧ Sz (k / u) p ∧ Sz (dd (k / u)) p ∧ Sz (com u k) p ∧ com u k ≠ 0 ∧ Sz (1 / com u k) (p + 1) ∧ 1 / com u k ≠ 0 ∧ Wh E (scaleL (1 / com u k) ((v, q) :: l)) (k * (1 / com u k))) := by
     have h1 := HFR.out
     obtain ⟨_, _, _, _, g5, g6⟩ := com_fd h1.1 HAT.out.fd h1.2.2.2.1 HAT.out.ne h1.2.2.2.2 (by omega)
     obtain ⟨g1, g2, g3, g4, g7⟩ := HAT.out.last h1.1 h1.2.1 h1.2.2.1 h1.2.2.2.1 h1.2.2.2.2
     exact ⟨HAT.out.ne, g5, g6, g1, g2, g3, g4, g7⟩
    have HBW := Lib.hid (HL.out.below HKB.out.2.2.1 HXX.out.1)
    have HKW : Hid (C5 wr w.heap.size (.int .i64 va.s) (.slice va.A va.n va.c) (.bool va.K.s) (.slice va.K.A va.K.n va.K.c) (.slice va.K.B va.K.m va.K.d) ∧ C5 wr (w.heap.size + 1) (.int .i64 0) (.slice none 0 0) (.bool false) (.slice none 0 0) (.slice none 0 0)) := by
     have h2 := HXX.out.2
     have h3 := HKB.out.2.2.2.2
     exact ⟨(HL.out.grown.block _ (by omega) (fun e => by injection e with e; omega)).trans HKB.out.1, (HL.out.grown.block _ (by omega) (fun e => by injection e with e; omega)).trans HKB.out.2.1⟩
    have HUZ : Hid (∀ w', Below wr.heap.size wr w' → Rw w' z u p) := fun w' h => HL.out.num.below h
    have HKK : Hid (∀ w', Below wr.heap.size wr w' → Rw w' va.K k p) := fun w' h => (HIN.out.2.2.below HBW.out).below h
    have HLT : Hid (X < wr.heap.size ∧ w.heap.size < wr.heap.size) := ⟨HL.out.cell.lt, HKW.out.1.lt⟩
    have HAL7 : Hid (∀ w', Below wr.heap.size wr w' → (w'.cell? ⟨X, 0, none⟩ = some (.bool z.s) ∧ w'.cell? ⟨X, 1, none⟩ = some (.slice z.A z.n z.c) ∧ w'.cell? ⟨X, 2, none⟩ = some (.slice z.B z.m z.d) ∧ w'.frozen? ⟨X, 0, none⟩ = false ∧ w'.frozen? ⟨X, 1, none⟩ = false ∧ w'.frozen? ⟨X, 2, none⟩ = false) ∧ (w'.cell? ⟨w.heap.size, 0, none⟩ = some (.int .i64 va.s) ∧ w'.cell? ⟨w.heap.size, 1, none⟩ = some (.slice va.A va.n va.c) ∧ w'.cell? ⟨w.heap.size, 2, none⟩ = some (.bool va.K.s) ∧ w'.cell? ⟨w.heap.size, 3, none⟩ = some (.slice va.K.A va.K.n va.K.c) ∧ w'.cell? ⟨w.heap.size, 4, none⟩ = some (.slice va.K.B va.K.m va.K.d))) := fun w' h => ⟨(HL.out.cell.below h).facts, (HKW.out.1.below h).facts⟩
    obtain ⟨⟨x0, x1, x2, _, _, _⟩, ⟨_, _, a2, a3, a4⟩⟩ := HAL7.out _ (Below.refl _ _)
    go_cut [6] from 26 (fun xv wx => ∃ (Y : Nat) (t : Rv), xv = .pointer (some ⟨Y, 0, none⟩) ∧ Hid (OneAt wr wx Y t (1 / com u k)))
    case first =>
      refine wp_region_held_drew (S := fun w' => w'.cell? ⟨X, 0, none⟩ = some (.bool z.s) ∧ w'.cell? ⟨X, 1, none⟩ = some (.slice z.A z.n z.c) ∧ w'.cell? ⟨X, 2, none⟩ = some (.slice z.B z.m z.d) ∧ w'.cell? ⟨w.heap.size, 2, none⟩ = some (.bool va.K.s) ∧ w'.cell? ⟨w.heap.size, 3, none⟩ = some (.slice va.K.A va.K.n va.K.c) ∧ w'.cell? ⟨w.heap.size, 4, none⟩ = some (.slice va.K.B va.K.m va.K.d)) (by kernel_rfl) ?_ (fun hHeld => ?_)
      ·
       (try dsimp only)
       go_keep
      refine tk (i := 1) (h := ?_)
      try simp only [zR]
      refine tk (i := 2) (h := ?_)
      try simp only [zR]
      refine tk (i := 3) (h := ?_)
      try simp only [zR]
      refine tr [0, 9] ?_
      refine tc (h := fun K hK => ?_) (hs := tc (h := fun K hK => ?_) (hs := tn))
      ·
       skip
       try go_simp
       go_at_call 41
       refine (Int_any 1 _ (by omega)).mono ?_
       rintro e w4 ⟨z4, rfl, hz4, hb⟩
       have HZ4 := Lib.hid (hz4.rw one_sz)
       clear hz4
       have Hw4 := Lib.hid ((bel1 wr).trans hb)
       clear hb
       clear x0 x1 x2 a2 a3 a4
       obtain ⟨⟨x0, x1, x2, _, _, _⟩, ⟨_, _, a2, a3, a4⟩⟩ := HAL7.out _ Hw4.out
       try go_wp2_with fail
       refine hK.out _ _ ?_ (fun hHeld => ?_)
       · (try dsimp only); go_keep
       clear hK K
       try simp only [zR]
       refine tr [4, 9] ?_
       refine tc (h := fun K hK => ?_) (hs := tc (h := fun K hK => ?_) (hs := tn))
       ·
        skip
        try go_simp
        go_at_call 117
        refine (common_c z va.K u k p _ ((HUZ.out _ Hw4.out)) (HKK.out _ Hw4.out) HSZ.out.1 HSZ.out.2.1 HSZ.out.2.2.1 (by omega)).mono ?_
        rintro e w5 ⟨z5, rfl, hz5, hb⟩
        have HZ5 := Lib.hid (And.intro (hz5.rw HSZ.out.2.2.2.1) ((HZ4.out.below hb)))
        clear hz5
        have Hw5 := Lib.hid (Hw4.out.trans (hb.mono Hw4.out.size))
        clear hb
        clear x0 x1 x2 a2 a3 a4
        obtain ⟨⟨x0, x1, x2, _, _, _⟩, ⟨_, _, a2, a3, a4⟩⟩ := HAL7.out _ Hw5.out
        try go_wp2_with fail
        refine hK.out _ _ ?_ (fun hHeld => ?_)
        · (try dsimp only); go_keep
        clear hK K
        try simp only [zR]
        refine tr [5, 9] ?_
        refine tc (h := fun K hK => ?_) (hs := tc (h := fun K hK => ?_) (hs := tn))
        ·
         skip
         try go_simp
         go_at_call 42
         refine (Div_c z4 z5 1 (com u k) _ (Rw.more (HZ5.out.2) (by omega)) (Rw.more (HZ5.out.1) (by omega)) HSZ.out.2.2.2.2.1).mono ?_
         rintro e w6 ⟨t, rfl, ht, hb⟩
         have Ht := Lib.hid ht
         have HLw6 := Lib.hid (Hw5.out.size)
         clear ht
         have Hw6 := Lib.hid (Hw5.out.trans (hb.mono Hw5.out.size))
         clear hb
         clear x0 x1 x2 a2 a3 a4
         obtain ⟨⟨x0, x1, x2, _, _, _⟩, ⟨_, _, a2, a3, a4⟩⟩ := HAL7.out _ Hw6.out
         have m0a : ¬ X = w6.heap.size := by have := HLT.out.1; have := Hw6.out.size; omega
         have m0b : ¬ w6.heap.size = X := fun e => m0a e.symm
         have m1a : ¬ w.heap.size = w6.heap.size := by have := HLT.out.2; have := Hw6.out.size; omega
         have m1b : ¬ w6.heap.size = w.heap.size := fun e => m1a e.symm
         try go_wp2_with fail
         refine hK.out _ _ ?_ (fun hHeld => ?_)
         · (try dsimp only); go_keep
         clear hK K
         try simp only [zR]
         refine tk (i := 6) (h := ?_)
         try simp only [zR]
         refine tk (i := 7) (h := ?_)
         try simp only [zR]
         refine tk (i := 8) (h := ?_)
         try simp only [zR]
         refine tr [9] ?_
         refine tc (h := fun K hK => ?_) (hs := tn)
         try go_simp
         try go_wp2_with fail
         refine hK.out _ _ ?_ (fun hHeld => ?_)
         · (try dsimp only); go_keep
         clear hK K
         try simp only [zR]
         refine tr [10] ?_
         refine tc (h := fun K hK => ?_) (hs := tn)
         try go_simp
         try go_wp2_with fail
         refine hK.out _ _ ?_ (fun hHeld => ?_)
         · (try dsimp only); go_keep
         clear hK K
         try simp only [zR]
         refine tk (i := 11) (h := ?_)
         try simp only [zR]
         refine wpAnyH_done (by kernel_rfl) ?_ _
         go_wp2_with fail
         go_meet
         exact ⟨_, t, rfl, Lib.hid (OneAt.new Hw6.out Ht.out HLw6.out)⟩
        ·
         skip
         try go_simp
         try go_wp2_with fail
         refine hK.out _ _ ?_ (fun hHeld => ?_)
         · (try dsimp only); go_keep
         clear hK K
         try simp only [zR]
         refine tr [5] ?_
         refine tc (h := fun K hK => ?_) (hs := tn)
         try go_simp
         go_at_call 42
         refine (Div_c z4 z5 1 (com u k) _ (Rw.more (HZ5.out.2.alloc (.cells #[.bool false, .slice none 0 0, .slice none 0 0] 26)) (by omega)) (Rw.more (HZ5.out.1.alloc (.cells #[.bool false, .slice none 0 0, .slice none 0 0] 26)) (by omega)) HSZ.out.2.2.2.2.1).mono ?_
         rintro e w6 ⟨t, rfl, ht, hb⟩
         have Ht := Lib.hid ht
         have HLw6 := Lib.hid ((by simp : w5.heap.size < (w5.alloc (.cells #[.bool false, .slice none 0 0, .slice none 0 0] 26)).heap.size))
         clear ht
         have Hw6 := Lib.hid (one_al3 Hw5.out hb)
         have HXw6 := Lib.hid (And.intro Hw5.out.size hb.size)
         clear hb
         clear x0 x1 x2 a2 a3 a4
         obtain ⟨⟨x0, x1, x2, _, _, _⟩, ⟨_, _, a2, a3, a4⟩⟩ := HAL7.out _ Hw6.out.1
         obtain ⟨q0, q1, q2, t0, t1, t2⟩ := Hw6.out.2.facts
         have m0a : ¬ X = w5.heap.size := by have := HLT.out.1; have := HXw6.out.1; omega
         have m0b : ¬ w5.heap.size = X := fun e => m0a e.symm
         have m1a : ¬ w.heap.size = w5.heap.size := by have := HLT.out.2; have := HXw6.out.1; omega
         have m1b : ¬ w5.heap.size = w.heap.size := fun e => m1a e.symm
         try go_wp2_with fail
         refine hK.out _ _ ?_ (fun hHeld => ?_)
         · (try dsimp only); go_keep
         clear hK K
         try simp only [zR]
         refine tk (i := 6) (h := ?_)
         try simp only [zR]
         refine tk (i := 7) (h := ?_)
         try simp only [zR]
         refine tk (i := 8) (h := ?_)
         try simp only [zR]
         refine tr [10] ?_
         refine tc (h := fun K hK => ?_) (hs := tn)
         try go_simp
         try go_wp2_with fail
         refine hK.out _ _ ?_ (fun hHeld => ?_)
         · (try dsimp only); go_keep
         clear hK K
         try simp only [zR]
         refine tk (i := 11) (h := ?_)
         try simp only [zR]
         refine wpAnyH_done (by kernel_rfl) ?_ _
         go_wp2_with fail
         go_meet
         exact ⟨_, t, rfl, Lib.hid (OneAt.put Hw6.out.2 HXw6.out.1 HLw6.out Hw6.out.1 Ht.out)⟩
       ·
        skip
        try go_simp
        try go_wp2_with fail
        refine hK.out _ _ ?_ (fun hHeld => ?_)
        · (try dsimp only); go_keep
        clear hK K
        try simp only [zR]
        refine tr [4] ?_
        refine tc (h := fun K hK => ?_) (hs := tn)
        try go_simp
        go_at_call 117
        refine (common_c z va.K u k p _ ((HUZ.out _ (Hw4.out.alloc Hw4.out.size (.cells #[.bool false, .slice none 0 0, .slice none 0 0] 26)))) (HKK.out _ (Hw4.out.alloc Hw4.out.size (.cells #[.bool false, .slice none 0 0, .slice none 0 0] 26))) HSZ.out.1 HSZ.out.2.1 HSZ.out.2.2.1 (by omega)).mono ?_
        rintro e w5 ⟨z5, rfl, hz5, hb⟩
        have HZ5 := Lib.hid (And.intro (hz5.rw HSZ.out.2.2.2.1) (((HZ4.out.alloc (.cells #[.bool false, .slice none 0 0, .slice none 0 0] 26)).below hb)))
        clear hz5
        have Hw5 := Lib.hid (one_al3 Hw4.out hb)
        have HXw5 := Lib.hid (And.intro Hw4.out.size hb.size)
        clear hb
        clear x0 x1 x2 a2 a3 a4
        obtain ⟨⟨x0, x1, x2, _, _, _⟩, ⟨_, _, a2, a3, a4⟩⟩ := HAL7.out _ Hw5.out.1
        try go_wp2_with fail
        refine hK.out _ _ ?_ (fun hHeld => ?_)
        · (try dsimp only); go_keep
        clear hK K
        try simp only [zR]
        refine tr [5] ?_
        refine tc (h := fun K hK => ?_) (hs := tn)
        try go_simp
        go_at_call 42
        refine (Div_c z4 z5 1 (com u k) _ (Rw.more (HZ5.out.2) (by omega)) (Rw.more (HZ5.out.1) (by omega)) HSZ.out.2.2.2.2.1).mono ?_
        rintro e w6 ⟨t, rfl, ht, hb⟩
        have Ht := Lib.hid ht
        have HLw6 := Lib.hid (Hw5.out.2.lt)
        clear ht
        have Hw6 := Lib.hid (And.intro (Hw5.out.1.trans (hb.mono Hw5.out.1.size)) (Hw5.out.2.below hb))
        clear hb
        clear x0 x1 x2 a2 a3 a4
        obtain ⟨⟨x0, x1, x2, _, _, _⟩, ⟨_, _, a2, a3, a4⟩⟩ := HAL7.out _ Hw6.out.1
        obtain ⟨q0, q1, q2, t0, t1, t2⟩ := Hw6.out.2.facts
        have m0a : ¬ X = w4.heap.size := by have := HLT.out.1; have := HXw5.out.1; omega
        have m0b : ¬ w4.heap.size = X := fun e => m0a e.symm
        have m1a : ¬ w.heap.size = w4.heap.size := by have := HLT.out.2; have := HXw5.out.1; omega
        have m1b : ¬ w4.heap.size = w.heap.size := fun e => m1a e.symm
        try go_wp2_with fail
        refine hK.out _ _ ?_ (fun hHeld => ?_)
        · (try dsimp only); go_keep
        clear hK K
        try simp only [zR]
        refine tk (i := 6) (h := ?_)
        try simp only [zR]
        refine tk (i := 7) (h := ?_)
        try simp only [zR]
        refine tk (i := 8) (h := ?_)
        try simp only [zR]
        refine tr [10] ?_
        refine tc (h := fun K hK => ?_) (hs := tn)
        try go_simp
        try go_wp2_with fail
        refine hK.out _ _ ?_ (fun hHeld => ?_)
        · (try dsimp only); go_keep
        clear hK K
        try simp only [zR]
        refine tk (i := 11) (h := ?_)
        try simp only [zR]
        refine wpAnyH_done (by kernel_rfl) ?_ _
        go_wp2_with fail
        go_meet
        exact ⟨_, t, rfl, Lib.hid (OneAt.put Hw6.out.2 HXw5.out.1 HLw6.out Hw6.out.1 Ht.out)⟩
      ·
       skip
       try go_simp
       try go_wp2_with fail
       refine hK.out _ _ ?_ (fun hHeld => ?_)
       · (try dsimp only); go_keep
       clear hK K
       try simp only [zR]
       refine tr [0] ?_
       refine tc (h := fun K hK => ?_) (hs := tn)
       try go_simp
       go_at_call 41
       refine (Int_any 1 _ (by omega)).mono ?_
       rintro e w4 ⟨z4, rfl, hz4, hb⟩
       have HZ4 := Lib.hid (hz4.rw one_sz)
       clear hz4
       have Hw4 := Lib.hid (one_al hb)
       clear hb
       clear x0 x1 x2 a2 a3 a4
       obtain ⟨⟨x0, x1, x2, _, _, _⟩, ⟨_, _, a2, a3, a4⟩⟩ := HAL7.out _ Hw4.out.1
       try go_wp2_with fail
       refine hK.out _ _ ?_ (fun hHeld => ?_)
       · (try dsimp only); go_keep
       clear hK K
       try simp only [zR]
       refine tr [4] ?_
       refine tc (h := fun K hK => ?_) (hs := tn)
       try go_simp
       go_at_call 117
       refine (common_c z va.K u k p _ ((HUZ.out _ Hw4.out.1)) (HKK.out _ Hw4.out.1) HSZ.out.1 HSZ.out.2.1 HSZ.out.2.2.1 (by omega)).mono ?_
       rintro e w5 ⟨z5, rfl, hz5, hb⟩
       have HZ5 := Lib.hid (And.intro (hz5.rw HSZ.out.2.2.2.1) ((HZ4.out.below hb)))
       clear hz5
       have Hw5 := Lib.hid (one_al2 Hw4.out hb)
       clear hb
       clear x0 x1 x2 a2 a3 a4
       obtain ⟨⟨x0, x1, x2, _, _, _⟩, ⟨_, _, a2, a3, a4⟩⟩ := HAL7.out _ Hw5.out.1
       try go_wp2_with fail
       refine hK.out _ _ ?_ (fun hHeld => ?_)
       · (try dsimp only); go_keep
       clear hK K
       try simp only [zR]
       refine tr [5] ?_
       refine tc (h := fun K hK => ?_) (hs := tn)
       try go_simp
       go_at_call 42
       refine (Div_c z4 z5 1 (com u k) _ (Rw.more (HZ5.out.2) (by omega)) (Rw.more (HZ5.out.1) (by omega)) HSZ.out.2.2.2.2.1).mono ?_
       rintro e w6 ⟨t, rfl, ht, hb⟩
       have Ht := Lib.hid ht
       have HLw6 := Lib.hid (Hw5.out.2.lt)
       clear ht
       have Hw6 := Lib.hid (And.intro (Hw5.out.1.trans (hb.mono Hw5.out.1.size)) (Hw5.out.2.below hb))
       clear hb
       clear x0 x1 x2 a2 a3 a4
       obtain ⟨⟨x0, x1, x2, _, _, _⟩, ⟨_, _, a2, a3, a4⟩⟩ := HAL7.out _ Hw6.out.1
       obtain ⟨q0, q1, q2, t0, t1, t2⟩ := Hw6.out.2.facts
       have m0a : ¬ X = wr.heap.size := by have := HLT.out.1; omega
       have m0b : ¬ wr.heap.size = X := fun e => m0a e.symm
       have m1a : ¬ w.heap.size = wr.heap.size := by have := HLT.out.2; omega
       have m1b : ¬ wr.heap.size = w.heap.size := fun e => m1a e.symm
       try go_wp2_with fail
       refine hK.out _ _ ?_ (fun hHeld => ?_)
       · (try dsimp only); go_keep
       clear hK K
       try simp only [zR]
       refine tk (i := 6) (h := ?_)
       try simp only [zR]
       refine tk (i := 7) (h := ?_)
       try simp only [zR]
       refine tk (i := 8) (h := ?_)
       try simp only [zR]
       refine tr [10] ?_
       refine tc (h := fun K hK => ?_) (hs := tn)
       try go_simp
       try go_wp2_with fail
       refine hK.out _ _ ?_ (fun hHeld => ?_)
       · (try dsimp only); go_keep
       clear hK K
       try simp only [zR]
       refine tk (i := 11) (h := ?_)
       try simp only [zR]
       refine wpAnyH_done (by kernel_rfl) ?_ _
       go_wp2_with fail
       go_meet
       exact ⟨_, t, rfl, Lib.hid (OneAt.put (Hw6.out.2) (Nat.le_refl _) HLw6.out Hw6.out.1 Ht.out)⟩
    case rest =>
     obtain ⟨Y, t, rfl, HU⟩ := hcut
     clear x0 x1 x2 a2 a3 a4
     obtain ⟨a0, a1, a2, a3, a4⟩ := (HKW.out.1.below HU.out.below).facts
     obtain ⟨y0, y1, y2, _, _, _⟩ := HU.out.cell.facts
     go_wp2_with fail
     refine (ScaleK_c va t ((v, q) :: l) k (1 / com u k) _ (Cw.more (p := p) ⟨hcap, ⟨la, HIN.out.1.below (HBW.out.trans (HU.out.below.mono HBW.out.size)), HIN.out.2.1.below (HBW.out.trans (HU.out.below.mono HBW.out.size))⟩, HIN.out.2.2.below (HBW.out.trans (HU.out.below.mono HBW.out.size))⟩ (by omega)) ((HU.out.num.rw HSZ.out.2.2.2.2.2.1).more (by omega)) (by omega)).mono ?_
     rintro ee w9 ⟨zz, rfl, h1, h2, h3, hb⟩
     have kz := (HKW.out.2.below HU.out.below).below hb
     have HRES := Lib.hid (And.intro h1 (And.intro h2 (And.intro h3 (HBW.out.trans ((HU.out.below.mono HBW.out.size).trans (hb.mono (Nat.le_trans HBW.out.size HU.out.below.size)))))))
     have HLO : Hid (w.heap.size + 1 < wc.heap.size) := (HKW.out.2.below HU.out.below).lt
     clear a0 a1 a2 a3 a4 y0 y1 y2 h1 h2 h3 hb
     obtain ⟨z0, z1, z2, z3, z4⟩ := kz.facts
     obtain ⟨t0, t1, t2, t3, t4⟩ := kz.thaw
     go_wp2
     refine ret5 (fn := Tryz.f98) Tryz.results98 rfl rfl kz ?_
     exact ⟨⟨zz.s, zz.A, zz.n, zz.c, zz.K⟩, 1 / com u k, rfl, HSZ.out.2.2.2.2.2.2.1, HRES.out.1, HRES.out.2.1, (HRES.out.2.2.1.put HLO.out _ _ _ _ _).lower (by have := HLO.out; omega), HSZ.out.2.2.2.2.2.2.2, HRES.out.2.2.2.trans (put5_below (by omega) _ _ _ _ _)⟩
end Go.Proofs.YtgffkaconhonlaaGreat
