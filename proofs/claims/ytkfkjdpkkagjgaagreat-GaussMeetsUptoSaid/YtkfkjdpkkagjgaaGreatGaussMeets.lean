/-
  GaussMeets: sums that all hold at some values are consistent; whatever they imply holds there; a variable that is fixed has that value.
-/
import Derived.Test.YtkfkjdpkkagjgaaGreatMts
import Derived.Test.YtkfkjdpkkagjgaaGreatMany
import Derived.Test.YtkfkjdpkkagjgaaGreatOpenN
import Derived.Test.YtkfkjdpkkagjgaaGreatKnG
import Derived.Test.YtkfkjdpkkagjgaaGreatRIg
import Derived.Deep.Cut
namespace Go.Proofs.YtkfkjdpkkagjgaaGreat
set_option maxRecDepth 20000
open Go.RowKit
open Operand (tmp)
structure NewAt (V wx : World) (Y : Nat) (va : Cv) (z : Rv) (q : Rat) : Prop where
 cell : C5 wx Y (.int .i64 va.s) (.slice va.A va.n va.c) (.bool va.K.s) (.slice va.K.A va.K.n va.K.c) (.slice va.K.B va.K.m va.K.d)
 num : Rt wx V.heap.size z q
 below : ∀ B, B ≤ Y → Below B V wx
theorem NewAt.put {V w : World} {Y : Nat} {va : Cv} {z : Rv} {q : Rat} (hk : C5 w Y (.int .i64 va.s) (.slice va.A va.n va.c) (.bool va.K.s) (.slice va.K.A va.K.n va.K.c) (.slice va.K.B va.K.m va.K.d)) (hz : Rt w V.heap.size z q) (hb : Below V.heap.size V w) (hY : Y < V.heap.size) :
  NewAt V (((w.setCell ⟨Y, 2, none⟩ (.bool z.s)).setCell ⟨Y, 3, none⟩ (.slice z.A z.n z.c)).setCell ⟨Y, 4, none⟩ (.slice z.B z.m z.d)) Y (reK va z) z q := by
 have hg : w.grownBy (((w.setCell ⟨Y, 2, none⟩ (.bool z.s)).setCell ⟨Y, 3, none⟩ (.slice z.A z.n z.c)).setCell ⟨Y, 4, none⟩ (.slice z.B z.m z.d)) (some Y) := ((kput_grown w Y 2 _).trans (kput_grown _ Y 3 _)).trans (kput_grown _ Y 4 _)
 refine ⟨((hk.set2 _).set3 _).set4 _, hz.grownLo hg fun k e => by injection e with e; omega, fun B hB => ?_⟩
 have h1 : Below B V w := ⟨hb.os, hb.tape, hb.output, hb.size, fun k hk => hb.block k (by omega)⟩
 exact h1.trans (below_of_grown_row hg hB (by have := hb.size; omega))
set_option maxHeartbeats 25600000 in
theorem GaussMeets_any (A A' : Option Addr) (m c N c' : Nat) (vc : Cv) (lc : List Tv) (v : Int) (ps : List (Cv × List Tv)) (lv : List Rv) (w : World) (hk : Kons w A m (ps.map (·.1))) (hf : ∀ x ∈ ps, Raw w x.1 x.2) (hm : m ≤ 1048576) (hc : Raw w vc lc)
  (hnv : Nums w A' N lv) (hrv : ∀ x ∈ lv, RdR w x ∧ x.n ≤ 1048576 ∧ x.m ≤ 1048576) (hN : N ≤ 1048576) (hv : 0 ≤ v ∧ v ≤ 9223372036854775807 ∨ v < 0 ∧ -9223372036854775808 ≤ v) :
  Calls Tryz.prog 4 #[.slice A m c, .agg #[.int .i64 vc.s, .slice vc.A vc.n vc.c, .bool vc.K.s, .slice vc.K.A vc.K.n vc.K.c, .slice vc.K.B vc.K.m vc.K.d], .slice A' N c', .int .i64 v] w fun e w' => e = .returned (.bool true) ∧ Below w.heap.size w w' := by
 have HK := Lib.hid hk
 have HF := Lib.hid hf
 have HCR := Lib.hid hc
 have HNV0 := Lib.hid (And.intro hnv hrv)
 have HVI := Lib.hid hv
 have m0' : (0 : Int) ≤ (m : Int) := by omega
 have N0 : (0 : Int) ≤ (N : Int) := by omega
 have N1' : (N : Int) ≤ 1048576 := by omega
 have ka := C5.new w (.int .i64 vc.s) (.slice vc.A vc.n vc.c) (.bool vc.K.s) (.slice vc.K.A vc.K.n vc.K.c) (.slice vc.K.B vc.K.m vc.K.d)
 have hB : Below w.heap.size w (w.alloc (.cells #[.int .i64 vc.s, .slice vc.A vc.n vc.c, .bool vc.K.s, .slice vc.K.A vc.K.n vc.K.c, .slice vc.K.B vc.K.m vc.K.d] 28)) := (Below.refl _ _).alloc (Nat.le_refl _) _
 have HZ0 := Lib.hid (And.intro ka hB)
 clear hk hf hc ka hB hnv hrv hv
 go_enter Tryz.func4, Tryz.ntmps4
 go_wp2_with fail
 generalize w.alloc (.cells #[.int .i64 vc.s, .slice vc.A vc.n vc.c, .bool vc.K.s, .slice vc.K.A vc.K.n vc.K.c, .slice vc.K.B vc.K.m vc.K.d] 28) = W0 at *
 obtain ⟨X, hX⟩ : ∃ X, X = w.heap.size := ⟨_, rfl⟩
 have HXE : Hid (X = w.heap.size) := hX
 rw [← hX] at HZ0
 rw [← hX]
 clear hX
 have HB0 : Hid (Below w.heap.size w W0) := HXE.out ▸ HZ0.out.2
 refine (heavyG_c A m c ps _ (HK.out.below HB0.out) (fun x hx => (HF.out x hx).fit.below HB0.out) hm).mono ?_
 rintro e w1 ⟨r, rfl, hr, hb⟩
 have HR := Lib.hid hr
 have HB1 : Hid (Below w.heap.size w w1 ∧ C5 w1 X (.int .i64 vc.s) (.slice vc.A vc.n vc.c) (.bool vc.K.s) (.slice vc.K.A vc.K.n vc.K.c) (.slice vc.K.B vc.K.m vc.K.d)) := ⟨HB0.out.trans (hb.mono HB0.out.size), HZ0.out.1.below hb⟩
 clear hr hb HZ0 HB0
 cases r with
 |
  true =>
  go_wp2
  go_ret
  exact ⟨rfl, HB1.out.1⟩
 | false =>
 obtain ⟨a0, a1, a2, a3, a4⟩ := HB1.out.2.facts
 go_wp2_with fail
 have HV1 : Hid ((w1.alloc (.cells #[.int .i64 vc.s, .slice vc.A vc.n vc.c, .bool vc.K.s, .slice vc.K.A vc.K.n vc.K.c, .slice vc.K.B vc.K.m vc.K.d] 28)).heap[w1.heap.size]? = some (.cells #[.int .i64 vc.s, .slice vc.A vc.n vc.c, .bool vc.K.s, .slice vc.K.A vc.K.n vc.K.c, .slice vc.K.B vc.K.m vc.K.d] 28 (0, 0)) ∧ Below w.heap.size w (w1.alloc (.cells #[.int .i64 vc.s, .slice vc.A vc.n vc.c, .bool vc.K.s, .slice vc.K.A vc.K.n vc.K.c, .slice vc.K.B vc.K.m vc.K.d] 28)) ∧ C5 (w1.alloc (.cells #[.int .i64 vc.s, .slice vc.A vc.n vc.c, .bool vc.K.s, .slice vc.K.A vc.K.n vc.K.c, .slice vc.K.B vc.K.m vc.K.d] 28)) X (.int .i64 vc.s) (.slice vc.A vc.n vc.c) (.bool vc.K.s) (.slice vc.K.A vc.K.n vc.K.c) (.slice vc.K.B vc.K.m vc.K.d)) := ⟨heap_alloc_new w1 _, HB1.out.1.alloc HB1.out.1.size _, HB1.out.2.alloc _⟩
 clear a0 a1 a2 a3 a4
 generalize w1.alloc (.cells #[.int .i64 vc.s, .slice vc.A vc.n vc.c, .bool vc.K.s, .slice vc.K.A vc.K.n vc.K.c, .slice vc.K.B vc.K.m vc.K.d] 28) = V at *
 generalize w1.heap.size = g1 at *
 refine (heavyG_c (some ⟨g1, 0, none⟩) 1 1 [(vc, lc)] _ (kons_one (v := vc) HV1.out.1) (fun x hx => by rw [List.mem_singleton.1 hx]; exact HCR.out.fit.below HV1.out.2.1) (by omega)).mono ?_
 rintro e w2 ⟨r, rfl, hr, hb⟩
 have HR' := Lib.hid hr
 have H2 : Hid (Below w.heap.size w w2 ∧ C5 w2 X (.int .i64 vc.s) (.slice vc.A vc.n vc.c) (.bool vc.K.s) (.slice vc.K.A vc.K.n vc.K.c) (.slice vc.K.B vc.K.m vc.K.d)) := ⟨HV1.out.2.1.trans (hb.mono HV1.out.2.1.size), HV1.out.2.2.below hb⟩
 clear hr hb HV1 HB1
 cases r with
 |
  true =>
  go_wp2
  go_ret
  exact ⟨rfl, H2.out.1⟩
 | false =>
 go_wp2_with fail
 refine (many_c A' N c' lv w2 (HNV0.out.1.below H2.out.1) hN (fun x hx => ⟨(HNV0.out.2 x hx).2.1, (HNV0.out.2 x hx).2.2⟩)).mono ?_
 rintro e w3 ⟨r, rfl, hr, hb⟩
 have HRM : Hid (r = false → N ≤ 100 ∧ ∀ x ∈ lv, x.n ≤ 3 ∧ x.m ≤ 3) := hr
 have H3 : Hid (Below w.heap.size w w3 ∧ C5 w3 X (.int .i64 vc.s) (.slice vc.A vc.n vc.c) (.bool vc.K.s) (.slice vc.K.A vc.K.n vc.K.c) (.slice vc.K.B vc.K.m vc.K.d)) := ⟨H2.out.1.trans (hb.mono H2.out.1.size), H2.out.2.below hb⟩
 clear hr hb H2
 cases r with
 |
  true =>
  go_wp2
  go_ret
  exact ⟨rfl, H3.out.1⟩
 | false =>
 by_cases hn1 : (N : Int) < 1
 ·
  go_wp2
  go_ret
  exact ⟨rfl, H3.out.1⟩
 by_cases hn8 : (8 : Int) < (N : Int)
 ·
  go_wp2
  go_ret
  exact ⟨rfl, H3.out.1⟩
 have hN8 : N ≤ 8 := by omega
 have hN1 : 1 ≤ N := by omega
 have HN : Hid (heldN (N : Int) = N) := by show _ = _; unfold heldN; omega
 have HRO : Hid (Room 1000 N) := by
  refine ⟨by omega, by omega, by omega, ?_⟩
  have h1 : 2 ^ N ≤ 2 ^ 8 := Nat.pow_le_pow_right (by omega) hN8
  have h2 : 1000 * (N + 1) + 1 ≤ 9001 := by omega
  have := Nat.mul_le_mul h2 h1
  omega
 have HCO : Hid (∀ x ∈ ps, cost x.1 x.2 ≤ 150) := fun x hx => by
  obtain ⟨i, hi, e⟩ := List.getElem_of_mem hx
  have h1 := costA_get (show ps[i]? = some x by rw [List.getElem?_eq_getElem hi, e])
  have hl : ps.length = m := by have := HK.out.len; rwa [List.length_map] at this
  rw [hl] at h1
  exact Nat.le_trans h1 (HR.out (by trivial))
 have hm75 : m ≤ 75 := by
  have hl : ps.length = m := by have := HK.out.len; rwa [List.length_map] at this
  have h2 := costA_len ps m (by omega)
  have := HR.out (by trivial)
  omega
 have hcost : cost vc lc ≤ 150 := Nat.le_trans (costA_get (ps := [(vc, lc)]) (i := 0) rfl) (HR'.out (by trivial))
 obtain ⟨Lc, kc, hrc⟩ := HCR.out.rin hcost
 obtain ⟨V, hV⟩ := rdv_ex (p := 3) lv fun x hx => ⟨(HNV0.out.2 x hx).1, (HRM.out (by trivial)).2 x hx⟩
 have HXC := Lib.hid hrc
 have HNV1 : Hid (Nums w A' N lv ∧ RdV w 3 lv V) := ⟨HNV0.out.1, hV⟩
 have HSV : Hid (∀ y ∈ V, Sz y 3) := RdV.sz (by omega) hV
 obtain ⟨okc, hokc⟩ : ∃ okc : Bool, okc = true ↔ IsS w vc lc (N : Int) := by
  classical
  exact ⟨decide (IsS w vc lc (N : Int)), decide_eq_true_iff⟩
 have HOK := Lib.hid hokc
 obtain ⟨p, hp⟩ : ∃ p : Nat → Rat, p = fun i : Nat => atV V (i : Int) := ⟨_, rfl⟩
 have HPP := Lib.hid hp
 have m2 : (m : Int) ≤ 75 := by omega
 have n8' : (N : Int) ≤ 8 := by omega
 have n1' : (1 : Int) ≤ (N : Int) := by omega
 clear hrc hV hokc hp hcost HR HR' HRM HCR HNV0 hm hN hn1 hn8
 go_wp2
 go_loopw [8, 10, 11, 12] (fun _ mv iv _ wr => ∃ (i : Nat) (A3 : Option Addr) (c3 : Nat) (us : List Kin), i ≤ m ∧ iv = .int .i64 i ∧ mv = .slice A3 i c3 ∧ Hid (MRow N p w3 wr A3 c3 i us)) (fun _ _ iv _ _ => m - (intOf iv).toNat)
 case atStart => exact ⟨0, none, 0, [], Nat.zero_le _, rfl, rfl, Lib.hid ⟨OwnC.nil_ _ _, Below.refl _ _, fun x hx => by cases hx⟩⟩
 case round =>
  obtain ⟨i, A3, c3, us, hi, rfl, rfl, HM⟩ := hrel
  have i0 : (0 : Int) ≤ (i : Int) := by omega
  have HBW : Hid (Below w.heap.size w wr) := H3.out.1.trans (HM.out.below.mono H3.out.1.size)
  by_cases hlt : i < m
  ·
   have i1 : (i : Int) < (m : Int) := by omega
   have hil : i < ps.length := by have := HK.out.len; rw [List.length_map] at this; omega
   obtain ⟨b, off, hA, hbw, hcc⟩ := HK.out.mem (by omega)
   have hx := List.getElem?_eq_getElem hil
   have hxm : (ps.map (·.1))[i]? = some ps[i].1 := by rw [List.getElem?_map, hx]; rfl
   have hri := (HF.out _ (List.getElem_mem hil)).rin (HCO.out _ (List.getElem_mem hil))
   have h5 := hcc i _ hxm
   generalize ps[i] = x at *
   obtain ⟨va, la⟩ := x
   obtain ⟨La, ka, hri⟩ := hri
   replace h5 : At5 w b (off + i * 5) va := h5
   replace hri : Rin w va la La ka := hri
   have HXI0 := Lib.hid hri
   have H5 : Hid (∀ wz, Below w.heap.size w wz → At5 wz b (off + i * 5) va) := fun wz hz => h5.keep (hz.block b hbw)
   obtain ⟨k0, k1, k2, k3, k4⟩ := H5.out _ HBW.out
   subst hA
   clear hx hxm hcc hbw h5 hri
   by_cases hs : IsS w va la (N : Int)
   ·
    have HIS := Lib.hid hs
    go_wp2_with fail
    have hy := HXI0.out.below HBW.out
    refine (rIsK_c va (N : Int) la La ka wr (by omega) hy.cap hy.row (hy.rd.more (by omega)) (hy.num.more (by omega)) hy.n true ⟨fun _ => (IsS.turn HXI0.out.rd HXI0.out.num HBW.out).1 HIS.out, fun _ => rfl⟩).mono ?_
    rintro e w4 ⟨rfl, hb4⟩
    have H4 : Hid (Below w.heap.size w w4 ∧ Below wr.heap.size wr w4) := ⟨HBW.out.trans (hb4.mono HBW.out.size), hb4⟩
    clear k0 k1 k2 k3 k4 hb4 hs hy
    obtain ⟨k0, k1, k2, k3, k4⟩ := H5.out _ H4.out.1
    go_upto_region 11 with fail
    clear k0 k1 k2 k3 k4
    have HY0 : Hid (C5 (w4.alloc (.cells #[.int .i64 va.s, .slice va.A va.n va.c, .bool va.K.s, .slice va.K.A va.K.n va.K.c, .slice va.K.B va.K.m va.K.d] 28)) w4.heap.size (.int .i64 va.s) (.slice va.A va.n va.c) (.bool va.K.s) (.slice va.K.A va.K.n va.K.c) (.slice va.K.B va.K.m va.K.d) ∧ Below w4.heap.size w4 (w4.alloc (.cells #[.int .i64 va.s, .slice va.A va.n va.c, .bool va.K.s, .slice va.K.A va.K.n va.K.c, .slice va.K.B va.K.m va.K.d] 28))) := ⟨C5.new w4 (.int .i64 va.s) (.slice va.A va.n va.c) (.bool va.K.s) (.slice va.K.A va.K.n va.K.c) (.slice va.K.B va.K.m va.K.d), (Below.refl _ _).alloc (Nat.le_refl _) _⟩
    generalize w4.alloc (.cells #[.int .i64 va.s, .slice va.A va.n va.c, .bool va.K.s, .slice va.K.A va.K.n va.K.c, .slice va.K.B va.K.m va.K.d] 28) = V0 at *
    obtain ⟨Y, hY⟩ : ∃ Y, Y = w4.heap.size := ⟨_, rfl⟩
    have HYE : Hid (Y = w4.heap.size) := hY
    rw [← hY] at HY0
    rw [← hY]
    clear hY
    have HY : Hid (C5 V0 Y (.int .i64 va.s) (.slice va.A va.n va.c) (.bool va.K.s) (.slice va.K.A va.K.n va.K.c) (.slice va.K.B va.K.m va.K.d)) := HY0.out.1
    have HYB : Hid (Y < V0.heap.size) := HY0.out.1.lt
    have HV0 : Hid (Below w4.heap.size w4 V0) := HYE.out ▸ HY0.out.2
    have HBV : Hid (Below w.heap.size w V0) := H4.out.1.trans (HV0.out.mono H4.out.1.size)
    have HXI : Hid (Rin V0 va la La ka) := HXI0.out.below HBV.out
    have HNV : Hid (Nums V0 A' N lv ∧ RdV V0 3 lv V) := ⟨HNV1.out.1.below HBV.out, RdV.below HBV.out HNV1.out.2⟩
    obtain ⟨b0, b1, b2, b3, b4⟩ := HY.out.facts
    go_cut [12] from 54 to 60 (fun xv wx => ∃ z : Rv, xv = .pointer (some ⟨Y, 0, none⟩) ∧ Hid (NewAt V0 wx Y (reK va z) z (ka - atL (atV V) La ka)))
    case first =>
      refine wp_region_held_drew (S := fun _ => True) (by kernel_rfl) ?_ (fun hHeld => ?_)
      ·
       (try dsimp only)
       try go_keep
      refine wpAnyH_take (i := 0) (oi := { dst := some 54, op := Op.fieldAddr 28 (tmp 12) 2, type := 0, pos := "law.go:85", after := #[], guard := none }) (v := ?vq1x) rfl (by kernel_rfl) (by kernel_rfl) (by kernel_rfl) (fun _ _ _ => id) (Or.inl ⟨by rfl, ?hyq1x⟩) (by assumption) ?restq1x
      case hyq1x => intro w hSw; (try dsimp only at hSw); go_simp; all_goals (with_reducible rfl)
      try simp only [Act.put, zK]
      refine wpAnyH_take (i := 3) (oi := { dst := some 57, op := Op.move (tmp 2), type := 29, pos := "law.go:85", after := #[], guard := none }) (v := ?vq2x) rfl (by kernel_rfl) (by kernel_rfl) (by kernel_rfl) (fun _ _ _ => id) (Or.inl ⟨by rfl, ?hyq2x⟩) (by assumption) ?restq2x
      case hyq2x => intro w hSw; (try dsimp only at hSw); go_simp; all_goals (with_reducible rfl)
      try simp only [Act.put, zK]
      refine wpAnyH_ready (rs := [1, 2]) (by kernel_rfl) (by simp) ?_
      refine AllReadyH.cons (o := { dst := some 55, op := Op.load 26 (tmp 54), type := 26, pos := "law.go:85", after := #[eD 0], guard := none }) rfl (fun K hK => ?_) (AllReadyH.cons (o := { dst := some 56, op := Op.load 28 (tmp 12), type := 28, pos := "law.go:85", after := #[], guard := none }) rfl (fun K hK => ?_) AllReadyH.nil)
      ·
       skip
       try go_simp
       try go_wp2_with fail
       refine hK.out _ _ ?_ fun hHeld => ?_
       · (try dsimp only); try go_keep
       clear hK K
       try simp only [Act.put, zK]
       refine wpAnyH_ready (rs := [2]) (by kernel_rfl) (by simp) ?_
       refine AllReadyH.cons (o := { dst := some 56, op := Op.load 28 (tmp 12), type := 28, pos := "law.go:85", after := #[], guard := none }) rfl (fun K hK => ?_) AllReadyH.nil
       try go_simp
       try go_wp2_with fail
       refine hK.out _ _ ?_ fun hHeld => ?_
       · (try dsimp only); try go_keep
       clear hK K
       try simp only [Act.put, zK]
       refine wpAnyH_ready (rs := [4]) (by kernel_rfl) (by simp) ?_
       refine AllReadyH.cons (o := { dst := some 58, op := Op.call { callee := Callee.value (Operand.func 23), args := #[tmp 56, tmp 57], argTypes := #[28, 29] }, type := 26, pos := "law.go:85", after := #[eD 2, eD 3], guard := none }) rfl (fun K hK => ?_) AllReadyH.nil
       try go_simp
       go_at_call 23
       refine (rAtK_c va A' N c' la lv La V ka _ (HXI.out.below (bel1 V0)).cost (HXI.out.below (bel1 V0)).row (HXI.out.below (bel1 V0)).rd (HXI.out.below (bel1 V0)).num (HNV.out.1.below (bel1 V0)) (RdV.below (bel1 V0) HNV.out.2) (by omega)).mono ?_
       rintro ee w4 ⟨za, rfl, hza, hsa, hb⟩
       have P4 : Hid (Below V0.heap.size V0 w4) := (bel1 V0).trans hb
       have HZA : Hid (Rw w4 za (atL (atV V) La ka) 1100) := hza.rw hsa
       clear hza hsa hb
       clear b0 b1 b2 b3 b4
       obtain ⟨b0, b1, b2, b3, b4⟩ := (HY.out.below P4.out).facts
       try go_wp2_with fail
       refine hK.out _ _ ?_ fun hHeld => ?_
       · (try dsimp only); try go_keep
       clear hK K
       try simp only [Act.put, zK]
       refine wpAnyH_ready (rs := [5]) (by kernel_rfl) (by simp) ?_
       refine AllReadyH.cons (o := { dst := some 59, op := Op.call { callee := Callee.value (Operand.func 22), args := #[tmp 55, tmp 58], argTypes := #[26, 26] }, type := 26, pos := "law.go:85", after := #[eD 1, eD 4, eC 4], guard := none }) rfl (fun K hK => ?_) AllReadyH.nil
       try go_simp
       go_at_call 22
       refine (rSub_c va.K za ka (atL (atV V) La ka) _ ((HXI.out.num.below P4.out).more (by omega)) (HZA.out.more (by omega))).mono ?_
       rintro ee w5 ⟨z, rfl, hz, hb⟩
       have P5 : Hid (Below V0.heap.size V0 w5) := P4.out.trans (hb.mono P4.out.size)
       have HZ : Hid (Rt w5 V0.heap.size z (ka - atL (atV V) La ka)) := hz.lower P4.out.size
       clear hz hb
       clear b0 b1 b2 b3 b4
       obtain ⟨b0, b1, b2, b3, b4⟩ := (HY.out.below P5.out).facts
       obtain ⟨t0, t1, t2, t3, t4⟩ := (HY.out.below P5.out).thaw
       try go_wp2_with fail
       refine hK.out _ _ ?_ fun hHeld => ?_
       · (try dsimp only); try go_keep
       clear hK K
       try simp only [Act.put, zK]
       refine wpAnyH_take (i := 6) (oi := { dst := some 60, op := Op.fieldAddr 28 (tmp 12) 2, type := 0, pos := "law.go:85", after := #[eP 0, eP 1, eP 2, eP 3, eP 4, eP 5], guard := none }) (v := ?vq3x) rfl (by kernel_rfl) (by kernel_rfl) (by kernel_rfl) (fun _ _ _ => id) (Or.inl ⟨by rfl, ?hyq3x⟩) (by assumption) ?restq3x
       case hyq3x => intro w hSw; (try dsimp only at hSw); go_simp; all_goals (with_reducible rfl)
       try simp only [Act.put, zK]
       refine wpAnyH_ready (rs := [7]) (by kernel_rfl) (by simp) ?_
       refine AllReadyH.cons (o := { dst := none, op := Op.store 26 (tmp 60) (tmp 59), type := 0, pos := "law.go:85", after := #[eD 6, eD 5, eC 5, eP 0, eP 1, eP 2, eP 3, eP 4, eP 5], guard := none }) rfl (fun K hK => ?_) AllReadyH.nil
       try go_simp
       try go_wp2_with fail
       refine hK.out _ _ ?_ fun hHeld => ?_
       · (try dsimp only); try go_keep
       clear hK K
       try simp only [Act.put, zK]
       refine wpAnyH_done (by kernel_rfl) ?_ _
       go_wp2_with fail
       go_meet
       exact ⟨z, rfl, Lib.hid (NewAt.put (HY.out.below P5.out) HZ.out P5.out HYB.out)⟩
      ·
       skip
       try go_simp
       try go_wp2_with fail
       refine hK.out _ _ ?_ fun hHeld => ?_
       · (try dsimp only); try go_keep
       clear hK K
       try simp only [Act.put, zK]
       refine wpAnyH_ready (rs := [1, 4]) (by kernel_rfl) (by simp) ?_
       refine AllReadyH.cons (o := { dst := some 55, op := Op.load 26 (tmp 54), type := 26, pos := "law.go:85", after := #[eD 0], guard := none }) rfl (fun K hK => ?_) (AllReadyH.cons (o := { dst := some 58, op := Op.call { callee := Callee.value (Operand.func 23), args := #[tmp 56, tmp 57], argTypes := #[28, 29] }, type := 26, pos := "law.go:85", after := #[eD 2, eD 3], guard := none }) rfl (fun K hK => ?_) AllReadyH.nil)
       ·
        skip
        try go_simp
        try go_wp2_with fail
        refine hK.out _ _ ?_ fun hHeld => ?_
        · (try dsimp only); try go_keep
        clear hK K
        try simp only [Act.put, zK]
        refine wpAnyH_ready (rs := [4]) (by kernel_rfl) (by simp) ?_
        refine AllReadyH.cons (o := { dst := some 58, op := Op.call { callee := Callee.value (Operand.func 23), args := #[tmp 56, tmp 57], argTypes := #[28, 29] }, type := 26, pos := "law.go:85", after := #[eD 2, eD 3], guard := none }) rfl (fun K hK => ?_) AllReadyH.nil
        try go_simp
        go_at_call 23
        refine (rAtK_c va A' N c' la lv La V ka _ (HXI.out.below (bel1 V0)).cost (HXI.out.below (bel1 V0)).row (HXI.out.below (bel1 V0)).rd (HXI.out.below (bel1 V0)).num (HNV.out.1.below (bel1 V0)) (RdV.below (bel1 V0) HNV.out.2) (by omega)).mono ?_
        rintro ee w4 ⟨za, rfl, hza, hsa, hb⟩
        have P4 : Hid (Below V0.heap.size V0 w4) := (bel1 V0).trans hb
        have HZA : Hid (Rw w4 za (atL (atV V) La ka) 1100) := hza.rw hsa
        clear hza hsa hb
        clear b0 b1 b2 b3 b4
        obtain ⟨b0, b1, b2, b3, b4⟩ := (HY.out.below P4.out).facts
        try go_wp2_with fail
        refine hK.out _ _ ?_ fun hHeld => ?_
        · (try dsimp only); try go_keep
        clear hK K
        try simp only [Act.put, zK]
        refine wpAnyH_ready (rs := [5]) (by kernel_rfl) (by simp) ?_
        refine AllReadyH.cons (o := { dst := some 59, op := Op.call { callee := Callee.value (Operand.func 22), args := #[tmp 55, tmp 58], argTypes := #[26, 26] }, type := 26, pos := "law.go:85", after := #[eD 1, eD 4, eC 4], guard := none }) rfl (fun K hK => ?_) AllReadyH.nil
        try go_simp
        go_at_call 22
        refine (rSub_c va.K za ka (atL (atV V) La ka) _ ((HXI.out.num.below P4.out).more (by omega)) (HZA.out.more (by omega))).mono ?_
        rintro ee w5 ⟨z, rfl, hz, hb⟩
        have P5 : Hid (Below V0.heap.size V0 w5) := P4.out.trans (hb.mono P4.out.size)
        have HZ : Hid (Rt w5 V0.heap.size z (ka - atL (atV V) La ka)) := hz.lower P4.out.size
        clear hz hb
        clear b0 b1 b2 b3 b4
        obtain ⟨b0, b1, b2, b3, b4⟩ := (HY.out.below P5.out).facts
        obtain ⟨t0, t1, t2, t3, t4⟩ := (HY.out.below P5.out).thaw
        try go_wp2_with fail
        refine hK.out _ _ ?_ fun hHeld => ?_
        · (try dsimp only); try go_keep
        clear hK K
        try simp only [Act.put, zK]
        refine wpAnyH_take (i := 6) (oi := { dst := some 60, op := Op.fieldAddr 28 (tmp 12) 2, type := 0, pos := "law.go:85", after := #[eP 0, eP 1, eP 2, eP 3, eP 4, eP 5], guard := none }) (v := ?vq4x) rfl (by kernel_rfl) (by kernel_rfl) (by kernel_rfl) (fun _ _ _ => id) (Or.inl ⟨by rfl, ?hyq4x⟩) (by assumption) ?restq4x
        case hyq4x => intro w hSw; (try dsimp only at hSw); go_simp; all_goals (with_reducible rfl)
        try simp only [Act.put, zK]
        refine wpAnyH_ready (rs := [7]) (by kernel_rfl) (by simp) ?_
        refine AllReadyH.cons (o := { dst := none, op := Op.store 26 (tmp 60) (tmp 59), type := 0, pos := "law.go:85", after := #[eD 6, eD 5, eC 5, eP 0, eP 1, eP 2, eP 3, eP 4, eP 5], guard := none }) rfl (fun K hK => ?_) AllReadyH.nil
        try go_simp
        try go_wp2_with fail
        refine hK.out _ _ ?_ fun hHeld => ?_
        · (try dsimp only); try go_keep
        clear hK K
        try simp only [Act.put, zK]
        refine wpAnyH_done (by kernel_rfl) ?_ _
        go_wp2_with fail
        go_meet
        exact ⟨z, rfl, Lib.hid (NewAt.put (HY.out.below P5.out) HZ.out P5.out HYB.out)⟩
       ·
        skip
        try go_simp
        go_at_call 23
        refine (rAtK_c va A' N c' la lv La V ka _ (HXI.out.below (bel1 V0)).cost (HXI.out.below (bel1 V0)).row (HXI.out.below (bel1 V0)).rd (HXI.out.below (bel1 V0)).num (HNV.out.1.below (bel1 V0)) (RdV.below (bel1 V0) HNV.out.2) (by omega)).mono ?_
        rintro ee w4 ⟨za, rfl, hza, hsa, hb⟩
        have P4 : Hid (Below V0.heap.size V0 w4) := (bel1 V0).trans hb
        have HZA : Hid (Rw w4 za (atL (atV V) La ka) 1100) := hza.rw hsa
        clear hza hsa hb
        clear b0 b1 b2 b3 b4
        obtain ⟨b0, b1, b2, b3, b4⟩ := (HY.out.below P4.out).facts
        try go_wp2_with fail
        refine hK.out _ _ ?_ fun hHeld => ?_
        · (try dsimp only); try go_keep
        clear hK K
        try simp only [Act.put, zK]
        refine wpAnyH_ready (rs := [1]) (by kernel_rfl) (by simp) ?_
        refine AllReadyH.cons (o := { dst := some 55, op := Op.load 26 (tmp 54), type := 26, pos := "law.go:85", after := #[eD 0], guard := none }) rfl (fun K hK => ?_) AllReadyH.nil
        try go_simp
        try go_wp2_with fail
        refine hK.out _ _ ?_ fun hHeld => ?_
        · (try dsimp only); try go_keep
        clear hK K
        try simp only [Act.put, zK]
        refine wpAnyH_ready (rs := [5]) (by kernel_rfl) (by simp) ?_
        refine AllReadyH.cons (o := { dst := some 59, op := Op.call { callee := Callee.value (Operand.func 22), args := #[tmp 55, tmp 58], argTypes := #[26, 26] }, type := 26, pos := "law.go:85", after := #[eD 1, eD 4, eC 4], guard := none }) rfl (fun K hK => ?_) AllReadyH.nil
        try go_simp
        go_at_call 22
        refine (rSub_c va.K za ka (atL (atV V) La ka) _ ((HXI.out.num.below P4.out).more (by omega)) (HZA.out.more (by omega))).mono ?_
        rintro ee w5 ⟨z, rfl, hz, hb⟩
        have P5 : Hid (Below V0.heap.size V0 w5) := P4.out.trans (hb.mono P4.out.size)
        have HZ : Hid (Rt w5 V0.heap.size z (ka - atL (atV V) La ka)) := hz.lower P4.out.size
        clear hz hb
        clear b0 b1 b2 b3 b4
        obtain ⟨b0, b1, b2, b3, b4⟩ := (HY.out.below P5.out).facts
        obtain ⟨t0, t1, t2, t3, t4⟩ := (HY.out.below P5.out).thaw
        try go_wp2_with fail
        refine hK.out _ _ ?_ fun hHeld => ?_
        · (try dsimp only); try go_keep
        clear hK K
        try simp only [Act.put, zK]
        refine wpAnyH_take (i := 6) (oi := { dst := some 60, op := Op.fieldAddr 28 (tmp 12) 2, type := 0, pos := "law.go:85", after := #[eP 0, eP 1, eP 2, eP 3, eP 4, eP 5], guard := none }) (v := ?vq5x) rfl (by kernel_rfl) (by kernel_rfl) (by kernel_rfl) (fun _ _ _ => id) (Or.inl ⟨by rfl, ?hyq5x⟩) (by assumption) ?restq5x
        case hyq5x => intro w hSw; (try dsimp only at hSw); go_simp; all_goals (with_reducible rfl)
        try simp only [Act.put, zK]
        refine wpAnyH_ready (rs := [7]) (by kernel_rfl) (by simp) ?_
        refine AllReadyH.cons (o := { dst := none, op := Op.store 26 (tmp 60) (tmp 59), type := 0, pos := "law.go:85", after := #[eD 6, eD 5, eC 5, eP 0, eP 1, eP 2, eP 3, eP 4, eP 5], guard := none }) rfl (fun K hK => ?_) AllReadyH.nil
        try go_simp
        try go_wp2_with fail
        refine hK.out _ _ ?_ fun hHeld => ?_
        · (try dsimp only); try go_keep
        clear hK K
        try simp only [Act.put, zK]
        refine wpAnyH_done (by kernel_rfl) ?_ _
        go_wp2_with fail
        go_meet
        exact ⟨z, rfl, Lib.hid (NewAt.put (HY.out.below P5.out) HZ.out P5.out HYB.out)⟩
    case rest =>
     obtain ⟨z, rfl, HNA⟩ := hcut
     clear b0 b1 b2 b3 b4
     have HBC : Hid (Below w4.heap.size w4 wc) := HV0.out.trans (HNA.out.below _ (by have := HYE.out; omega))
     have HMC : Hid (MRow N p w3 wc A3 c3 i us) := (HM.out.step_ H4.out.2).step_ HBC.out
     have HRC : Hid (Rt wc V0.heap.size z (ka - atL (atV V) La ka)) := HNA.out.num
     have HKI : Hid (∀ w', wc.grownBy w' (A3.map (·.block)) → KinOf N 1000 w' ⟨reK va z, La, ka - atL (atV V) La ka, true⟩) := fun w' hg => by
      have hw3 := far_grown HMC.out.below HMC.out.own hg
      have hw := H3.out.1.trans (hw3.mono H3.out.1.size)
      have hlo : ∀ k, A3.map (·.block) = some k → k < V0.heap.size := fun k e => by
       cases A3 with
       | none => cases e
       |
        some ad =>
        injection e with e; subst e
        have h1 := (HM.out.own.lt ad rfl).2
        have h2 := H4.out.2.size
        have h3 := HV0.out.size
        show ad.block < V0.heap.size
        omega
      have hsz : Sz (ka - atL (atV V) La ka) 1000 := by
       have h1 := sz_at HXI.out.rd HSV.out HXI.out.sz la.length (Nat.le_refl _)
       have hll := HXI.out.rd.len
       rw [List.take_of_length_le (by omega)] at h1
       have h2 : la.length ≤ 8 := by
        have := (HIS.out.asc HXI0.out.rd).len (by omega)
        omega
       have h3 : costK la la.length ≤ 150 := by
        have h4 := HXI.out.cost
        have h5 : la.length = va.n := HXI.out.row.len
        unfold cost at h4
        rw [h5]; omega
       exact (HXI.out.sz.sub h1).more (by omega)
      exact (HXI0.out.below hw).anew ((IsS.turn HXI0.out.rd HXI0.out.num hw).1 HIS.out) (HRC.out.grownLo hg hlo) hsz
     have HDT : Hid (dot N (fn N La (ka - atL (atV V) La ka)) p = 0) := by
      have hv := HIS.out.vars HXI0.out.rd
      have h1 := dot_at (N := N) (k := ka - atL (atV V) La ka) (atV V) hv
      have h2 := dot_at (N := N) (k := (0 : Rat)) (atV V) hv
      have h3 := dot_at (N := N) (k := ka) (atV V) hv
      have e : ∀ q : Rat, dot N (fn N La q) (fun i => atV V (i : Int)) = sm (fun i => co La (i : Int) * atV V (i : Int)) N + q := fun q => by
       unfold dot
       rw [fn_k, sm_congr fun i hi => by rw [fn_lt hi]]
      rw [e] at h3
      show dot N _ p = 0
      rw [HPP.out, e, ← h3]
      generalize sm (fun i => co La (i : Int) * atV V (i : Int)) N = s
      grind
     obtain ⟨b0, b1, b2, b3, b4⟩ := HNA.out.cell.facts
     clear HM H4 HY HYB HYE HY0 HV0 HBV HXI HNV HBC HRC
     generalize wc = WC at *
     go_wp2_with (at_builtin; refine wpc_append1 rfl _ _ rfl rfl rfl (lo := w3.heap.size) (t := reK va z) (HMC.out.own.below ((Below.refl _ _).alloc (Nat.le_refl _) _)) (At5.new WC (reK va z)) (by omega) (by have := HMC.out.below.size; simp; omega) ?_)
     intro A4 c4 w6 hown hgrow hwh
     have HM2 : Hid (MRow N p w3 w6 A4 c4 (i + 1) (us ++ [⟨reK va z, La, ka - atL (atV V) La ka, true⟩])) :=
      MRow.more HMC.out ((Below.refl _ _).alloc (Nat.le_refl _) _) ⟨rfl, HDT.out, fun w' hg => HKI.out w' ((grown_row ((Below.refl _ _).alloc (Nat.le_refl _) _) _).trans hg)⟩ hown hgrow (by simpa using hwh)
     clear hown hgrow hwh b0 b1 b2 b3 b4 HKI HDT HMC HNA
     go_wp2
     go_roundw
     case rel => exact ⟨i + 1, A4, c4, _, by omega, by go_num, rfl, HM2⟩
     case measure => simp [intOf]; omega
   ·
    go_wp2_with fail
    have hy := HXI0.out.below HBW.out
    refine (rIsK_c va (N : Int) la La ka wr (by omega) hy.cap hy.row (hy.rd.more (by omega)) (hy.num.more (by omega)) hy.n false ⟨fun h => (by cases h), fun h => absurd ((IsS.turn HXI0.out.rd HXI0.out.num HBW.out).2 h) hs⟩).mono ?_
    rintro e w4 ⟨rfl, hb4⟩
    have H4 : Hid (Below w.heap.size w w4) := HBW.out.trans (hb4.mono HBW.out.size)
    clear k0 k1 k2 k3 k4 hb4 hs hy
    go_wp2_with fail
    refine (known10_c _).mono ?_
    rintro e w5 ⟨rfl, hb5⟩
    have H5' : Hid (Below w.heap.size w w5) := H4.out.trans (hb5.mono H4.out.size)
    clear hb5
    go_wp2
    go_ret
    exact ⟨rfl, H5'.out⟩
  ·
   have e : i = m := by omega
   have i1 : ¬ (i : Int) < (m : Int) := by omega
   clear e
   have HSAT : Hid (Sat N (sums N us) p) := HM.out.sat
   have HKN : Hid (Kns N 1000 wr A3 i us) := HM.out.kns
   have HUL : Hid (us.length = i) := HM.out.len
   have HCX : Hid (C5 wr X (.int .i64 vc.s) (.slice vc.A vc.n vc.c) (.bool vc.K.s) (.slice vc.K.A vc.K.n vc.K.c) (.slice vc.K.B vc.K.m vc.K.d)) := H3.out.2.below HM.out.below
   clear HM H3
   have i75 : i ≤ 75 := by omega
   go_wp2_with fail
   refine (Consistent_c (N : Int) N 1000 A3 i c3 us _ HN.out HKN.out (by omega) HRO.out).mono ?_
   rintro e w4 ⟨b1, rfl, hc1, hb4⟩
   obtain rfl : b1 = true := hc1.2 ⟨p, HSAT.out⟩
   have H4 : Hid (Below wr.heap.size wr w4) := hb4
   clear hc1 hb4
   go_wp2_with fail
   refine (Fixed_c (N : Int) v N 1000 A3 i c3 us _ HN.out (HKN.out.below H4.out) (by omega) HRO.out).mono ?_
   rintro e w5 ⟨z1, b1, q1, rfl, hz1, hb5, f1, f2⟩
   have HF1 : Hid (b1 = true → 0 ≤ v ∧ v < (N : Int) ∧ p v.toNat = q1) := fun hb => by
    obtain ⟨_, h1, h2, h3⟩ := f1 hb
    exact ⟨h1, h2, h3 p HSAT.out⟩
   clear f1 f2
   go_upto_region 16 with fail
   have HW6 : Hid (C3 (w5.alloc (.cells #[.bool z1.s, .slice z1.A z1.n z1.c, .slice z1.B z1.m z1.d] 26)) w5.heap.size (.bool z1.s) (.slice z1.A z1.n z1.c) (.slice z1.B z1.m z1.d) ∧ Below wr.heap.size wr (w5.alloc (.cells #[.bool z1.s, .slice z1.A z1.n z1.c, .slice z1.B z1.m z1.d] 26)) ∧ Rw (w5.alloc (.cells #[.bool z1.s, .slice z1.A z1.n z1.c, .slice z1.B z1.m z1.d] 26)) z1 q1 1000000000) := by
    have h1 := H4.out.trans (hb5.mono H4.out.size)
    exact ⟨C3.new w5 (.bool z1.s) (.slice z1.A z1.n z1.c) (.slice z1.B z1.m z1.d), h1.alloc h1.size _, hz1.alloc _⟩
   clear hz1 hb5
   generalize w5.alloc (.cells #[.bool z1.s, .slice z1.A z1.n z1.c, .slice z1.B z1.m z1.d] 26) = W6 at *
   generalize w5.heap.size = X1 at *
   have HZ1 : Hid (Rw W6 z1 q1 1000000000) := HW6.out.2.2
   cases b1 with
   |
    true =>
    obtain ⟨h0, h1, h2⟩ := HF1.out rfl
    obtain ⟨j, hj⟩ : ∃ j : Nat, v = (j : Int) := ⟨v.toNat, by omega⟩
    have HQE : Hid (q1 = atV V (j : Int)) := by
     show _ = _
     rw [← h2, hj, HPP.out, Int.toNat_natCast]
    subst hj
    have j1 : (j : Int) < (N : Int) := h1
    have j0 : (0 : Int) ≤ (j : Int) := by omega
    have hjN : j < N := by omega
    have HBW6 : Hid (Below w.heap.size w W6) := HBW.out.trans (HW6.out.2.1.mono HBW.out.size)
    obtain ⟨vb, voff, hA', hvb, hvc⟩ := HNV1.out.1.mem (by omega)
    obtain ⟨y, Yr, hy, hYr, hyr⟩ := HNV1.out.2.get j (by rw [HNV1.out.1.len]; exact hjN)
    have hya : atV V (j : Int) = Yr := by unfold atV; rw [if_pos (by omega), Int.toNat_natCast, hYr]; rfl
    have HYR : Hid (Rw W6 y (atV V (j : Int)) 3) := by show Rw _ _ _ _; rw [hya]; exact hyr.below HBW6.out
    have HAL : Hid (∀ w', Below W6.heap.size W6 w' → (w'.cell? ⟨X1, 0, none⟩ = some (.bool z1.s) ∧ w'.cell? ⟨X1, 1, none⟩ = some (.slice z1.A z1.n z1.c) ∧ w'.cell? ⟨X1, 2, none⟩ = some (.slice z1.B z1.m z1.d)) ∧ At3 w' vb (voff + j * 3) y) := fun w' h => by
     obtain ⟨g0, g1, g2, _⟩ := (HW6.out.1.below h).facts
     have hbw := HBW6.out.trans (h.mono HBW6.out.size)
     exact ⟨⟨g0, g1, g2⟩, (hvc j y hy).keep (hbw.block vb hvb)⟩
    subst hA'
    clear hvb hvc hy hYr hyr hya h0 h1 h2 HF1
    obtain ⟨⟨x0, x1, x2⟩, y0, y1, y2⟩ := HAL.out _ (Below.refl _ _)
    have g0 : ¬ (j : Int) < 0 := by omega
    have g0d : decide ((j : Int) < 0) = false := decide_eq_false g0
    have g1 : ¬ (N : Int) ≤ (j : Int) := by omega
    have g1d : decide ((N : Int) ≤ (j : Int)) = false := decide_eq_false g1
    have g1n : decide (N ≤ j) = false := decide_eq_false (by omega)
    refine wp_region_held_drew (S := fun w' => w'.cell? ⟨X1, 0, none⟩ = some (.bool z1.s) ∧ w'.cell? ⟨X1, 1, none⟩ = some (.slice z1.A z1.n z1.c) ∧ w'.cell? ⟨X1, 2, none⟩ = some (.slice z1.B z1.m z1.d) ∧ w'.cell? ⟨vb, voff + j * 3, none⟩ = some (.bool y.s) ∧ w'.cell? ⟨vb, voff + j * 3 + 1, none⟩ = some (.slice y.A y.n y.c) ∧ w'.cell? ⟨vb, voff + j * 3 + 2, none⟩ = some (.slice y.B y.m y.d)) (by kernel_rfl) ?_ (fun hHeld => ?_)
    ·
     (try dsimp only)
     go_keep
    refine wpAnyH_take (i := 0) (oi := { dst := some 76, op := Op.move (tmp 14), type := 4, pos := "law.go:92", after := #[], guard := none }) (v := ?vq6x) rfl (by kernel_rfl) (by kernel_rfl) (by kernel_rfl) (fun _ _ _ => id) (Or.inl ⟨by rfl, ?hyq6x⟩) (by assumption) ?restq6x
    case hyq6x => intro w hSw; (try dsimp only at hSw); go_simp; all_goals (with_reducible rfl)
    try simp only [Act.put, zK]
    refine wpAnyH_take (i := 1) (oi := { dst := some 77, op := Op.move (tmp 76), type := 4, pos := "law.go:92", after := #[eD 0], guard := none }) (v := ?vq7x) rfl (by kernel_rfl) (by kernel_rfl) (by kernel_rfl) (fun _ _ _ => id) (Or.inl ⟨by rfl, ?hyq7x⟩) (by assumption) ?restq7x
    case hyq7x => intro w hSw; (try dsimp only at hSw); go_simp; all_goals (with_reducible rfl)
    try simp only [Act.put, zK]
    refine wpAnyH_take (i := 2) (oi := { dst := some 78, op := Op.move (tmp 3), type := 3, pos := "law.go:92", after := #[eG 1], guard := some (1, true) }) (v := ?vq8x) rfl (by kernel_rfl) (by kernel_rfl) (by kernel_rfl) (fun _ _ _ => id) (Or.inl ⟨by rfl, ?hyq8x⟩) (by assumption) ?restq8x
    case hyq8x => intro w hSw; (try dsimp only at hSw); go_simp; all_goals (with_reducible rfl)
    try simp only [Act.put, zK]
    refine wpAnyH_take (i := 3) (oi := { dst := some 79, op := Op.binOp BinOp.lss 3 (tmp 78) (Operand.const (Value.int IntKind.i64 0)) 3, type := 4, pos := "law.go:92", after := #[eD 2, eG 1], guard := some (1, true) }) (v := ?vq9x) rfl (by kernel_rfl) (by kernel_rfl) (by kernel_rfl) (fun _ _ _ => id) (Or.inl ⟨by rfl, ?hyq9x⟩) (by assumption) ?restq9x
    case hyq9x => intro w hSw; (try dsimp only at hSw); go_simp; all_goals (with_reducible rfl)
    try simp only [Act.put, zK]
    refine wpAnyH_take (i := 4) (oi := { dst := some 80, op := Op.move (tmp 79), type := 4, pos := "law.go:92", after := #[eD 3, eC 1, eG 1], guard := some (1, true) }) (v := ?vq10x) rfl (by kernel_rfl) (by kernel_rfl) (by kernel_rfl) (fun _ _ _ => id) (Or.inl ⟨by rfl, ?hyq10x⟩) (by assumption) ?restq10x
    case hyq10x => intro w hSw; (try dsimp only at hSw); go_simp; all_goals (with_reducible rfl)
    try simp only [Act.put, zK]
    refine wpAnyH_take (i := 5) (oi := { dst := some 81, op := Op.move (tmp 3), type := 3, pos := "law.go:92", after := #[eG 4], guard := some (4, false) }) (v := ?vq11x) rfl (by kernel_rfl) (by kernel_rfl) (by kernel_rfl) (fun _ _ _ => id) (Or.inl ⟨by rfl, ?hyq11x⟩) (by assumption) ?restq11x
    case hyq11x => intro w hSw; (try dsimp only at hSw); go_simp; all_goals (with_reducible rfl)
    try simp only [Act.put, zK]
    refine wpAnyH_take (i := 6) (oi := { dst := some 82, op := Op.move (tmp 9), type := 3, pos := "law.go:92", after := #[eG 4], guard := some (4, false) }) (v := ?vq12x) rfl (by kernel_rfl) (by kernel_rfl) (by kernel_rfl) (fun _ _ _ => id) (Or.inl ⟨by rfl, ?hyq12x⟩) (by assumption) ?restq12x
    case hyq12x => intro w hSw; (try dsimp only at hSw); go_simp; all_goals (with_reducible rfl)
    try simp only [Act.put, zK]
    refine wpAnyH_take (i := 7) (oi := { dst := some 83, op := Op.binOp BinOp.geq 3 (tmp 81) (tmp 82) 3, type := 4, pos := "law.go:92", after := #[eD 5, eD 6, eG 4], guard := some (4, false) }) (v := ?vq13x) rfl (by kernel_rfl) (by kernel_rfl) (by kernel_rfl) (fun _ _ _ => id) (Or.inl ⟨by rfl, ?hyq13x⟩) (by assumption) ?restq13x
    case hyq13x => intro w hSw; (try dsimp only at hSw); go_simp; all_goals (with_reducible rfl)
    try simp only [Act.put, zK]
    refine wpAnyH_take (i := 8) (oi := { dst := some 84, op := Op.pick (tmp 80) (Operand.const (Value.bool true)) (tmp 83), type := 4, pos := "law.go:92", after := #[eD 4, eD 7, eG 1], guard := some (1, true) }) (v := ?vq14x) rfl (by kernel_rfl) (by kernel_rfl) (by kernel_rfl) (fun _ _ _ => id) (Or.inl ⟨by rfl, ?hyq14x⟩) (by assumption) ?restq14x
    case hyq14x => intro w hSw; (try dsimp only at hSw); go_simp; all_goals (with_reducible rfl)
    try simp only [Act.put, zK]
    refine wpAnyH_take (i := 9) (oi := { dst := some 85, op := Op.move (tmp 84), type := 4, pos := "law.go:92", after := #[eD 8, eC 4, eG 1], guard := some (1, true) }) (v := ?vq15x) rfl (by kernel_rfl) (by kernel_rfl) (by kernel_rfl) (fun _ _ _ => id) (Or.inl ⟨by rfl, ?hyq15x⟩) (by assumption) ?restq15x
    case hyq15x => intro w hSw; (try dsimp only at hSw); go_simp; all_goals (with_reducible rfl)
    try simp only [Act.put, zK]
    refine wpAnyH_take (i := 10) (oi := { dst := some 86, op := Op.load 26 (tmp 13), type := 26, pos := "law.go:92", after := #[eG 9], guard := some (9, false) }) (v := ?vq16x) rfl (by kernel_rfl) (by kernel_rfl) (by kernel_rfl) (fun _ _ _ => id) (Or.inl ⟨by rfl, ?hyq16x⟩) (by assumption) ?restq16x
    case hyq16x => intro w hSw; (try dsimp only at hSw); go_simp; all_goals (with_reducible rfl)
    try simp only [Act.put, zK]
    refine wpAnyH_take (i := 11) (oi := { dst := some 87, op := Op.move (tmp 2), type := 29, pos := "law.go:92", after := #[eG 9], guard := some (9, false) }) (v := ?vq17x) rfl (by kernel_rfl) (by kernel_rfl) (by kernel_rfl) (fun _ _ _ => id) (Or.inl ⟨by rfl, ?hyq17x⟩) (by assumption) ?restq17x
    case hyq17x => intro w hSw; (try dsimp only at hSw); go_simp; all_goals (with_reducible rfl)
    try simp only [Act.put, zK]
    refine wpAnyH_take (i := 12) (oi := { dst := some 88, op := Op.move (tmp 3), type := 3, pos := "law.go:92", after := #[eG 9], guard := some (9, false) }) (v := ?vq18x) rfl (by kernel_rfl) (by kernel_rfl) (by kernel_rfl) (fun _ _ _ => id) (Or.inl ⟨by rfl, ?hyq18x⟩) (by assumption) ?restq18x
    case hyq18x => intro w hSw; (try dsimp only at hSw); go_simp; all_goals (with_reducible rfl)
    try simp only [Act.put, zK]
    refine wpAnyH_take (i := 13) (oi := { dst := some 89, op := Op.indexAddr 29 (tmp 87) (tmp 88), type := 0, pos := "law.go:92", after := #[eD 11, eD 12, eG 9], guard := some (9, false) }) (v := ?vq19x) rfl (by kernel_rfl) (by kernel_rfl) (by kernel_rfl) (fun _ _ _ => id) (Or.inl ⟨by rfl, ?hyq19x⟩) (by assumption) ?restq19x
    case hyq19x => intro w hSw; (try dsimp only at hSw); go_simp; all_goals (with_reducible rfl)
    try simp only [Act.put, zK]
    refine wpAnyH_take (i := 14) (oi := { dst := some 90, op := Op.load 26 (tmp 89), type := 26, pos := "law.go:92", after := #[eD 13, eG 9], guard := some (9, false) }) (v := ?vq20x) rfl (by kernel_rfl) (by kernel_rfl) (by kernel_rfl) (fun _ _ _ => id) (Or.inl ⟨by rfl, ?hyq20x⟩) (by assumption) ?restq20x
    case hyq20x => intro w hSw; (try dsimp only at hSw); go_simp; all_goals (with_reducible rfl)
    try simp only [Act.put, zK]
    refine wpAnyH_ready (rs := [15]) (by kernel_rfl) (by simp) ?_
    refine AllReadyH.cons (o := { dst := some 91, op := Op.call { callee := Callee.value (Operand.func 19), args := #[tmp 86, tmp 90], argTypes := #[26, 26] }, type := 4, pos := "law.go:92", after := #[eD 10, eD 14, eC 9, eG 9], guard := some (9, false) }) rfl (fun K hK => ?_) AllReadyH.nil
    try go_simp
    go_at_call 19
    refine (rSame_c z1 y q1 (atV V (j : Int)) _ ((HZ1.out.below (bel1 W6)).more (by omega)) ((HYR.out.below (bel1 W6)).more (by omega))).mono ?_
    rw [decide_eq_true HQE.out]
    rintro ee w7 ⟨rfl, hb⟩
    have H7 : Hid (Below W6.heap.size W6 w7) := (bel1 W6).trans hb
    clear hb x0 x1 x2 y0 y1 y2
    obtain ⟨⟨x0, x1, x2⟩, y0, y1, y2⟩ := HAL.out _ H7.out
    try go_wp2_with fail
    refine hK.out _ _ ?_ fun hHeld => ?_
    · (try dsimp only); go_keep
    clear hK K
    try simp only [Act.put, zK]
    refine wpAnyH_take (i := 16) (oi := { dst := some 92, op := Op.unOp UnOp.not 4 (tmp 91), type := 4, pos := "law.go:92", after := #[eD 15, eG 9], guard := some (9, false) }) (v := ?vq21x) rfl (by kernel_rfl) (by kernel_rfl) (by kernel_rfl) (fun _ _ _ => id) (Or.inl ⟨by rfl, ?hyq21x⟩) (by assumption) ?restq21x
    case hyq21x => intro w hSw; (try dsimp only at hSw); go_simp; all_goals (with_reducible rfl)
    try simp only [Act.put, zK]
    refine wpAnyH_take (i := 17) (oi := { dst := some 93, op := Op.pick (tmp 85) (Operand.const (Value.bool true)) (tmp 92), type := 4, pos := "law.go:92", after := #[eD 9, eD 16, eG 1], guard := some (1, true) }) (v := ?vq22x) rfl (by kernel_rfl) (by kernel_rfl) (by kernel_rfl) (fun _ _ _ => id) (Or.inl ⟨by rfl, ?hyq22x⟩) (by assumption) ?restq22x
    case hyq22x => intro w hSw; (try dsimp only at hSw); go_simp; all_goals (with_reducible rfl)
    try simp only [Act.put, zK]
    refine wpAnyH_take (i := 18) (oi := { dst := some 94, op := Op.pick (tmp 77) (tmp 93) (Operand.const (Value.bool false)), type := 4, pos := "law.go:92", after := #[eD 1, eD 17], guard := none }) (v := ?vq23x) rfl (by kernel_rfl) (by kernel_rfl) (by kernel_rfl) (fun _ _ _ => id) (Or.inl ⟨by rfl, ?hyq23x⟩) (by assumption) ?restq23x
    case hyq23x => intro w hSw; (try dsimp only at hSw); go_simp; all_goals (with_reducible rfl)
    try simp only [Act.put, zK]
    refine wpAnyH_done (by kernel_rfl) ?_ _
    clear x0 x1 x2 y0 y1 y2
    have H8 : Hid (Below wr.heap.size wr w7) := HW6.out.2.1.trans (H7.out.mono HW6.out.2.1.size)
    have HCW : Hid (C5 w7 X (.int .i64 vc.s) (.slice vc.A vc.n vc.c) (.bool vc.K.s) (.slice vc.K.A vc.K.n vc.K.c) (.slice vc.K.B vc.K.m vc.K.d)) := HCX.out.below H8.out
    have HB8 : Hid (Below w.heap.size w w7) := HBW.out.trans (H8.out.mono HBW.out.size)
    obtain ⟨a0, a1, a2, a3, a4⟩ := HCW.out.facts
    have HKC : Hid (KinOf N 1000 w7 ⟨vc, Lc, kc, okc⟩) := by
     have h := HXC.out.below HB8.out
     exact ⟨h.cap, h.n, h.num.more (by omega), lc, h.row, h.rd.more (by omega), HOK.out.trans (IsS.turn HXC.out.rd HXC.out.num HB8.out)⟩
    go_wp2_with fail
    refine (Implies_c (N : Int) N 1000 A3 i c3 us vc Lc kc okc w7 HN.out (HKN.out.below H8.out) HKC.out (by omega) HRO.out).mono ?_
    rintro e w8 ⟨b2, rfl, hi2, hb8⟩
    have H9 : Hid (Below wr.heap.size wr w8) := H8.out.trans (hb8.mono H8.out.size)
    have HC9 : Hid (C5 w8 X (.int .i64 vc.s) (.slice vc.A vc.n vc.c) (.bool vc.K.s) (.slice vc.K.A vc.K.n vc.K.c) (.slice vc.K.B vc.K.m vc.K.d)) := HCW.out.below hb8
    have HAT : Hid (b2 = true → atL (atV V) Lc kc = 0) := fun hb => by
     rcases hi2.1 hb with h | ⟨h1, h2⟩
     · exact absurd ⟨p, HSAT.out⟩ h
     ·
      have h3 := h2 p HSAT.out
      rw [HPP.out, dot_at (N := N) (atV V) ((HOK.out.1 h1).vars HXC.out.rd)] at h3
      exact h3
    clear hi2 hb8 a0 a1 a2 a3 a4 HKC HCW HB8
    cases b2 with
    |
     true =>
     obtain ⟨a0, a1, a2, a3, a4⟩ := HC9.out.facts
     have HB9 : Hid (Below w.heap.size w w8) := HBW.out.trans (H9.out.mono HBW.out.size)
     go_wp2_with fail
     refine (rHolds_c vc _ N c' lc lv Lc V kc w8 (HXC.out.below HB9.out) (HNV1.out.1.below HB9.out) (RdV.below HB9.out HNV1.out.2) (by omega)).mono ?_
     rw [decide_eq_true (HAT.out (by trivial))]
     rintro e w9 ⟨rfl, hb⟩
     have H10 : Hid (Below wr.heap.size wr w9) := H9.out.trans (hb.mono H9.out.size)
     clear hb a0 a1 a2 a3 a4 HB9
     go_wp2_with fail
     refine (Rank_c (N : Int) N 1000 A3 i c3 us _ HN.out (HKN.out.below H10.out) (by omega) HRO.out).mono ?_
     rintro e w10 ⟨R, rfl, hB, hb⟩
     have H11 : Hid (Below w.heap.size w w10) := HBW.out.trans ((H10.out.trans (hb.mono H10.out.size)).mono HBW.out.size)
     have hl1 : (R.length : Int) ≤ (i : Int) := by have h1 := (rank_le hB).2; have h2 := sums_len N us; have h3 := HUL.out; omega
     have hl2 : (R.length : Int) ≤ (N : Int) := by have h1 := (rank_le hB).1; omega
     clear hb hB
     generalize R.length = r at *
     have hl3 : (r : Int) ≤ min (i : Int) (N : Int) := by omega
     have hl4 : decide ((r : Int) ≤ min (i : Int) (N : Int)) = true := decide_eq_true hl3
     go_wp2_with fail
     refine (known10_c _).mono ?_
     rintro e w11 ⟨rfl, hb⟩
     have H12 : Hid (Below w.heap.size w w11) := H11.out.trans (hb.mono H11.out.size)
     clear hb
     go_wp2
     go_ret
     exact ⟨rfl, H12.out⟩
    |
     false =>
     have H10 := H9
     go_wp2_with fail
     refine (Rank_c (N : Int) N 1000 A3 i c3 us _ HN.out (HKN.out.below H10.out) (by omega) HRO.out).mono ?_
     rintro e w10 ⟨R, rfl, hB, hb⟩
     have H11 : Hid (Below w.heap.size w w10) := HBW.out.trans ((H10.out.trans (hb.mono H10.out.size)).mono HBW.out.size)
     have hl1 : (R.length : Int) ≤ (i : Int) := by have h1 := (rank_le hB).2; have h2 := sums_len N us; have h3 := HUL.out; omega
     have hl2 : (R.length : Int) ≤ (N : Int) := by have h1 := (rank_le hB).1; omega
     clear hb hB
     generalize R.length = r at *
     have hl3 : (r : Int) ≤ min (i : Int) (N : Int) := by omega
     have hl4 : decide ((r : Int) ≤ min (i : Int) (N : Int)) = true := decide_eq_true hl3
     go_wp2_with fail
     refine (known10_c _).mono ?_
     rintro e w11 ⟨rfl, hb⟩
     have H12 : Hid (Below w.heap.size w w11) := H11.out.trans (hb.mono H11.out.size)
     clear hb
     go_wp2
     go_ret
     exact ⟨rfl, H12.out⟩
   |
    false =>
    clear HF1
    refine wp_region_held_drew (S := fun _ => True) (by kernel_rfl) ?_ (fun hHeld => ?_)
    ·
     (try dsimp only)
     try go_keep
    refine wpAnyH_take (i := 0) (oi := { dst := some 76, op := Op.move (tmp 14), type := 4, pos := "law.go:92", after := #[], guard := none }) (v := ?vq24x) rfl (by kernel_rfl) (by kernel_rfl) (by kernel_rfl) (fun _ _ _ => id) (Or.inl ⟨by rfl, ?hyq24x⟩) (by assumption) ?restq24x
    case hyq24x => intro w hSw; (try dsimp only at hSw); go_simp; all_goals (with_reducible rfl)
    try simp only [Act.put, zK]
    refine wpAnyH_take (i := 1) (oi := { dst := some 77, op := Op.move (tmp 76), type := 4, pos := "law.go:92", after := #[eD 0], guard := none }) (v := ?vq25x) rfl (by kernel_rfl) (by kernel_rfl) (by kernel_rfl) (fun _ _ _ => id) (Or.inl ⟨by rfl, ?hyq25x⟩) (by assumption) ?restq25x
    case hyq25x => intro w hSw; (try dsimp only at hSw); go_simp; all_goals (with_reducible rfl)
    try simp only [Act.put, zK]
    refine wpAnyH_take (i := 2) (oi := { dst := some 78, op := Op.move (tmp 3), type := 3, pos := "law.go:92", after := #[eG 1], guard := some (1, true) }) (v := undef) rfl (by kernel_rfl) (by kernel_rfl) (by kernel_rfl) (fun _ _ _ => id) (Or.inr ⟨by rfl, rfl⟩) (by assumption) ?_
    try simp only [Act.put, zK]
    refine wpAnyH_take (i := 3) (oi := { dst := some 79, op := Op.binOp BinOp.lss 3 (tmp 78) (Operand.const (Value.int IntKind.i64 0)) 3, type := 4, pos := "law.go:92", after := #[eD 2, eG 1], guard := some (1, true) }) (v := undef) rfl (by kernel_rfl) (by kernel_rfl) (by kernel_rfl) (fun _ _ _ => id) (Or.inr ⟨by rfl, rfl⟩) (by assumption) ?_
    try simp only [Act.put, zK]
    refine wpAnyH_take (i := 4) (oi := { dst := some 80, op := Op.move (tmp 79), type := 4, pos := "law.go:92", after := #[eD 3, eC 1, eG 1], guard := some (1, true) }) (v := undef) rfl (by kernel_rfl) (by kernel_rfl) (by kernel_rfl) (fun _ _ _ => id) (Or.inr ⟨by rfl, rfl⟩) (by assumption) ?_
    try simp only [Act.put, zK]
    refine wpAnyH_take (i := 5) (oi := { dst := some 81, op := Op.move (tmp 3), type := 3, pos := "law.go:92", after := #[eG 4], guard := some (4, false) }) (v := undef) rfl (by kernel_rfl) (by kernel_rfl) (by kernel_rfl) (fun _ _ _ => id) (Or.inr ⟨by rfl, rfl⟩) (by assumption) ?_
    try simp only [Act.put, zK]
    refine wpAnyH_take (i := 6) (oi := { dst := some 82, op := Op.move (tmp 9), type := 3, pos := "law.go:92", after := #[eG 4], guard := some (4, false) }) (v := undef) rfl (by kernel_rfl) (by kernel_rfl) (by kernel_rfl) (fun _ _ _ => id) (Or.inr ⟨by rfl, rfl⟩) (by assumption) ?_
    try simp only [Act.put, zK]
    refine wpAnyH_take (i := 7) (oi := { dst := some 83, op := Op.binOp BinOp.geq 3 (tmp 81) (tmp 82) 3, type := 4, pos := "law.go:92", after := #[eD 5, eD 6, eG 4], guard := some (4, false) }) (v := undef) rfl (by kernel_rfl) (by kernel_rfl) (by kernel_rfl) (fun _ _ _ => id) (Or.inr ⟨by rfl, rfl⟩) (by assumption) ?_
    try simp only [Act.put, zK]
    refine wpAnyH_take (i := 8) (oi := { dst := some 84, op := Op.pick (tmp 80) (Operand.const (Value.bool true)) (tmp 83), type := 4, pos := "law.go:92", after := #[eD 4, eD 7, eG 1], guard := some (1, true) }) (v := undef) rfl (by kernel_rfl) (by kernel_rfl) (by kernel_rfl) (fun _ _ _ => id) (Or.inr ⟨by rfl, rfl⟩) (by assumption) ?_
    try simp only [Act.put, zK]
    refine wpAnyH_take (i := 9) (oi := { dst := some 85, op := Op.move (tmp 84), type := 4, pos := "law.go:92", after := #[eD 8, eC 4, eG 1], guard := some (1, true) }) (v := undef) rfl (by kernel_rfl) (by kernel_rfl) (by kernel_rfl) (fun _ _ _ => id) (Or.inr ⟨by rfl, rfl⟩) (by assumption) ?_
    try simp only [Act.put, zK]
    refine wpAnyH_take (i := 10) (oi := { dst := some 86, op := Op.load 26 (tmp 13), type := 26, pos := "law.go:92", after := #[eG 9], guard := some (9, false) }) (v := undef) rfl (by kernel_rfl) (by kernel_rfl) (by kernel_rfl) (fun _ _ _ => id) (Or.inr ⟨by rfl, rfl⟩) (by assumption) ?_
    try simp only [Act.put, zK]
    refine wpAnyH_take (i := 11) (oi := { dst := some 87, op := Op.move (tmp 2), type := 29, pos := "law.go:92", after := #[eG 9], guard := some (9, false) }) (v := undef) rfl (by kernel_rfl) (by kernel_rfl) (by kernel_rfl) (fun _ _ _ => id) (Or.inr ⟨by rfl, rfl⟩) (by assumption) ?_
    try simp only [Act.put, zK]
    refine wpAnyH_take (i := 12) (oi := { dst := some 88, op := Op.move (tmp 3), type := 3, pos := "law.go:92", after := #[eG 9], guard := some (9, false) }) (v := undef) rfl (by kernel_rfl) (by kernel_rfl) (by kernel_rfl) (fun _ _ _ => id) (Or.inr ⟨by rfl, rfl⟩) (by assumption) ?_
    try simp only [Act.put, zK]
    refine wpAnyH_take (i := 13) (oi := { dst := some 89, op := Op.indexAddr 29 (tmp 87) (tmp 88), type := 0, pos := "law.go:92", after := #[eD 11, eD 12, eG 9], guard := some (9, false) }) (v := undef) rfl (by kernel_rfl) (by kernel_rfl) (by kernel_rfl) (fun _ _ _ => id) (Or.inr ⟨by rfl, rfl⟩) (by assumption) ?_
    try simp only [Act.put, zK]
    refine wpAnyH_take (i := 14) (oi := { dst := some 90, op := Op.load 26 (tmp 89), type := 26, pos := "law.go:92", after := #[eD 13, eG 9], guard := some (9, false) }) (v := undef) rfl (by kernel_rfl) (by kernel_rfl) (by kernel_rfl) (fun _ _ _ => id) (Or.inr ⟨by rfl, rfl⟩) (by assumption) ?_
    try simp only [Act.put, zK]
    refine wpAnyH_take (i := 15) (oi := { dst := some 91, op := Op.call { callee := Callee.value (Operand.func 19), args := #[tmp 86, tmp 90], argTypes := #[26, 26] }, type := 4, pos := "law.go:92", after := #[eD 10, eD 14, eC 9, eG 9], guard := some (9, false) }) (v := undef) rfl (by kernel_rfl) (by kernel_rfl) (by kernel_rfl) (fun _ _ _ => id) (Or.inr ⟨by rfl, rfl⟩) (by assumption) ?_
    try simp only [Act.put, zK]
    refine wpAnyH_take (i := 16) (oi := { dst := some 92, op := Op.unOp UnOp.not 4 (tmp 91), type := 4, pos := "law.go:92", after := #[eD 15, eG 9], guard := some (9, false) }) (v := undef) rfl (by kernel_rfl) (by kernel_rfl) (by kernel_rfl) (fun _ _ _ => id) (Or.inr ⟨by rfl, rfl⟩) (by assumption) ?_
    try simp only [Act.put, zK]
    refine wpAnyH_take (i := 17) (oi := { dst := some 93, op := Op.pick (tmp 85) (Operand.const (Value.bool true)) (tmp 92), type := 4, pos := "law.go:92", after := #[eD 9, eD 16, eG 1], guard := some (1, true) }) (v := undef) rfl (by kernel_rfl) (by kernel_rfl) (by kernel_rfl) (fun _ _ _ => id) (Or.inr ⟨by rfl, rfl⟩) (by assumption) ?_
    try simp only [Act.put, zK]
    refine wpAnyH_take (i := 18) (oi := { dst := some 94, op := Op.pick (tmp 77) (tmp 93) (Operand.const (Value.bool false)), type := 4, pos := "law.go:92", after := #[eD 1, eD 17], guard := none }) (v := ?vq26x) rfl (by kernel_rfl) (by kernel_rfl) (by kernel_rfl) (fun _ _ _ => id) (Or.inl ⟨by rfl, ?hyq26x⟩) (by assumption) ?restq26x
    case hyq26x => intro w hSw; (try dsimp only at hSw); go_simp; all_goals (with_reducible rfl)
    try simp only [Act.put, zK]
    refine wpAnyH_done (by kernel_rfl) ?_ _
    have H7 : Hid (Below W6.heap.size W6 W6.drew) := bel1 W6
    generalize W6.drew = w7 at *
    have H8 : Hid (Below wr.heap.size wr w7) := HW6.out.2.1.trans (H7.out.mono HW6.out.2.1.size)
    have HCW : Hid (C5 w7 X (.int .i64 vc.s) (.slice vc.A vc.n vc.c) (.bool vc.K.s) (.slice vc.K.A vc.K.n vc.K.c) (.slice vc.K.B vc.K.m vc.K.d)) := HCX.out.below H8.out
    have HB8 : Hid (Below w.heap.size w w7) := HBW.out.trans (H8.out.mono HBW.out.size)
    obtain ⟨a0, a1, a2, a3, a4⟩ := HCW.out.facts
    have HKC : Hid (KinOf N 1000 w7 ⟨vc, Lc, kc, okc⟩) := by
     have h := HXC.out.below HB8.out
     exact ⟨h.cap, h.n, h.num.more (by omega), lc, h.row, h.rd.more (by omega), HOK.out.trans (IsS.turn HXC.out.rd HXC.out.num HB8.out)⟩
    go_wp2_with fail
    refine (Implies_c (N : Int) N 1000 A3 i c3 us vc Lc kc okc w7 HN.out (HKN.out.below H8.out) HKC.out (by omega) HRO.out).mono ?_
    rintro e w8 ⟨b2, rfl, hi2, hb8⟩
    have H9 : Hid (Below wr.heap.size wr w8) := H8.out.trans (hb8.mono H8.out.size)
    have HC9 : Hid (C5 w8 X (.int .i64 vc.s) (.slice vc.A vc.n vc.c) (.bool vc.K.s) (.slice vc.K.A vc.K.n vc.K.c) (.slice vc.K.B vc.K.m vc.K.d)) := HCW.out.below hb8
    have HAT : Hid (b2 = true → atL (atV V) Lc kc = 0) := fun hb => by
     rcases hi2.1 hb with h | ⟨h1, h2⟩
     · exact absurd ⟨p, HSAT.out⟩ h
     ·
      have h3 := h2 p HSAT.out
      rw [HPP.out, dot_at (N := N) (atV V) ((HOK.out.1 h1).vars HXC.out.rd)] at h3
      exact h3
    clear hi2 hb8 a0 a1 a2 a3 a4 HKC HCW HB8
    cases b2 with
    |
     true =>
     obtain ⟨a0, a1, a2, a3, a4⟩ := HC9.out.facts
     have HB9 : Hid (Below w.heap.size w w8) := HBW.out.trans (H9.out.mono HBW.out.size)
     go_wp2_with fail
     refine (rHolds_c vc _ N c' lc lv Lc V kc w8 (HXC.out.below HB9.out) (HNV1.out.1.below HB9.out) (RdV.below HB9.out HNV1.out.2) (by omega)).mono ?_
     rw [decide_eq_true (HAT.out (by trivial))]
     rintro e w9 ⟨rfl, hb⟩
     have H10 : Hid (Below wr.heap.size wr w9) := H9.out.trans (hb.mono H9.out.size)
     clear hb a0 a1 a2 a3 a4 HB9
     go_wp2_with fail
     refine (Rank_c (N : Int) N 1000 A3 i c3 us _ HN.out (HKN.out.below H10.out) (by omega) HRO.out).mono ?_
     rintro e w10 ⟨R, rfl, hB, hb⟩
     have H11 : Hid (Below w.heap.size w w10) := HBW.out.trans ((H10.out.trans (hb.mono H10.out.size)).mono HBW.out.size)
     have hl1 : (R.length : Int) ≤ (i : Int) := by have h1 := (rank_le hB).2; have h2 := sums_len N us; have h3 := HUL.out; omega
     have hl2 : (R.length : Int) ≤ (N : Int) := by have h1 := (rank_le hB).1; omega
     clear hb hB
     generalize R.length = r at *
     have hl3 : (r : Int) ≤ min (i : Int) (N : Int) := by omega
     have hl4 : decide ((r : Int) ≤ min (i : Int) (N : Int)) = true := decide_eq_true hl3
     go_wp2_with fail
     refine (known10_c _).mono ?_
     rintro e w11 ⟨rfl, hb⟩
     have H12 : Hid (Below w.heap.size w w11) := H11.out.trans (hb.mono H11.out.size)
     clear hb
     go_wp2
     go_ret
     exact ⟨rfl, H12.out⟩
    |
     false =>
     have H10 := H9
     go_wp2_with fail
     refine (Rank_c (N : Int) N 1000 A3 i c3 us _ HN.out (HKN.out.below H10.out) (by omega) HRO.out).mono ?_
     rintro e w10 ⟨R, rfl, hB, hb⟩
     have H11 : Hid (Below w.heap.size w w10) := HBW.out.trans ((H10.out.trans (hb.mono H10.out.size)).mono HBW.out.size)
     have hl1 : (R.length : Int) ≤ (i : Int) := by have h1 := (rank_le hB).2; have h2 := sums_len N us; have h3 := HUL.out; omega
     have hl2 : (R.length : Int) ≤ (N : Int) := by have h1 := (rank_le hB).1; omega
     clear hb hB
     generalize R.length = r at *
     have hl3 : (r : Int) ≤ min (i : Int) (N : Int) := by omega
     have hl4 : decide ((r : Int) ≤ min (i : Int) (N : Int)) = true := decide_eq_true hl3
     go_wp2_with fail
     refine (known10_c _).mono ?_
     rintro e w11 ⟨rfl, hb⟩
     have H12 : Hid (Below w.heap.size w w11) := H11.out.trans (hb.mono H11.out.size)
     clear hb
     go_wp2
     go_ret
     exact ⟨rfl, H12.out⟩
end Go.Proofs.YtkfkjdpkkagjgaaGreat
