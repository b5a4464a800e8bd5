/-
  Whether a choice may be, by the document.
-/
import Derived.Test.YtjbhhccklfddaaaVHas
import Derived.OrdersHeld
import Derived.Test.YtjbhhccklfddaaaVRgn
namespace Go.Proofs.Ytjbhhccklfddaaa
set_option maxRecDepth 20000
open Go.RowKit
set_option maxHeartbeats 25600000 in
theorem rIs13_c (w0 : World) (n : Int) (N : Nat) (A : Option Addr) (cA : Nat) (ps : List (Cv × List Tv)) (OA : Option Addr) (m oc : Nat) (L : List Int) (w : World) (hg : Gns w0 A N ps) (hN : N ≤ 12) (hm : m ≤ 1000) (hO : ZRow w0 OA m L) (hb0 : Below w0.heap.size w0 w) :
  Calls Try.prog 16 #[.slice A N cA, .slice OA m oc, .int .i64 n] w fun e w' => BPost (∃ o, May w0 n N ps m L o) e ∧ Below w.heap.size w w' := by
 have N0 : (0 : Int) ≤ (N : Int) := by omega
 have N1 : (N : Int) ≤ 12 := by omega
 have HD := Lib.hid (And.intro hg (And.intro hO hb0))
 clear hg hO hb0
 go_enter Try.func16, Try.ntmps16
 by_cases h1 : n < 1
 ·
  have HN : Hid (¬ ∃ o, May w0 n N ps m L o) := fun ⟨o, k⟩ => by have := k.n1; omega
  go_wp2
  go_ret
  exact ⟨BPost.no HN.out rfl, Below.refl _ _⟩
 by_cases h2 : 64 < n
 ·
  have HN : Hid (¬ ∃ o, May w0 n N ps m L o) := fun ⟨o, k⟩ => by have := k.n64; omega
  go_wp2
  go_ret
  exact ⟨BPost.no HN.out rfl, Below.refl _ _⟩
 have h3 : ¬ (256 : Int) < (N : Int) := by omega
 by_cases h4 : m = N
 case neg =>
  have h5 : ¬ (m : Int) = (N : Int) := by omega
  have HN : Hid (¬ ∃ o, May w0 n N ps m L o) := fun ⟨o, k⟩ => h4 k.len
  clear h4
  go_wp2
  go_ret
  exact ⟨BPost.no HN.out rfl, Below.refl _ _⟩
 case pos =>
 subst h4
 have HP0 := Lib.hid (Part.start w0 n m ps L)
 have hpl : Hid (ps.length = m) := HD.out.1.len
 have n0 : 0 ≤ n := by omega
 go_wp2
 go_loopw [7, 8] (fun iv _ wr => ∃ (i : Nat) (o1 : Nat → Option Nat), i ≤ m ∧ iv = .int .i64 i ∧ Hid (Part w0 n m ps L i o1) ∧ Hid (Below w.heap.size w wr)) (fun iv _ _ => m - (intOf iv).toNat)
 case atStart => exact ⟨0, _, Nat.zero_le _, rfl, HP0, Lib.hid (Below.refl _ _)⟩
 case round =>
  clear HP0
  obtain ⟨i, o1, hi, rfl, HP, HBR⟩ := hrel
  have i0 : (0 : Int) ≤ (i : Int) := by omega
  have HB0 : Hid (Below w0.heap.size w0 wr) := HD.out.2.2.trans (HBR.out.mono HD.out.2.2.size)
  by_cases hlt : i < m
  ·
   have i1 : (i : Int) < (m : Int) := by omega
   obtain ⟨bo, oo, rfl, hbo, hoc⟩ := HD.out.2.1.mem (by omega)
   have hkp : i < ps.length := by rw [hpl.out]; exact hlt
   have hx := List.getElem?_eq_getElem hkp
   obtain ⟨x, hxe⟩ : ∃ x, x = ps[i] := ⟨_, rfl⟩
   rw [← hxe] at hx
   have HX := Lib.hid hx
   obtain ⟨bb, off, rfl, hbb, hat⟩ := conU_of HD.out.1 hx
   have hin := HD.out.1.each x (List.mem_of_getElem? hx)
   obtain ⟨Lx, hLx⟩ := hin.rd
   obtain ⟨kx, hkx⟩ := hin.k
   have HIN := Lib.hid (And.intro hin (And.intro hLx hkx))
   obtain ⟨v, hv⟩ : ∃ v, v = zt L i := ⟨_, rfl⟩
   have HV := Lib.hid hv
   have HAT0 : Hid (∀ w', Below wr.heap.size wr w' → (w'.cell? ⟨bb, off + i * 5, none⟩ = some (.int .i64 x.1.s) ∧ w'.cell? ⟨bb, off + i * 5 + 1, none⟩ = some (.slice x.1.A x.1.n x.1.c) ∧ w'.cell? ⟨bb, off + i * 5 + 2, none⟩ = some (.bool x.1.K.s) ∧ w'.cell? ⟨bb, off + i * 5 + 3, none⟩ = some (.slice x.1.K.A x.1.K.n x.1.K.c) ∧ w'.cell? ⟨bb, off + i * 5 + 4, none⟩ = some (.slice x.1.K.B x.1.K.m x.1.K.d)) ∧ ∀ j, j < m → w'.cell? ⟨bo, oo + j, none⟩ = some (.int .i64 (zt L j))) := fun w' hw => by
    have hb := HB0.out.trans (hw.mono HB0.out.size)
    obtain ⟨q0, q1, q2, q3, q4⟩ := hat.keep (hb.block bb hbb)
    exact ⟨⟨q0, q1, q2, q3, q4⟩, fun j hj => (hb.cell hbo).trans (hoc j hj)⟩
   have HAT : Hid (∀ w', Below wr.heap.size wr w' → (w'.cell? ⟨bb, off + i * 5, none⟩ = some (.int .i64 x.1.s) ∧ w'.cell? ⟨bb, off + i * 5 + 1, none⟩ = some (.slice x.1.A x.1.n x.1.c) ∧ w'.cell? ⟨bb, off + i * 5 + 2, none⟩ = some (.bool x.1.K.s) ∧ w'.cell? ⟨bb, off + i * 5 + 3, none⟩ = some (.slice x.1.K.A x.1.K.n x.1.K.c) ∧ w'.cell? ⟨bb, off + i * 5 + 4, none⟩ = some (.slice x.1.K.B x.1.K.m x.1.K.d) ∧ w'.cell? ⟨bo, oo + i, none⟩ = some (.int .i64 v))) := fun w' hw => by
    obtain ⟨⟨q0, q1, q2, q3, q4⟩, q5⟩ := HAT0.out w' hw
    exact ⟨q0, q1, q2, q3, q4, hv ▸ q5 i hlt⟩
   obtain ⟨a0, a1, a2, a3, a4, c0⟩ := HAT.out _ (Below.refl _ _)
   clear hv hoc hx hxe hkp hat hin hLx hkx hbo hbb
   by_cases hs : IsS w0 x.1 x.2 n
   ·
    have HIS : Hid (IsS wr.drew x.1 x.2 n) := (HIN.out.1.turn HB0.out.drew _).1 hs
    have HS := Lib.hid hs
    clear hs
    rcases Int.lt_trichotomy v (-1) with hv | hv | hv
    ·
     have HN : Hid (¬ ∃ o, May w0 n m ps m L o) := fun ⟨o, q⟩ => by
      have h1 := q.outs
      have h2 : v = oi (o i) := by rw [HV.out, h1, outsL_zt hlt]
      cases ho : o i with
      | none => rw [ho] at h2; simp only [oi] at h2; omega
      | some y => rw [ho] at h2; simp only [oi] at h2; omega
     go_wp2_with fail
     refine wp_region_held_drew (S := fun w' => w'.cell? ⟨bb, off + i * 5, none⟩ = some (.int .i64 x.1.s) ∧ w'.cell? ⟨bb, off + i * 5 + 1, none⟩ = some (.slice x.1.A x.1.n x.1.c) ∧ w'.cell? ⟨bb, off + i * 5 + 2, none⟩ = some (.bool x.1.K.s) ∧ w'.cell? ⟨bb, off + i * 5 + 3, none⟩ = some (.slice x.1.K.A x.1.K.n x.1.K.c) ∧ w'.cell? ⟨bb, off + i * 5 + 4, none⟩ = some (.slice x.1.K.B x.1.K.m x.1.K.d) ∧ w'.cell? ⟨bo, oo + i, none⟩ = some (.int .i64 v)) (by kernel_rfl) ?_ (fun hHeld => ?_)
     ·
      (try dsimp only)
      go_keep
     refine tk (i := 0) (h := ?_)
     try simp only [zR]
     refine tk (i := 1) (h := ?_)
     try simp only [zR]
     refine tk (i := 2) (h := ?_)
     try simp only [zR]
     refine tk (i := 3) (h := ?_)
     try simp only [zR]
     refine tk (i := 4) (h := ?_)
     try simp only [zR]
     refine tr [5] ?_
     refine tc (h := fun K hK => ?_) (hs := tn)
     try go_simp
     refine (rIsK_c x.1 n x.2 Lx kx wr.drew (by omega) HIN.out.1.cap ((HIN.out.1.row).below HB0.out.drew) ((HIN.out.2.1.below HB0.out.drew).more (by omega)) ((HIN.out.2.2.below HB0.out.drew).more (by omega)) HIN.out.1.n true ⟨fun _ => HIS.out, fun _ => rfl⟩).mono ?_
     rintro e w4 ⟨rfl, hb4⟩
     have B4 : Hid (Below wr.heap.size wr w4) := (bel1 wr).trans hb4
     clear hb4
     clear a0 a1 a2 a3 a4 c0
     obtain ⟨a0, a1, a2, a3, a4, c0⟩ := HAT.out _ B4.out
     try go_wp2_with fail
     refine hK.out _ _ ?_ (fun hHeld => ?_)
     · (try dsimp only); go_keep
     clear hK K
     try simp only [zR]
     refine tk (i := 6) (h := ?_)
     try simp only [zR]
     refine tk (i := 7) (h := ?_)
     try simp only [zR]
     refine tk (i := 8) (h := ?_)
     try simp only [zR]
     refine tk (i := 9) (h := ?_)
     try simp only [zR]
     refine tk (i := 10) (h := ?_)
     try simp only [zR]
     refine tk (i := 11) (h := ?_)
     try simp only [zR]
     refine tk (i := 12) (h := ?_)
     try simp only [zR]
     refine tk (i := 13) (h := ?_)
     try simp only [zR]
     refine tk (i := 14) (h := ?_)
     try simp only [zR]
     refine ts (i := 15) (h := ?_)
     try simp only [zR]
     refine ts (i := 16) (h := ?_)
     try simp only [zR]
     refine ts (i := 17) (h := ?_)
     try simp only [zR]
     refine ts (i := 18) (h := ?_)
     try simp only [zR]
     refine ts (i := 19) (h := ?_)
     try simp only [zR]
     refine ts (i := 20) (h := ?_)
     try simp only [zR]
     refine ts (i := 21) (h := ?_)
     try simp only [zR]
     refine ts (i := 22) (h := ?_)
     try simp only [zR]
     refine ts (i := 23) (h := ?_)
     try simp only [zR]
     refine ts (i := 24) (h := ?_)
     try simp only [zR]
     refine ts (i := 25) (h := ?_)
     try simp only [zR]
     refine ts (i := 26) (h := ?_)
     try simp only [zR]
     refine ts (i := 27) (h := ?_)
     try simp only [zR]
     refine ts (i := 28) (h := ?_)
     try simp only [zR]
     refine ts (i := 29) (h := ?_)
     try simp only [zR]
     refine ts (i := 30) (h := ?_)
     try simp only [zR]
     refine ts (i := 31) (h := ?_)
     try simp only [zR]
     refine tk (i := 32) (h := ?_)
     try simp only [zR]
     refine wpAnyH_done (by kernel_rfl) ?_ _
     go_wp2
     go_ret
     exact ⟨BPost.no HN.out rfl, HBR.out.trans (B4.out.mono HBR.out.size)⟩
    ·
     subst hv
     go_wp2_with fail
     refine wp_region_held_drew (S := fun w' => w'.cell? ⟨bb, off + i * 5, none⟩ = some (.int .i64 x.1.s) ∧ w'.cell? ⟨bb, off + i * 5 + 1, none⟩ = some (.slice x.1.A x.1.n x.1.c) ∧ w'.cell? ⟨bb, off + i * 5 + 2, none⟩ = some (.bool x.1.K.s) ∧ w'.cell? ⟨bb, off + i * 5 + 3, none⟩ = some (.slice x.1.K.A x.1.K.n x.1.K.c) ∧ w'.cell? ⟨bb, off + i * 5 + 4, none⟩ = some (.slice x.1.K.B x.1.K.m x.1.K.d) ∧ w'.cell? ⟨bo, oo + i, none⟩ = some (.int .i64 (-1))) (by kernel_rfl) ?_ (fun hHeld => ?_)
     ·
      (try dsimp only)
      go_keep
     refine tk (i := 0) (h := ?_)
     try simp only [zR]
     refine tk (i := 1) (h := ?_)
     try simp only [zR]
     refine tk (i := 2) (h := ?_)
     try simp only [zR]
     refine tk (i := 3) (h := ?_)
     try simp only [zR]
     refine tk (i := 4) (h := ?_)
     try simp only [zR]
     refine tr [5] ?_
     refine tc (h := fun K hK => ?_) (hs := tn)
     try go_simp
     refine (rIsK_c x.1 n x.2 Lx kx wr.drew (by omega) HIN.out.1.cap ((HIN.out.1.row).below HB0.out.drew) ((HIN.out.2.1.below HB0.out.drew).more (by omega)) ((HIN.out.2.2.below HB0.out.drew).more (by omega)) HIN.out.1.n true ⟨fun _ => HIS.out, fun _ => rfl⟩).mono ?_
     rintro e w4 ⟨rfl, hb4⟩
     have B4 : Hid (Below wr.heap.size wr w4) := (bel1 wr).trans hb4
     clear hb4
     clear a0 a1 a2 a3 a4 c0
     obtain ⟨a0, a1, a2, a3, a4, c0⟩ := HAT.out _ B4.out
     try go_wp2_with fail
     refine hK.out _ _ ?_ (fun hHeld => ?_)
     · (try dsimp only); go_keep
     clear hK K
     try simp only [zR]
     refine tk (i := 6) (h := ?_)
     try simp only [zR]
     refine tk (i := 7) (h := ?_)
     try simp only [zR]
     refine tk (i := 8) (h := ?_)
     try simp only [zR]
     refine tk (i := 9) (h := ?_)
     try simp only [zR]
     refine tk (i := 10) (h := ?_)
     try simp only [zR]
     refine tk (i := 11) (h := ?_)
     try simp only [zR]
     refine tk (i := 12) (h := ?_)
     try simp only [zR]
     refine tk (i := 13) (h := ?_)
     try simp only [zR]
     refine tk (i := 14) (h := ?_)
     try simp only [zR]
     refine tk (i := 15) (h := ?_)
     try simp only [zR]
     refine tk (i := 16) (h := ?_)
     try simp only [zR]
     refine tk (i := 17) (h := ?_)
     try simp only [zR]
     refine tk (i := 18) (h := ?_)
     try simp only [zR]
     refine tk (i := 19) (h := ?_)
     try simp only [zR]
     refine tk (i := 20) (h := ?_)
     try simp only [zR]
     refine ts (i := 21) (h := ?_)
     try simp only [zR]
     refine ts (i := 22) (h := ?_)
     try simp only [zR]
     refine ts (i := 23) (h := ?_)
     try simp only [zR]
     refine ts (i := 24) (h := ?_)
     try simp only [zR]
     refine ts (i := 25) (h := ?_)
     try simp only [zR]
     refine ts (i := 26) (h := ?_)
     try simp only [zR]
     refine ts (i := 27) (h := ?_)
     try simp only [zR]
     refine ts (i := 28) (h := ?_)
     try simp only [zR]
     refine ts (i := 29) (h := ?_)
     try simp only [zR]
     refine ts (i := 30) (h := ?_)
     try simp only [zR]
     refine tk (i := 31) (h := ?_)
     try simp only [zR]
     refine tk (i := 32) (h := ?_)
     try simp only [zR]
     refine wpAnyH_done (by kernel_rfl) ?_ _
     have HP2 : Hid (Part w0 n m ps L (i + 1) o1) := HP.out.skip HX.out HS.out HV.out.symm
     have HBR4 : Hid (Below wr.heap.size wr w4 ∧ Below w.heap.size w w4) := ⟨B4.out, HBR.out.trans (B4.out.mono HBR.out.size)⟩
     clear B4
     go_wp2
     go_loopw [8] (fun kv wr' => ∃ k : Nat, k ≤ i ∧ kv = .int .i64 k ∧ Hid (Below w4.heap.size w4 wr' ∧ Below w.heap.size w wr')) (fun kv _ => i - (intOf kv).toNat)
     case atStart => exact ⟨0, Nat.zero_le _, rfl, Lib.hid ⟨Below.refl _ _, HBR4.out.2⟩⟩
     case round =>
      clear a0 a1 a2 a3 a4 c0
      obtain ⟨k, hk, rfl, HQ⟩ := hrel
      have k0 : (0 : Int) ≤ (k : Int) := by omega
      have hbq := HBR4.out.1.trans (HQ.out.1.mono HBR4.out.1.size)
      have c0 := (HAT.out _ hbq).2.2.2.2.2
      by_cases hki : k < i
      ·
       have k1 : (k : Int) < (i : Int) := by omega
       have km : (k : Int) < (m : Int) := by omega
       obtain ⟨y, hy⟩ : ∃ y, y = zt L k := ⟨_, rfl⟩
       have c1 := (HAT0.out _ hbq).2 k (by omega)
       rw [← hy] at c1
       clear hy hbq
       have HQ2 : Hid (Below w4.heap.size w4 wr.drew ∧ Below w.heap.size w wr.drew) := ⟨HQ.out.1.drew, HQ.out.2.drew⟩
       go_wp2_with fail
       refine wp_region_held_drew (S := fun w' => w'.cell? ⟨bo, oo + i, none⟩ = some (.int .i64 (-1)) ∧ w'.cell? ⟨bo, oo + k, none⟩ = some (.int .i64 y)) (by kernel_rfl) ?_ (fun hHeld => ?_)
       ·
        (try dsimp only)
        go_keep
       refine tk (i := 0) (h := ?_)
       try simp only [zR]
       refine tk (i := 1) (h := ?_)
       try simp only [zR]
       refine tk (i := 2) (h := ?_)
       try simp only [zR]
       refine tk (i := 3) (h := ?_)
       try simp only [zR]
       refine tk (i := 4) (h := ?_)
       try simp only [zR]
       refine tk (i := 5) (h := ?_)
       try simp only [zR]
       refine ts (i := 6) (h := ?_)
       try simp only [zR]
       refine ts (i := 7) (h := ?_)
       try simp only [zR]
       refine ts (i := 8) (h := ?_)
       try simp only [zR]
       refine ts (i := 9) (h := ?_)
       try simp only [zR]
       refine ts (i := 10) (h := ?_)
       try simp only [zR]
       refine ts (i := 11) (h := ?_)
       try simp only [zR]
       refine ts (i := 12) (h := ?_)
       try simp only [zR]
       refine ts (i := 13) (h := ?_)
       try simp only [zR]
       refine ts (i := 14) (h := ?_)
       try simp only [zR]
       refine tk (i := 15) (h := ?_)
       try simp only [zR]
       refine wpAnyH_done (by kernel_rfl) ?_ _
       go_wp2
       go_roundw
       case rel => exact ⟨k + 1, by omega, by go_num, HQ2⟩
       case measure => simp [intOf]; omega
      ·
       have k1 : ¬ (k : Int) < (i : Int) := by omega
       clear c0 hbq
       go_wp2
       go_roundw
       case rel => exact ⟨i + 1, o1, by omega, by go_num, HP2, Lib.hid HQ.out.2⟩
       case measure => simp [intOf]; omega
    ·
     obtain ⟨u, rfl⟩ : ∃ u : Nat, v = (u : Int) := ⟨v.toNat, by omega⟩
     have u0 : (0 : Int) ≤ (u : Int) := by omega
     have u1 : decide ((u : Int) < -1) = false := by simp
     clear hv
     go_wp2_with fail
     refine wp_region_held_drew (S := fun w' => w'.cell? ⟨bb, off + i * 5, none⟩ = some (.int .i64 x.1.s) ∧ w'.cell? ⟨bb, off + i * 5 + 1, none⟩ = some (.slice x.1.A x.1.n x.1.c) ∧ w'.cell? ⟨bb, off + i * 5 + 2, none⟩ = some (.bool x.1.K.s) ∧ w'.cell? ⟨bb, off + i * 5 + 3, none⟩ = some (.slice x.1.K.A x.1.K.n x.1.K.c) ∧ w'.cell? ⟨bb, off + i * 5 + 4, none⟩ = some (.slice x.1.K.B x.1.K.m x.1.K.d) ∧ w'.cell? ⟨bo, oo + i, none⟩ = some (.int .i64 (u : Int))) (by kernel_rfl) ?_ (fun hHeld => ?_)
     ·
      (try dsimp only)
      go_keep
     refine tk (i := 0) (h := ?_)
     try simp only [zR]
     refine tk (i := 1) (h := ?_)
     try simp only [zR]
     refine tk (i := 2) (h := ?_)
     try simp only [zR]
     refine tk (i := 3) (h := ?_)
     try simp only [zR]
     refine tk (i := 4) (h := ?_)
     try simp only [zR]
     refine tr [5] ?_
     refine tc (h := fun K hK => ?_) (hs := tn)
     try go_simp
     refine (rIsK_c x.1 n x.2 Lx kx wr.drew (by omega) HIN.out.1.cap ((HIN.out.1.row).below HB0.out.drew) ((HIN.out.2.1.below HB0.out.drew).more (by omega)) ((HIN.out.2.2.below HB0.out.drew).more (by omega)) HIN.out.1.n true ⟨fun _ => HIS.out, fun _ => rfl⟩).mono ?_
     rintro e w4 ⟨rfl, hb4⟩
     have B4 : Hid (Below wr.heap.size wr w4) := (bel1 wr).trans hb4
     clear hb4
     clear a0 a1 a2 a3 a4 c0
     obtain ⟨a0, a1, a2, a3, a4, c0⟩ := HAT.out _ B4.out
     try go_wp2_with fail
     refine hK.out _ _ ?_ (fun hHeld => ?_)
     · (try dsimp only); go_keep
     clear hK K
     try simp only [zR]
     refine tk (i := 6) (h := ?_)
     try simp only [zR]
     refine tk (i := 7) (h := ?_)
     try simp only [zR]
     refine tk (i := 8) (h := ?_)
     try simp only [zR]
     refine tk (i := 9) (h := ?_)
     try simp only [zR]
     refine tk (i := 10) (h := ?_)
     try simp only [zR]
     refine tk (i := 11) (h := ?_)
     try simp only [zR]
     refine tk (i := 12) (h := ?_)
     try simp only [zR]
     refine tk (i := 13) (h := ?_)
     try simp only [zR]
     refine tk (i := 14) (h := ?_)
     try simp only [zR]
     refine tk (i := 15) (h := ?_)
     try simp only [zR]
     refine tk (i := 16) (h := ?_)
     try simp only [zR]
     refine tk (i := 17) (h := ?_)
     try simp only [zR]
     refine tk (i := 18) (h := ?_)
     try simp only [zR]
     refine tk (i := 19) (h := ?_)
     try simp only [zR]
     refine tk (i := 20) (h := ?_)
     try simp only [zR]
     refine tk (i := 21) (h := ?_)
     try simp only [zR]
     refine tk (i := 22) (h := ?_)
     try simp only [zR]
     refine tk (i := 23) (h := ?_)
     try simp only [zR]
     refine tk (i := 24) (h := ?_)
     try simp only [zR]
     refine tk (i := 25) (h := ?_)
     try simp only [zR]
     refine tk (i := 26) (h := ?_)
     try simp only [zR]
     refine tk (i := 27) (h := ?_)
     try simp only [zR]
     refine tk (i := 28) (h := ?_)
     try simp only [zR]
     refine tr [29] ?_
     refine tc (h := fun K hK => ?_) (hs := tn)
     try go_simp
     refine (has_c x.1 x.2 (u : Int) w4 ((HIN.out.1.row).below (HB0.out.trans (B4.out.mono HB0.out.size))) HIN.out.1.n).mono ?_
     rintro e w5 ⟨⟨r, rfl, hr⟩, hb5⟩
     have B5 : Hid (Below wr.heap.size wr w5) := B4.out.trans (hb5.mono B4.out.size)
     have HR := Lib.hid hr
     clear hb5 hr
     clear a0 a1 a2 a3 a4 c0
     obtain ⟨a0, a1, a2, a3, a4, c0⟩ := HAT.out _ B5.out
     try go_wp2_with fail
     refine hK.out _ _ ?_ (fun hHeld => ?_)
     · (try dsimp only); go_keep
     clear hK K
     try simp only [zR]
     refine tk (i := 30) (h := ?_)
     try simp only [zR]
     refine tk (i := 31) (h := ?_)
     try simp only [zR]
     refine tk (i := 32) (h := ?_)
     try simp only [zR]
     refine wpAnyH_done (by kernel_rfl) ?_ _
     have evs : vsOf w0 n.toNat ps i = x.2.map fun t => t.v.toNat := by rw [vsOf_get HX.out, vr_yes (by rw [show ((n.toNat : Nat) : Int) = n by omega]; exact HS.out)]
     have HVR : Hid (r = true ↔ u ∈ vsOf w0 n.toNat ps i) := by
      show _ ↔ _
      rw [HR.out, evs, List.mem_map]
      constructor
      · rintro ⟨y, hy, e⟩; exact ⟨y, hy, by rw [e]; rfl⟩
      ·
       rintro ⟨y, hy, e⟩
       refine ⟨y, hy, ?_⟩
       obtain ⟨j, hj, e2⟩ := List.getElem_of_mem hy
       have h1 := HS.out.2.2 j _ hj (List.getElem?_eq_getElem hj)
       rw [e2] at h1
       omega
     clear evs
     cases r with
     |
      false =>
      have HN : Hid (¬ ∃ o, May w0 n m ps m L o) := fun ⟨o, q⟩ => by
       obtain ⟨y, y1, y2, _⟩ := HP.out.can q hlt (by rw [← HV.out]; omega)
       have : y = u := by have := HV.out; omega
       have := HVR.out.2 (this ▸ y1); cases this
      go_wp2
      go_ret
      exact ⟨BPost.no HN.out rfl, HBR.out.trans (B5.out.mono HBR.out.size)⟩
     |
      true =>
      have HU : Hid (u ∈ vsOf w0 n.toNat ps i) := HVR.out.1 rfl
      have HBR4 : Hid (Below wr.heap.size wr w5 ∧ Below w.heap.size w w5) := ⟨B5.out, HBR.out.trans (B5.out.mono HBR.out.size)⟩
      clear B4 B5 HVR HR
      go_wp2
      go_loopw [8] (fun kv wr' => ∃ k : Nat, k ≤ i ∧ kv = .int .i64 k ∧ Hid ((Below w5.heap.size w5 wr' ∧ ∀ j, j < k → zt L j ≠ (u : Int)) ∧ Below w.heap.size w wr')) (fun kv _ => i - (intOf kv).toNat)
      case atStart => exact ⟨0, Nat.zero_le _, rfl, Lib.hid ⟨⟨Below.refl _ _, fun j hj => absurd hj (Nat.not_lt_zero _)⟩, HBR4.out.2⟩⟩
      case round =>
       clear a0 a1 a2 a3 a4 c0
       obtain ⟨k, hk, rfl, HQ⟩ := hrel
       have k0 : (0 : Int) ≤ (k : Int) := by omega
       have hbq := HBR4.out.1.trans (HQ.out.1.1.mono HBR4.out.1.size)
       have c0 := (HAT.out _ hbq).2.2.2.2.2
       by_cases hki : k < i
       ·
        have k1 : (k : Int) < (i : Int) := by omega
        have km : (k : Int) < (m : Int) := by omega
        obtain ⟨y, hy⟩ : ∃ y, y = zt L k := ⟨_, rfl⟩
        have HY := Lib.hid hy
        have c1 := (HAT0.out _ hbq).2 k (by omega)
        rw [← hy] at c1
        clear hy hbq
        by_cases hyu : y = (u : Int)
        ·
         subst hyu
         have HN2 : Hid (¬ ∃ o, May w0 n m ps m L o) := fun ⟨o, q⟩ => by
          have h1 := q.outs
          have e1 : (u : Int) = oi (o i) := by rw [HV.out, h1, outsL_zt hlt]
          have e2 : (u : Int) = oi (o k) := by rw [HY.out, h1, outsL_zt (by omega)]
          have e3 : o i = some u := oi_inj e1.symm
          have e4 : o k = some u := oi_inj e2.symm
          have := q.cho.inj i k u hlt (by omega) e3 e4
          omega
         go_wp2_with fail
         refine wp_region_held_drew (S := fun w' => w'.cell? ⟨bo, oo + i, none⟩ = some (.int .i64 (u : Int)) ∧ w'.cell? ⟨bo, oo + k, none⟩ = some (.int .i64 (u : Int))) (by kernel_rfl) ?_ (fun hHeld => ?_)
         ·
          (try dsimp only)
          go_keep
         refine tk (i := 0) (h := ?_)
         try simp only [zR]
         refine tk (i := 1) (h := ?_)
         try simp only [zR]
         refine tk (i := 2) (h := ?_)
         try simp only [zR]
         refine tk (i := 3) (h := ?_)
         try simp only [zR]
         refine tk (i := 4) (h := ?_)
         try simp only [zR]
         refine tk (i := 5) (h := ?_)
         try simp only [zR]
         refine tk (i := 6) (h := ?_)
         try simp only [zR]
         refine tk (i := 7) (h := ?_)
         try simp only [zR]
         refine tk (i := 8) (h := ?_)
         try simp only [zR]
         refine tk (i := 9) (h := ?_)
         try simp only [zR]
         refine tk (i := 10) (h := ?_)
         try simp only [zR]
         refine tk (i := 11) (h := ?_)
         try simp only [zR]
         refine tk (i := 12) (h := ?_)
         try simp only [zR]
         refine tk (i := 13) (h := ?_)
         try simp only [zR]
         refine tk (i := 14) (h := ?_)
         try simp only [zR]
         refine tk (i := 15) (h := ?_)
         try simp only [zR]
         refine wpAnyH_done (by kernel_rfl) ?_ _
         go_wp2
         go_ret
         exact ⟨BPost.no HN2.out rfl, HQ.out.2.drew⟩
        ·
         have HQ2 : Hid ((Below w5.heap.size w5 wr.drew ∧ ∀ j, j < k + 1 → zt L j ≠ (u : Int)) ∧ Below w.heap.size w wr.drew) := ⟨⟨HQ.out.1.1.drew, fun j hj => by
          by_cases e : j = k
          · rw [e, ← HY.out]; exact hyu
          · exact HQ.out.1.2 j (by omega)⟩, HQ.out.2.drew⟩
         go_wp2_with fail
         refine wp_region_held_drew (S := fun w' => w'.cell? ⟨bo, oo + i, none⟩ = some (.int .i64 (u : Int)) ∧ w'.cell? ⟨bo, oo + k, none⟩ = some (.int .i64 y)) (by kernel_rfl) ?_ (fun hHeld => ?_)
         ·
          (try dsimp only)
          go_keep
         refine tk (i := 0) (h := ?_)
         try simp only [zR]
         refine tk (i := 1) (h := ?_)
         try simp only [zR]
         refine tk (i := 2) (h := ?_)
         try simp only [zR]
         refine tk (i := 3) (h := ?_)
         try simp only [zR]
         refine tk (i := 4) (h := ?_)
         try simp only [zR]
         refine tk (i := 5) (h := ?_)
         try simp only [zR]
         refine tk (i := 6) (h := ?_)
         try simp only [zR]
         refine tk (i := 7) (h := ?_)
         try simp only [zR]
         refine tk (i := 8) (h := ?_)
         try simp only [zR]
         refine tk (i := 9) (h := ?_)
         try simp only [zR]
         refine tk (i := 10) (h := ?_)
         try simp only [zR]
         refine tk (i := 11) (h := ?_)
         try simp only [zR]
         refine tk (i := 12) (h := ?_)
         try simp only [zR]
         refine tk (i := 13) (h := ?_)
         try simp only [zR]
         refine tk (i := 14) (h := ?_)
         try simp only [zR]
         refine tk (i := 15) (h := ?_)
         try simp only [zR]
         refine wpAnyH_done (by kernel_rfl) ?_ _
         go_wp2
         go_roundw
         case rel => exact ⟨k + 1, by omega, by go_num, HQ2⟩
         case measure => simp [intOf]; omega
       ·
        have k1 : ¬ (k : Int) < (i : Int) := by omega
        have HP2 : Hid (Part w0 n m ps L (i + 1) (tellTo m o1 i u)) := HP.out.tell HX.out HS.out hlt HV.out.symm HU.out (tel_none.2 fun j hj ho => by
         by_cases l : j < i
         ·
          have h1 := HP.out.outs j l
          rw [ho] at h1
          exact HQ.out.1.2 j (by omega) h1
         · rw [HP.out.rest j (by omega)] at ho; cases ho)
        clear c0 hbq
        go_wp2
        go_roundw
        case rel => exact ⟨i + 1, _, by omega, by go_num, HP2, Lib.hid HQ.out.2⟩
        case measure => simp [intOf]; omega
   ·
    have HIS : Hid (¬ IsS wr.drew x.1 x.2 n) := fun h => hs ((HIN.out.1.turn HB0.out.drew _).2 h)
    have HN : Hid (¬ ∃ o, May w0 n m ps m L o) := fun ⟨o, q⟩ => hs (q.ok x (List.mem_of_getElem? HX.out))
    clear hs
    go_wp2_with fail
    refine wp_region_held_drew (S := fun w' => w'.cell? ⟨bb, off + i * 5, none⟩ = some (.int .i64 x.1.s) ∧ w'.cell? ⟨bb, off + i * 5 + 1, none⟩ = some (.slice x.1.A x.1.n x.1.c) ∧ w'.cell? ⟨bb, off + i * 5 + 2, none⟩ = some (.bool x.1.K.s) ∧ w'.cell? ⟨bb, off + i * 5 + 3, none⟩ = some (.slice x.1.K.A x.1.K.n x.1.K.c) ∧ w'.cell? ⟨bb, off + i * 5 + 4, none⟩ = some (.slice x.1.K.B x.1.K.m x.1.K.d) ∧ w'.cell? ⟨bo, oo + i, none⟩ = some (.int .i64 v)) (by kernel_rfl) ?_ (fun hHeld => ?_)
    ·
     (try dsimp only)
     go_keep
    refine tk (i := 0) (h := ?_)
    try simp only [zR]
    refine tk (i := 1) (h := ?_)
    try simp only [zR]
    refine tk (i := 2) (h := ?_)
    try simp only [zR]
    refine tk (i := 3) (h := ?_)
    try simp only [zR]
    refine tk (i := 4) (h := ?_)
    try simp only [zR]
    refine tr [5] ?_
    refine tc (h := fun K hK => ?_) (hs := tn)
    try go_simp
    refine (rIsK_c x.1 n x.2 Lx kx wr.drew (by omega) HIN.out.1.cap ((HIN.out.1.row).below HB0.out.drew) ((HIN.out.2.1.below HB0.out.drew).more (by omega)) ((HIN.out.2.2.below HB0.out.drew).more (by omega)) HIN.out.1.n false ⟨fun h => (by cases h), fun h => absurd h HIS.out⟩).mono ?_
    rintro e w4 ⟨rfl, hb4⟩
    have B4 : Hid (Below wr.heap.size wr w4) := (bel1 wr).trans hb4
    clear hb4
    clear a0 a1 a2 a3 a4 c0
    obtain ⟨a0, a1, a2, a3, a4, c0⟩ := HAT.out _ B4.out
    try go_wp2_with fail
    refine hK.out _ _ ?_ (fun hHeld => ?_)
    · (try dsimp only); go_keep
    clear hK K
    try simp only [zR]
    refine tk (i := 6) (h := ?_)
    try simp only [zR]
    refine tk (i := 7) (h := ?_)
    try simp only [zR]
    refine ts (i := 8) (h := ?_)
    try simp only [zR]
    refine ts (i := 9) (h := ?_)
    try simp only [zR]
    refine ts (i := 10) (h := ?_)
    try simp only [zR]
    refine ts (i := 11) (h := ?_)
    try simp only [zR]
    refine ts (i := 12) (h := ?_)
    try simp only [zR]
    refine tk (i := 13) (h := ?_)
    try simp only [zR]
    refine tk (i := 14) (h := ?_)
    try simp only [zR]
    refine ts (i := 15) (h := ?_)
    try simp only [zR]
    refine ts (i := 16) (h := ?_)
    try simp only [zR]
    refine ts (i := 17) (h := ?_)
    try simp only [zR]
    refine ts (i := 18) (h := ?_)
    try simp only [zR]
    refine ts (i := 19) (h := ?_)
    try simp only [zR]
    refine ts (i := 20) (h := ?_)
    try simp only [zR]
    refine ts (i := 21) (h := ?_)
    try simp only [zR]
    refine ts (i := 22) (h := ?_)
    try simp only [zR]
    refine ts (i := 23) (h := ?_)
    try simp only [zR]
    refine ts (i := 24) (h := ?_)
    try simp only [zR]
    refine ts (i := 25) (h := ?_)
    try simp only [zR]
    refine ts (i := 26) (h := ?_)
    try simp only [zR]
    refine ts (i := 27) (h := ?_)
    try simp only [zR]
    refine ts (i := 28) (h := ?_)
    try simp only [zR]
    refine ts (i := 29) (h := ?_)
    try simp only [zR]
    refine ts (i := 30) (h := ?_)
    try simp only [zR]
    refine ts (i := 31) (h := ?_)
    try simp only [zR]
    refine tk (i := 32) (h := ?_)
    try simp only [zR]
    refine wpAnyH_done (by kernel_rfl) ?_ _
    go_wp2
    go_ret
    exact ⟨BPost.no HN.out rfl, HBR.out.trans (B4.out.mono HBR.out.size)⟩
  ·
   have i1 : ¬ (i : Int) < (m : Int) := by omega
   have e : i = m := by omega
   subst e
   have hbn : bndN n = n.toNat := by have := bndN_int n; omega
   go_wp2_with fail
   refine (rFirst_c n n.toNat hbn A i cA ps _ w0 wr HD.out.1 rfl HB0.out).mono ?_
   rintro e w2 ⟨k, rfl, hk, hb2⟩
   have HF : Hid (BPost (∃ o, May w0 n i ps i L o) (.returned (.bool (decide (k < 0)))) ∧ Below w.heap.size w w2) := by
    refine ⟨⟨_, rfl, ?_⟩, HBR.out.trans (hb2.mono HBR.out.size)⟩
    rw [decide_eq_true_iff, hk.forest]
    exact ⟨fun q => ⟨o1, HP.out.all hpl.out HD.out.2.1.len (by omega) (by omega) q⟩, fun ⟨o, q⟩ => q.tree⟩
   clear hk hb2
   go_wp2
   go_ret
   exact HF.out
end Go.Proofs.Ytjbhhccklfddaaa
