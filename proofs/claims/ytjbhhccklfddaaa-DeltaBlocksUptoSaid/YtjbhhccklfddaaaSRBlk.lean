/-
  Whether a constraint is blocked, by the document.
-/
import Derived.Test.YtjbhhccklfddaaaSRWl
import Derived.Test.YtjbhhccklfddaaaSRIs13
import Derived.Test.YtjbhhccklfddaaaSDlQ
import Derived.Test.YtjbhhccklfddaaaSRgn
namespace Go.Proofs.Ytjbhhccklfddaaa
set_option maxRecDepth 20000
open Go.RowKit
set_option maxHeartbeats 12800000 in
theorem rBlocked_c (w0 : World) (n : Int) (N : Nat) (A : Option Addr) (cA : Nat) (ps : List (Cv × List Tv)) (OA : Option Addr) (m oc : Nat) (L : List Int) (i : Int) (w : World) (hg : Gns w0 A N ps) (hN : N ≤ 12) (hm : m ≤ 1000) (hO : ZRow w0 OA m L) (hb0 : Below w0.heap.size w0 w) :
  Calls Try.prog 21 #[.slice A N cA, .slice OA m oc, .int .i64 n, .int .i64 i] w fun e w' => BPost (∃ o, May w0 n N ps m L o ∧ ∃ j : Nat, i = (j : Int) ∧ j < N ∧ o j = none ∧ ∀ u ∈ vsOf w0 n.toNat ps j, wk N (vsOf w0 n.toNat ps) (ssOf ps) o u ≤ ssOf ps j) e ∧ Below w.heap.size w w' := by
 have HD := Lib.hid (And.intro hg (And.intro hO hb0))
 have N0 : (0 : Int) ≤ (N : Int) := by omega
 clear hg hO hb0
 go_enter Try.func21, Try.ntmps21
 go_wp2_with fail
 refine (rIs13_c w0 n N A cA ps OA m oc L w HD.out.1 hN hm HD.out.2.1 HD.out.2.2).mono ?_
 rintro e w1 ⟨⟨r, rfl, hr⟩, hb⟩
 have H1 := Lib.hid hb
 clear hb
 cases r with
 |
  false =>
  have HN : Hid (∀ o, ¬ May w0 n N ps m L o) := fun o h => by have := hr.2 ⟨o, h⟩; cases this
  clear hr
  go_wp2
  go_ret
  exact ⟨BPost.no (fun ⟨o, k, _⟩ => HN.out o k) rfl, H1.out⟩
 |
  true =>
  obtain ⟨o, ho⟩ := hr.1 rfl
  have emo : m = N := ho.len
  subst emo
  have HM := Lib.hid ho
  have HSY : Hid (Sys w0 n.toNat m A ps (vsOf w0 n.toNat ps) (ssOf ps) ∧ Bridge m (vsOf w0 n.toNat ps) ∧ Cho m (vsOf w0 n.toNat ps) o ∧ L = outsL m o) := ⟨ho.sys HD.out.1, ho.bridge HD.out.1, ho.cho, ho.outs⟩
  clear hr ho
  by_cases hi0 : i < 0
  ·
   have HN : Hid (¬ ∃ o, May w0 n m ps m L o ∧ ∃ j : Nat, i = (j : Int) ∧ j < m ∧ o j = none ∧ ∀ u ∈ vsOf w0 n.toNat ps j, wk m (vsOf w0 n.toNat ps) (ssOf ps) o u ≤ ssOf ps j) := fun ⟨_, _, j, h1, h2, _⟩ => by omega
   go_wp2
   go_ret
   exact ⟨BPost.no HN.out rfl, H1.out⟩
  by_cases hi1 : (m : Int) ≤ i
  ·
   have HN : Hid (¬ ∃ o, May w0 n m ps m L o ∧ ∃ j : Nat, i = (j : Int) ∧ j < m ∧ o j = none ∧ ∀ u ∈ vsOf w0 n.toNat ps j, wk m (vsOf w0 n.toNat ps) (ssOf ps) o u ≤ ssOf ps j) := fun ⟨_, _, j, h1, h2, _⟩ => by omega
   go_wp2
   go_ret
   exact ⟨BPost.no HN.out rfl, H1.out⟩
  obtain ⟨j, rfl⟩ := Int.eq_ofNat_of_zero_le (show 0 ≤ i by omega)
  have hj : j < m := by omega
  have j0 : (0 : Int) ≤ (j : Int) := by omega
  have j1 : (j : Int) < (m : Int) := by omega
  have j2 : ¬ m ≤ j := by omega
  have j3 : decide (m ≤ j) = false := decide_eq_false j2
  have j4 : decide ((j : Int) < 0) = false := decide_eq_false (by omega)
  have HB0 : Hid (Below w0.heap.size w0 w1) := HD.out.2.2.trans (H1.out.mono HD.out.2.2.size)
  have HZ : Hid (ZRow w1 OA m (outsL m o)) := by have := HD.out.2.1.below HB0.out; rw [HSY.out.2.2.2] at this; exact this
  obtain ⟨bo, oo, hOA, _, hoc⟩ := HZ.out.mem (by omega)
  subst hOA
  have c0 := hoc j hj
  rw [outsL_zt hj] at c0
  clear hoc hi0 hi1
  cases hoj : o j with
  |
   some v =>
   rw [hoj] at c0
   have c0' : w1.cell? ⟨bo, oo + j, none⟩ = some (.int .i64 (v : Int)) := c0
   have vne : (0 : Int) ≤ (v : Int) := by omega
   have HN : Hid (¬ ∃ o, May w0 n m ps m L o ∧ ∃ q : Nat, (j : Int) = (q : Int) ∧ q < m ∧ o q = none ∧ ∀ u ∈ vsOf w0 n.toNat ps q, wk m (vsOf w0 n.toNat ps) (ssOf ps) o u ≤ ssOf ps q) := fun ⟨p, hp, q, h1, _, h2, _⟩ => by
    have e : q = j := by omega
    rw [e, hp.uniq HM.out, hoj] at h2; cases h2
   clear c0 hoj
   go_wp2
   go_ret
   exact ⟨BPost.no HN.out rfl, H1.out⟩
  |
   none =>
   rw [hoj] at c0
   have c0' : w1.cell? ⟨bo, oo + j, none⟩ = some (.int .i64 (-1)) := c0
   have HOJ := Lib.hid hoj
   clear c0 hoj
   obtain ⟨bb, off, va, hcu⟩ := HSY.out.1.conU hj
   have hca := hcu w1 HB0.out
   have HCU := Lib.hid hcu
   have HKL := Lib.hid hca.k
   have hA := hca.adr
   subst hA
   obtain ⟨s, hs⟩ : ∃ s, s = ssOf ps j := ⟨_, rfl⟩
   have HSS := Lib.hid hs
   have HCS := Lib.hid hca.s
   have k9 := hca.k9
   have k0 : (0 : Int) ≤ (va.n : Int) := by omega
   clear hca hcu hs
   go_wp2
   clear c0'
   have HB1 : Hid (Below w1.heap.size w1 w1) := Below.refl _ _
   have HL0 : Hid (∀ u ∈ (vsOf w0 n.toNat ps j).take 0, wk m (vsOf w0 n.toNat ps) (ssOf ps) o u ≤ ssOf ps j) := fun u hu => by rw [List.take_zero] at hu; cases hu
   go_loopw [9] (fun kv wr => ∃ k : Nat, k ≤ va.n ∧ kv = .int .i64 k ∧ Hid (∀ u ∈ (vsOf w0 n.toNat ps j).take k, wk m (vsOf w0 n.toNat ps) (ssOf ps) o u ≤ ssOf ps j) ∧ Hid (Below w1.heap.size w1 wr)) (fun kv _ => va.n - (intOf kv).toNat)
   case atStart => exact ⟨0, Nat.zero_le _, rfl, HL0, HB1⟩
   case round =>
    clear HL0 HB1
    obtain ⟨k, hk, rfl, HL, HR⟩ := hrel
    have k0' : (0 : Int) ≤ (k : Int) := by omega
    have HBr : Hid (Below w0.heap.size w0 wr) := HB0.out.trans (HR.out.mono HB0.out.size)
    obtain ⟨a0, a1, _, _, _⟩ := (HCU.out wr HBr.out).cells
    rw [HCS.out, ← HSS.out] at a0
    by_cases hlt : k < va.n
    ·
     have k1 : (k : Int) < (va.n : Int) := by omega
     obtain ⟨bk, of2, x, hVA, hbk, ⟨y0, _, _, _⟩, hxv, hxn⟩ := (HCU.out wr HBr.out).ts k hlt
     rw [hVA] at a1
     have hkl : k < (vsOf w0 n.toNat ps j).length := by rw [← HKL.out]; exact hlt
     have htk : (vsOf w0 n.toNat ps j).take (k + 1) = (vsOf w0 n.toNat ps j).take k ++ [nth (vsOf w0 n.toNat ps j) k] := by rw [List.take_add_one, nth_get hkl]; rfl
     obtain ⟨u, hu⟩ : ∃ u, u = nth (vsOf w0 n.toNat ps j) k := ⟨_, rfl⟩
     have hum : u ∈ vsOf w0 n.toNat ps j := by rw [hu]; exact nth_mem hkl
     rw [← hu] at hxv hxn htk
     rw [hxv] at y0
     have HU := Lib.hid (And.intro hum htk)
     have HX := Lib.hid hxn
     have HVA : Hid (∀ w', Below wr.heap.size wr w' → w'.cell? ⟨bb, off + j * 5, none⟩ = some (.int .i64 (s : Int)) ∧ w'.cell? ⟨bb, off + j * 5 + 1, none⟩ = some (.slice (some ⟨bk, of2, none⟩) va.n va.c) ∧ w'.cell? ⟨bk, of2 + k * 4, none⟩ = some (.int .i64 (u : Int))) := fun w' hb' => by
      obtain ⟨z0, z1, _, _, _⟩ := (HCU.out w' (HBr.out.trans (hb'.mono HBr.out.size))).cells
      obtain ⟨bk', of', x', hV', _, ⟨q0, _, _, _⟩, hx', _⟩ := (HCU.out w' (HBr.out.trans (hb'.mono HBr.out.size))).ts k hlt
      rw [hVA] at hV'
      injection hV' with hV'
      injection hV' with h1 h2 h3
      subst h1; subst h2
      rw [HCS.out, ← HSS.out] at z0
      rw [hx', ← hu] at q0
      rw [hVA] at z1
      exact ⟨z0, z1, q0⟩
     clear hum hu htk hkl hxv hxn
     obtain ⟨q, hq⟩ : ∃ q, q = wk m (vsOf w0 n.toNat ps) (ssOf ps) o u := ⟨_, rfl⟩
     have HQ := Lib.hid hq
     clear hq
     by_cases hqs : s < q
     ·
      have HN : Hid (¬ ∃ o, May w0 n m ps m L o ∧ ∃ q : Nat, (j : Int) = (q : Int) ∧ q < m ∧ o q = none ∧ ∀ u ∈ vsOf w0 n.toNat ps q, wk m (vsOf w0 n.toNat ps) (ssOf ps) o u ≤ ssOf ps q) := fun ⟨p, hp, z, h1, _, _, h2⟩ => by
       have e : z = j := by omega
       have := h2 u (by rw [e]; exact HU.out.1)
       rw [e, hp.uniq HM.out, ← HQ.out, ← HSS.out] at this
       omega
      have hqi : (s : Int) < (q : Int) := by omega
      clear hqs
      go_wp2_with fail
      refine wp_region_held_drew (S := fun w' => w'.cell? ⟨bb, off + j * 5, none⟩ = some (.int .i64 (s : Int)) ∧ w'.cell? ⟨bb, off + j * 5 + 1, none⟩ = some (.slice (some ⟨bk, of2, none⟩) va.n va.c) ∧ w'.cell? ⟨bk, of2 + k * 4, none⟩ = some (.int .i64 (u : Int))) (by kernel_rfl) ?_ (fun hHeld => ?_)
      ·
       (try dsimp only)
       go_keep
      refine tk (i := 0) (h := ?_)
      try simp only [zR]
      refine tk (i := 1) (h := ?_)
      try simp only [zR]
      refine tk (i := 2) (h := ?_)
      try simp only [zR]
      refine tk (i := 3) (h := ?_)
      try simp only [zR]
      refine tk (i := 4) (h := ?_)
      try simp only [zR]
      refine tk (i := 5) (h := ?_)
      try simp only [zR]
      refine tk (i := 6) (h := ?_)
      try simp only [zR]
      refine tk (i := 7) (h := ?_)
      try simp only [zR]
      refine tk (i := 8) (h := ?_)
      try simp only [zR]
      refine tk (i := 9) (h := ?_)
      try simp only [zR]
      refine tk (i := 10) (h := ?_)
      try simp only [zR]
      refine tk (i := 12) (h := ?_)
      try simp only [zR]
      refine tk (i := 13) (h := ?_)
      try simp only [zR]
      refine tk (i := 14) (h := ?_)
      try simp only [zR]
      refine tk (i := 15) (h := ?_)
      try simp only [zR]
      refine tk (i := 16) (h := ?_)
      try simp only [zR]
      refine tr [11] ?_
      refine tc (h := fun K hK => ?_) (hs := tn)
      try go_simp
      refine (rwalk_c HSY.out.1 HSY.out.2.1 HSY.out.2.2.1 _ oc m [] u wr.drew (Pth.start ..) (by simp) HBr.out.drew (HZ.out.below HR.out.drew) HX.out).mono ?_
      rintro ee w2 ⟨rfl, hb2⟩
      have B2 : Hid (Below wr.heap.size wr w2) := (bel1 wr).trans hb2
      clear hb2
      have eq1 : wkF m (vsOf w0 n.toNat ps) (ssOf ps) o m u = q := HQ.out.symm
      rw [eq1]
      clear eq1
      clear a0 a1 y0
      obtain ⟨a0, a1, y0⟩ := HVA.out _ B2.out
      try go_wp2_with fail
      refine hK.out _ _ ?_ (fun hHeld => ?_)
      · (try dsimp only); go_keep
      clear hK K
      try simp only [zR]
      refine tk (i := 17) (h := ?_)
      try simp only [zR]
      refine wpAnyH_done (by kernel_rfl) ?_ _
      go_wp2
      go_ret
      exact ⟨BPost.no HN.out rfl, H1.out.trans ((HR.out.trans (B2.out.mono HR.out.size)).mono H1.out.size)⟩
     ·
      have HL2 : Hid (∀ u ∈ (vsOf w0 n.toNat ps j).take (k + 1), wk m (vsOf w0 n.toNat ps) (ssOf ps) o u ≤ ssOf ps j) := fun z hz => by
       rw [HU.out.2] at hz
       rcases List.mem_append.1 hz with g | g
       · exact HL.out z g
       · rw [List.mem_singleton.1 g, ← HQ.out, ← HSS.out]; omega
      have hqi : ¬ (s : Int) < (q : Int) := by omega
      clear hqs
      go_wp2_with fail
      refine wp_region_held_drew (S := fun w' => w'.cell? ⟨bb, off + j * 5, none⟩ = some (.int .i64 (s : Int)) ∧ w'.cell? ⟨bb, off + j * 5 + 1, none⟩ = some (.slice (some ⟨bk, of2, none⟩) va.n va.c) ∧ w'.cell? ⟨bk, of2 + k * 4, none⟩ = some (.int .i64 (u : Int))) (by kernel_rfl) ?_ (fun hHeld => ?_)
      ·
       (try dsimp only)
       go_keep
      refine tk (i := 0) (h := ?_)
      try simp only [zR]
      refine tk (i := 1) (h := ?_)
      try simp only [zR]
      refine tk (i := 2) (h := ?_)
      try simp only [zR]
      refine tk (i := 3) (h := ?_)
      try simp only [zR]
      refine tk (i := 4) (h := ?_)
      try simp only [zR]
      refine tk (i := 5) (h := ?_)
      try simp only [zR]
      refine tk (i := 6) (h := ?_)
      try simp only [zR]
      refine tk (i := 7) (h := ?_)
      try simp only [zR]
      refine tk (i := 8) (h := ?_)
      try simp only [zR]
      refine tk (i := 9) (h := ?_)
      try simp only [zR]
      refine tk (i := 10) (h := ?_)
      try simp only [zR]
      refine tk (i := 12) (h := ?_)
      try simp only [zR]
      refine tk (i := 13) (h := ?_)
      try simp only [zR]
      refine tk (i := 14) (h := ?_)
      try simp only [zR]
      refine tk (i := 15) (h := ?_)
      try simp only [zR]
      refine tk (i := 16) (h := ?_)
      try simp only [zR]
      refine tr [11] ?_
      refine tc (h := fun K hK => ?_) (hs := tn)
      try go_simp
      refine (rwalk_c HSY.out.1 HSY.out.2.1 HSY.out.2.2.1 _ oc m [] u wr.drew (Pth.start ..) (by simp) HBr.out.drew (HZ.out.below HR.out.drew) HX.out).mono ?_
      rintro ee w2 ⟨rfl, hb2⟩
      have B2 : Hid (Below wr.heap.size wr w2) := (bel1 wr).trans hb2
      clear hb2
      have eq1 : wkF m (vsOf w0 n.toNat ps) (ssOf ps) o m u = q := HQ.out.symm
      rw [eq1]
      clear eq1
      clear a0 a1 y0
      obtain ⟨a0, a1, y0⟩ := HVA.out _ B2.out
      try go_wp2_with fail
      refine hK.out _ _ ?_ (fun hHeld => ?_)
      · (try dsimp only); go_keep
      clear hK K
      try simp only [zR]
      refine tk (i := 17) (h := ?_)
      try simp only [zR]
      refine wpAnyH_done (by kernel_rfl) ?_ _
      go_wp2
      go_roundw
      case rel => exact ⟨k + 1, by omega, by go_num, HL2, Lib.hid (HR.out.trans (B2.out.mono HR.out.size))⟩
      case measure => simp [intOf]; omega
    ·
     have k1 : ¬ (k : Int) < (va.n : Int) := by omega
     have HF : Hid (BPost (∃ o, May w0 n m ps m L o ∧ ∃ q : Nat, (j : Int) = (q : Int) ∧ q < m ∧ o q = none ∧ ∀ u ∈ vsOf w0 n.toNat ps q, wk m (vsOf w0 n.toNat ps) (ssOf ps) o u ≤ ssOf ps q) (.returned (.bool true)) ∧ Below w.heap.size w wr) := by
      refine ⟨⟨true, rfl, fun _ => ⟨o, HM.out, j, rfl, hj, HOJ.out, fun u hu => HL.out u ?_⟩, fun _ => rfl⟩, H1.out.trans (HR.out.mono H1.out.size)⟩
      rw [List.take_of_length_le (by rw [← HKL.out]; omega)]; exact hu
     go_wp2
     go_ret
     exact HF.out
end Go.Proofs.Ytjbhhccklfddaaa
