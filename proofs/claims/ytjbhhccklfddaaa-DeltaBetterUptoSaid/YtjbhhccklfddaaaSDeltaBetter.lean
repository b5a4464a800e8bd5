/-
  DeltaBetter: it never tells less.
-/
import Derived.Test.YtjbhhccklfddaaaSDeltaWalks
import Derived.Test.YtjbhhccklfddaaaSDlS
import Derived.Test.YtjbhhccklfddaaaSLev
import Derived.Test.YtjbhhccklfddaaaSRgn
namespace Go.Proofs.Ytjbhhccklfddaaa
set_option maxRecDepth 20000
open Go.RowKit
set_option maxHeartbeats 25600000 in
theorem DeltaBetter_any (A : Option Addr) (m c : Nat) (OA : Option Addr) (mo oc : Nat) (n : Int) (ps : List (Cv × List Tv)) (L : List Int) (w : World) (hk : Kons w A m (ps.map (·.1))) (hf : ∀ x ∈ ps, Raw w x.1 x.2) (hm : m ≤ 1048576) (hO : ZRow w OA mo L) (hmo : mo ≤ 1048576) :
  Calls Try.prog 6 #[.slice A m c, .slice OA mo oc, .int .i64 n] w fun e w' => e = .returned (.bool true) ∧ Below w.heap.size w w' := by
 have m0 : (0 : Int) ≤ (m : Int) := by omega
 have m9 : (m : Int) ≤ 1048576 := by omega
 have o0 : (0 : Int) ≤ (mo : Int) := by omega
 have o9 : (mo : Int) ≤ 1048576 := by omega
 have HK := Lib.hid (And.intro hk (And.intro hf hO))
 clear hk hf hO
 go_enter Try.func6, Try.ntmps6
 go_wp2_with fail
 refine (heavyH_c A m c ps _ HK.out.1 (fun x hx => (HK.out.2.1 x hx).fit) hm).mono ?_
 rintro e w1 ⟨r, rfl, hr, hb⟩
 have HR := Lib.hid hr
 have HB1 := Lib.hid hb
 clear hr hb
 cases r with
 |
  true =>
  go_wp2
  go_ret
  exact ⟨rfl, HB1.out⟩
 | false =>
 obtain ⟨_, hg⟩ := gns_of HK.out.1 HK.out.2.1 (HR.out (by trivial))
 have HV := Lib.hid (hg.below HB1.out)
 have HO := Lib.hid (HK.out.2.2.below HB1.out)
 clear hg HR HK
 by_cases h12 : (12 : Int) < (m : Int)
 ·
  go_wp2
  go_ret
  exact ⟨rfl, HB1.out⟩
 by_cases h20 : (20 : Int) < (mo : Int)
 ·
  go_wp2
  go_ret
  exact ⟨rfl, HB1.out⟩
 have mN : m ≤ 12 := by omega
 have oN : mo ≤ 1000 := by omega
 go_wp2_with fail
 refine (rIs13_c w1 n m A c ps OA mo oc L w1 HV.out mN oN HO.out (Below.refl _ _)).mono ?_
 rintro e w2 ⟨⟨r, rfl, hr⟩, hb2⟩
 have H2 := Lib.hid hb2
 clear hb2
 cases r with
 |
  false =>
  have HF : Hid (Below w.heap.size w w2) := HB1.out.trans (H2.out.mono HB1.out.size)
  clear hr
  go_wp2
  go_ret
  exact ⟨rfl, HF.out⟩
 |
  true =>
  obtain ⟨o, ho⟩ := hr.1 rfl
  have emo : mo = m := ho.len
  subst emo
  have HM := Lib.hid ho
  clear hr ho
  go_wp2_with fail
  refine (Settle_c w1 n mo A c ps OA mo oc L w2 HV.out mN oN HO.out H2.out).mono ?_
  rintro e w3 ⟨hb3, _, hyes⟩
  obtain ⟨g, cg, l, o', rfl, hz, hl, hpw, hst⟩ := hyes o HM.out
  obtain ⟨_, hlex, _, _⟩ := HM.out.settled HV.out hl hst
  have HX := Lib.hid hlex
  have H3 : Hid (ZRow w3 (some ⟨g, 0, none⟩) mo (outsL mo o') ∧ Below w1.heap.size w1 w3) := ⟨hz.row, H2.out.trans (hb3.mono H2.out.size)⟩
  have HS : Hid (Sys w1 n.toNat mo A ps (vsOf w1 n.toNat ps) (ssOf ps)) := HM.out.sys HV.out
  have HOO : Hid (ZRow w1 OA mo (outsL mo o)) := by have h1 := HO.out; rw [HM.out.outs] at h1; exact h1
  clear hyes hz hl hpw hst hlex hb3
  go_wp2_with fail
  refine (levels_c HS.out OA oc w3 H3.out.2 (HOO.out.below H3.out.2)).mono ?_
  rintro e w4 ⟨rfl, hb4⟩
  have H4 : Hid (ZRow w4 (some ⟨g, 0, none⟩) mo (outsL mo o') ∧ Below w1.heap.size w1 w4) := ⟨H3.out.1.below hb4, H3.out.2.trans (hb4.mono H3.out.2.size)⟩
  clear hb4 H3
  go_wp2_with fail
  refine (levels_c HS.out (some ⟨g, 0, none⟩) cg w4 H4.out.2 H4.out.1).mono ?_
  rintro e w5 ⟨rfl, hb5⟩
  have H5 : Hid (Below w.heap.size w w5) := HB1.out.trans ((H4.out.2.trans (hb5.mono H4.out.2.size)).mono HB1.out.size)
  clear hb5 H4
  obtain ⟨a, ha⟩ : ∃ a, a = lv mo (ssOf ps) o := ⟨_, rfl⟩
  obtain ⟨b, hb⟩ : ∃ b, b = lv mo (ssOf ps) o' := ⟨_, rfl⟩
  rw [← ha, ← hb] at HX
  have HAB : Hid ((∀ v, a v ≤ 12) ∧ ∀ v, b v ≤ 12) := by
   refine ⟨fun v => ?_, fun v => ?_⟩
   · have := lv_le (ssOf ps) o v mo; rw [ha]; omega
   · have := lv_le (ssOf ps) o' v mo; rw [hb]; omega
  rw [← ha, ← hb]
  clear ha hb HM HS HOO HO HV
  have HZ : Hid (LvB ((w5.alloc (.cells (lvC fun _ => 0) 33)).alloc (.cells (lvC fun _ => 0) 33)) w5.heap.size (fun _ => 0)) := (LvB.new w5 _).below ((Below.refl _ _).alloc (Nat.le_refl _) _)
  have HY : Hid (LvB (((w5.alloc (.cells (lvC fun _ => 0) 33)).alloc (.cells (lvC fun _ => 0) 33)).setRow w5.heap.size (lvC a)) (w5.heap.size + 1) (fun _ => 0)) := by
   have h1 := LvB.new (w5.alloc (.cells (lvC fun _ => 0) 33)) (fun _ => 0)
   have e : (w5.alloc (.cells (lvC fun _ => 0) 33)).heap.size = w5.heap.size + 1 := by simp
   rw [e] at h1
   exact (setRow_other _ _ _ _ (by omega)).trans h1
  have HY2 : Hid (LvB (((w5.alloc (.cells (lvC fun _ => 0) 33)).alloc (.cells (lvC fun _ => 0) 33)).setRow w5.heap.size (lvC a)) ((w5.alloc (.cells (lvC fun _ => 0) 33)).heap.size) (fun _ => 0)) := by
   have e : (w5.alloc (.cells (lvC fun _ => 0) 33)).heap.size = w5.heap.size + 1 := by simp
   rw [e]; exact HY.out
  go_wp2_with (first
   | (refine wpl_allocL rfl rfl ?_)
   | (refine wpList_store_row rfl 33 _ _ rfl w5.heap.size (lvC a) rfl rfl 33 (lvC fun _ => 0) HZ.out (by rw [lvC_size]; exact Try.size33) (by rw [lvC_size, lvC_size]) (lvC_one _) ?_)
   | (refine wpList_store_row rfl 33 _ _ rfl ((w5.alloc (.cells (lvC fun _ => 0) 33)).heap.size) (lvC b) rfl rfl 33 (lvC fun _ => 0) HY2.out (by rw [lvC_size]; exact Try.size33) (by rw [lvC_size, lvC_size]) (lvC_one _) ?_))
  have H6 : Hid (LvB ((((w5.alloc (.cells (lvC fun _ => 0) 33)).alloc (.cells (lvC fun _ => 0) 33)).setRow w5.heap.size (lvC a)).setRow (w5.heap.size + 1) (lvC b)) w5.heap.size a ∧ LvB ((((w5.alloc (.cells (lvC fun _ => 0) 33)).alloc (.cells (lvC fun _ => 0) 33)).setRow w5.heap.size (lvC a)).setRow (w5.heap.size + 1) (lvC b)) (w5.heap.size + 1) b ∧ Below w.heap.size w ((((w5.alloc (.cells (lvC fun _ => 0) 33)).alloc (.cells (lvC fun _ => 0) 33)).setRow w5.heap.size (lvC a)).setRow (w5.heap.size + 1) (lvC b))) := by
   refine ⟨?_, setRow_heap _ _ _ _ _ _ HY.out, H5.out.trans (((((((Below.refl w5.heap.size w5).alloc (Nat.le_refl _) _).alloc (by simp) _).trans (setRow_below (Nat.le_refl _) _))).trans (setRow_below (by omega) _)).mono H5.out.size)⟩
   exact (setRow_other _ _ _ _ (by omega)).trans (setRow_heap _ _ _ _ _ _ HZ.out)
  generalize (((w5.alloc (.cells (lvC fun _ => 0) 33)).alloc (.cells (lvC fun _ => 0) 33)).setRow w5.heap.size (lvC a)).setRow (w5.heap.size + 1) (lvC b) = W at *
  obtain ⟨F, hFd⟩ : ∃ F, F = w5.heap.size := ⟨_, rfl⟩
  rw [← hFd] at H6 ⊢
  clear HZ HY HY2 hFd H5
  have HE : Hid (∀ τ, τ < 0 → a τ = b τ) := fun τ hτ => absurd hτ (Nat.not_lt_zero _)
  go_loopw [11] (fun kv wr => ∃ k : Nat, k ≤ 5 ∧ kv = .int .i64 k ∧ Hid (∀ τ, τ < k → a τ = b τ) ∧ Hid (LvB wr F a ∧ LvB wr (F + 1) b ∧ Below w.heap.size w wr)) (fun kv _ => 5 - (intOf kv).toNat)
  case atStart => exact ⟨0, by omega, rfl, HE, H6⟩
  case round =>
   clear HE H6
   obtain ⟨k, hk, rfl, HE, H0⟩ := hrel
   have k0 : (0 : Int) ≤ (k : Int) := by omega
   by_cases hlt : k < 5
   ·
    have k1 : (k : Int) < 5 := by omega
    have c0 := H0.out.1.cell hlt
    have c1 := H0.out.2.1.cell hlt
    have HL : Hid (a k ≤ b k) := HX.out k HE.out
    obtain ⟨x, hx⟩ : ∃ x, x = a k := ⟨_, rfl⟩
    obtain ⟨y, hy⟩ : ∃ y, y = b k := ⟨_, rfl⟩
    rw [← hx] at c0
    rw [← hy] at c1
    have HXY : Hid (x = a k ∧ y = b k) := ⟨hx, hy⟩
    clear hx hy
    by_cases hxy : x = y
    ·
     have e1 : (x : Int) = (y : Int) := by omega
     have HE2 : Hid (∀ τ, τ < k + 1 → a τ = b τ) := fun τ hτ => by
      by_cases e : τ = k
      · rw [e, ← HXY.out.1, ← HXY.out.2]; exact hxy
      · exact HE.out τ (by omega)
     have H2d : Hid (LvB wr.drew F a ∧ LvB wr.drew (F + 1) b ∧ Below w.heap.size w wr.drew) := ⟨H0.out.1, H0.out.2.1, H0.out.2.2.drew⟩
     clear hxy
     go_wp2_with fail
     go_region_held3 (fun w' => w'.cell? ⟨F, k, none⟩ = some (.int .i64 (x : Int)) ∧ w'.cell? ⟨F + 1, k, none⟩ = some (.int .i64 (y : Int))) (go_keep) (fail)
     go_wp2
     go_roundw
     case rel => exact ⟨k + 1, by omega, by go_num, HE2, H2d⟩
     case measure => simp [intOf]; omega
    ·
     have e1 : ¬ (x : Int) = (y : Int) := by omega
     have e2 : (x : Int) < (y : Int) := by have h1 := HL.out; have h2 := HXY.out; omega
     clear hxy
     have H2d : Hid (Below w.heap.size w wr.drew) := H0.out.2.2.drew
     go_wp2_with fail
     go_region_held3 (fun w' => w'.cell? ⟨F, k, none⟩ = some (.int .i64 (x : Int)) ∧ w'.cell? ⟨F + 1, k, none⟩ = some (.int .i64 (y : Int))) (go_keep) (fail)
     go_wp2_with fail
     refine wp_region_held_drew (S := fun w' => w'.cell? ⟨F, k, none⟩ = some (.int .i64 (x : Int)) ∧ w'.cell? ⟨F + 1, k, none⟩ = some (.int .i64 (y : Int))) (by kernel_rfl) ?_ (fun hHeld => ?_)
     ·
      (try dsimp only)
      go_keep
     refine tk (i := 0) (h := ?_)
     try simp only [zR]
     refine tk (i := 1) (h := ?_)
     try simp only [zR]
     refine tk (i := 2) (h := ?_)
     try simp only [zR]
     refine tk (i := 3) (h := ?_)
     try simp only [zR]
     refine tk (i := 4) (h := ?_)
     try simp only [zR]
     refine tk (i := 5) (h := ?_)
     try simp only [zR]
     refine tk (i := 6) (h := ?_)
     try simp only [zR]
     refine tk (i := 7) (h := ?_)
     try simp only [zR]
     refine tr [8] ?_
     refine tc (h := fun K hK => ?_) (hs := tn)
     try go_simp
     refine (known13_c _).mono ?_
     rintro e w6 ⟨rfl, hb6⟩
     have HF : Hid (Below w.heap.size w w6) := H2d.out.drew.trans (hb6.mono H2d.out.drew.size)
     have HC := Lib.hid (And.intro ((LvB.below (w := wr.drew.drew) (show LvB wr.drew.drew F a from H0.out.1) hb6).cell hlt) ((LvB.below (w := wr.drew.drew) (show LvB wr.drew.drew (F + 1) b from H0.out.2.1) hb6).cell hlt))
     clear hb6 c0 c1
     have c0 := HC.out.1
     have c1 := HC.out.2
     rw [← HXY.out.1] at c0
     rw [← HXY.out.2] at c1
     try go_wp2_with fail
     refine hK.out _ _ ?_ (fun hHeld => ?_)
     · (try dsimp only); go_keep
     clear hK K
     try simp only [zR]
     refine tk (i := 9) (h := ?_)
     try simp only [zR]
     refine tk (i := 10) (h := ?_)
     try simp only [zR]
     refine wpAnyH_done (by kernel_rfl) ?_ _
     go_wp2
     go_ret
     exact ⟨rfl, HF.out⟩
   ·
    have k1 : ¬ (k : Int) < 5 := by omega
    have H2d : Hid (Below w.heap.size w wr) := H0.out.2.2
    clear H0
    go_wp2_with fail
    refine (known13_c wr).mono ?_
    rintro e w6 ⟨rfl, hb6⟩
    have HF : Hid (Below w.heap.size w w6) := H2d.out.trans (hb6.mono H2d.out.size)
    clear hb6
    go_wp2
    go_ret
    exact ⟨rfl, HF.out⟩
end Go.Proofs.Ytjbhhccklfddaaa
