/-
  The choice in which all tell that can, by the document.
-/
import Derived.Test.YtjbhhccklfddaaaVREn
import Derived.Test.YtjbhhccklfddaaaVOrd
import Derived.Test.YtjbhhccklfddaaaVSame
import Derived.Test.YtjbhhccklfddaaaVRIs13
import Derived.Test.YtjbhhccklfddaaaVDlS
namespace Go.Proofs.Ytjbhhccklfddaaa
set_option maxRecDepth 20000
open Go.RowKit
theorem OwnZ.made0 (w : World) : OwnZ (w.alloc (.cells #[] 3)) w.heap.size (some ⟨w.heap.size, 0, none⟩) 0 0 [] := ⟨World.ownsRow_made w #[] 0 (Nat.le_refl _) (Nat.zero_le _) rfl⟩
def RsPost (w0 : World) (n : Int) (N : Nat) (ps : List (Cv × List Tv)) (m : Nat) (L : List Int) (w : World) (e : Ending) (w' : World) : Prop :=
 Below w.heap.size w w' ∧
 ((∀ o, ¬ May w0 n N ps m L o) → ∃ A2 c2, e = .returned (.tuple #[.slice A2 m c2, .bool false]) ∧ OwnZ w' w.heap.size A2 c2 m L) ∧
 ∀ o, May w0 n N ps m L o → ∃ A2 c o', e = .returned (.tuple #[.slice A2 N c, .bool true]) ∧ OwnZ w' w.heap.size A2 c N (outsL N o') ∧ Stl N (vsOf w0 n.toNat ps) (ssOf ps) (ordK (ssOf ps) (List.range N) 5) o o'
structure RsI (N : Nat) (vs : Nat → List Nat) (s : Nat → Nat) (l : List Nat) (o : Nat → Option Nat) (gk : Nat) (o1 : Nat → Option Nat) : Prop where
 cho : Cho N vs o1
 go : ∀ o', Stl N vs s l o1 o' → Stl N vs s l o o'
 mu : 16 * N < gk + mu N s o1
set_option maxHeartbeats 25600000 in
theorem rSettle_c (w0 : World) (n : Int) (N : Nat) (A : Option Addr) (cA : Nat) (ps : List (Cv × List Tv)) (OA : Option Addr) (m oc : Nat) (L : List Int) (w : World) (hg : Gns w0 A N ps) (hN : N ≤ 12) (hm : m ≤ 1000) (hO : ZRow w0 OA m L) (hb0 : Below w0.heap.size w0 w) :
  Calls Try.prog 13 #[.slice A N cA, .slice OA m oc, .int .i64 n] w (RsPost w0 n N ps m L w) := by
 have HD := Lib.hid (And.intro hg (And.intro hO hb0))
 have N0 : (0 : Int) ≤ (N : Int) := by omega
 clear hg hO hb0
 go_enter Try.func13, Try.ntmps13
 go_wp2_with fail
 refine (rIs13_c w0 n N A cA ps OA m oc L w HD.out.1 hN hm HD.out.2.1 HD.out.2.2).mono ?_
 rintro e w1 ⟨⟨r, rfl, hr⟩, hb⟩
 have HR := Lib.hid hr
 have H1 := Lib.hid hb
 clear hr hb
 have HZ1 : Hid (OwnZ (w1.alloc (.cells #[] 3)) w.heap.size (some ⟨w1.heap.size, 0, none⟩) 0 0 [] ∧ ZRow (w1.alloc (.cells #[] 3)) OA m L ∧ Below w.heap.size w (w1.alloc (.cells #[] 3)) ∧ w.heap.size ≤ (w1.alloc (.cells #[] 3)).heap.size) := by
  have hs := H1.out.size
  have h2 : Below w.heap.size w (w1.alloc (.cells #[] 3)) := H1.out.alloc hs _
  exact ⟨(OwnZ.made0 w1).lower hs, HD.out.2.1.below (HD.out.2.2.trans (h2.mono HD.out.2.2.size)), h2, h2.size⟩
 cases r with
 |
  false =>
  have HN : Hid (∀ o, ¬ May w0 n N ps m L o) := fun o h => by have := HR.out.2 ⟨o, h⟩; cases this
  go_wp2_with (at_builtin; refine wpz_appends rfl _ _ rfl rfl rfl (lo := w.heap.size) HZ1.out.1 HZ1.out.2.1 (by omega) HZ1.out.2.2.2 ?_)
  intro A2 c2 w2 hown hgrow
  have HF : Hid (Below w.heap.size w w2 ∧ OwnZ w2 w.heap.size A2 c2 m L) := ⟨below_rowZ HZ1.out.2.2.1 HZ1.out.1 hgrow HZ1.out.2.2.2, by simpa using hown⟩
  clear hown hgrow
  try rw [Nat.zero_add]
  go_wp2
  refine bodyPost_ret (results_tmp2 rfl _ _ _) rfl ?_
  exact ⟨HF.out.1, fun _ => ⟨A2, c2, rfl, HF.out.2⟩, fun o k => absurd k (HN.out o)⟩
 |
  true =>
  obtain ⟨o, ho⟩ := HR.out.1 rfl
  have emo : m = N := ho.len
  subst emo
  have HM := Lib.hid ho
  obtain ⟨nn, rfl⟩ : ∃ nn : Nat, n = (nn : Int) := ⟨n.toNat, by have := ho.n1; omega⟩
  have etn : ((nn : Int)).toNat = nn := by omega
  obtain ⟨vs, hvs⟩ : ∃ vs, vs = vsOf w0 nn ps := ⟨_, rfl⟩
  have HSY : Hid (Sys w0 nn m A ps vs (ssOf ps) ∧ Bridge m vs ∧ Cho m vs o ∧ L = outsL m o ∧ vs = vsOf w0 nn ps) := by
   have h1 := ho.sys HD.out.1
   have h2 := ho.bridge HD.out.1
   have h3 := ho.cho
   rw [etn, ← hvs] at h1 h2 h3
   exact ⟨h1, h2, h3, ho.outs, hvs⟩
  obtain ⟨s, hs⟩ : ∃ s, s = ssOf ps := ⟨_, rfl⟩
  rw [← hs] at HSY
  have HSS := Lib.hid hs
  clear ho HR hs hvs
  have HI : Hid (RsI m vs s (ordK s (List.range m) 5) o (16 * m + 1) o) := ⟨HSY.out.2.2.1, fun _ h => h, by omega⟩
  go_wp2_with (at_builtin; refine wpz_appends rfl _ _ rfl rfl rfl (lo := w.heap.size) HZ1.out.1 HZ1.out.2.1 (by omega) HZ1.out.2.2.2 ?_)
  intro A2 c2 w2 hown hgrow
  have HF : Hid (OwnZ w2 w.heap.size A2 c2 m (outsL m o) ∧ Below w.heap.size w w2) := ⟨by rw [← HSY.out.2.2.2.1]; simpa using hown, below_rowZ HZ1.out.2.2.1 HZ1.out.1 hgrow HZ1.out.2.2.2⟩
  clear hown hgrow HZ1 H1
  try rw [Nat.zero_add]
  go_wp2
  go_loopg [9] (16 * m + 1) (fun gk _ wr => ∃ o1 : Nat → Option Nat, Hid (RsI m vs s (ordK s (List.range m) 5) o gk o1) ∧ Hid (OwnZ wr w.heap.size A2 c2 m (outsL m o1) ∧ Below w.heap.size w wr))
  case atStart => exact ⟨o, HI, HF⟩
  case round =>
   clear HI HF
   obtain ⟨o1, HI, HW⟩ := hrel
   cases gk with
   |
    zero =>
    have h1 := HI.out.mu
    have h2 := mu_le (N := m) (s := s) (o := o1)
    omega
   | succ gk =>
   have HZ : Hid (OwnZ (wr.alloc (.cells #[] 3)) wr.heap.size (some ⟨wr.heap.size, 0, none⟩) 0 0 [] ∧ OwnZ (wr.alloc (.cells #[] 3)) w.heap.size A2 c2 m (outsL m o1) ∧ Below wr.heap.size wr (wr.alloc (.cells #[] 3)) ∧ wr.heap.size ≤ (wr.alloc (.cells #[] 3)).heap.size) :=
    ⟨OwnZ.made0 wr, HW.out.1.alloc _, (Below.refl _ _).alloc (Nat.le_refl _) _, by simp⟩
   go_wp2_with (at_builtin; refine wpz_appends rfl _ _ rfl rfl rfl (lo := wr.heap.size) HZ.out.1 HZ.out.2.1.row (by omega) HZ.out.2.2.2 ?_)
   intro A3 c3 w3 hown hgrow
   have HNE : Hid (∀ ad ad', A2 = some ad → A3 = some ad' → ad'.block ≠ ad.block) := fun ad ad' e1 e2 => by
    have h1 := (HW.out.1.lt' ad e1).2
    have h2 := (hown.lt' ad' e2).1
    omega
   have HF : Hid (OwnZ w3 w.heap.size A2 c2 m (outsL m o1) ∧ ZRow w3 A3 m (outsL m o1) ∧ Below w.heap.size w w3) := by
    have h1 : OwnZ w3 wr.heap.size A3 c3 m (outsL m o1) := by simpa using hown
    have h2 : Below wr.heap.size wr w3 := below_rowZ HZ.out.2.2.1 HZ.out.1 hgrow HZ.out.2.2.2
    exact ⟨HW.out.1.below h2, h1.row, HW.out.2.trans (h2.mono HW.out.2.size)⟩
   clear hown hgrow HZ HW
   try rw [Nat.zero_add]
   go_wp2
   have HR0 : Hid (Rnd m vs s (ordK s (List.range m) 0) o1 o1 ∧ Cho m vs o1) := ⟨.nil _, HI.out.cho⟩
   go_loopw [10, 11] (fun σv _ wr => ∃ (σ : Nat) (o2 : Nat → Option Nat), σ ≤ 5 ∧ σv = .int .i64 σ ∧ Hid (Rnd m vs s (ordK s (List.range m) σ) o1 o2 ∧ Cho m vs o2) ∧ Hid (OwnZ wr w.heap.size A2 c2 m (outsL m o2) ∧ ZRow wr A3 m (outsL m o1) ∧ Below w.heap.size w wr)) (fun σv _ _ => 5 - (intOf σv).toNat)
   case atStart => exact ⟨0, o1, Nat.zero_le _, rfl, HR0, HF⟩
   case round =>
    clear HR0 HF
    obtain ⟨σ, o2, hσ, rfl, HRn, HW⟩ := hrel
    have σ0 : (0 : Int) ≤ (σ : Int) := by omega
    by_cases hσ5 : σ < 5
    ·
     have σ1 : (σ : Int) ≤ 4 := by omega
     have HR1 : Hid (Rnd m vs s (ordK s (List.range m) σ ++ segK s σ 0) o1 o2 ∧ Cho m vs o2) := by
      rw [show segK s σ 0 = [] from rfl, List.append_nil]; exact HRn.out
     go_wp2
     go_loopw [11] (fun iv wr => ∃ (i : Nat) (o3 : Nat → Option Nat), i ≤ m ∧ iv = .int .i64 i ∧ Hid (Rnd m vs s (ordK s (List.range m) σ ++ segK s σ i) o1 o3 ∧ Cho m vs o3) ∧ Hid (OwnZ wr w.heap.size A2 c2 m (outsL m o3) ∧ ZRow wr A3 m (outsL m o1) ∧ Below w.heap.size w wr)) (fun iv _ => m - (intOf iv).toNat)
     case atStart => exact ⟨0, o2, Nat.zero_le _, rfl, HR1, HW⟩
     case round =>
      clear HR1 HW HRn
      obtain ⟨i, o3, hi, rfl, HRn, HW⟩ := hrel
      have i0 : (0 : Int) ≤ (i : Int) := by omega
      by_cases hlt : i < m
      ·
       have i1 : (i : Int) < (m : Int) := by omega
       have HB0 : Hid (Below w0.heap.size w0 wr) := HD.out.2.2.trans (HW.out.2.2.mono HD.out.2.2.size)
       obtain ⟨bb, off, va, hca⟩ := HSY.out.1.con HB0.out hlt
       have hA := hca.adr
       subst hA
       obtain ⟨x0, _, _, _, _⟩ := hca.cells
       rw [hca.s] at x0
       obtain ⟨τ, hτ⟩ : ∃ τ, τ = s i := ⟨_, rfl⟩
       rw [← hτ] at x0
       clear hca
       obtain ⟨g, hA2, hg1, hg2⟩ := HW.out.1.form (by omega)
       subst hA2
       have c0 := HW.out.1.cell hlt
       rw [outsL_zt hlt] at c0
       by_cases hs : τ = σ
       ·
        have hsi : (τ : Int) = (σ : Int) := by omega
        have HSE : Hid (segK s σ (i + 1) = segK s σ i ++ [i]) := segK_yes (by rw [← hτ]; exact hs)
        clear hs hτ
        cases ho : o3 i with
        |
         some v =>
         rw [ho] at c0
         have c0' : wr.cell? ⟨g, i, none⟩ = some (.int .i64 (v : Int)) := c0
         have v0 : (0 : Int) ≤ (v : Int) := by omega
         have HR2 : Hid (Rnd m vs s (ordK s (List.range m) σ ++ segK s σ (i + 1)) o1 o3 ∧ Cho m vs o3) := ⟨by
          rw [HSE.out, ← List.append_assoc]
          exact HRn.out.1.app (.skip _ _ _ _ (by rw [ho]; rfl) (.nil _)), HRn.out.2⟩
         clear c0 ho
         go_wp2
         go_roundw
         case rel => exact ⟨i + 1, o3, by omega, by go_num, HR2, HW⟩
         case measure => simp [intOf]; omega
        |
         none =>
         rw [ho] at c0
         have c0' : wr.cell? ⟨g, i, none⟩ = some (.int .i64 (-1)) := c0
         have HO := Lib.hid ho
         clear c0 ho
         go_wp2_with fail
         clear x0 c0'
         refine (rEnforce_c HSY.out.1 HSY.out.2.1 HRn.out.2 w.heap.size i g c2 wr HB0.out HD.out.2.2.size HW.out.1 HW.out.2.2.size hlt HO.out).mono ?_
         rintro ee w4 ⟨rfl, o4, he, hc4, hz4, hb4⟩
         have HR2 : Hid (Rnd m vs s (ordK s (List.range m) σ ++ segK s σ (i + 1)) o1 o4 ∧ Cho m vs o4) := ⟨by
          rw [HSE.out, ← List.append_assoc]
          exact HRn.out.1.app (.one _ _ _ _ _ HO.out he (.nil _)), hc4⟩
         have HW2 : Hid (OwnZ w4 w.heap.size (some ⟨g, 0, none⟩) c2 m (outsL m o4) ∧ ZRow w4 A3 m (outsL m o1) ∧ Below w.heap.size w w4) :=
          ⟨hz4, HW.out.2.1.but2 hb4 (fun ad e => ⟨HNE.out _ ad rfl e, HNE.out _ ad rfl e⟩), HW.out.2.2.trans (hb4.below hg1 hg1 HW.out.2.2.size)⟩
         clear he hc4 hz4 hb4
         go_wp2
         go_roundw
         case rel => exact ⟨i + 1, o4, by omega, by go_num, HR2, HW2⟩
         case measure => simp [intOf]; omega
       ·
        have hsi : ¬ (τ : Int) = (σ : Int) := by omega
        have HR2 : Hid (Rnd m vs s (ordK s (List.range m) σ ++ segK s σ (i + 1)) o1 o3 ∧ Cho m vs o3) := by
         rw [segK_no (by rw [← hτ]; exact hs)]; exact HRn.out
        clear hs hτ c0
        go_wp2
        go_roundw
        case rel => exact ⟨i + 1, o3, by omega, by go_num, HR2, HW⟩
        case measure => simp [intOf]; omega
      ·
       have i1 : ¬ (i : Int) < (m : Int) := by omega
       have e : i = m := by omega
       rw [e] at HRn
       have HR2 : Hid (Rnd m vs s (ordK s (List.range m) (σ + 1)) o1 o3 ∧ Cho m vs o3) := HRn.out
       clear HRn e
       go_wp2
       go_roundw
       case rel => exact ⟨σ + 1, o3, by omega, by go_num, HR2, HW⟩
       case measure => simp [intOf]; omega
    ·
     have σ1 : ¬ (σ : Int) ≤ 4 := by omega
     have e : σ = 5 := by omega
     rw [e] at HRn
     clear e
     go_wp2_with fail
     refine (same_c A3 A2 m c3 c2 (outsL m o1) (outsL m o2) wr HW.out.2.1 HW.out.1.row (by omega)).mono ?_
     rintro ee w5 ⟨⟨r, rfl, hr⟩, hb5⟩
     have HE := Lib.hid hr
     have HW5 : Hid (OwnZ w5 w.heap.size A2 c2 m (outsL m o2) ∧ Below w.heap.size w w5) := ⟨HW.out.1.below hb5, HW.out.2.2.trans (hb5.mono HW.out.2.2.size)⟩
     clear hr hb5 HW
     cases r with
     |
      true =>
      have HFi : Hid (Stl m (vsOf w0 nn ps) (ssOf ps) (ordK (ssOf ps) (List.range m) 5) o o2) := by
       have e : o1 = o2 := outsL_inj HI.out.cho.out HRn.out.2.out (HE.out.1 rfl)
       have h1 := HRn.out.1
       rw [← e] at h1 ⊢
       have h2 := HI.out.go _ (.done _ h1)
       rw [HSY.out.2.2.2.2, HSS.out] at h2
       exact h2
      go_wp2
      refine bodyPost_ret (results_tmp2 rfl _ _ _) rfl ?_
      refine ⟨HW5.out.2, fun k => absurd HM.out (k o), fun p hp => ⟨A2, c2, o2, rfl, HW5.out.1, ?_⟩⟩
      rw [hp.uniq HM.out, etn]; exact HFi.out
     |
      false =>
      have HI2 : Hid (RsI m vs s (ordK s (List.range m) 5) o gk o2) := by
       have ne : o2 ≠ o1 := fun e => by have := HE.out.2 (by rw [e]); cases this
       refine ⟨HRn.out.2, fun o' h => HI.out.go _ (.more _ _ _ HRn.out.1 ne h), ?_⟩
       obtain ⟨_, _, h3⟩ := HRn.out.1.better HSY.out.2.1 HSY.out.1.s4 (fun i hi => List.mem_range.1 (ordK_mem hi).1) HI.out.cho
       rcases h3 with ⟨h3, _⟩ | h3
       · exact absurd h3 ne
       · have := HI.out.mu; omega
      clear HI HRn HE
      go_wp2
      go_roundg gk
      case measure => omega
      case rel => exact ⟨o2, HI2, HW5⟩
end Go.Proofs.Ytjbhhccklfddaaa
