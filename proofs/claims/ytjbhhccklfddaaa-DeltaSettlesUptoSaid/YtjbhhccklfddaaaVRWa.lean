/-
  How strong each variable is, by the document.
-/
import Derived.Test.YtjbhhccklfddaaaVRWl
import Derived.Test.YtjbhhccklfddaaaVRIs13
import Derived.Test.YtjbhhccklfddaaaVNones
namespace Go.Proofs.Ytjbhhccklfddaaa
set_option maxRecDepth 20000
open Go.RowKit
def RwPost (w0 : World) (n : Int) (N : Nat) (ps : List (Cv × List Tv)) (m : Nat) (L : List Int) (w : World) (e : Ending) (w' : World) : Prop :=
 Below w.heap.size w w' ∧
 ((∀ o, ¬ May w0 n N ps m L o) → e = .returned (.slice none 0 0)) ∧
 ∀ o, May w0 n N ps m L o → ∃ A2 c2, e = .returned (.slice A2 n.toNat c2) ∧ OwnZ w' w.heap.size A2 c2 n.toNat ((List.range n.toNat).map fun v => ((wk N (vsOf w0 n.toNat ps) (ssOf ps) o v : Nat) : Int))
set_option maxHeartbeats 12800000 in
theorem rWalk_c (w0 : World) (n : Int) (N : Nat) (A : Option Addr) (cA : Nat) (ps : List (Cv × List Tv)) (OA : Option Addr) (m oc : Nat) (L : List Int) (w : World) (hg : Gns w0 A N ps) (hN : N ≤ 12) (hm : m ≤ 1000) (hO : ZRow w0 OA m L) (hb0 : Below w0.heap.size w0 w) :
  Calls Try.prog 18 #[.slice A N cA, .slice OA m oc, .int .i64 n] w (RwPost w0 n N ps m L w) := by
 have HD := Lib.hid (And.intro hg (And.intro hO hb0))
 have N0 : (0 : Int) ≤ (N : Int) := by omega
 clear hg hO hb0
 go_enter Try.func18, Try.ntmps18
 go_wp2_with fail
 refine (rIs13_c w0 n N A cA ps OA m oc L w HD.out.1 hN hm HD.out.2.1 HD.out.2.2).mono ?_
 rintro e w1 ⟨⟨r, rfl, hr⟩, hb⟩
 have HR := Lib.hid hr
 have H1 := Lib.hid hb
 clear hr hb
 cases r with
 |
  false =>
  have HN : Hid (∀ o, ¬ May w0 n N ps m L o) := fun o h => by have := HR.out.2 ⟨o, h⟩; cases this
  go_wp2
  go_ret
  exact ⟨H1.out, fun _ => rfl, fun o k => absurd k (HN.out o)⟩
 |
  true =>
  obtain ⟨o, ho⟩ := HR.out.1 rfl
  have emo : m = N := ho.len
  subst emo
  have HM := Lib.hid ho
  obtain ⟨nn, rfl⟩ : ∃ nn : Nat, n = (nn : Int) := ⟨n.toNat, by have := ho.n1; omega⟩
  have etn : ((nn : Int)).toNat = nn := by omega
  have nn64 : nn ≤ 64 := by have := ho.n64; omega
  have nn0 : (0 : Int) ≤ (nn : Int) := by omega
  have nn1 : (nn : Int) ≤ 64 := by omega
  obtain ⟨vs, hvs⟩ : ∃ vs, vs = vsOf w0 nn ps := ⟨_, rfl⟩
  have HSY : Hid (Sys w0 nn m A ps vs (ssOf ps) ∧ Bridge m vs ∧ Cho m vs o ∧ L = outsL m o ∧ vs = vsOf w0 nn ps) := by
   have h1 := ho.sys HD.out.1
   have h2 := ho.bridge HD.out.1
   have h3 := ho.cho
   rw [etn, ← hvs] at h1 h2 h3
   exact ⟨h1, h2, h3, ho.outs, hvs⟩
  have HOO : Hid (ZRow w0 OA m (outsL m o)) := by have h1 := HD.out.2.1; rw [HSY.out.2.2.2.1] at h1; exact h1
  obtain ⟨s, hs⟩ : ∃ s, s = ssOf ps := ⟨_, rfl⟩
  rw [← hs] at HSY
  have HSS := Lib.hid hs
  clear ho HR hs hvs
  have HO0 : Hid (OwnZ w1 w.heap.size none 0 0 ((List.range 0).map fun v => ((wk m vs s o v : Nat) : Int)) ∧ Below w.heap.size w w1) := ⟨OwnZ.nil_ _ _, H1.out⟩
  go_wp2
  go_loopw [7, 8] (fun rv kv wr => ∃ (k : Nat) (A2 : Option Addr) (c2 : Nat), k ≤ nn ∧ rv = .slice A2 k c2 ∧ kv = .int .i64 k ∧ Hid (OwnZ wr w.heap.size A2 c2 k ((List.range k).map fun v => ((wk m vs s o v : Nat) : Int)) ∧ Below w.heap.size w wr)) (fun _ kv _ => nn - (intOf kv).toNat)
  case atStart => exact ⟨0, none, 0, Nat.zero_le _, rfl, rfl, HO0⟩
  case round =>
   clear HO0
   obtain ⟨k, A2, c2, hk, rfl, rfl, HO⟩ := hrel
   have k0 : (0 : Int) ≤ (k : Int) := by omega
   by_cases hlt : k < nn
   ·
    have k1 : (k : Int) < (nn : Int) := by omega
    have HB0 : Hid (Below w0.heap.size w0 wr) := HD.out.2.2.trans (HO.out.2.mono HD.out.2.2.size)
    go_wp2_with fail
    refine (rwalk_c HSY.out.1 HSY.out.2.1 HSY.out.2.2.1 OA oc m [] k wr (Pth.start ..) (by simp) HB0.out (HOO.out.below HB0.out) hlt).mono ?_
    rintro ee w2 ⟨rfl, hb2⟩
    have HO2 : Hid (OwnZ w2 w.heap.size A2 c2 k ((List.range k).map fun v => ((wk m vs s o v : Nat) : Int)) ∧ Below w.heap.size w w2) := ⟨HO.out.1.below hb2, HO.out.2.trans (hb2.mono HO.out.2.size)⟩
    clear hb2 HO HB0
    have e1 : wkF m vs s o m k = wk m vs s o k := rfl
    rw [e1]
    clear e1
    obtain ⟨q, hq⟩ : ∃ q, q = wk m vs s o k := ⟨_, rfl⟩
    have HST : Hid (((List.range (k + 1)).map fun v => ((wk m vs s o v : Nat) : Int)) = ((List.range k).map fun v => ((wk m vs s o v : Nat) : Int)) ++ [(q : Int)]) := by
     show _ = _
     rw [List.range_succ, List.map_append, hq]; rfl
    rw [← hq]
    clear hq
    have hsz : w.heap.size ≤ (w2.alloc (.cells #[.int .i64 (q : Int)] 3)).heap.size := by have := HO2.out.2.size; simp; omega
    go_wp2_with (at_builtin; refine wpz_appends rfl _ _ rfl rfl rfl (lo := w.heap.size) (HO2.out.1.below ((Below.refl _ _).alloc (Nat.le_refl _) _)) (none_row (q : Int)) (by omega) hsz ?_)
    intro A3 c3 w3 hown hgrow
    have HO3 : Hid (OwnZ w3 w.heap.size A3 c3 (k + 1) ((List.range (k + 1)).map fun v => ((wk m vs s o v : Nat) : Int)) ∧ Below w.heap.size w w3) := by
     refine ⟨by rw [HST.out]; exact hown, below_rowZ (w := w2.alloc (.cells #[.int .i64 (q : Int)] 3)) (HO2.out.2.alloc HO2.out.2.size _) (HO2.out.1.below ((Below.refl _ _).alloc (Nat.le_refl _) _)) hgrow hsz⟩
    clear hown hgrow hsz HO2
    go_wp2
    go_roundw
    case rel => exact ⟨k + 1, A3, c3, by omega, rfl, by go_num, HO3⟩
    case measure => simp [intOf]; omega
   ·
    have k1 : ¬ (k : Int) < (nn : Int) := by omega
    have e : k = nn := by omega
    subst e
    have HF : Hid (Below w.heap.size w wr ∧ OwnZ wr w.heap.size A2 c2 k ((List.range k).map fun v => ((wk m (vsOf w0 k ps) (ssOf ps) o v : Nat) : Int))) := by
     have h1 := HO.out.1
     rw [HSY.out.2.2.2.2, HSS.out] at h1
     exact ⟨HO.out.2, h1⟩
    clear HO
    go_wp2
    go_ret
    refine ⟨HF.out.1, fun q => absurd HM.out (q o), fun p hp => ⟨A2, c2, by rw [etn]; rfl, ?_⟩⟩
    rw [hp.uniq HM.out, etn]
    exact HF.out.2
end Go.Proofs.Ytjbhhccklfddaaa
