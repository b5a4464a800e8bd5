/-
  DeltaAgain: a choice that is settled stays as it is.
-/
import Derived.Test.YtjbhhccklfddaaaPNones
import Derived.Test.YtjbhhccklfddaaaPDlS
namespace Go.Proofs.Ytjbhhccklfddaaa
set_option maxRecDepth 20000
open Go.RowKit
set_option maxHeartbeats 12800000 in
theorem DeltaAgain_any (A : Option Addr) (m c : Nat) (n : Int) (ps : List (Cv × List Tv)) (w : World) (hk : Kons w A m (ps.map (·.1))) (hf : ∀ x ∈ ps, Raw w x.1 x.2) (hm : m ≤ 1048576) :
  Calls Try.prog 5 #[.slice A m c, .int .i64 n] w fun e w' => e = .returned (.bool true) ∧ Below w.heap.size w w' := by
 have m0 : (0 : Int) ≤ (m : Int) := by omega
 have m9 : (m : Int) ≤ 1048576 := by omega
 have HK := Lib.hid (And.intro hk hf)
 clear hk hf
 go_enter Try.func5, Try.ntmps5
 go_wp2_with fail
 refine (heavyH_c A m c ps _ HK.out.1 (fun x hx => (HK.out.2 x hx).fit) hm).mono ?_
 rintro e w1 ⟨r, rfl, hr, hb⟩
 have HR := Lib.hid hr
 have HB1 := Lib.hid hb
 clear hr hb
 cases r with
 |
  true =>
  go_wp2
  go_ret
  exact ⟨rfl, HB1.out⟩
 | false =>
 obtain ⟨_, hg⟩ := gns_of HK.out.1 HK.out.2 (HR.out (by trivial))
 have HV := Lib.hid (hg.below HB1.out)
 clear hg HR HK
 by_cases h12 : (12 : Int) < (m : Int)
 ·
  go_wp2
  go_ret
  exact ⟨rfl, HB1.out⟩
 have mN : m ≤ 12 := by omega
 have HO0 : Hid (OwnZ w1 w1.heap.size none 0 0 (List.replicate 0 (-1)) ∧ Below w1.heap.size w1 w1) := ⟨OwnZ.nil_ _ _, Below.refl _ _⟩
 go_wp2
 go_loopw [5, 6] (fun rv kv wr => ∃ (k : Nat) (A2 : Option Addr) (c2 : Nat), k ≤ m ∧ rv = .slice A2 k c2 ∧ kv = .int .i64 k ∧ Hid (OwnZ wr w1.heap.size A2 c2 k (List.replicate k (-1)) ∧ Below w1.heap.size w1 wr)) (fun _ kv _ => m - (intOf kv).toNat)
 case atStart => exact ⟨0, none, 0, Nat.zero_le _, rfl, rfl, HO0⟩
 case round =>
  clear HO0
  obtain ⟨k, A2, c2, hk, rfl, rfl, HO⟩ := hrel
  have k0 : (0 : Int) ≤ (k : Int) := by omega
  by_cases hlt : k < m
  ·
   have k1 : (k : Int) < (m : Int) := by omega
   have hsz : w1.heap.size ≤ (wr.alloc (.cells #[.int .i64 (-1)] 3)).heap.size := by have := HO.out.2.size; simp; omega
   go_wp2_with (at_builtin; refine wpz_appends rfl _ _ rfl rfl rfl (lo := w1.heap.size) (HO.out.1.below ((Below.refl _ _).alloc (Nat.le_refl _) _)) (none_row (-1)) (by omega) hsz ?_)
   intro A3 c3 w2 hown hgrow
   have HO2 : Hid (OwnZ w2 w1.heap.size A3 c3 (k + 1) (List.replicate (k + 1) (-1)) ∧ Below w1.heap.size w1 w2) := by
    refine ⟨by rw [← repl_succ]; exact hown, below_rowZ (w := wr.alloc (.cells #[.int .i64 (-1)] 3)) (HO.out.2.alloc HO.out.2.size _) (HO.out.1.below ((Below.refl _ _).alloc (Nat.le_refl _) _)) hgrow hsz⟩
   clear hown hgrow hsz HO
   go_wp2
   go_roundw
   case rel => exact ⟨k + 1, A3, c3, by omega, rfl, by go_num, HO2⟩
   case measure => simp [intOf]; omega
  ·
   have k1 : ¬ (k : Int) < (m : Int) := by omega
   have e : k = m := by omega
   subst e
   obtain ⟨W, hWe⟩ : ∃ W, W = wr := ⟨_, rfl⟩
   have HG : Hid (Gns wr A k ps ∧ ZRow wr A2 k (List.replicate k (-1)) ∧ Below w.heap.size w wr) := ⟨HV.out.below HO.out.2, HO.out.1.row, HB1.out.trans (HO.out.2.mono HB1.out.size)⟩
   clear HO hWe
   go_wp2_with fail
   refine (Settle_c wr n k A c ps A2 k c2 _ wr HG.out.1 mN (by omega) HG.out.2.1 (Below.refl _ _)).mono ?_
   rintro e w3 ⟨hb3, hno, hyes⟩
   by_cases hmay : ∃ o, May wr n k ps k (List.replicate k (-1)) o
   ·
    obtain ⟨o, ho⟩ := hmay
    obtain ⟨g, cg, l, o', rfl, hz, hl, hpw, hst⟩ := hyes o ho
    obtain ⟨hm2, _, hs2, _⟩ := ho.settled HG.out.1 hl hst
    have H3 : Hid (OwnZ w3 wr.heap.size (some ⟨g, 0, none⟩) cg k (outsL k o') ∧ Below wr.heap.size wr w3 ∧ l.Perm (List.range k) ∧ l.Pairwise (SR (ssOf ps))) := ⟨hz, hb3, hl, hpw⟩
    have HM2 := Lib.hid (And.intro hm2 hs2)
    clear hb3 hno hyes hz hl hpw hst hm2 hs2 ho
    go_wp2_with fail
    have HM3 : Hid (May w3 n k ps k (outsL k o') o' ∧ Gns w3 A k ps) := by
     have hg3 := HG.out.1.below H3.out.2.1
     have hc : ∀ N, csOf w3 N ps = csOf wr N ps := fun N => csOf_turn HG.out.1.each H3.out.2.1
     have hv : ∀ N, vsOf w3 N ps = vsOf wr N ps := fun N => by funext i; unfold vsOf; rw [hc]
     refine ⟨⟨HM2.out.1.n1, HM2.out.1.n64, rfl, fun x hx => ((HG.out.1.each x hx).turn H3.out.2.1 n).1 (HM2.out.1.ok x hx), by rw [hv]; exact HM2.out.1.cho, rfl, by rw [hc]; exact HM2.out.1.tree⟩, hg3⟩
    have HS3 : Hid (Stl k (vsOf w3 n.toNat ps) (ssOf ps) l o' o') := by
     have hv : vsOf w3 n.toNat ps = vsOf wr n.toNat ps := by funext i; unfold vsOf; rw [csOf_turn HG.out.1.each H3.out.2.1]
     show Stl _ _ _ _ _ _
     rw [hv]; exact HM2.out.2
    refine (Settle_c w3 n k A c ps (some ⟨g, 0, none⟩) k cg _ w3 HM3.out.2 mN (by omega) H3.out.1.row (Below.refl _ _)).mono ?_
    rintro e w4 ⟨hb4, _, hyes4⟩
    obtain ⟨g4, c4, l4, o4, rfl, hz4, hl4, hpw4, hst4⟩ := hyes4 o' HM3.out.1
    have el : l4 = l := order_uniq (hl4.trans H3.out.2.2.1.symm) hpw4 H3.out.2.2.2
    rw [el] at hst4
    have eo : o4 = o' := hst4.det HS3.out
    rw [eo] at hz4
    have H4 : Hid (ZRow w4 (some ⟨g4, 0, none⟩) k (outsL k o') ∧ ZRow w4 (some ⟨g, 0, none⟩) k (outsL k o') ∧ Below w.heap.size w w4) := ⟨hz4.row, H3.out.1.row.below hb4, (HG.out.2.2.trans (H3.out.2.1.mono HG.out.2.2.size)).trans (hb4.mono (by have := HG.out.2.2.size; have := H3.out.2.1.size; omega))⟩
    clear hb4 hyes4 hz4 hl4 hpw4 hst4
    go_wp2_with fail
    refine (numbers_c (some ⟨g, 0, none⟩) (some ⟨g4, 0, none⟩) k k cg c4 _ _ w4 H4.out.2.1 H4.out.1 (by omega) (by omega)).mono ?_
    rintro e w5 ⟨⟨r, rfl, hr⟩, hb5⟩
    obtain rfl : r = true := hr.2 rfl
    have H5 : Hid (Below w.heap.size w w5) := H4.out.2.2.trans (hb5.mono H4.out.2.2.size)
    clear hr hb5
    go_wp2_with fail
    refine (known13_c w5).mono ?_
    rintro e w6 ⟨rfl, hb6⟩
    have H6 : Hid (Below w.heap.size w w6) := H5.out.trans (hb6.mono H5.out.size)
    clear hb6
    go_wp2
    go_ret
    exact ⟨rfl, H6.out⟩
   ·
    have HN : Hid (∀ o, ¬ May wr n k ps k (List.replicate k (-1)) o) := fun o h => hmay ⟨o, h⟩
    obtain ⟨A3, c3, rfl, hz3⟩ := hno HN.out
    have H3 := Lib.hid hb3
    clear hb3 hno hyes hz3 hmay
    go_wp2_with fail
    refine (rIs13_c wr n k A c ps A2 k c2 _ w3 HG.out.1 mN (by omega) HG.out.2.1 H3.out).mono ?_
    rintro e w4 ⟨⟨r, rfl, hr⟩, hb4⟩
    obtain rfl : r = false := Bool.eq_false_iff.2 fun e => by obtain ⟨o, ho⟩ := hr.1 e; exact HN.out o ho
    have H4 : Hid (Below w.heap.size w w4) := HG.out.2.2.trans ((H3.out.trans (hb4.mono H3.out.size)).mono HG.out.2.2.size)
    clear hr hb4
    go_wp2_with fail
    refine (known13_c w4).mono ?_
    rintro e w5 ⟨rfl, hb5⟩
    have H5 : Hid (Below w.heap.size w w5) := H4.out.trans (hb5.mono H4.out.size)
    clear hb5
    go_wp2
    go_ret
    exact ⟨rfl, H5.out⟩
end Go.Proofs.Ytjbhhccklfddaaa
