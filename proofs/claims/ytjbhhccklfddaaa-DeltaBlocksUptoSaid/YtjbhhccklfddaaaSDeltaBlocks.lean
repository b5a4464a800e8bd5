/-
  DeltaBlocks: behind it each constraint that tells none is blocked.
-/
import Derived.Test.YtjbhhccklfddaaaSDeltaWalks
import Derived.Test.YtjbhhccklfddaaaSDlS
import Derived.Test.YtjbhhccklfddaaaSRBlk
namespace Go.Proofs.Ytjbhhccklfddaaa
set_option maxRecDepth 20000
open Go.RowKit
theorem BPost.same {P : Prop} {r q : Bool} (h : r = true ↔ P) (g : q = true ↔ P) : r = q := by
 cases r <;> cases q <;> simp_all
theorem vsOf_turn {w w' : World} {n : Nat} {N : Nat} {A : Option Addr} {ps : List (Cv × List Tv)} (hg : Gns w A N ps) (hb : Below w.heap.size w w') : vsOf w' n ps = vsOf w n ps := by
 funext i; unfold vsOf; rw [csOf_turn hg.each hb]
set_option maxHeartbeats 25600000 in
theorem DeltaBlocks_any (A : Option Addr) (m c : Nat) (OA : Option Addr) (mo oc : Nat) (n i : Int) (ps : List (Cv × List Tv)) (L : List Int) (w : World) (hk : Kons w A m (ps.map (·.1))) (hf : ∀ x ∈ ps, Raw w x.1 x.2) (hm : m ≤ 1048576) (hO : ZRow w OA mo L) (hmo : mo ≤ 1048576) :
  Calls Try.prog 4 #[.slice A m c, .slice OA mo oc, .int .i64 n, .int .i64 i] w fun e w' => e = .returned (.bool true) ∧ Below w.heap.size w w' := by
 have m0 : (0 : Int) ≤ (m : Int) := by omega
 have m9 : (m : Int) ≤ 1048576 := by omega
 have o0 : (0 : Int) ≤ (mo : Int) := by omega
 have o9 : (mo : Int) ≤ 1048576 := by omega
 have HK := Lib.hid (And.intro hk (And.intro hf hO))
 clear hk hf hO
 go_enter Try.func4, Try.ntmps4
 go_wp2_with fail
 refine (heavyH_c A m c ps _ HK.out.1 (fun x hx => (HK.out.2.1 x hx).fit) hm).mono ?_
 rintro e w1 ⟨r, rfl, hr, hb⟩
 have HR := Lib.hid hr
 have HB1 := Lib.hid hb
 clear hr hb
 cases r with
 |
  true =>
  go_wp2
  go_ret
  exact ⟨rfl, HB1.out⟩
 | false =>
 obtain ⟨_, hg⟩ := gns_of HK.out.1 HK.out.2.1 (HR.out (by trivial))
 have HV := Lib.hid (hg.below HB1.out)
 have HO := Lib.hid (HK.out.2.2.below HB1.out)
 clear hg HR HK
 by_cases h12 : (12 : Int) < (m : Int)
 ·
  go_wp2
  go_ret
  exact ⟨rfl, HB1.out⟩
 by_cases h20 : (20 : Int) < (mo : Int)
 ·
  go_wp2
  go_ret
  exact ⟨rfl, HB1.out⟩
 have mN : m ≤ 12 := by omega
 have oN : mo ≤ 1000 := by omega
 go_wp2_with fail
 refine (Blocked_c w1 n m A c ps OA mo oc L i w1 HV.out mN oN HO.out (Below.refl _ _)).mono ?_
 rintro e w2 ⟨⟨r, rfl, hr⟩, hb2⟩
 have HR := Lib.hid hr
 have H2 := Lib.hid hb2
 clear hr hb2
 go_wp2_with fail
 refine (rBlocked_c w1 n m A c ps OA mo oc L i w2 HV.out mN oN HO.out H2.out).mono ?_
 rintro e w3 ⟨⟨q, rfl, hq⟩, hb3⟩
 have H3 : Hid (Below w1.heap.size w1 w3) := H2.out.trans (hb3.mono H2.out.size)
 obtain rfl : r = q := BPost.same HR.out hq
 clear hq hb3 HR H2
 go_wp2_with fail
 refine (Settle_c w1 n m A c ps OA mo oc L w3 HV.out mN oN HO.out H3.out).mono ?_
 rintro e w4 ⟨hb4, hno, hyes⟩
 have H4 : Hid (Below w1.heap.size w1 w4) := H3.out.trans (hb4.mono H3.out.size)
 have H4w : Hid (Below w.heap.size w w4) := HB1.out.trans (H4.out.mono HB1.out.size)
 clear hb4
 by_cases hmay : ∃ o, May w1 n m ps mo L o
 ·
  obtain ⟨o, ho⟩ := hmay
  have emo : mo = m := ho.len
  subst emo
  obtain ⟨g, cg, l, o', rfl, hz, hl, hpw, hst⟩ := hyes o ho
  obtain ⟨hm2, _, _, hbl⟩ := ho.settled HV.out hl hst
  have H5 : Hid (ZRow w4 (some ⟨g, 0, none⟩) mo (outsL mo o') ∧ Gns w4 A mo ps ∧ May w4 n mo ps mo (outsL mo o') o' ∧ ∀ i, i < mo → o' i = none → ∀ u ∈ vsOf w4 n.toNat ps i, wk mo (vsOf w4 n.toNat ps) (ssOf ps) o' u ≤ ssOf ps i) := by
   refine ⟨hz.row, HV.out.below H4.out, hm2.turn HV.out H4.out, ?_⟩
   rw [vsOf_turn HV.out H4.out]; exact hbl
  clear hno hyes hz hl hpw hst hm2 hbl ho
  go_wp2_with fail
  refine (Is_c' w4 n mo A c ps (some ⟨g, 0, none⟩) mo cg (outsL mo o') w4 H5.out.2.1 mN oN H5.out.1 (Below.refl _ _)).mono ?_
  rintro e w5 ⟨⟨r, rfl, hr⟩, hb5⟩
  obtain rfl : r = true := hr.2 ⟨o', H5.out.2.2.1⟩
  have H6 := Lib.hid hb5
  clear hr hb5
  go_wp2
  go_loopw [11] (fun kv wr => ∃ k : Nat, k ≤ mo ∧ kv = .int .i64 k ∧ Hid (Below w4.heap.size w4 wr)) (fun kv _ => mo - (intOf kv).toNat)
  case atStart => exact ⟨0, Nat.zero_le _, rfl, H6⟩
  case round =>
   clear H6
   obtain ⟨k, hk, rfl, HW⟩ := hrel
   have k0 : (0 : Int) ≤ (k : Int) := by omega
   by_cases hlt : k < mo
   ·
    have k1 : (k : Int) < (mo : Int) := by omega
    obtain ⟨bo, oo, hA, _, hoc⟩ := (H5.out.1.below HW.out).mem (by omega)
    injection hA with hA
    injection hA with e1 e2 _
    subst e1; subst e2
    have c0 := hoc k hlt
    rw [outsL_zt hlt] at c0
    clear hoc
    cases hok : o' k with
    |
     some v =>
     rw [hok] at c0
     have c0' : wr.cell? ⟨g, 0 + k, none⟩ = some (.int .i64 (v : Int)) := c0
     rw [Nat.zero_add] at c0'
     have v0 : (0 : Int) ≤ (v : Int) := by omega
     clear c0 hok
     go_wp2
     go_roundw
     case rel => exact ⟨k + 1, by omega, by go_num, HW⟩
     case measure => simp [intOf]; omega
    |
     none =>
     rw [hok] at c0
     have c0' : wr.cell? ⟨g, 0 + k, none⟩ = some (.int .i64 (-1)) := c0
     rw [Nat.zero_add] at c0'
     have HOK := Lib.hid hok
     clear c0 hok
     go_wp2_with fail
     refine (Blocked_c w4 n mo A c ps (some ⟨g, 0, none⟩) mo cg (outsL mo o') (k : Int) wr H5.out.2.1 mN oN H5.out.1 HW.out).mono ?_
     rintro e w6 ⟨⟨r, rfl, hr⟩, hb6⟩
     obtain rfl : r = true := hr.2 ⟨o', H5.out.2.2.1, k, rfl, hlt, HOK.out, H5.out.2.2.2 k hlt HOK.out⟩
     have HW2 : Hid (Below w4.heap.size w4 w6) := HW.out.trans (hb6.mono HW.out.size)
     clear hr hb6 c0'
     go_wp2
     go_roundw
     case rel => exact ⟨k + 1, by omega, by go_num, HW2⟩
     case measure => simp [intOf]; omega
   ·
    have k1 : ¬ (k : Int) < (mo : Int) := by omega
    have HW3 : Hid (Below w.heap.size w wr) := H4w.out.trans (HW.out.mono H4w.out.size)
    clear HW
    go_wp2_with fail
    refine (known13_c wr).mono ?_
    rintro e w6 ⟨rfl, hb6⟩
    have HF : Hid (Below w.heap.size w w6) := HW3.out.trans (hb6.mono HW3.out.size)
    clear hb6
    go_wp2
    go_ret
    exact ⟨rfl, HF.out⟩
 ·
  have HN : Hid (∀ o, ¬ May w1 n m ps mo L o) := fun o h => hmay ⟨o, h⟩
  obtain ⟨A3, c3, rfl, hz3⟩ := hno HN.out
  clear hno hyes hz3 hmay
  go_wp2_with fail
  refine (rIs13_c w1 n m A c ps OA mo oc L w4 HV.out mN oN HO.out H4.out).mono ?_
  rintro e w5 ⟨⟨r, rfl, hr⟩, hb5⟩
  obtain rfl : r = false := Bool.eq_false_iff.2 fun e => by obtain ⟨o, ho⟩ := hr.1 e; exact HN.out o ho
  have H5 : Hid (Below w.heap.size w w5) := H4w.out.trans (hb5.mono H4w.out.size)
  clear hr hb5
  go_wp2_with fail
  refine (known13_c w5).mono ?_
  rintro e w6 ⟨rfl, hb6⟩
  have H6 : Hid (Below w.heap.size w w6) := H5.out.trans (hb6.mono H5.out.size)
  clear hb6
  go_wp2
  go_ret
  exact ⟨rfl, H6.out⟩
end Go.Proofs.Ytjbhhccklfddaaa
