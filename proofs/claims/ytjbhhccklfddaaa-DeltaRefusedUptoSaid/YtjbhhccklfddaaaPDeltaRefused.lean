/-
  DeltaRefused: a choice that may not be comes back as it was, and false.
-/
import Derived.Test.YtjbhhccklfddaaaPHvH
import Derived.Test.YtjbhhccklfddaaaPGnB
import Derived.Test.YtjbhhccklfddaaaPRIs13
import Derived.Test.YtjbhhccklfddaaaPDlS
import Derived.Test.YtjbhhccklfddaaaPKnG3
namespace Go.Proofs.Ytjbhhccklfddaaa
set_option maxRecDepth 20000
open Go.RowKit
set_option maxHeartbeats 12800000 in
theorem DeltaRefused_any (A : Option Addr) (m c : Nat) (OA : Option Addr) (mo oc : Nat) (n : Int) (ps : List (Cv × List Tv)) (L : List Int) (w : World) (hk : Kons w A m (ps.map (·.1))) (hf : ∀ x ∈ ps, Raw w x.1 x.2) (hm : m ≤ 1048576) (hO : ZRow w OA mo L) (hmo : mo ≤ 1048576) :
  Calls Try.prog 10 #[.slice A m c, .slice OA mo oc, .int .i64 n] w fun e w' => e = .returned (.bool true) ∧ Below w.heap.size w w' := by
 have m0 : (0 : Int) ≤ (m : Int) := by omega
 have m9 : (m : Int) ≤ 1048576 := by omega
 have o0 : (0 : Int) ≤ (mo : Int) := by omega
 have o9 : (mo : Int) ≤ 1048576 := by omega
 have HK := Lib.hid (And.intro hk (And.intro hf hO))
 clear hk hf hO
 go_enter Try.func10, Try.ntmps10
 go_wp2_with fail
 refine (heavyH_c A m c ps _ HK.out.1 (fun x hx => (HK.out.2.1 x hx).fit) hm).mono ?_
 rintro e w1 ⟨r, rfl, hr, hb⟩
 have HR := Lib.hid hr
 have HB1 := Lib.hid hb
 clear hr hb
 cases r with
 |
  true =>
  go_wp2
  go_ret
  exact ⟨rfl, HB1.out⟩
 | false =>
 obtain ⟨_, hg⟩ := gns_of HK.out.1 HK.out.2.1 (HR.out (by trivial))
 have HV := Lib.hid (hg.below HB1.out)
 have HO := Lib.hid (HK.out.2.2.below HB1.out)
 clear hg HR HK
 by_cases h12 : (12 : Int) < (m : Int)
 ·
  go_wp2
  go_ret
  exact ⟨rfl, HB1.out⟩
 by_cases h20 : (20 : Int) < (mo : Int)
 ·
  go_wp2
  go_ret
  exact ⟨rfl, HB1.out⟩
 have mN : m ≤ 12 := by omega
 have oN : mo ≤ 1000 := by omega
 go_wp2_with fail
 refine (rIs13_c w1 n m A c ps OA mo oc L w1 HV.out mN oN HO.out (Below.refl _ _)).mono ?_
 rintro e w2 ⟨⟨r, rfl, hr⟩, hb2⟩
 have HR := Lib.hid hr
 have H2 := Lib.hid hb2
 clear hr hb2
 cases r with
 |
  true =>
  go_wp2
  go_ret
  exact ⟨rfl, HB1.out.trans (H2.out.mono HB1.out.size)⟩
 | false =>
 have HN : Hid (∀ o, ¬ May w1 n m ps mo L o) := fun o k => by have := HR.out.2 ⟨o, k⟩; cases this
 clear HR
 go_wp2_with fail
 refine (Settle_c w1 n m A c ps OA mo oc L w2 HV.out mN oN HO.out H2.out).mono ?_
 rintro e w3 ⟨hb3, hno, _⟩
 obtain ⟨A2, c2, rfl, hz⟩ := hno HN.out
 have H3 : Hid (ZRow w3 A2 mo L ∧ Below w1.heap.size w1 w3) := ⟨hz.row, H2.out.trans (hb3.mono H2.out.size)⟩
 clear hb3 hno hz H2
 go_wp2_with fail
 refine (numbers_c A2 OA mo mo c2 oc L L w3 H3.out.1 (HO.out.below H3.out.2) (by omega) (by omega)).mono ?_
 rintro e w4 ⟨⟨r, rfl, hr⟩, hb4⟩
 obtain rfl : r = true := hr.2 rfl
 have H4 : Hid (Below w1.heap.size w1 w4) := H3.out.2.trans (hb4.mono H3.out.2.size)
 clear hr hb4 H3
 go_wp2_with fail
 refine (Walk_c w1 n m A c ps OA mo oc L w4 HV.out mN oN HO.out H4.out).mono ?_
 rintro e w5 ⟨hb5, hw, _⟩
 obtain rfl := hw HN.out
 have H5 : Hid (Below w1.heap.size w1 w5) := H4.out.trans (hb5.mono H4.out.size)
 clear hb5 hw H4
 go_wp2_with fail
 refine (Blocked_c w1 n m A c ps OA mo oc L 0 w5 HV.out mN oN HO.out H5.out).mono ?_
 rintro e w6 ⟨⟨r, rfl, hr⟩, hb6⟩
 obtain rfl : r = false := Bool.eq_false_iff.2 fun e => by obtain ⟨o, ho, _⟩ := hr.1 e; exact HN.out o ho
 have H6 : Hid (Below w1.heap.size w1 w6) := H5.out.trans (hb6.mono H5.out.size)
 clear hr hb6 H5
 go_wp2_with fail
 refine (Is_c' w1 n m A c ps OA mo oc L w6 HV.out mN oN HO.out H6.out).mono ?_
 rintro e w7 ⟨⟨r, rfl, hr⟩, hb7⟩
 obtain rfl : r = false := Bool.eq_false_iff.2 fun e => by obtain ⟨o, ho⟩ := hr.1 e; exact HN.out o ho
 have H7 : Hid (Below w1.heap.size w1 w7) := H6.out.trans (hb7.mono H6.out.size)
 clear hr hb7 H6
 go_wp2_with fail
 refine (known13_c w7).mono ?_
 rintro e w8 ⟨rfl, hb8⟩
 have H8 : Hid (Below w.heap.size w w8) := HB1.out.trans ((H7.out.trans (hb8.mono H7.out.size)).mono HB1.out.size)
 clear hb8 H7
 go_wp2
 go_ret
 exact ⟨rfl, H8.out⟩
end Go.Proofs.Ytjbhhccklfddaaa
