/-
  GraphTells: of any constraints the first that closes a ring, and which variables are joined.
-/
import Derived.Test.YtkfkjdpkkagjgaaGcon
import Derived.Test.YtkfkjdpkkagjgaaGrG
namespace Go.Proofs.Ytkfkjdpkkagjgaa
set_option maxRecDepth 20000
open Go.RowKit

set_option maxHeartbeats 12800000 in
theorem GraphTells_any (A : Option Addr) (m c : Nat) (n : Int) (ps : List (Cv × List Tv)) (w : World) (hk : Kons w A m (ps.map (·.1))) (hf : ∀ x ∈ ps, Raw w x.1 x.2) (hm : m ≤ 1048576) :
    Calls Try.prog 4 #[.slice A m c, .int .i64 n] w fun e w' => e = .returned (.bool true) ∧ Below w.heap.size w w' := by
  have HK := Lib.hid hk
  have HF := Lib.hid hf
  clear hk hf
  go_enter Try.func4, Try.ntmps4
  go_wp2_with fail
  refine (heavyH_c A m c ps _ HK.out (fun x hx => (HF.out x hx).fit) hm).mono ?_
  rintro e w1 ⟨r, rfl, hr, hb⟩
  have HR := Lib.hid hr
  have HB1 := Lib.hid hb
  clear hr hb
  cases r with
  | true =>
    go_wp2
    go_ret
    exact ⟨rfl, HB1.out⟩
  | false =>
  obtain ⟨N, hN⟩ : ∃ N, bndN n = N := ⟨_, rfl⟩
  have HN := Lib.hid hN
  have hN64 : N ≤ 64 := by rw [← hN]; exact bndN_le n
  obtain ⟨hm75, hg⟩ := gns_of HK.out HF.out (HR.out (by trivial))
  have HV := Lib.hid (hg.below HB1.out)
  obtain ⟨cs, hcs⟩ : ∃ cs, csOf w1 N ps = cs := ⟨_, rfl⟩
  have HC := Lib.hid hcs
  clear hg HF HR hN HK hcs hm
  go_wp2_with fail
  refine (First_c n N HN.out A m c ps cs w1 w1 HV.out HC.out (Below.refl _ _)).mono ?_
  rintro e w2 ⟨k, rfl, hk, hb2⟩
  have H2 := Lib.hid (And.intro hk hb2)
  clear hk hb2
  go_wp2_with fail
  refine (rFirst_c n N HN.out A m c ps cs w1 w2 HV.out HC.out H2.out.2).mono ?_
  rintro e w3 ⟨k2, rfl, hk2, hb3⟩
  obtain rfl := hk2.uniq H2.out.1
  have H3 : Hid (IsFst N cs k2 ∧ Below w1.heap.size w1 w3) := ⟨hk2, H2.out.2.trans (hb3.mono H2.out.2.size)⟩
  have ek : (k2 == k2) = true := by simp
  clear hk2 hb3 H2
  go_wp2_with fail
  refine (Forest_c n N HN.out A m c ps cs w1 w3 HV.out HC.out H3.out.2).mono ?_
  rintro e w4 ⟨⟨r, rfl, hr⟩, hb4⟩
  have H4 : Hid (r = decide (k2 < 0) ∧ Below w1.heap.size w1 w4) := by
    refine ⟨?_, H3.out.2.trans (hb4.mono H3.out.2.size)⟩
    rw [Bool.eq_iff_iff, hr, decide_eq_true_iff, H3.out.1.forest]
  clear hr hb4
  go_wp2_with fail
  refine (rFirst_c n N HN.out A m c ps cs w1 w4 HV.out HC.out H4.out.2).mono ?_
  rintro e w5 ⟨k3, rfl, hk3, hb5⟩
  obtain rfl := hk3.uniq H3.out.1
  have er : (r == decide (k3 < 0)) = true := by rw [H4.out.1]; simp
  have H5 : Hid (Below w1.heap.size w1 w5) := H4.out.2.trans (hb5.mono H4.out.2.size)
  clear hk3 hb5 H4 H3
  go_wp2_with fail
  refine (Apart_c n N HN.out A m c ps cs w1 w5 HV.out HC.out H5.out).mono ?_
  rintro e w6 ⟨Aa, ca, rfl, ho6, hb6⟩
  have H6 : Hid (OwnN w6 w5.heap.size Aa ca N (runN N cs) ∧ Below w1.heap.size w1 w6) := ⟨ho6, H5.out.trans (hb6.mono H5.out.size)⟩
  clear ho6 hb6 H5
  go_wp2_with fail
  refine (rApart_c n N HN.out A m c ps cs w1 w6 HV.out HC.out H6.out.2).mono ?_
  rintro e w7 ⟨Ab, cb, rfl, ho7, hb7⟩
  have H7 : Hid (OwnN w7 w5.heap.size Aa ca N (runN N cs) ∧ OwnN w7 w6.heap.size Ab cb N (runN N cs) ∧ Below w1.heap.size w1 w7) := ⟨H6.out.1.below hb7, ho7, H6.out.2.trans (hb7.mono H6.out.2.size)⟩
  clear ho7 hb7 H6
  go_wp2_with fail
  refine (numbers_c Aa Ab N N ca cb (runN N cs) (runN N cs) w7 H7.out.1.row H7.out.2.1.row (by omega) (by omega)).mono ?_
  rintro e w8 ⟨⟨r3, rfl, hr3⟩, hb8⟩
  obtain rfl : r3 = true := hr3.2 rfl
  have H8 : Hid (Below w1.heap.size w1 w8) := H7.out.2.2.trans (hb8.mono H7.out.2.2.size)
  clear hr3 hb8 H7
  go_wp2_with fail
  refine (known11_c w8).mono ?_
  rintro e w9 ⟨rfl, hb9⟩
  have H9 : Hid (Below w.heap.size w w9) := HB1.out.trans ((H8.out.trans (hb9.mono H8.out.size)).mono HB1.out.size)
  clear hb9 H8
  go_wp2
  go_ret
  exact ⟨rfl, H9.out⟩
end Go.Proofs.Ytkfkjdpkkagjgaa
