/-
  GraphTurns: whether it is a forest, and what is joined, does not depend on the order.
-/
import Derived.Test.YtkfkjdpkkagjgaaGcon
namespace Go.Proofs.Ytkfkjdpkkagjgaa
set_option maxRecDepth 20000
open Go.RowKit

set_option maxHeartbeats 12800000 in
theorem GraphTurns_any (A : Option Addr) (m c : Nat) (n : Int) (ps : List (Cv × List Tv)) (w : World) (hk : Kons w A m (ps.map (·.1))) (hf : ∀ x ∈ ps, Raw w x.1 x.2) (hm : m ≤ 1048576) :
    Calls Try.prog 5 #[.slice A m c, .int .i64 n] w fun e w' => e = .returned (.bool true) ∧ Below w.heap.size w w' := by
  have HK := Lib.hid hk
  have HF := Lib.hid hf
  clear hk hf
  have m0 : (0 : Int) ≤ (m : Int) := by omega
  have m1 : (m : Int) ≤ 1048576 := by omega
  go_enter Try.func5, Try.ntmps5
  go_wp2_with fail
  refine (heavyH_c A m c ps _ HK.out (fun x hx => (HF.out x hx).fit) hm).mono ?_
  rintro e w1 ⟨r, rfl, hr, hb⟩
  have HR := Lib.hid hr
  have HB1 := Lib.hid hb
  clear hr hb
  cases r with
  | true =>
    go_wp2
    go_ret
    exact ⟨rfl, HB1.out⟩
  | false =>
  obtain ⟨N, hN⟩ : ∃ N, bndN n = N := ⟨_, rfl⟩
  have HN := Lib.hid hN
  obtain ⟨hm75, hg⟩ := gns_of HK.out HF.out (HR.out rfl)
  have HV := Lib.hid hg
  have m2 : (m : Int) ≤ 75 := by omega
  clear hg HF HR hN
  obtain ⟨L, hL⟩ : ∃ L, L = ps.map (·.1) := ⟨_, rfl⟩
  have HLP := Lib.hid hL
  rw [← hL] at HK
  clear hL
  have HL : Hid (L.length = m) := HK.out.len
  go_wp2_with fail
  go_loopw [5, 6] (fun bv iv wr => ∃ (k : Nat) (A2 : Option Addr) (q c2 : Nat), k ≤ m ∧ k + q = m ∧ iv = .int .i64 ((k : Int) - 1) ∧ bv = .slice A2 q c2 ∧ Hid (OwnC wr w.heap.size A2 c2 q (L.drop k).reverse ∧ Below w.heap.size w wr)) (fun _ iv _ => (intOf iv + 1).toNat)
  case atStart =>
    refine ⟨m, none, 0, 0, Nat.le_refl _, by omega, rfl, rfl, Lib.hid ⟨?_, HB1.out⟩⟩
    rw [List.drop_of_length_le (by rw [HL.out]; exact Nat.le_refl _)]
    exact OwnC.nil_ _ _
  case round =>
    obtain ⟨k, A2, q, c2, hk, hkq, rfl, rfl, HO⟩ := hrel
    cases k with
    | zero =>
      have hq : q = m := by omega
      subst hq
      clear hkq hk
      replace HO : Hid (OwnC wr w.heap.size A2 c2 q L.reverse ∧ Below w.heap.size w wr) := HO
      have HVB : Hid (Gns wr A2 q ps.reverse) := HV.out.other HO.out.2 (by rw [List.map_reverse, ← HLP.out]; exact HO.out.1.kons) (fun x hx => List.mem_reverse.1 hx) (by omega)
      have HVA : Hid (Gns wr A q ps) := HV.out.below HO.out.2
      obtain ⟨cs, hcs⟩ : ∃ cs, csOf wr N ps = cs := ⟨_, rfl⟩
      have HCA := Lib.hid hcs
      have HCB : Hid (csOf wr N ps.reverse = cs.reverse) := by show _ = _; rw [← hcs]; unfold csOf; rw [List.map_reverse]
      have HBN : Hid (bnd N cs) := by rw [← hcs]; exact csOf_bnd wr N ps
      have HB := Lib.hid HO.out.2
      clear hcs HO HV HK HL HB1 HLP
      have e0 : (((0 : Nat)) : Int) - 1 = -1 := by omega
      rw [e0]
      go_wp2_with fail
      refine (Forest_c n N HN.out A q c ps cs wr wr HVA.out HCA.out (Below.refl _ _)).mono ?_
      rintro e w2 ⟨⟨r1, rfl, hr1⟩, hb2⟩
      have H2 := Lib.hid (And.intro hr1 hb2)
      clear hr1 hb2
      go_wp2_with fail
      refine (Forest_c n N HN.out A2 q c2 ps.reverse cs.reverse wr w2 HVB.out HCB.out H2.out.2).mono ?_
      rintro e w3 ⟨⟨r2, rfl, hr2⟩, hb3⟩
      have hrr : r1 = r2 := by
        have h1 := H2.out.1
        rw [fail_back HBN.out] at hr2
        cases r1 <;> cases r2 <;> simp_all
      subst hrr
      have H3 : Hid (Below wr.heap.size wr w3) := H2.out.2.trans (hb3.mono H2.out.2.size)
      clear hr2 hb3 H2
      have er : (r1 == r1) = true := by simp
      go_wp2_with fail
      refine (Apart_c n N HN.out A q c ps cs wr w3 HVA.out HCA.out H3.out).mono ?_
      rintro e w4 ⟨Aa, ca, rfl, ho4, hb4⟩
      have H4 : Hid (OwnN w4 w3.heap.size Aa ca N (runN N cs) ∧ Below wr.heap.size wr w4) := ⟨ho4, H3.out.trans (hb4.mono H3.out.size)⟩
      clear ho4 hb4 H3
      go_wp2_with fail
      refine (Apart_c n N HN.out A2 q c2 ps.reverse cs.reverse wr w4 HVB.out HCB.out H4.out.2).mono ?_
      rintro e w5 ⟨Ab, cb, rfl, ho5, hb5⟩
      have H5 : Hid (OwnN w5 w3.heap.size Aa ca N (runN N cs) ∧ OwnN w5 w4.heap.size Ab cb N (runN N cs) ∧ Below wr.heap.size wr w5) := ⟨H4.out.1.below hb5, by rw [run_back HBN.out] at ho5; exact ho5, H4.out.2.trans (hb5.mono H4.out.2.size)⟩
      have hN64 : N ≤ 64 := by rw [← HN.out]; exact bndN_le n
      clear ho5 hb5 H4
      go_wp2_with fail
      refine (numbers_c Aa Ab N N ca cb (runN N cs) (runN N cs) w5 H5.out.1.row H5.out.2.1.row (by omega) (by omega)).mono ?_
      rintro e w6 ⟨⟨r3, rfl, hr3⟩, hb6⟩
      obtain rfl : r3 = true := hr3.2 rfl
      have H6 : Hid (Below wr.heap.size wr w6) := H5.out.2.2.trans (hb6.mono H5.out.2.2.size)
      clear hr3 hb6 H5
      go_wp2_with fail
      refine (known11_c w6).mono ?_
      rintro e w7 ⟨rfl, hb7⟩
      have H7 : Hid (Below w.heap.size w w7) := HB.out.trans ((H6.out.trans (hb7.mono H6.out.size)).mono HB.out.size)
      clear hb7 H6
      go_wp2
      go_ret
      exact ⟨rfl, H7.out⟩
    | succ j =>
      have e1 : (((j + 1 : Nat)) : Int) - 1 = (j : Int) := by omega
      rw [e1]
      have j0 : (0 : Int) ≤ (j : Int) := by omega
      have j1 : (j : Int) < (m : Int) := by omega
      have hjl : j < L.length := by rw [HL.out]; omega
      obtain ⟨b, off, hA, hbw, hcc⟩ := HK.out.mem (by omega)
      have hx := List.getElem?_eq_getElem hjl
      have HX := Lib.hid hx
      obtain ⟨k0, k1, k2, k3, k4⟩ := (hcc j _ hx).keep (HO.out.2.block b hbw)
      generalize L[j] = x at *
      have EA := Lib.hid hA
      subst hA
      clear hx hcc
      go_wp2_with (at_builtin; refine wpc_appends rfl _ _ rfl rfl rfl (lo := w.heap.size) (l := (L.drop (j + 1)).reverse) (k := [x]) (HO.out.1.below ((Below.refl _ _).alloc (Nat.le_refl _) _)) (kons_one (heap_alloc_new _ _)) (by omega) (by have := HO.out.2.size; simp; omega) ?_)
      intro A3 c3 w3 hown hgrow
      have HO3 : Hid (OwnC w3 w.heap.size A3 c3 (q + 1) (L.drop j).reverse ∧ Below w.heap.size w w3) := ⟨rev_step HX.out ▸ hown, far_grown (HO.out.2.alloc HO.out.2.size _) (HO.out.1.below ((Below.refl _ _).alloc (Nat.le_refl _) _)) hgrow⟩
      clear hown hgrow k0 k1 k2 k3 k4
      go_wp2
      go_roundw
      case rel => exact ⟨j, A3, q + 1, c3, by omega, by omega, rfl, rfl, HO3⟩
      case measure => simp [intOf]
end Go.Proofs.Ytkfkjdpkkagjgaa
