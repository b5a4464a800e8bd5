/-
  DeltaSettles: of any constraints and choice the one in which all tell that can, or that it may not be.
-/
import Derived.Test.YtjbhhccklfddaaaVDeltaWalks
import Derived.Test.YtjbhhccklfddaaaVDlS
import Derived.Test.YtjbhhccklfddaaaVRSt
import Derived.Test.YtjbhhccklfddaaaVRWa
namespace Go.Proofs.Ytjbhhccklfddaaa
set_option maxRecDepth 20000
open Go.RowKit
theorem zrow_of {w : World} {A : Option Addr} {n : Nat} {l : List Nat} (h : IRow w A n l) : ZRow w A n (l.map fun (x : Nat) => (x : Int)) :=
 ⟨by rw [List.length_map]; exact h.len, fun hn => by
  obtain ⟨b, off, e, h1, hc⟩ := h.mem hn
  refine ⟨b, off, e, h1, fun j hj => ?_⟩
  have q : zt (l.map fun (x : Nat) => (x : Int)) j = ((rt l j : Nat) : Int) := by
   rw [zt_eq, rt_eq, List.getElem?_map]
   cases l[j]? <;> rfl
  rw [q]; exact hc j hj⟩
theorem zrow_nil (w : World) : ZRow w none 0 [] := ⟨rfl, fun h => absurd h (Nat.lt_irrefl 0)⟩
def TwoW (w' : World) (e e' : Value) : Prop := ∃ (A B : Option Addr) (k c d : Nat) (l : List Int), e = .slice A k c ∧ e' = .slice B k d ∧ ZRow w' A k l ∧ ZRow w' B k l ∧ k ≤ 64
theorem TwoW.below {w w' : World} {e e' : Value} (h : TwoW w e e') (hb : Below w.heap.size w w') : TwoW w' e e' := by
 obtain ⟨A, B, k, c, d, l, h1, h2, h3, h4, h5⟩ := h
 exact ⟨A, B, k, c, d, l, h1, h2, h3.below hb, h4.below hb, h5⟩
theorem two_walks {w0 w1 w2 w3 : World} {n : Int} {N m : Nat} {ps : List (Cv × List Tv)} {L : List Int} {e e' : Ending} (h : WkPost w0 n N ps m L w1 e w2) (g : RwPost w0 n N ps m L w2 e' w3) : ∃ v v', e = .returned v ∧ e' = .returned v' ∧ TwoW w3 v v' := by
 obtain ⟨_, h1, h2⟩ := h
 obtain ⟨gb, g1, g2⟩ := g
 by_cases hm : ∃ o, May w0 n N ps m L o
 ·
  obtain ⟨o, ho⟩ := hm
  obtain ⟨A2, c2, rfl, hr⟩ := h2 o ho
  obtain ⟨A3, c3, rfl, hs⟩ := g2 o ho
  refine ⟨_, _, rfl, rfl, A2, A3, n.toNat, c2, c3, _, rfl, rfl, ?_, hs.row, by have := ho.n64; omega⟩
  have := zrow_of (hr.row.below gb)
  rw [List.map_map] at this
  exact this
 ·
  have hn : ∀ o, ¬ May w0 n N ps m L o := fun o k => hm ⟨o, k⟩
  rw [h1 hn, g1 hn]
  exact ⟨_, _, rfl, rfl, none, none, 0, 0, 0, [], rfl, rfl, zrow_nil _, zrow_nil _, Nat.zero_le _⟩
def TwoS (w' : World) (e e' : Value) : Prop := ∃ (A B : Option Addr) (k c d : Nat) (l : List Int) (b : Bool), e = .tuple #[.slice A k c, .bool b] ∧ e' = .tuple #[.slice B k d, .bool b] ∧ ZRow w' A k l ∧ ZRow w' B k l ∧ k ≤ 1000
theorem two_settles {w0 w1 w2 w3 : World} {A : Option Addr} {n : Int} {N m : Nat} {ps : List (Cv × List Tv)} {L : List Int} {e e' : Ending} (hg : Gns w0 A N ps) (hN : N ≤ 12) (hm : m ≤ 1000) (h : StPost w0 n N ps m L w1 e w2) (g : RsPost w0 n N ps m L w2 e' w3) : ∃ v v', e = .returned v ∧ e' = .returned v' ∧ TwoS w3 v v' := by
 obtain ⟨_, h1, h2⟩ := h
 obtain ⟨gb, g1, g2⟩ := g
 by_cases hmy : ∃ o, May w0 n N ps m L o
 ·
  obtain ⟨o, ho⟩ := hmy
  obtain ⟨g5, c5, l, o', rfl, hz, hp, hpw, hst⟩ := h2 o ho
  obtain ⟨A3, c3, o'', rfl, hz2, hst2⟩ := g2 o ho
  have h4 := Sys.s4' ho hg
  have el : l = ordK (ssOf ps) (List.range N) 5 := order_uniq (hp.trans (ord_perm h4).symm) hpw (ord_pair _ _)
  rw [el] at hst
  have eo := hst.det hst2
  rw [eo] at hz
  exact ⟨_, _, rfl, rfl, _, _, N, c5, c3, _, true, rfl, rfl, hz.row.below gb, hz2.row, by omega⟩
 ·
  have hn : ∀ o, ¬ May w0 n N ps m L o := fun o k => hmy ⟨o, k⟩
  obtain ⟨A2, c2, rfl, hz⟩ := h1 hn
  obtain ⟨A3, c3, rfl, hz2⟩ := g1 hn
  exact ⟨_, _, rfl, rfl, _, _, m, c2, c3, L, false, rfl, rfl, hz.row.below gb, hz2.row, hm⟩
set_option maxHeartbeats 25600000 in
theorem DeltaSettles_any (A : Option Addr) (m c : Nat) (OA : Option Addr) (mo oc : Nat) (n : Int) (ps : List (Cv × List Tv)) (L : List Int) (w : World) (hk : Kons w A m (ps.map (·.1))) (hf : ∀ x ∈ ps, Raw w x.1 x.2) (hm : m ≤ 1048576) (hO : ZRow w OA mo L) (hmo : mo ≤ 1048576) :
  Calls Try.prog 3 #[.slice A m c, .slice OA mo oc, .int .i64 n] w fun e w' => e = .returned (.bool true) ∧ Below w.heap.size w w' := by
 have m0 : (0 : Int) ≤ (m : Int) := by omega
 have m9 : (m : Int) ≤ 1048576 := by omega
 have o0 : (0 : Int) ≤ (mo : Int) := by omega
 have o9 : (mo : Int) ≤ 1048576 := by omega
 have HK := Lib.hid (And.intro hk (And.intro hf hO))
 clear hk hf hO
 go_enter Try.func3, Try.ntmps3
 go_wp2_with fail
 refine (heavyH_c A m c ps _ HK.out.1 (fun x hx => (HK.out.2.1 x hx).fit) hm).mono ?_
 rintro e w1 ⟨r, rfl, hr, hb⟩
 have HR := Lib.hid hr
 have HB1 := Lib.hid hb
 clear hr hb
 cases r with
 |
  true =>
  go_wp2
  go_ret
  exact ⟨rfl, HB1.out⟩
 | false =>
 obtain ⟨_, hg⟩ := gns_of HK.out.1 HK.out.2.1 (HR.out (by trivial))
 have HV := Lib.hid (hg.below HB1.out)
 have HO := Lib.hid (HK.out.2.2.below HB1.out)
 clear hg HR HK
 by_cases h12 : (12 : Int) < (m : Int)
 ·
  go_wp2
  go_ret
  exact ⟨rfl, HB1.out⟩
 by_cases h20 : (20 : Int) < (mo : Int)
 ·
  go_wp2
  go_ret
  exact ⟨rfl, HB1.out⟩
 have mN : m ≤ 12 := by omega
 have oN : mo ≤ 1000 := by omega
 have HZ : Hid (OwnZ (w1.alloc (.cells #[] 3)) w1.heap.size (some ⟨w1.heap.size, 0, none⟩) 0 0 [] ∧ ZRow (w1.alloc (.cells #[] 3)) OA mo L ∧ Below w1.heap.size w1 (w1.alloc (.cells #[] 3)) ∧ w1.heap.size ≤ (w1.alloc (.cells #[] 3)).heap.size) :=
  ⟨OwnZ.made0 w1, HO.out.below ((Below.refl _ _).alloc (Nat.le_refl _) _), (Below.refl _ _).alloc (Nat.le_refl _) _, by simp⟩
 go_wp2_with (at_builtin; refine wpz_appends rfl _ _ rfl rfl rfl (lo := w1.heap.size) HZ.out.1 HZ.out.2.1 (by omega) HZ.out.2.2.2 ?_)
 intro A2 c2 w2 hown hgrow
 have HW2 : Hid (Gns w2 A m ps ∧ ZRow w2 OA mo L ∧ ZRow w2 A2 mo L ∧ Below w.heap.size w w2) := by
  have h1 : OwnZ w2 w1.heap.size A2 c2 mo L := by simpa using hown
  have h2 : Below w1.heap.size w1 w2 := below_rowZ HZ.out.2.2.1 HZ.out.1 hgrow HZ.out.2.2.2
  exact ⟨HV.out.below h2, HO.out.below h2, h1.row, HB1.out.trans (h2.mono HB1.out.size)⟩
 clear hown hgrow HZ HV HO HB1
 try rw [Nat.zero_add]
 go_wp2_with fail
 refine (Settle_c w2 n m A c ps A2 mo c2 L w2 HW2.out.1 mN oN HW2.out.2.2.1 (Below.refl _ _)).mono ?_
 rintro e w3 hst
 have HST := Lib.hid hst
 have HB3 := Lib.hid hst.1
 have hev : ∃ A5 k5 c5 b5, e = .returned (.tuple #[.slice A5 k5 c5, .bool b5]) := by
  by_cases hmy : ∃ o, May w2 n m ps mo L o
  ·
   obtain ⟨o, ho⟩ := hmy
   obtain ⟨g5, c5, l, o', rfl, _⟩ := hst.2.2 o ho
   exact ⟨_, _, _, _, rfl⟩
  ·
   obtain ⟨A3, c3, rfl, _⟩ := hst.2.1 fun o k => hmy ⟨o, k⟩
   exact ⟨_, _, _, _, rfl⟩
 obtain ⟨A5, k5, c5, b5, rfl⟩ := hev
 clear hst
 go_wp2_with fail
 refine (rSettle_c w2 n m A c ps OA mo oc L w3 HW2.out.1 mN oN HW2.out.2.1 HB3.out).mono ?_
 rintro e w4 hst
 obtain ⟨v, v', e1, e2, A6, B6, k, ca, cb, l6, b6, e3, e4, hz1, hz2, hk6⟩ := two_settles HW2.out.1 mN oN HST.out hst
 subst e2
 subst e4
 rw [e3] at e1
 injection e1 with e1
 injection e1 with e1
 have e5 : (A5 = A6 ∧ k5 = k ∧ c5 = ca) ∧ b5 = b6 := by simpa using e1
 obtain ⟨⟨rfl, rfl, rfl⟩, rfl⟩ := e5
 have H4 : Hid (ZRow w4 A5 k5 l6 ∧ ZRow w4 B6 k5 l6 ∧ Below w2.heap.size w2 w4) := ⟨hz1, hz2, HB3.out.trans (hst.1.mono HB3.out.size)⟩
 clear hst hz1 hz2 e1 e3 HST HB3
 go_wp2_with fail
 refine (numbers_c A5 B6 k5 k5 c5 cb l6 l6 w4 H4.out.1 H4.out.2.1 (by omega) (by omega)).mono ?_
 rintro e w5 ⟨⟨r, rfl, hr⟩, hb5⟩
 obtain rfl : r = true := hr.2 rfl
 have H5 : Hid (Below w2.heap.size w2 w5 ∧ Below w4.heap.size w4 w5) := ⟨H4.out.2.2.trans (hb5.mono H4.out.2.2.size), hb5⟩
 clear hr hb5
 go_wp2_with fail
 refine (Is_c' w2 n m A c ps OA mo oc L w5 HW2.out.1 mN oN HW2.out.2.1 H5.out.1).mono ?_
 rintro e w6 ⟨⟨r, rfl, hr⟩, hb6⟩
 have HR := Lib.hid hr
 have H6 : Hid (Below w2.heap.size w2 w6 ∧ Below w4.heap.size w4 w6) := ⟨H5.out.1.trans (hb6.mono H5.out.1.size), H5.out.2.trans (hb6.mono H5.out.2.size)⟩
 clear hr hb6 H5
 go_wp2_with fail
 refine (rIs13_c w2 n m A c ps OA mo oc L w6 HW2.out.1 mN oN HW2.out.2.1 H6.out.1).mono ?_
 rintro e w7 ⟨⟨q, rfl, hq⟩, hb7⟩
 obtain rfl : q = r := by
  cases q <;> cases r
  · rfl
  · exact absurd (hq.2 (HR.out.1 rfl)) (fun k => Bool.noConfusion k)
  · exact absurd (HR.out.2 (hq.1 rfl)) (fun k => Bool.noConfusion k)
  · rfl
 have H7 : Hid (Below w2.heap.size w2 w7 ∧ Below w4.heap.size w4 w7) := ⟨H6.out.1.trans (hb7.mono H6.out.1.size), H6.out.2.trans (hb7.mono H6.out.2.size)⟩
 clear hq hb7 H6 HR
 go_wp2_with fail
 refine (Walk_c w2 n m A c ps OA mo oc L w7 HW2.out.1 mN oN HW2.out.2.1 H7.out.1).mono ?_
 rintro e w8 hwk
 have HWK := Lib.hid hwk
 have H8 : Hid (Below w2.heap.size w2 w8 ∧ Below w4.heap.size w4 w8) := ⟨H7.out.1.trans (hwk.1.mono H7.out.1.size), H7.out.2.trans (hwk.1.mono H7.out.2.size)⟩
 have hev : ∃ A9 k9 c9, e = .returned (.slice A9 k9 c9) := by
  by_cases hmy : ∃ o, May w2 n m ps mo L o
  ·
   obtain ⟨o, ho⟩ := hmy
   obtain ⟨A3, c3, rfl, _⟩ := hwk.2.2 o ho
   exact ⟨_, _, _, rfl⟩
  · rw [hwk.2.1 fun o k => hmy ⟨o, k⟩]; exact ⟨_, _, _, rfl⟩
 obtain ⟨A9, k9, c9, rfl⟩ := hev
 clear hwk H7
 go_wp2_with fail
 refine (rWalk_c w2 n m A c ps OA mo oc L w8 HW2.out.1 mN oN HW2.out.2.1 H8.out.1).mono ?_
 rintro e w9 hwk
 obtain ⟨v, v', e1, e2, A6, B9, kk, ca, cd, l9, e3, e4, hz1, hz2, hk9⟩ := two_walks HWK.out hwk
 subst e2
 subst e4
 rw [e3] at e1
 injection e1 with e1
 injection e1 with f1 f2 f3
 subst f1; subst f2; subst f3
 have H9 : Hid (ZRow w9 A9 k9 l9 ∧ ZRow w9 B9 k9 l9 ∧ Below w2.heap.size w2 w9 ∧ Below w4.heap.size w4 w9) := ⟨hz1, hz2, H8.out.1.trans (hwk.1.mono H8.out.1.size), H8.out.2.trans (hwk.1.mono H8.out.2.size)⟩
 clear hwk hz1 hz2 e3 HWK H8
 go_wp2_with fail
 refine (numbers_c A9 B9 k9 k9 c9 cd l9 l9 w9 H9.out.1 H9.out.2.1 (by omega) (by omega)).mono ?_
 rintro e wa ⟨⟨r, rfl, hr⟩, hba⟩
 obtain rfl : r = true := hr.2 rfl
 have Ha : Hid (Below w2.heap.size w2 wa ∧ Below w4.heap.size w4 wa) := ⟨H9.out.2.2.1.trans (hba.mono H9.out.2.2.1.size), H9.out.2.2.2.trans (hba.mono H9.out.2.2.2.size)⟩
 clear hr hba H9
 have HG4 : Hid (Gns w4 A m ps) := HW2.out.1.below H4.out.2.2
 go_wp2_with fail
 refine (Walk_c w4 n m A c ps A5 k5 c5 l6 wa HG4.out mN hk6 H4.out.1 Ha.out.2).mono ?_
 rintro e wb hwk
 have HWK := Lib.hid hwk
 have Hb : Hid (Below w2.heap.size w2 wb ∧ Below w4.heap.size w4 wb) := ⟨Ha.out.1.trans (hwk.1.mono Ha.out.1.size), Ha.out.2.trans (hwk.1.mono Ha.out.2.size)⟩
 have hev : ∃ Ab kb cb, e = .returned (.slice Ab kb cb) := by
  by_cases hmy : ∃ o, May w4 n m ps k5 l6 o
  ·
   obtain ⟨o, ho⟩ := hmy
   obtain ⟨A3, c3, rfl, _⟩ := hwk.2.2 o ho
   exact ⟨_, _, _, rfl⟩
  · rw [hwk.2.1 fun o k => hmy ⟨o, k⟩]; exact ⟨_, _, _, rfl⟩
 obtain ⟨Ab, kb, cbb, rfl⟩ := hev
 clear hwk Ha
 go_wp2_with fail
 refine (rWalk_c w4 n m A c ps B6 k5 cb l6 wb HG4.out mN hk6 H4.out.2.1 Hb.out.2).mono ?_
 rintro e wc hwk
 obtain ⟨v, v', e1, e2, A6, Bb, kk, ca, cd2, lb, e3, e4, hz1, hz2, hkb⟩ := two_walks HWK.out hwk
 subst e2
 subst e4
 rw [e3] at e1
 injection e1 with e1
 injection e1 with f1 f2 f3
 subst f1; subst f2; subst f3
 have Hc : Hid (ZRow wc Ab kb lb ∧ ZRow wc Bb kb lb ∧ Below w2.heap.size w2 wc) := ⟨hz1, hz2, Hb.out.1.trans (hwk.1.mono Hb.out.1.size)⟩
 clear hwk hz1 hz2 e3 HWK Hb
 go_wp2_with fail
 refine (numbers_c Ab Bb kb kb cbb cd2 lb lb wc Hc.out.1 Hc.out.2.1 (by omega) (by omega)).mono ?_
 rintro e wd ⟨⟨r, rfl, hr⟩, hbd⟩
 obtain rfl : r = true := hr.2 rfl
 have Hd : Hid (Below w.heap.size w wd) := HW2.out.2.2.2.trans ((Hc.out.2.2.trans (hbd.mono Hc.out.2.2.size)).mono HW2.out.2.2.2.size)
 clear hr hbd Hc
 go_wp2_with fail
 refine (known13_c wd).mono ?_
 rintro e we ⟨rfl, hbe⟩
 have He : Hid (Below w.heap.size w we) := Hd.out.trans (hbe.mono Hd.out.size)
 clear hbe
 go_wp2
 go_ret
 exact ⟨rfl, He.out⟩
end Go.Proofs.Ytjbhhccklfddaaa
