/-
  HierTells: of any constraints and values the first that could hold beside all that do and are not weaker; how many of each strength do not.
-/
import Derived.Test.YtgffkaconhonlaaGreatQHrQ
import Derived.Test.YtgffkaconhonlaaGreatQHrR
import Derived.Test.YtgffkaconhonlaaGreatQHrK
import Derived.Test.YtgffkaconhonlaaGreatQManL
import Derived.Test.YtgffkaconhonlaaGreatQOpenM
import Derived.Deep.Cut
import Derived.Test.YtgffkaconhonlaaGreatQRgn
namespace Go.Proofs.YtgffkaconhonlaaGreat
set_option maxRecDepth 20000
open Go.RowKit
theorem room6 {N : Nat} (h : N ≤ 6) : RoomD 150 6 N := by
 refine ⟨by omega, by omega, by omega, ?_⟩
 have h1 : 2 ^ N ≤ 2 ^ 6 := Nat.pow_le_pow_right (by omega) h
 have := Nat.mul_le_mul (Nat.le_refl (150 * (6 + 1) + 1)) h1
 omega
structure HArg (N : Nat) (w : World) (A Ab Av : Option Addr) (m nb : Nat) (vs : List Kin) (lb lv : List Rv) (B V : List Rat) : Prop where
 l : Hns N 150 w A m vs
 m75 : m ≤ 75
 b : Nums w Ab nb lb
 bd : RdV w 4 lb B
 nb : nb ≤ 100
 v : Vin N w Av lv V
theorem HArg.below {N : Nat} {w w' : World} {A Ab Av : Option Addr} {m nb : Nat} {vs : List Kin} {lb lv : List Rv} {B V : List Rat} (h : HArg N w A Ab Av m nb vs lb lv B V) (hb : Below w.heap.size w w') : HArg N w' A Ab Av m nb vs lb lv B V :=
 ⟨h.l.below hb, h.m75, h.b.below hb, RdV.below hb h.bd, h.nb, h.v.below hb⟩
set_option maxHeartbeats 25600000 in
theorem HierTells_any (A Ab Av : Option Addr) (m c nb cb N cv : Nat) (ps : List (Cv × List Tv)) (lb lv : List Rv) (w : World) (hk : Kons w A m (ps.map (·.1))) (hf : ∀ x ∈ ps, Raw w x.1 x.2) (hm : m ≤ 1048576)
  (hbv : Nums w Ab nb lb) (hrb : ∀ x ∈ lb, RdR w x ∧ x.n ≤ 1048576 ∧ x.m ≤ 1048576) (hnb : nb ≤ 1048576) (hnv : Nums w Av N lv) (hrv : ∀ x ∈ lv, RdR w x ∧ x.n ≤ 1048576 ∧ x.m ≤ 1048576) (hN : N ≤ 1048576) :
  Calls Tryz.prog 6 #[.slice A m c, .slice Ab nb cb, .slice Av N cv] w fun e w' => e = .returned (.bool true) ∧ Below w.heap.size w w' := by
 have HK := Lib.hid (And.intro hk hf)
 have HNB := Lib.hid (And.intro hbv hrb)
 have HNV := Lib.hid (And.intro hnv hrv)
 have m0 : (0 : Int) ≤ (m : Int) := by omega
 have N0 : (0 : Int) ≤ (N : Int) := by omega
 have N1' : (N : Int) ≤ 1048576 := by omega
 clear hk hf hbv hrb hnv hrv
 go_enter Tryz.func6, Tryz.ntmps6
 go_wp2_with fail
 refine (heavyG_c A m c ps w HK.out.1 (fun x hx => (HK.out.2 x hx).fit) hm).mono ?_
 rintro e w1 ⟨r, rfl, hr, hb⟩
 have HR := Lib.hid hr
 have H1 : Hid (Below w.heap.size w w1) := hb
 clear hr hb
 cases r with
 |
  true =>
  go_wp2
  go_ret
  exact ⟨rfl, H1.out⟩
 | false =>
 go_wp2_with fail
 refine (many_c Ab nb cb lb w1 (HNB.out.1.below H1.out) hnb (fun x hx => ⟨(HNB.out.2 x hx).2.1, (HNB.out.2 x hx).2.2⟩)).mono ?_
 rintro e w2 ⟨r, rfl, hr, hb⟩
 have HRB : Hid (r = false → nb ≤ 100 ∧ ∀ x ∈ lb, x.n ≤ 3 ∧ x.m ≤ 3) := hr
 have H2 : Hid (Below w.heap.size w w2) := H1.out.trans (hb.mono H1.out.size)
 clear hr hb H1
 cases r with
 |
  true =>
  go_wp2
  go_ret
  exact ⟨rfl, H2.out⟩
 | false =>
 go_wp2_with fail
 refine (many_c Av N cv lv w2 (HNV.out.1.below H2.out) hN (fun x hx => ⟨(HNV.out.2 x hx).2.1, (HNV.out.2 x hx).2.2⟩)).mono ?_
 rintro e w3 ⟨r, rfl, hr, hb⟩
 have HRM : Hid (r = false → N ≤ 100 ∧ ∀ x ∈ lv, x.n ≤ 3 ∧ x.m ≤ 3) := hr
 have H3 : Hid (Below w.heap.size w w3) := H2.out.trans (hb.mono H2.out.size)
 clear hr hb H2
 cases r with
 |
  true =>
  go_wp2
  go_ret
  exact ⟨rfl, H3.out⟩
 | false =>
 by_cases hn6 : (6 : Int) < (N : Int)
 ·
  go_wp2
  go_ret
  exact ⟨rfl, H3.out⟩
 by_cases hm8 : (8 : Int) < (m : Int)
 ·
  go_wp2
  go_ret
  exact ⟨rfl, H3.out⟩
 have hN6 : N ≤ 6 := by omega
 have hm8' : m ≤ 8 := by omega
 obtain ⟨hm75, vs, hvs, hkn⟩ := hns_of N HK.out.1 HK.out.2 (HR.out (by trivial))
 obtain ⟨V, hV⟩ := rdv_ex (p := 3) lv fun x hx => ⟨(HNV.out.2 x hx).1, (HRM.out (by trivial)).2 x hx⟩
 obtain ⟨B, hB⟩ := rdv_ex (p := 3) lb fun x hx => ⟨(HNB.out.2 x hx).1, (HRB.out (by trivial)).2 x hx⟩
 have HA0 : Hid (HArg N w A Ab Av m nb vs lb lv B V) := ⟨hkn, hm75, HNB.out.1, RdV.more (by omega) hB, (HRB.out (by trivial)).1, ⟨HNV.out.1, RdV.more (by omega) hV, by omega⟩⟩
 have HA : Hid (HArg N w3 A Ab Av m nb vs lb lv B V) := HA0.out.below H3.out
 have m2 : (m : Int) ≤ 8 := by omega
 have n6' : (N : Int) ≤ 6 := by omega
 clear hV hB hvs hkn HR HRM HRB HK HNV HNB hm hN hnb hm75
 go_wp2_with fail
 refine (Levels_c 150 N A Av m c cv vs lv V w3 HA.out.l (by omega) HA.out.v (by omega)).mono ?_
 rintro e w4 ⟨rfl, hl, hb⟩
 have H4 : Hid (Below w3.heap.size w3 w4 ∧ OwnN w4 w3.heap.size (some ⟨w3.heap.size, 0, none⟩) 4 4 (levN N (ptOf V) vs)) := ⟨hb, hl⟩
 obtain ⟨G1, hG1⟩ : ∃ G, G = w3.heap.size := ⟨_, rfl⟩
 have HC1 : Hid (IRow w4 (some ⟨G1, 0, none⟩) 4 (levN N (ptOf V) vs)) := hG1 ▸ hl.row
 rw [← hG1]
 clear hl hb hG1
 have HA4 := Lib.hid (HA.out.below H4.out.1)
 go_wp2_with fail
 refine (rLevels_c N A Av m c cv vs lv V w4 HA4.out.l HA4.out.v (by omega)).mono ?_
 rintro e w5 ⟨rfl, hl, hb⟩
 have H5 : Hid (Below w3.heap.size w3 w5) := H4.out.1.trans (hb.mono H4.out.1.size)
 obtain ⟨G2, hG2⟩ : ∃ G, G = w4.heap.size := ⟨_, rfl⟩
 have HC2 : Hid (IRow w5 (some ⟨G1, 0, none⟩) 4 (levN N (ptOf V) vs) ∧ IRow w5 (some ⟨G2, 0, none⟩) 4 (levN N (ptOf V) vs)) := ⟨HC1.out.below hb, hG2 ▸ hl.row⟩
 rw [← hG2]
 clear hl hb hG2 HA4 HC1 H4
 have HCC : Hid (∀ w' (i : Nat), Below w5.heap.size w5 w' → i < 4 → w'.cell? ⟨G1, i, none⟩ = some (.int .i64 ((lvc N (ptOf V) vs i : Nat) : Int)) ∧ w'.cell? ⟨G2, i, none⟩ = some (.int .i64 ((lvc N (ptOf V) vs i : Nat) : Int))) := fun w' i h hi => by
  obtain ⟨b1, o1, e1, _, c1⟩ := (HC2.out.1.below h).mem (by omega)
  obtain ⟨b2, o2, e2, _, c2⟩ := (HC2.out.2.below h).mem (by omega)
  injection e1 with e1
  injection e1 with e1 e1'
  injection e2 with e2
  injection e2 with e2 e2'
  subst e1 e1' e2 e2'
  have h1 := c1 i hi
  have h2 := c2 i hi
  rw [levN_rt hi, Nat.zero_add] at h1 h2
  exact ⟨h1, h2⟩
 clear HC2
 go_wp2
 go_loopw [9] (fun iv wr => ∃ i : Nat, i ≤ 4 ∧ iv = .int .i64 i ∧ Hid (Below w5.heap.size w5 wr)) (fun iv _ => 4 - (intOf iv).toNat)
 case atStart => exact ⟨0, by omega, rfl, Lib.hid (Below.refl _ _)⟩
 case round =>
  obtain ⟨i, hi, rfl, HBR⟩ := hrel
  have i0 : (0 : Int) ≤ (i : Int) := by omega
  by_cases hlt : i < 4
  ·
   have i1 : (i : Int) < 4 := by omega
   have HC3 : Hid (∀ w', Below wr.heap.size wr w' → w'.cell? ⟨G1, i, none⟩ = some (.int .i64 ((lvc N (ptOf V) vs i : Nat) : Int)) ∧ w'.cell? ⟨G2, i, none⟩ = some (.int .i64 ((lvc N (ptOf V) vs i : Nat) : Int))) := fun w' h => HCC.out w' i (HBR.out.trans (h.mono HBR.out.size)) hlt
   generalize lvc N (ptOf V) vs i = q at *
   obtain ⟨c0, c1⟩ := HC3.out _ (Below.refl _ _)
   have eq : ((q : Int) != (q : Int)) = false := by simp
   have HN : Hid (Below w5.heap.size w5 wr.drew) := HBR.out.trans ((bel1 wr).mono HBR.out.size)
   clear hlt
   go_upto_region 9 with fail
   refine wp_region_held_drew (S := fun w' => w'.cell? ⟨G1, i, none⟩ = some (.int .i64 (q : Int)) ∧ w'.cell? ⟨G2, i, none⟩ = some (.int .i64 (q : Int))) (by kernel_rfl) ?_ (fun hHeld => ?_)
   ·
    (try dsimp only)
    go_keep
   refine tk (i := 0) (h := ?_)
   try simp only [zR]
   refine tk (i := 1) (h := ?_)
   try simp only [zR]
   refine tk (i := 2) (h := ?_)
   try simp only [zR]
   refine tk (i := 3) (h := ?_)
   try simp only [zR]
   refine tk (i := 4) (h := ?_)
   try simp only [zR]
   refine tk (i := 5) (h := ?_)
   try simp only [zR]
   refine tk (i := 6) (h := ?_)
   try simp only [zR]
   refine tk (i := 7) (h := ?_)
   try simp only [zR]
   refine tk (i := 8) (h := ?_)
   try simp only [zR]
   refine wpAnyH_done (by kernel_rfl) ?_ _
   clear c0 c1 HC3
   go_wp2
   go_roundw
   case rel => exact ⟨i + 1, by omega, by go_num, HN⟩
   case measure => simp [intOf]; omega
  ·
   have i1 : ¬ (i : Int) < 4 := by omega
   obtain rfl : i = 4 := by omega
   have HBX : Hid (Below w3.heap.size w3 wr) := H5.out.trans (HBR.out.mono H5.out.size)
   have HAX := Lib.hid (HA.out.below HBX.out)
   clear HBR HCC H5
   go_wp2_with fail
   refine (Beaten_c 150 6 N A Ab Av m c nb cb cv vs lb lv B V wr HAX.out.l (by omega) (by omega) (by omega) (by omega) HAX.out.b HAX.out.bd (by have := HAX.out.nb; omega) HAX.out.v (room6 hN6) (fun y hy hyo => Nat.le_trans (HAX.out.l.lens y hy hyo) hN6) (by omega)).mono ?_
   rintro e w6 ⟨r, rfl, hr, hb⟩
   have HR1 := Lib.hid hr
   have H6 : Hid (Below wr.heap.size wr w6) := hb
   have HAY := Lib.hid (HAX.out.below H6.out)
   clear hr hb
   go_wp2_with fail
   refine (rBeaten_c N A Ab Av m c nb cb cv vs lb lv B V w6 HAY.out.l (by omega) (by omega) HAY.out.b HAY.out.bd (by have := HAY.out.nb; omega) HAY.out.v).mono ?_
   rintro e w7 ⟨r2, rfl, hr, hb⟩
   obtain rfl : r = r2 := HR1.out.same hr
   have H7 : Hid (Below wr.heap.size wr w7) := H6.out.trans (hb.mono H6.out.size)
   have err : (r == r) = true := by simp
   clear hr hb H6 HAY HAX
   go_wp2_with fail
   refine (known12_c w7).mono ?_
   rintro e w8 ⟨rfl, hb⟩
   have H8 : Hid (Below w.heap.size w w8) := H3.out.trans ((HBX.out.trans ((H7.out.trans (hb.mono H7.out.size)).mono HBX.out.size)).mono H3.out.size)
   clear hb
   go_wp2
   go_ret
   exact ⟨rfl, H8.out⟩
end Go.Proofs.YtgffkaconhonlaaGreat
