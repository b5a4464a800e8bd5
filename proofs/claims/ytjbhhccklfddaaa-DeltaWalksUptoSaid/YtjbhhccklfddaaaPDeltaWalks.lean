/-
  DeltaWalks: how strong each variable is.
-/
import Derived.Test.YtjbhhccklfddaaaPNones
import Derived.Test.YtjbhhccklfddaaaPBRow
namespace Go.Proofs.Ytjbhhccklfddaaa
set_option maxRecDepth 20000
open Go.RowKit
noncomputable def toldL (n : Nat) (o : Nat → Option Nat) (i : Nat) : List Bool := (List.range n).map fun v => decide (∃ j, j < i ∧ o j = some v)
theorem toldL_get {n : Nat} {o : Nat → Option Nat} {i v : Nat} (h : v < n) : (toldL n o i)[v]? = some (decide (∃ j, j < i ∧ o j = some v)) := by
 unfold toldL; rw [List.getElem?_map, List.getElem?_range h]; rfl
theorem toldL_zero (n : Nat) (o : Nat → Option Nat) : toldL n o 0 = List.replicate n false := List.eq_replicate_iff.2 ⟨by unfold toldL; simp, fun b hb => by
 obtain ⟨v, _, rfl⟩ := List.mem_map.1 hb
 simp⟩
theorem toldL_some {n : Nat} {o : Nat → Option Nat} {i u : Nat} (h : o i = some u) : (toldL n o i).set u true = toldL n o (i + 1) := by
 apply List.ext_getElem?
 intro v
 rw [List.getElem?_set]
 have hl : ∀ i, (toldL n o i).length = n := fun i => by unfold toldL; simp
 by_cases hv : v < n
 ·
  rw [hl]
  by_cases e : u = v
  ·
   subst e
   rw [if_pos rfl, if_pos hv, toldL_get hv, decide_eq_true (show ∃ j, j < i + 1 ∧ o j = some u from ⟨i, by omega, h⟩)]
  ·
   rw [if_neg e, toldL_get hv, toldL_get hv]
   congr 1
   apply decide_eq_decide.2
   constructor
   · rintro ⟨j, hj, q⟩; exact ⟨j, by omega, q⟩
   ·
    rintro ⟨j, hj, q⟩
    refine ⟨j, ?_, q⟩
    have : j ≠ i := fun e2 => by rw [e2, h] at q; injection q with q; exact e q
    omega
 ·
  rw [List.getElem?_eq_none (by rw [hl]; omega), List.getElem?_eq_none (by rw [hl]; omega)]
  split
  · rw [if_neg (by rw [hl]; omega)]
  · rfl
theorem toldL_none {n : Nat} {o : Nat → Option Nat} {i : Nat} (h : o i = none) : toldL n o i = toldL n o (i + 1) := by
 unfold toldL
 apply List.map_congr_left
 intro v _
 apply decide_eq_decide.2
 constructor
 · rintro ⟨j, hj, q⟩; exact ⟨j, by omega, q⟩
 ·
  rintro ⟨j, hj, q⟩
  refine ⟨j, ?_, q⟩
  have : j ≠ i := fun e2 => by rw [e2, h] at q; cases q
  omega
theorem wkL_rt {f : Nat → Nat} {n v : Nat} (h : v < n) : rt ((List.range n).map f) v = f v := by
 rw [rt_eq, List.getElem?_map, List.getElem?_range h]; rfl
set_option maxHeartbeats 25600000 in
theorem DeltaWalks_any (A : Option Addr) (m c : Nat) (OA : Option Addr) (mo oc : Nat) (n : Int) (ps : List (Cv × List Tv)) (L : List Int) (w : World) (hk : Kons w A m (ps.map (·.1))) (hf : ∀ x ∈ ps, Raw w x.1 x.2) (hm : m ≤ 1048576) (hO : ZRow w OA mo L) (hmo : mo ≤ 1048576) :
  Calls Try.prog 8 #[.slice A m c, .slice OA mo oc, .int .i64 n] w fun e w' => e = .returned (.bool true) ∧ Below w.heap.size w w' := by
 obtain ⟨ib, hib, hbz0, hbz1, hbz2⟩ := info_parts Try.infob4
 have m0 : (0 : Int) ≤ (m : Int) := by omega
 have m9 : (m : Int) ≤ 1048576 := by omega
 have o0 : (0 : Int) ≤ (mo : Int) := by omega
 have o9 : (mo : Int) ≤ 1048576 := by omega
 have HK := Lib.hid (And.intro hk (And.intro hf hO))
 clear hk hf hO
 go_enter Try.func8, Try.ntmps8
 go_wp2_with fail
 refine (heavyH_c A m c ps _ HK.out.1 (fun x hx => (HK.out.2.1 x hx).fit) hm).mono ?_
 rintro e w1 ⟨r, rfl, hr, hb⟩
 have HR := Lib.hid hr
 have HB1 := Lib.hid hb
 clear hr hb
 cases r with
 |
  true =>
  go_wp2
  go_ret
  exact ⟨rfl, HB1.out⟩
 | false =>
 obtain ⟨_, hg⟩ := gns_of HK.out.1 HK.out.2.1 (HR.out (by trivial))
 have HV := Lib.hid (hg.below HB1.out)
 have HO := Lib.hid (HK.out.2.2.below HB1.out)
 clear hg HR HK
 by_cases h12 : (12 : Int) < (m : Int)
 ·
  go_wp2
  go_ret
  exact ⟨rfl, HB1.out⟩
 by_cases h20 : (20 : Int) < (mo : Int)
 ·
  go_wp2
  go_ret
  exact ⟨rfl, HB1.out⟩
 have mN : m ≤ 12 := by omega
 have oN : mo ≤ 1000 := by omega
 go_wp2_with fail
 refine (Walk_c w1 n m A c ps OA mo oc L w1 HV.out mN oN HO.out (Below.refl _ _)).mono ?_
 rintro e w2 ⟨hb2, hno, hyes⟩
 by_cases hmay : ∃ o, May w1 n m ps mo L o
 ·
  obtain ⟨o, ho⟩ := hmay
  obtain ⟨WA, wc, rfl, hw⟩ := hyes o ho
  have HM := Lib.hid ho
  obtain ⟨nn, rfl⟩ : ∃ nn : Nat, n = (nn : Int) := ⟨n.toNat, by have := ho.n1; omega⟩
  have etn : ((nn : Int)).toNat = nn := by omega
  rw [etn] at hw
  have nn1 : 1 ≤ nn := by have := ho.n1; omega
  have nn64 : nn ≤ 64 := by have := ho.n64; omega
  have nni0 : (0 : Int) ≤ (nn : Int) := by omega
  have nni1 : (nn : Int) ≤ 64 := by omega
  obtain ⟨gw, rfl, hgw1, hgw2⟩ := hw.form (by omega)
  have emo : mo = m := ho.len
  subst emo
  have HSY : Hid (Sys w1 nn mo A ps (vsOf w1 nn ps) (ssOf ps) ∧ Bridge mo (vsOf w1 nn ps) ∧ Cho mo (vsOf w1 nn ps) o ∧ L = outsL mo o) := by
   have h1 := ho.sys HV.out
   have h2 := ho.bridge HV.out
   have h3 := ho.cho
   rw [etn] at h1 h2 h3
   exact ⟨h1, h2, h3, ho.outs⟩
  have H2 : Hid (OwnN w2 w1.heap.size (some ⟨gw, 0, none⟩) wc nn ((List.range nn).map (wk mo (vsOf w1 nn ps) (ssOf ps) o)) ∧ Below w1.heap.size w1 w2) := ⟨hw, hb2⟩
  clear hb2 hno hyes hw ho
  go_wp2_with fail
  refine (rIs13_c w1 (nn : Int) mo A c ps OA mo oc L w2 HV.out mN oN HO.out H2.out.2).mono ?_
  rintro e w3 ⟨⟨r, rfl, hr⟩, hb3⟩
  obtain rfl : r = true := hr.2 ⟨o, HM.out⟩
  have H3 : Hid (OwnN w3 w1.heap.size (some ⟨gw, 0, none⟩) wc nn ((List.range nn).map (wk mo (vsOf w1 nn ps) (ssOf ps) o)) ∧ Below w1.heap.size w1 w3) := ⟨H2.out.1.below hb3, H2.out.2.trans (hb3.mono H2.out.2.size)⟩
  clear hr hb3 H2
  go_wp2_with (at_make; refine wpList_make_full _ rfl _ _ _ rfl w3.heap.size 4 ib (.bool false) 1 Try.underlying46 hib hbz0 hbz1 .i64 .i64 _ _ nn rfl rfl (by first | rfl | omega) (by first | rfl | omega) (by first | omega | (rw [hbz2]; omega)) (by unfold maxLen; omega) (Nat.le_refl _) ?_)
  intro w4 hown hgr
  obtain ⟨gt, hgt⟩ : ∃ gt, gt = w3.heap.size := ⟨_, rfl⟩
  rw [← hgt] at hown
  rw [← hgt]
  have H4 : Hid (OwnB w4 w1.heap.size (some ⟨gt, 0, none⟩) nn nn (toldL nn o 0) ∧ OwnN w4 w1.heap.size (some ⟨gw, 0, none⟩) wc nn ((List.range nn).map (wk mo (vsOf w1 nn ps) (ssOf ps) o)) ∧ Below w1.heap.size w1 w4) := by
   have hWb := below_of_grown hgr
   have h1 := OwnB.made hown
   rw [← toldL_zero nn o] at h1
   refine ⟨⟨h1.own.1, ?_⟩, H3.out.1.below hWb, H3.out.2.trans (hWb.mono H3.out.2.size)⟩
   rcases h1.own.2 with q | ⟨g', cap, cur, q1, q2, q3⟩
   · exact .inl q
   · exact .inr ⟨g', cap, cur, q1, by have := H3.out.2.size; omega, q3⟩
  have HGG : Hid (gw ≠ gt) := by have := H3.out.1.lt; show gw ≠ gt; omega
  clear hown hgr hgt H3 hbz0 hbz1 hbz2 hib
  go_wp2
  go_loopw [9, 10, 11, 12] (fun iv _ _ _ wr => ∃ i : Nat, i ≤ mo ∧ iv = .int .i64 i ∧ Hid (OwnB wr w1.heap.size (some ⟨gt, 0, none⟩) nn nn (toldL nn o i) ∧ OwnN wr w1.heap.size (some ⟨gw, 0, none⟩) wc nn ((List.range nn).map (wk mo (vsOf w1 nn ps) (ssOf ps) o)) ∧ Below w1.heap.size w1 wr)) (fun iv _ _ _ _ => mo - (intOf iv).toNat)
  case atStart => exact ⟨0, Nat.zero_le _, rfl, H4⟩
  case round =>
   clear H4
   obtain ⟨i, hi, rfl, HI⟩ := hrel
   have i0 : (0 : Int) ≤ (i : Int) := by omega
   by_cases hlt : i < mo
   ·
    have i1 : (i : Int) < (mo : Int) := by omega
    obtain ⟨bo, oo, rfl, _, hoc⟩ := (HO.out.below HI.out.2.2).mem (by omega)
    have c0 := hoc i hlt
    rw [HSY.out.2.2.2, outsL_zt hlt] at c0
    clear hoc
    cases hoi : o i with
    |
     none =>
     rw [hoi] at c0
     have c0' : wr.cell? ⟨bo, oo + i, none⟩ = some (.int .i64 (-1)) := c0
     have HI2 : Hid (OwnB wr w1.heap.size (some ⟨gt, 0, none⟩) nn nn (toldL nn o (i + 1)) ∧ OwnN wr w1.heap.size (some ⟨gw, 0, none⟩) wc nn ((List.range nn).map (wk mo (vsOf w1 nn ps) (ssOf ps) o)) ∧ Below w1.heap.size w1 wr) := by rw [← toldL_none hoi]; exact HI.out
     clear c0 hoi
     go_wp2
     go_roundw
     case rel => exact ⟨i + 1, by omega, by go_num, HI2⟩
     case measure => simp [intOf]; omega
    |
     some u =>
     rw [hoi] at c0
     have c0' : wr.cell? ⟨bo, oo + i, none⟩ = some (.int .i64 (u : Int)) := c0
     have hui := HSY.out.2.2.1.mem i u hlt hoi
     have hun : u < nn := HSY.out.1.lt hlt hui
     have u0 : (0 : Int) ≤ (u : Int) := by omega
     have u1 : (u : Int) < (nn : Int) := by omega
     obtain ⟨bb, off, va, hcu⟩ := HSY.out.1.conU hlt
     have hca := hcu wr HI.out.2.2
     have hA := hca.adr
     subst hA
     have k9 := hca.k9
     have k0' : (0 : Int) ≤ (va.n : Int) := by omega
     have HCU := Lib.hid hcu
     have HKL := Lib.hid hca.k
     have tc := HI.out.1.cell hun (toldL_get hun)
     have tt := HI.out.1.thaw u
     have HW : Hid (wk mo (vsOf w1 nn ps) (ssOf ps) o u = mxo u (ssOf ps i) (vsOf w1 nn ps i) (wk mo (vsOf w1 nn ps) (ssOf ps) o)) := wk_some HSY.out.2.1 HSY.out.2.2.1 (HSY.out.2.2.1.tel hoi)
     have HI2 : Hid (OwnB (wr.setCell ⟨gt, u, none⟩ (.bool true)) w1.heap.size (some ⟨gt, 0, none⟩) nn nn (toldL nn o (i + 1)) ∧ OwnN (wr.setCell ⟨gt, u, none⟩ (.bool true)) w1.heap.size (some ⟨gw, 0, none⟩) wc nn ((List.range nn).map (wk mo (vsOf w1 nn ps) (ssOf ps) o)) ∧ Below w1.heap.size w1 (wr.setCell ⟨gt, u, none⟩ (.bool true))) := by
      obtain ⟨q1, q2, q3⟩ := HI.out
      refine ⟨by rw [← toldL_some hoi]; exact q1.set u true, q2.grown (set_grown wr gt u _) (fun ad e => by injection e with e; subst e; intro q; injection q with q; exact HGG.out q), set_at q1.lt.1 _ _ q3⟩
     obtain ⟨x0, x1, _, _, _⟩ := (hcu _ HI2.out.2.2).cells
     rw [hca.s] at x0
     clear hcu hca c0 hoi hui HI
     go_wp2
     generalize wr.setCell ⟨gt, u, none⟩ (.bool true) = W at *
     clear x0 x1 c0' tc tt
     go_loopw [11, 12] (fun mv jv wr => ∃ j : Nat, j ≤ va.n ∧ jv = .int .i64 j ∧ mv = .int .i64 (mxo u (ssOf ps i) ((vsOf w1 nn ps i).take j) (wk mo (vsOf w1 nn ps) (ssOf ps) o) : Nat) ∧ W = wr) (fun _ jv _ => va.n - (intOf jv).toNat)
     case atStart => exact ⟨0, Nat.zero_le _, rfl, rfl, rfl⟩
     case round =>
      obtain ⟨j, hj, rfl, rfl, rfl⟩ := hrel
      have j0 : (0 : Int) ≤ (j : Int) := by omega
      obtain ⟨_, x1, _, _, _⟩ := (HCU.out _ HI2.out.2.2).cells
      by_cases hjl : j < va.n
      ·
       have j1 : (j : Int) < (va.n : Int) := by omega
       obtain ⟨bk, of2, x, hVA, hbk, ⟨y0, _, _, _⟩, hxv, hxn⟩ := (HCU.out _ HI2.out.2.2).ts j hjl
       rw [hVA] at x1
       have hjl2 : j < (vsOf w1 nn ps i).length := by rw [← HKL.out]; exact hjl
       have htk : (vsOf w1 nn ps i).take (j + 1) = (vsOf w1 nn ps i).take j ++ [nth (vsOf w1 nn ps i) j] := by rw [List.take_add_one, nth_get hjl2]; rfl
       obtain ⟨z, hz⟩ : ∃ z, z = nth (vsOf w1 nn ps i) j := ⟨_, rfl⟩
       rw [← hz] at hxv hxn htk
       rw [hxv] at y0
       have HU : Hid (mxo u (ssOf ps i) ((vsOf w1 nn ps i).take (j + 1)) (wk mo (vsOf w1 nn ps) (ssOf ps) o) = if z = u then mxo u (ssOf ps i) ((vsOf w1 nn ps i).take j) (wk mo (vsOf w1 nn ps) (ssOf ps) o) else max (mxo u (ssOf ps i) ((vsOf w1 nn ps i).take j) (wk mo (vsOf w1 nn ps) (ssOf ps) o)) (wk mo (vsOf w1 nn ps) (ssOf ps) o z)) := by show _ = _; rw [htk, mxo_snoc]
       have cz := HI2.out.2.1.cell hxn
       rw [wkL_rt hxn] at cz
       have z0 : (0 : Int) ≤ (z : Int) := by omega
       have z1 : (z : Int) < (nn : Int) := by omega
       clear hz htk hjl2 hVA
       obtain ⟨q, hq⟩ : ∃ q, q = mxo u (ssOf ps i) ((vsOf w1 nn ps i).take j) (wk mo (vsOf w1 nn ps) (ssOf ps) o) := ⟨_, rfl⟩
       rw [← hq] at HU ⊢
       clear hq
       obtain ⟨p, hp⟩ : ∃ p, p = wk mo (vsOf w1 nn ps) (ssOf ps) o z := ⟨_, rfl⟩
       rw [← hp] at HU cz
       clear hp
       by_cases hzu : z = u
       ·
        have e1 : (z : Int) = (u : Int) := by omega
        have HE : Hid (mxo u (ssOf ps i) ((vsOf w1 nn ps i).take (j + 1)) (wk mo (vsOf w1 nn ps) (ssOf ps) o) = q) := by show _ = _; rw [HU.out, if_pos hzu]
        clear hzu
        go_wp2
        go_roundw
        case rel => exact ⟨j + 1, by omega, by go_num, by rw [HE.out], by trivial⟩
        case measure => simp [intOf]; omega
       ·
        have e1 : ¬ (z : Int) = (u : Int) := by omega
        have HE : Hid (mxo u (ssOf ps i) ((vsOf w1 nn ps i).take (j + 1)) (wk mo (vsOf w1 nn ps) (ssOf ps) o) = max q p) := by show _ = _; rw [HU.out, if_neg hzu]
        clear hzu
        go_wp2
        go_roundw
        case rel => exact ⟨j + 1, by omega, by go_num, by rw [HE.out]; simp; omega, by trivial⟩
        case measure => simp [intOf]; omega
      ·
       have j1 : ¬ (j : Int) < (va.n : Int) := by omega
       have e : (vsOf w1 nn ps i).take j = vsOf w1 nn ps i := List.take_of_length_le (by rw [← HKL.out]; omega)
       rw [e, ← HW.out]
       have cu := HI2.out.2.1.cell hun
       rw [wkL_rt hun] at cu
       clear e
       go_wp2
       go_roundw
       case rel => exact ⟨i + 1, by omega, by go_num, HI2⟩
       case measure => simp [intOf]; omega
   ·
    have i1 : ¬ (i : Int) < (mo : Int) := by omega
    have e : i = mo := by omega
    rw [e] at HI
    have HI' : Hid (OwnB wr w1.heap.size (some ⟨gt, 0, none⟩) nn nn (toldL nn o mo) ∧ OwnN wr w1.heap.size (some ⟨gw, 0, none⟩) wc nn ((List.range nn).map (wk mo (vsOf w1 nn ps) (ssOf ps) o)) ∧ Below w.heap.size w wr) := ⟨HI.out.1, HI.out.2.1, HB1.out.trans (HI.out.2.2.mono HB1.out.size)⟩
    clear HI e
    go_wp2
    go_loopw [13] (fun vv wr' => ∃ v : Nat, v ≤ nn ∧ vv = .int .i64 v ∧ wr = wr') (fun vv _ => nn - (intOf vv).toNat)
    case atStart => exact ⟨0, Nat.zero_le _, rfl, rfl⟩
    case round =>
     obtain ⟨v, hv, rfl, rfl⟩ := hrel
     have v0 : (0 : Int) ≤ (v : Int) := by omega
     by_cases hvn : v < nn
     ·
      have v1 : (v : Int) < (nn : Int) := by omega
      have tc := HI'.out.1.cell hvn (toldL_get hvn)
      have cv := HI'.out.2.1.cell hvn
      rw [wkL_rt hvn] at cv
      by_cases ht : ∃ j, j < mo ∧ o j = some v
      ·
       rw [decide_eq_true ht] at tc
       clear ht
       go_wp2
       go_roundw
       case rel => exact ⟨v + 1, by omega, by go_num, by trivial⟩
       case measure => simp [intOf]; omega
      ·
       rw [decide_eq_false ht] at tc
       have e4 : wk mo (vsOf w1 nn ps) (ssOf ps) o v = 4 := wk_none (tel_none.2 fun j hj q => ht ⟨j, hj, q⟩)
       rw [e4] at cv
       have cv' : wr.cell? ⟨gw, v, none⟩ = some (.int .i64 4) := cv
       clear ht cv e4
       go_wp2
       go_roundw
       case rel => exact ⟨v + 1, by omega, by go_num, by trivial⟩
       case measure => simp [intOf]; omega
     ·
      have v1 : ¬ (v : Int) < (nn : Int) := by omega
      go_wp2_with fail
      refine (known13_c wr).mono ?_
      rintro e w6 ⟨rfl, hb6⟩
      have H6 : Hid (Below w.heap.size w w6) := HI'.out.2.2.trans (hb6.mono HI'.out.2.2.size)
      clear hb6
      go_wp2
      go_ret
      exact ⟨rfl, H6.out⟩
 ·
  have HN : Hid (∀ o, ¬ May w1 n m ps mo L o) := fun o h => hmay ⟨o, h⟩
  obtain rfl := hno HN.out
  have H2 := Lib.hid hb2
  clear hb2 hno hyes hmay hbz0 hbz1 hbz2 hib
  go_wp2_with fail
  refine (rIs13_c w1 n m A c ps OA mo oc L w2 HV.out mN oN HO.out H2.out).mono ?_
  rintro e w3 ⟨⟨r, rfl, hr⟩, hb3⟩
  obtain rfl : r = false := Bool.eq_false_iff.2 fun e => by obtain ⟨o, ho⟩ := hr.1 e; exact HN.out o ho
  have H3 : Hid (Below w.heap.size w w3) := HB1.out.trans ((H2.out.trans (hb3.mono H2.out.size)).mono HB1.out.size)
  clear hr hb3
  go_wp2_with fail
  refine (known13_c w3).mono ?_
  rintro e w4 ⟨rfl, hb4⟩
  have H4 : Hid (Below w.heap.size w w4) := H3.out.trans (hb4.mono H3.out.size)
  clear hb4
  go_wp2
  go_ret
  exact ⟨rfl, H4.out⟩
end Go.Proofs.Ytjbhhccklfddaaa
