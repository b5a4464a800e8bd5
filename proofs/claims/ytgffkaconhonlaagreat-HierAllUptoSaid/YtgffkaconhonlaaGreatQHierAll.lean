/-
  HierAll: values at which all hold, and that are what they were, are beaten by nothing; none is missing of any strength.
-/
import Derived.Test.YtgffkaconhonlaaGreatQHrJ
import Derived.Test.YtgffkaconhonlaaGreatQHrK
import Derived.Test.YtgffkaconhonlaaGreatQHrO
import Derived.Test.YtgffkaconhonlaaGreatQManL
import Derived.Test.YtgffkaconhonlaaGreatQOpenM
import Derived.Deep.Cut
import Derived.Test.YtgffkaconhonlaaGreatQRgn
namespace Go.Proofs.YtgffkaconhonlaaGreat
set_option maxRecDepth 20000
open Go.RowKit
theorem all_hold {N : Nat} {V : List Rat} {us : List Kin} (h : ∀ x ∈ us, x.ok = true → dot N (fn N x.L x.k) (ptOf V) = 0) : BeatAns N (ptOf V) (allS N us V) (-1) := by
 refine .inl ⟨rfl, fun c hc hco => hco.2.1 ?_⟩
 rcases List.mem_append.1 hc with hc | hc
 ·
  obtain ⟨x, hx, rfl⟩ := List.mem_map.1 hc
  exact h x hx hco.1
 ·
  obtain ⟨v, hv, rfl⟩ := List.mem_map.1 hc
  show dot N (fn N [((v : Int), ((1 : Int) : Rat))] (-(atV V (v : Int)))) _ = 0
  rw [dot_one (List.mem_range.1 hv), i1_mul]
  exact Rat.neg_add_cancel _
theorem all_lev {N : Nat} {p : Nat → Rat} {us : List Kin} (h : ∀ x ∈ us, x.ok = true → dot N (fn N x.L x.k) p = 0) (s : Nat) : lvc N p us s = 0 := by
 unfold lvc
 rw [List.filter_eq_nil_iff.2 fun x hx => ?_]
 · rfl
 ·
  have : holB N p x = true := by
   unfold holB
   cases ho : x.ok with
   | false => rfl
   | true => rw [decide_eq_true (h x hx ho)]; rfl
  rw [this]; simp
theorem room8 {N : Nat} (h : N ≤ 8) : RoomD 150 8 N := by
 refine ⟨by omega, by omega, by omega, ?_⟩
 have h1 : 2 ^ N ≤ 2 ^ 8 := Nat.pow_le_pow_right (by omega) h
 have := Nat.mul_le_mul (Nat.le_refl (150 * (8 + 1) + 1)) h1
 omega
structure AlR (N : Nat) (p : Nat → Rat) (w wr : World) (A : Option Addr) (c q : Nat) (us : List Kin) : Prop where
 own : OwnC wr w.heap.size A c q (us.map (·.v))
 below : Below w.heap.size w wr
set_option maxHeartbeats 25600000 in
theorem HierAll_any (A A' : Option Addr) (m c N c' : Nat) (ps : List (Cv × List Tv)) (lv : List Rv) (w : World) (hk : Kons w A m (ps.map (·.1))) (hf : ∀ x ∈ ps, Raw w x.1 x.2) (hm : m ≤ 1048576)
  (hnv : Nums w A' N lv) (hrv : ∀ x ∈ lv, RdR w x ∧ x.n ≤ 1048576 ∧ x.m ≤ 1048576) (hN : N ≤ 1048576) :
  Calls Tryz.prog 9 #[.slice A m c, .slice A' N c'] w fun e w' => e = .returned (.bool true) ∧ Below w.heap.size w w' := by
 have HK := Lib.hid (And.intro hk hf)
 have HNV := Lib.hid (And.intro hnv hrv)
 have m0 : (0 : Int) ≤ (m : Int) := by omega
 have N0 : (0 : Int) ≤ (N : Int) := by omega
 have N1' : (N : Int) ≤ 1048576 := by omega
 clear hk hf hnv hrv
 go_enter Tryz.func9, Tryz.ntmps9
 go_wp2_with fail
 refine (heavyG_c A m c ps w HK.out.1 (fun x hx => (HK.out.2 x hx).fit) hm).mono ?_
 rintro e w1 ⟨r, rfl, hr, hb⟩
 have HR := Lib.hid hr
 have H1 : Hid (Below w.heap.size w w1) := hb
 clear hr hb
 cases r with
 |
  true =>
  go_wp2
  go_ret
  exact ⟨rfl, H1.out⟩
 | false =>
 go_wp2_with fail
 refine (many_c A' N c' lv w1 (HNV.out.1.below H1.out) hN (fun x hx => ⟨(HNV.out.2 x hx).2.1, (HNV.out.2 x hx).2.2⟩)).mono ?_
 rintro e w2 ⟨r, rfl, hr, hb⟩
 have HRM : Hid (r = false → N ≤ 100 ∧ ∀ x ∈ lv, x.n ≤ 3 ∧ x.m ≤ 3) := hr
 have H2 : Hid (Below w.heap.size w w2) := H1.out.trans (hb.mono H1.out.size)
 clear hr hb H1
 cases r with
 |
  true =>
  go_wp2
  go_ret
  exact ⟨rfl, H2.out⟩
 | false =>
 by_cases hn8 : (8 : Int) < (N : Int)
 ·
  go_wp2
  go_ret
  exact ⟨rfl, H2.out⟩
 have hN8 : N ≤ 8 := by omega
 obtain ⟨hm75, vs, hvs, hkn⟩ := hns_of N HK.out.1 HK.out.2 (HR.out (by trivial))
 obtain ⟨V, hV⟩ := rdv_ex (p := 3) lv fun x hx => ⟨(HNV.out.2 x hx).1, (HRM.out (by trivial)).2 x hx⟩
 have HV := Lib.hid hkn
 have HVV : Hid (Vin N w A' lv V) := ⟨HNV.out.1, RdV.more (by omega) hV, by omega⟩
 have HLEN : Hid (vs.length = m) := hkn.len
 have m2 : (m : Int) ≤ 75 := by omega
 have n8' : (N : Int) ≤ 8 := by omega
 clear hV hvs hkn HR HRM HK HNV hn8 hm hN
 go_wp2
 go_loopw [6, 7] (fun mv iv wr => ∃ (i : Nat) (A3 : Option Addr) (c3 q : Nat) (us : List Kin), i ≤ m ∧ q ≤ i ∧ iv = .int .i64 i ∧ mv = .slice A3 q c3 ∧ Hid (AlR N (ptOf V) w2 wr A3 c3 q us ∧ us = (vs.take i).filter (goodB N (ptOf V)))) (fun _ iv _ => m - (intOf iv).toNat)
 case atStart => exact ⟨0, none, 0, 0, [], Nat.zero_le _, Nat.zero_le _, rfl, rfl, Lib.hid ⟨⟨OwnC.nil_ _ _, Below.refl _ _⟩, rfl⟩⟩
 case round =>
  obtain ⟨i, A3, c3, q, us, hi, hqi, rfl, rfl, HM⟩ := hrel
  have i0 : (0 : Int) ≤ (i : Int) := by omega
  have HBW : Hid (Below w.heap.size w wr) := H2.out.trans (HM.out.1.below.mono H2.out.size)
  by_cases hlt : i < m
  ·
   have i1 : (i : Int) < (m : Int) := by omega
   have hil : i < vs.length := by rw [HLEN.out]; exact hlt
   obtain ⟨b, off, hA, hbw, hcc⟩ := HV.out.kons.mem (by omega)
   have hx := List.getElem?_eq_getElem hil
   have HXI := Lib.hid (HV.out.rd _ (List.getElem_mem hil))
   have h5 := hcc i _ (show (vs.map (·.v))[i]? = some vs[i].v by rw [List.getElem?_map, hx]; rfl)
   have HTK : Hid (vs.take (i + 1) = vs.take i ++ [vs[i]]) := by show _ = _; rw [List.take_add_one, hx]; rfl
   generalize vs[i] = x at *
   have H5 : Hid (∀ wz, Below w.heap.size w wz → At5 wz b (off + i * 5) x.v) := fun wz hz => h5.keep (hz.block b hbw)
   obtain ⟨k0, k1, k2, k3, k4⟩ := H5.out _ HBW.out
   subst hA
   clear hx hcc hbw h5 hil
   go_wp2_with fail
   refine (rIsH_c 150 N x _ rfl (by omega) wr (HXI.out.below HBW.out) (by omega)).mono ?_
   rintro e w4 ⟨rfl, hb⟩
   have H4 : Hid (Below w.heap.size w w4 ∧ Below wr.heap.size wr w4) := ⟨HBW.out.trans (hb.mono HBW.out.size), hb⟩
   clear hb k0 k1 k2 k3 k4
   cases ho : x.ok with
   |
    false =>
    have HN : Hid (AlR N (ptOf V) w2 w4 A3 c3 q us ∧ us = (vs.take (i + 1)).filter (goodB N (ptOf V))) := by
     refine ⟨⟨HM.out.1.own.below H4.out.2, HM.out.1.below.trans (H4.out.2.mono HM.out.1.below.size)⟩, ?_⟩
     rw [HTK.out, filter_no (by unfold goodB; rw [ho]; rfl)]
     exact HM.out.2
    clear ho
    go_wp2
    go_roundw
    case rel => exact ⟨i + 1, A3, c3, q, us, by omega, by omega, by go_num, rfl, HN⟩
    case measure => simp [intOf]; omega
   |
    true =>
    have HO := Lib.hid ho
    clear ho
    obtain ⟨k0, k1, k2, k3, k4⟩ := H5.out _ H4.out.1
    go_wp2_with fail
    refine (rHoldsH_c 150 N x A' c' lv V w4 (HXI.out.below H4.out.1) HO.out (by omega) (HVV.out.below H4.out.1)).mono ?_
    rintro e w5 ⟨rfl, hb⟩
    have H6 : Hid (Below w.heap.size w w5 ∧ Below wr.heap.size wr w5) := ⟨H4.out.1.trans (hb.mono H4.out.1.size), H4.out.2.trans (hb.mono H4.out.2.size)⟩
    clear hb k0 k1 k2 k3 k4
    cases hh : hlB N (ptOf V) x with
    |
     false =>
     have HN : Hid (AlR N (ptOf V) w2 w5 A3 c3 q us ∧ us = (vs.take (i + 1)).filter (goodB N (ptOf V))) := by
      refine ⟨⟨HM.out.1.own.below H6.out.2, HM.out.1.below.trans (H6.out.2.mono HM.out.1.below.size)⟩, ?_⟩
      rw [HTK.out, filter_no (by unfold goodB; rw [hh, Bool.and_false])]
      exact HM.out.2
     clear hh
     go_wp2
     go_roundw
     case rel => exact ⟨i + 1, A3, c3, q, us, by omega, by omega, by go_num, rfl, HN⟩
     case measure => simp [intOf]; omega
    |
     true =>
     have HG : Hid (goodB N (ptOf V) x = true) := by show goodB N (ptOf V) x = true; unfold goodB; rw [HO.out, hh]; rfl
     clear hh
     obtain ⟨k0, k1, k2, k3, k4⟩ := H5.out _ H6.out.1
     go_wp2_with (at_builtin; refine wpc_appends rfl _ _ rfl rfl rfl (lo := w2.heap.size) (l := us.map (·.v)) (k := [x.v]) ((HM.out.1.own.below H6.out.2).below ((Below.refl _ _).alloc (Nat.le_refl _) _)) (kons_new _ x.v) (by omega) (by have := HM.out.1.below.size; have := H6.out.2.size; simp; omega) ?_)
     intro A6 c6 w6 hown hgrow
     have HN : Hid (AlR N (ptOf V) w2 w6 A6 c6 (q + 1) (us ++ [x]) ∧ us ++ [x] = (vs.take (i + 1)).filter (goodB N (ptOf V))) := by
      have hb0 := HM.out.1.below.trans (H6.out.2.mono HM.out.1.below.size)
      have hb1 : Below w2.heap.size w2 (w5.alloc (.cells #[.int .i64 x.v.s, .slice x.v.A x.v.n x.v.c, .bool x.v.K.s, .slice x.v.K.A x.v.K.n x.v.K.c, .slice x.v.K.B x.v.K.m x.v.K.d] 28)) := hb0.alloc hb0.size _
      have ho5 := (HM.out.1.own.below H6.out.2).below ((Below.refl _ _).alloc (Nat.le_refl _) (.cells #[.int .i64 x.v.s, .slice x.v.A x.v.n x.v.c, .bool x.v.K.s, .slice x.v.K.A x.v.K.n x.v.K.c, .slice x.v.K.B x.v.K.m x.v.K.d] 28))
      refine ⟨⟨by rw [List.map_append]; exact hown, hb1.grown hgrow hb1.size fun k hk => ?_⟩, ?_⟩
      ·
       cases A3 with
       | none => simp at hk
       | some ad => simp at hk; subst hk; exact (ho5.lt ad rfl).1
      · rw [HTK.out, filter_yes HG.out, ← HM.out.2]
     clear hown hgrow k0 k1 k2 k3 k4
     go_wp2
     go_roundw
     case rel => exact ⟨i + 1, A6, c6, q + 1, us ++ [x], by omega, by omega, by go_num, rfl, HN⟩
     case measure => simp [intOf]; omega
  ·
   have i1 : ¬ (i : Int) < (m : Int) := by omega
   have HU : Hid ((∀ x ∈ us, x.ok = true → dot N (fn N x.L x.k) (ptOf V) = 0) ∧ Hns N 150 wr A3 q us) := by
    refine ⟨fun x hx _ => ?_, HM.out.1.own.kons, fun x hx => ?_⟩
    ·
     rw [HM.out.2] at hx
     exact (good_hol (List.mem_filter.1 hx).2).2
    ·
     rw [HM.out.2] at hx
     exact (HV.out.rd x (List.mem_of_mem_take (List.mem_filter.1 hx).1)).below HBW.out
   clear HM HV HLEN
   go_wp2_with fail
   refine (Levels_c 150 N A3 A' q c3 c' us lv V wr HU.out.2 (by omega) (HVV.out.below HBW.out) (by omega)).mono ?_
   rintro e w7 ⟨rfl, hl, hb⟩
   have H7 : Hid (Below wr.heap.size wr w7 ∧ OwnN w7 wr.heap.size (some ⟨wr.heap.size, 0, none⟩) 4 4 (levN N (ptOf V) us)) := ⟨hb, hl⟩
   have HSS : Hid (∀ w', Below w7.heap.size w7 w' → w'.cell? ⟨wr.heap.size, 0, none⟩ = some (.int .i64 0) ∧ w'.cell? ⟨wr.heap.size, 1, none⟩ = some (.int .i64 0) ∧ w'.cell? ⟨wr.heap.size, 2, none⟩ = some (.int .i64 0) ∧ w'.cell? ⟨wr.heap.size, 3, none⟩ = some (.int .i64 0)) := fun w' h => by
    have hz : ∀ s, s < 4 → w'.cell? ⟨wr.heap.size, s, none⟩ = some (.int .i64 0) := fun s hs => by
     rw [(H7.out.2.below h).cell hs, levN_rt hs, all_lev HU.out.1]; rfl
    exact ⟨hz 0 (by omega), hz 1 (by omega), hz 2 (by omega), hz 3 (by omega)⟩
   clear hl hb
   go_upto_region 11 with fail
   obtain ⟨G, hG⟩ : ∃ G, G = wr.heap.size := ⟨_, rfl⟩
   rw [← hG] at HSS
   rw [← hG]
   clear hG
   obtain ⟨s0, s1, s2, s3⟩ := HSS.out _ (Below.refl _ _)
   have hwz : IntKind.i64.wrap (0 : Int) = 0 := by decide
   refine wp_region_held_drew (S := fun w' => w'.cell? ⟨G, 0, none⟩ = some (.int .i64 0) ∧ w'.cell? ⟨G, 1, none⟩ = some (.int .i64 0) ∧ w'.cell? ⟨G, 2, none⟩ = some (.int .i64 0) ∧ w'.cell? ⟨G, 3, none⟩ = some (.int .i64 0)) (by kernel_rfl) ?_ (fun hHeld => ?_)
   ·
    (try dsimp only)
    go_keep
   refine tk (i := 0) (h := ?_)
   try simp only [zR]
   refine tk (i := 1) (h := ?_)
   try simp only [zR]
   refine tk (i := 2) (h := ?_)
   try simp only [zR]
   refine tk (i := 3) (h := ?_)
   try simp only [zR]
   refine tk (i := 4) (h := ?_)
   try simp only [zR]
   refine tk (i := 5) (h := ?_)
   try simp only [zR]
   refine tk (i := 6) (h := ?_)
   try simp only [zR]
   refine tk (i := 7) (h := ?_)
   try simp only [zR]
   refine tk (i := 8) (h := ?_)
   try simp only [zR]
   refine tk (i := 9) (h := ?_)
   try simp only [zR]
   refine tk (i := 10) (h := ?_)
   try simp only [zR]
   refine tk (i := 11) (h := ?_)
   try simp only [zR]
   refine tk (i := 12) (h := ?_)
   try simp only [zR]
   refine tk (i := 13) (h := ?_)
   try simp only [zR]
   refine tk (i := 14) (h := ?_)
   try simp only [zR]
   refine tk (i := 15) (h := ?_)
   try simp only [zR]
   refine tk (i := 16) (h := ?_)
   try simp only [zR]
   refine tk (i := 17) (h := ?_)
   try simp only [zR]
   refine tk (i := 18) (h := ?_)
   try simp only [zR]
   refine tk (i := 19) (h := ?_)
   try simp only [zR]
   refine tk (i := 20) (h := ?_)
   try simp only [zR]
   refine tk (i := 21) (h := ?_)
   try simp only [zR]
   refine tk (i := 22) (h := ?_)
   try simp only [zR]
   refine tk (i := 23) (h := ?_)
   try simp only [zR]
   refine tk (i := 24) (h := ?_)
   try simp only [zR]
   refine tr [25] ?_
   refine tc (h := fun K hK => ?_) (hs := tn)
   try go_simp
   go_at_call 35
   have hbw : Below w.heap.size w w7.drew := HBW.out.trans (((H7.out.1.mono HBW.out.size)).trans ((bel1 w7).mono (Nat.le_trans HBW.out.size H7.out.1.size)))
   have vv := HVV.out.below hbw
   refine (Beaten_c 150 8 N A3 A' A' q c3 N c' c' us lv lv V V _ (HU.out.2.below (H7.out.1.trans ((bel1 w7).mono H7.out.1.size))) (by omega) (by omega) (by omega) (by omega) vv.row vv.rd (by omega) vv (room8 hN8) (fun y hy hyo => Nat.le_trans (HU.out.2.lens y hy hyo) hN8) (by omega)).mono ?_
   rintro e w8 ⟨r, rfl, hr, hb⟩
   obtain rfl : r = -1 := hr.same (all_hold HU.out.1)
   have P8 : Hid (Below w7.heap.size w7 w8) := (bel1 w7).trans hb
   clear hr hb hbw vv
   clear s0 s1 s2 s3
   obtain ⟨s0, s1, s2, s3⟩ := HSS.out _ P8.out
   try go_wp2_with fail
   refine hK.out _ _ ?_ (fun hHeld => ?_)
   · (try dsimp only); go_keep
   clear hK K
   try simp only [zR]
   refine tk (i := 26) (h := ?_)
   try simp only [zR]
   refine tk (i := 27) (h := ?_)
   try simp only [zR]
   refine tk (i := 28) (h := ?_)
   try simp only [zR]
   refine tr [29] ?_
   refine tc (h := fun K hK => ?_) (hs := tn)
   try go_simp
   go_at_call 37
   refine (known12_c _).mono ?_
   rintro e w9 ⟨rfl, hb⟩
   have P9 : Hid (Below w7.heap.size w7 w9) := P8.out.trans (hb.mono P8.out.size)
   clear hb
   clear s0 s1 s2 s3
   obtain ⟨s0, s1, s2, s3⟩ := HSS.out _ P9.out
   try go_wp2_with fail
   refine hK.out _ _ ?_ (fun hHeld => ?_)
   · (try dsimp only); go_keep
   clear hK K
   try simp only [zR]
   refine tk (i := 30) (h := ?_)
   try simp only [zR]
   refine tk (i := 31) (h := ?_)
   try simp only [zR]
   refine wpAnyH_done (by kernel_rfl) ?_ _
   clear s0 s1 s2 s3
   go_wp2
   go_ret
   exact ⟨rfl, HBW.out.trans ((H7.out.1.trans (P9.out.mono H7.out.1.size)).mono HBW.out.size)⟩
end Go.Proofs.YtgffkaconhonlaaGreat
