/-
  HierNamed: what is told to beat does not hold, and could.
-/
import Derived.Test.YtgffkaconhonlaaGreatQHrQ
import Derived.Test.YtgffkaconhonlaaGreatQHrK
import Derived.Test.YtgffkaconhonlaaGreatQManL
import Derived.Test.YtgffkaconhonlaaGreatQOpenM
import Derived.Deep.Cut
import Derived.Test.YtgffkaconhonlaaGreatQRgn
namespace Go.Proofs.YtgffkaconhonlaaGreat
set_option maxRecDepth 20000
open Go.RowKit
theorem room6 {N : Nat} (h : N ≤ 6) : RoomD 150 6 N := by
 refine ⟨by omega, by omega, by omega, ?_⟩
 have h1 : 2 ^ N ≤ 2 ^ 6 := Nat.pow_le_pow_right (by omega) h
 have := Nat.mul_le_mul (Nat.le_refl (150 * (6 + 1) + 1)) h1
 omega
structure HArg (N : Nat) (w : World) (A Ab Av : Option Addr) (m nb : Nat) (vs : List Kin) (lb lv : List Rv) (B V : List Rat) : Prop where
 l : Hns N 150 w A m vs
 m75 : m ≤ 75
 b : Nums w Ab nb lb
 bd : RdV w 4 lb B
 nb : nb ≤ 100
 v : Vin N w Av lv V
theorem HArg.below {N : Nat} {w w' : World} {A Ab Av : Option Addr} {m nb : Nat} {vs : List Kin} {lb lv : List Rv} {B V : List Rat} (h : HArg N w A Ab Av m nb vs lb lv B V) (hb : Below w.heap.size w w') : HArg N w' A Ab Av m nb vs lb lv B V :=
 ⟨h.l.below hb, h.m75, h.b.below hb, RdV.below hb h.bd, h.nb, h.v.below hb⟩
def namB (N : Nat) (p : Nat → Rat) (s : Int) (y : Kin) : Bool := y.ok && (decide (y.v.s ≤ s) && hlB N p y)
theorem nam_yes {N : Nat} {p : Nat → Rat} {s : Int} {l : List Kin} {y : Kin} (h : namB N p s y = true) : (l ++ [y]).filter (namB N p s) = l.filter (namB N p s) ++ [y] := by
 rw [List.filter_append, List.filter_cons_of_pos h]; rfl
theorem nam_no {N : Nat} {p : Nat → Rat} {s : Int} {l : List Kin} {y : Kin} (h : namB N p s y = false) : (l ++ [y]).filter (namB N p s) = l.filter (namB N p s) := by
 rw [List.filter_append, List.filter_cons_of_neg (by rw [h]; simp)]; simp
theorem nam_sat {N : Nat} {p : Nat → Rat} {vs : List Kin} {B : List Rat} {x : Kin} (h : Could N p (allS N vs B) (smOf N x)) : ∃ y, Sat N (sums N (x :: vs.filter (namB N p x.v.s))) y := by
 obtain ⟨h1, h2, y, h3, h4⟩ := h
 refine ⟨y, fun f hf => ?_⟩
 obtain ⟨z, hz, rfl⟩ := List.mem_map.1 hf
 rcases List.mem_cons.1 (List.mem_filter.1 hz).1 with rfl | h5
 · exact h3
 ·
  obtain ⟨h6, h7⟩ := List.mem_filter.1 h5
  unfold namB hlB at h7
  rw [Bool.and_eq_true, Bool.and_eq_true] at h7
  exact h4 (smOf N z) (List.mem_append_left _ (List.mem_map.2 ⟨z, h6, rfl⟩)) h7.1 (of_decide_eq_true h7.2.1) (of_decide_eq_true h7.2.2)
theorem ans_in {N : Nat} {p : Nat → Rat} {vs : List Kin} {B : List Rat} {k : Nat} (h : BeatAns N p (allS N vs B) (k : Int)) (hk : k < vs.length) : ∃ x, vs[k]? = some x ∧ Could N p (allS N vs B) (smOf N x) := by
 rcases h with ⟨h, _⟩ | ⟨i, c, h, hi, hc, _⟩
 · omega
 ·
  obtain rfl : k = i := by omega
  refine ⟨vs[k], List.getElem?_eq_getElem hk, ?_⟩
  unfold allS at hi
  rw [List.getElem?_append_left (by rw [List.length_map]; exact hk), List.getElem?_map, List.getElem?_eq_getElem hk] at hi
  injection hi with hi
  rw [← hi] at hc
  exact hc
theorem allS_len (N : Nat) (vs : List Kin) (B : List Rat) : (allS N vs B).length = vs.length + N := by
 unfold allS
 rw [List.length_append, List.length_map, List.length_map, List.length_range]
set_option maxHeartbeats 25600000 in
theorem HierNamed_any (A Ab Av : Option Addr) (m c nb cb N cv : Nat) (ps : List (Cv × List Tv)) (lb lv : List Rv) (w : World) (hk : Kons w A m (ps.map (·.1))) (hf : ∀ x ∈ ps, Raw w x.1 x.2) (hm : m ≤ 1048576)
  (hbv : Nums w Ab nb lb) (hrb : ∀ x ∈ lb, RdR w x ∧ x.n ≤ 1048576 ∧ x.m ≤ 1048576) (hnb : nb ≤ 1048576) (hnv : Nums w Av N lv) (hrv : ∀ x ∈ lv, RdR w x ∧ x.n ≤ 1048576 ∧ x.m ≤ 1048576) (hN : N ≤ 1048576) :
  Calls Tryz.prog 10 #[.slice A m c, .slice Ab nb cb, .slice Av N cv] w fun e w' => e = .returned (.bool true) ∧ Below w.heap.size w w' := by
 have HK := Lib.hid (And.intro hk hf)
 have HNB := Lib.hid (And.intro hbv hrb)
 have HNV := Lib.hid (And.intro hnv hrv)
 have m0 : (0 : Int) ≤ (m : Int) := by omega
 have N0 : (0 : Int) ≤ (N : Int) := by omega
 have N1' : (N : Int) ≤ 1048576 := by omega
 clear hk hf hbv hrb hnv hrv
 go_enter Tryz.func10, Tryz.ntmps10
 go_wp2_with fail
 refine (heavyG_c A m c ps w HK.out.1 (fun x hx => (HK.out.2 x hx).fit) hm).mono ?_
 rintro e w1 ⟨r, rfl, hr, hb⟩
 have HR := Lib.hid hr
 have H1 : Hid (Below w.heap.size w w1) := hb
 clear hr hb
 cases r with
 |
  true =>
  go_wp2
  go_ret
  exact ⟨rfl, H1.out⟩
 | false =>
 go_wp2_with fail
 refine (many_c Ab nb cb lb w1 (HNB.out.1.below H1.out) hnb (fun x hx => ⟨(HNB.out.2 x hx).2.1, (HNB.out.2 x hx).2.2⟩)).mono ?_
 rintro e w2 ⟨r, rfl, hr, hb⟩
 have HRB : Hid (r = false → nb ≤ 100 ∧ ∀ x ∈ lb, x.n ≤ 3 ∧ x.m ≤ 3) := hr
 have H2 : Hid (Below w.heap.size w w2) := H1.out.trans (hb.mono H1.out.size)
 clear hr hb H1
 cases r with
 |
  true =>
  go_wp2
  go_ret
  exact ⟨rfl, H2.out⟩
 | false =>
 go_wp2_with fail
 refine (many_c Av N cv lv w2 (HNV.out.1.below H2.out) hN (fun x hx => ⟨(HNV.out.2 x hx).2.1, (HNV.out.2 x hx).2.2⟩)).mono ?_
 rintro e w3 ⟨r, rfl, hr, hb⟩
 have HRM : Hid (r = false → N ≤ 100 ∧ ∀ x ∈ lv, x.n ≤ 3 ∧ x.m ≤ 3) := hr
 have H3 : Hid (Below w.heap.size w w3) := H2.out.trans (hb.mono H2.out.size)
 clear hr hb H2
 cases r with
 |
  true =>
  go_wp2
  go_ret
  exact ⟨rfl, H3.out⟩
 | false =>
 by_cases hn6 : (6 : Int) < (N : Int)
 ·
  go_wp2
  go_ret
  exact ⟨rfl, H3.out⟩
 by_cases hm8 : (8 : Int) < (m : Int)
 ·
  go_wp2
  go_ret
  exact ⟨rfl, H3.out⟩
 have hN6 : N ≤ 6 := by omega
 have hm8' : m ≤ 8 := by omega
 obtain ⟨hm75, vs, hvs, hkn⟩ := hns_of N HK.out.1 HK.out.2 (HR.out (by trivial))
 obtain ⟨V, hV⟩ := rdv_ex (p := 3) lv fun x hx => ⟨(HNV.out.2 x hx).1, (HRM.out (by trivial)).2 x hx⟩
 obtain ⟨B, hB⟩ := rdv_ex (p := 3) lb fun x hx => ⟨(HNB.out.2 x hx).1, (HRB.out (by trivial)).2 x hx⟩
 have HA0 : Hid (HArg N w A Ab Av m nb vs lb lv B V) := ⟨hkn, hm75, HNB.out.1, RdV.more (by omega) hB, (HRB.out (by trivial)).1, ⟨HNV.out.1, RdV.more (by omega) hV, by omega⟩⟩
 have HA : Hid (HArg N w3 A Ab Av m nb vs lb lv B V) := HA0.out.below H3.out
 have m2 : (m : Int) ≤ 8 := by omega
 have n6' : (N : Int) ≤ 6 := by omega
 clear hV hB hvs hkn HR HRM HRB HK HNV HNB hm hN hnb hm75
 have HLEN : Hid (vs.length = m) := HA.out.l.len
 go_wp2_with fail
 refine (Beaten_c 150 6 N A Ab Av m c nb cb cv vs lb lv B V w3 HA.out.l (by omega) (by omega) (by omega) (by omega) HA.out.b HA.out.bd (by have := HA.out.nb; omega) HA.out.v (room6 hN6) (fun y hy hyo => Nat.le_trans (HA.out.l.lens y hy hyo) hN6) (by omega)).mono ?_
 rintro e w6 ⟨r, rfl, hr, hb⟩
 have HR1 := Lib.hid hr
 have H6 : Hid (Below w3.heap.size w3 w6) := hb
 have H6w : Hid (Below w.heap.size w w6) := H3.out.trans (hb.mono H3.out.size)
 have hrng := hr.rng
 rw [allS_len, HLEN.out] at hrng
 clear hr hb
 by_cases hin : 0 ≤ r ∧ r < (m : Int)
 ·
  obtain ⟨k, rfl⟩ : ∃ k : Nat, r = (k : Int) := ⟨r.toNat, by omega⟩
  have kk0 : ¬ (k : Int) < 0 := by omega
  have kk1 : ¬ (m : Int) ≤ (k : Int) := by omega
  have kk2 : (k : Int) < (m : Int) := by omega
  have kk3 : (0 : Int) ≤ (k : Int) := by omega
  have kd0 : decide ((k : Int) < 0) = false := decide_eq_false kk0
  have kd1 : decide (m ≤ k) = false := decide_eq_false (by omega)
  obtain ⟨x, hx, hco⟩ := ans_in HR1.out (by rw [HLEN.out]; omega)
  have HX : Hid (vs[k]? = some x ∧ Could N (ptOf V) (allS N vs B) (smOf N x)) := ⟨hx, hco⟩
  have HXI : Hid (Hin N 150 w x ∧ x.ok = true ∧ hlB N (ptOf V) x = false) := ⟨HA0.out.l.rd x (List.mem_of_getElem? hx), hco.1, decide_eq_false hco.2.1⟩
  obtain ⟨b, off, hA, hbw, hcc⟩ := HA0.out.l.kons.mem (by omega)
  have HCC : Hid (∀ (j : Nat) y wz, vs[j]? = some y → Below w.heap.size w wz → At5 wz b (off + j * 5) y.v) := fun j y wz hy hz => (hcc j y.v (by rw [List.getElem?_map, hy]; rfl)).keep (hz.block b hbw)
  subst hA
  clear hx hco hcc hbw HR1 hin hrng
  obtain ⟨k0, k1, k2, k3, k4⟩ := HCC.out k x _ HX.out.1 H6w.out
  have HO0 : Hid (OwnC (w6.alloc (.cells #[.int .i64 x.v.s, .slice x.v.A x.v.n x.v.c, .bool x.v.K.s, .slice x.v.K.A x.v.K.n x.v.K.c, .slice x.v.K.B x.v.K.m x.v.K.d] 28)) w6.heap.size (some ⟨w6.heap.size, 0, none⟩) 1 1 [x.v] ∧ Below w6.heap.size w6 (w6.alloc (.cells #[.int .i64 x.v.s, .slice x.v.A x.v.n x.v.c, .bool x.v.K.s, .slice x.v.K.A x.v.K.n x.v.K.c, .slice x.v.K.B x.v.K.m x.v.K.d] 28))) := ⟨OwnC.lit1 w6 x.v, (Below.refl _ _).alloc (Nat.le_refl _) _⟩
  go_upto_region 8 with fail
  clear k0 k1 k2 k3 k4
  obtain ⟨L, hL⟩ : ∃ L, L = w6.heap.size := ⟨_, rfl⟩
  have HO1 : Hid (OwnC (w6.alloc (.cells #[.int .i64 x.v.s, .slice x.v.A x.v.n x.v.c, .bool x.v.K.s, .slice x.v.K.A x.v.K.n x.v.K.c, .slice x.v.K.B x.v.K.m x.v.K.d] 28)) w6.heap.size (some ⟨L, 0, none⟩) 1 1 [x.v] ∧ Below w6.heap.size w6 (w6.alloc (.cells #[.int .i64 x.v.s, .slice x.v.A x.v.n x.v.c, .bool x.v.K.s, .slice x.v.K.A x.v.K.n x.v.K.c, .slice x.v.K.B x.v.K.m x.v.K.d] 28))) := hL ▸ HO0.out
  rw [← hL]
  clear hL HO0
  generalize w6.alloc (.cells #[.int .i64 x.v.s, .slice x.v.A x.v.n x.v.c, .bool x.v.K.s, .slice x.v.K.A x.v.K.n x.v.K.c, .slice x.v.K.B x.v.K.m x.v.K.d] 28) = W7 at *
  go_wp2
  go_loopw [9, 10] (fun bv iv wx => ∃ (i : Nat) (A3 : Option Addr) (c3 q : Nat), i ≤ m ∧ q ≤ i + 1 ∧ iv = .int .i64 i ∧ bv = .slice A3 q c3 ∧ Hid (OwnC wx w6.heap.size A3 c3 q ((x :: (vs.take i).filter (namB N (ptOf V) x.v.s)).map (·.v)) ∧ Below w6.heap.size w6 wx)) (fun _ iv _ => m - (intOf iv).toNat)
  case atStart => exact ⟨0, some ⟨L, 0, none⟩, 1, 1, Nat.zero_le _, by omega, rfl, rfl, HO1⟩
  case round =>
   clear HO1
   obtain ⟨i, A3, c3, q, hi, hqi, rfl, rfl, HO⟩ := hrel
   have i0 : (0 : Int) ≤ (i : Int) := by omega
   by_cases hlt : i < m
   ·
    have i1 : (i : Int) < (m : Int) := by omega
    have hil : i < vs.length := by rw [HLEN.out]; exact hlt
    have hy := List.getElem?_eq_getElem hil
    have HYI := Lib.hid (HA0.out.l.rd _ (List.getElem_mem hil))
    have HTK : Hid (vs.take (i + 1) = vs.take i ++ [vs[i]]) := by show _ = _; rw [List.take_add_one, hy]; rfl
    have HY := Lib.hid hy
    generalize vs[i] = y at *
    have HBW : Hid (Below w.heap.size w wr) := H6w.out.trans (HO.out.2.mono H6w.out.size)
    have HAL : Hid (∀ w', Below wr.heap.size wr w' → (w'.cell? ⟨b, off + i * 5, none⟩ = some (.int .i64 y.v.s) ∧ w'.cell? ⟨b, off + i * 5 + 1, none⟩ = some (.slice y.v.A y.v.n y.v.c) ∧ w'.cell? ⟨b, off + i * 5 + 2, none⟩ = some (.bool y.v.K.s) ∧ w'.cell? ⟨b, off + i * 5 + 3, none⟩ = some (.slice y.v.K.A y.v.K.n y.v.K.c) ∧ w'.cell? ⟨b, off + i * 5 + 4, none⟩ = some (.slice y.v.K.B y.v.K.m y.v.K.d)) ∧ w'.cell? ⟨b, off + k * 5, none⟩ = some (.int .i64 x.v.s)) := fun w' h => by
     have hz := HBW.out.trans (h.mono HBW.out.size)
     obtain ⟨a0, a1, a2, a3, a4⟩ := HCC.out i y _ HY.out hz
     exact ⟨⟨a0, a1, a2, a3, a4⟩, (HCC.out k x _ HX.out.1 hz).h0⟩
    clear hy hil
    have HSK : Hid (namB N (ptOf V) x.v.s y = false → ∀ w', Below wr.heap.size wr w' → OwnC w' w6.heap.size A3 c3 q ((x :: (vs.take (i + 1)).filter (namB N (ptOf V) x.v.s)).map (·.v)) ∧ Below w6.heap.size w6 w') := fun hn w' h => by
     rw [HTK.out, nam_no hn]
     exact ⟨HO.out.1.below h, HO.out.2.trans (h.mono HO.out.2.size)⟩
    obtain ⟨⟨k0, k1, k2, k3, k4⟩, l0⟩ := HAL.out _ (Below.refl _ _)
    cases ho : y.ok with
    |
     false =>
     have HO2 := Lib.hid ho
     clear ho
     go_upto_region 11 with fail
     refine wp_region_held_drew (S := fun w' => (w'.cell? ⟨b, off + i * 5, none⟩ = some (.int .i64 y.v.s) ∧ w'.cell? ⟨b, off + i * 5 + 1, none⟩ = some (.slice y.v.A y.v.n y.v.c) ∧ w'.cell? ⟨b, off + i * 5 + 2, none⟩ = some (.bool y.v.K.s) ∧ w'.cell? ⟨b, off + i * 5 + 3, none⟩ = some (.slice y.v.K.A y.v.K.n y.v.K.c) ∧ w'.cell? ⟨b, off + i * 5 + 4, none⟩ = some (.slice y.v.K.B y.v.K.m y.v.K.d)) ∧ w'.cell? ⟨b, off + k * 5, none⟩ = some (.int .i64 x.v.s)) (by kernel_rfl) ?_ (fun hHeld => ?_)
     ·
      (try dsimp only)
      go_keep
     refine tk (i := 0) (h := ?_)
     try simp only [zR]
     refine tk (i := 1) (h := ?_)
     try simp only [zR]
     refine tk (i := 2) (h := ?_)
     try simp only [zR]
     refine tk (i := 3) (h := ?_)
     try simp only [zR]
     refine tk (i := 4) (h := ?_)
     try simp only [zR]
     refine tr [5] ?_
     refine tc (h := fun K hK => ?_) (hs := tn)
     try go_simp
     go_at_call 26
     have hz := HBW.out.trans ((bel1 wr).mono HBW.out.size)
     refine (rIsH_c 150 N y _ rfl (by omega) _ (HYI.out.below hz) (by omega)).mono ?_
     rintro e y5 ⟨rfl, hb⟩
     rw [HO2.out]
     have P5 : Hid (Below wr.heap.size wr y5) := (bel1 wr).trans hb
     clear hb hz
     clear k0 k1 k2 k3 k4 l0
     obtain ⟨⟨k0, k1, k2, k3, k4⟩, l0⟩ := HAL.out _ P5.out
     try go_wp2_with fail
     refine hK.out _ _ ?_ (fun hHeld => ?_)
     · (try dsimp only); go_keep
     clear hK K
     try simp only [zR]
     refine tk (i := 6) (h := ?_)
     try simp only [zR]
     refine ts (i := 7) (h := ?_)
     try simp only [zR]
     refine ts (i := 8) (h := ?_)
     try simp only [zR]
     refine ts (i := 9) (h := ?_)
     try simp only [zR]
     refine ts (i := 10) (h := ?_)
     try simp only [zR]
     refine ts (i := 11) (h := ?_)
     try simp only [zR]
     refine ts (i := 12) (h := ?_)
     try simp only [zR]
     refine ts (i := 13) (h := ?_)
     try simp only [zR]
     refine ts (i := 14) (h := ?_)
     try simp only [zR]
     refine ts (i := 15) (h := ?_)
     try simp only [zR]
     refine ts (i := 16) (h := ?_)
     try simp only [zR]
     refine ts (i := 17) (h := ?_)
     try simp only [zR]
     refine tk (i := 18) (h := ?_)
     try simp only [zR]
     refine tk (i := 19) (h := ?_)
     try simp only [zR]
     refine ts (i := 20) (h := ?_)
     try simp only [zR]
     refine ts (i := 21) (h := ?_)
     try simp only [zR]
     refine ts (i := 22) (h := ?_)
     try simp only [zR]
     refine ts (i := 23) (h := ?_)
     try simp only [zR]
     refine ts (i := 24) (h := ?_)
     try simp only [zR]
     refine ts (i := 25) (h := ?_)
     try simp only [zR]
     refine tk (i := 26) (h := ?_)
     try simp only [zR]
     refine wpAnyH_done (by kernel_rfl) ?_ _
     clear k0 k1 k2 k3 k4 l0 HAL
     have HNN := Lib.hid (HSK.out (by unfold namB; rw [HO2.out]; rfl) _ P5.out)
     clear HO HSK
     go_wp2
     go_roundw
     case rel => exact ⟨i + 1, A3, c3, q, by omega, by omega, by go_num, rfl, HNN⟩
     case measure => simp [intOf]; omega
    |
     true =>
     have HO2 := Lib.hid ho
     clear ho
     by_cases hle : y.v.s ≤ x.v.s
     ·
      have HLE : Hid (y.v.s ≤ x.v.s) := hle
      go_upto_region 11 with fail
      refine wp_region_held_drew (S := fun w' => (w'.cell? ⟨b, off + i * 5, none⟩ = some (.int .i64 y.v.s) ∧ w'.cell? ⟨b, off + i * 5 + 1, none⟩ = some (.slice y.v.A y.v.n y.v.c) ∧ w'.cell? ⟨b, off + i * 5 + 2, none⟩ = some (.bool y.v.K.s) ∧ w'.cell? ⟨b, off + i * 5 + 3, none⟩ = some (.slice y.v.K.A y.v.K.n y.v.K.c) ∧ w'.cell? ⟨b, off + i * 5 + 4, none⟩ = some (.slice y.v.K.B y.v.K.m y.v.K.d)) ∧ w'.cell? ⟨b, off + k * 5, none⟩ = some (.int .i64 x.v.s)) (by kernel_rfl) ?_ (fun hHeld => ?_)
      ·
       (try dsimp only)
       go_keep
      refine tk (i := 0) (h := ?_)
      try simp only [zR]
      refine tk (i := 1) (h := ?_)
      try simp only [zR]
      refine tk (i := 2) (h := ?_)
      try simp only [zR]
      refine tk (i := 3) (h := ?_)
      try simp only [zR]
      refine tk (i := 4) (h := ?_)
      try simp only [zR]
      refine tr [5] ?_
      refine tc (h := fun K hK => ?_) (hs := tn)
      try go_simp
      go_at_call 26
      have hz := HBW.out.trans ((bel1 wr).mono HBW.out.size)
      refine (rIsH_c 150 N y _ rfl (by omega) _ (HYI.out.below hz) (by omega)).mono ?_
      rintro e y5 ⟨rfl, hb⟩
      rw [HO2.out]
      have P5 : Hid (Below wr.heap.size wr y5) := (bel1 wr).trans hb
      clear hb hz
      clear k0 k1 k2 k3 k4 l0
      obtain ⟨⟨k0, k1, k2, k3, k4⟩, l0⟩ := HAL.out _ P5.out
      try go_wp2_with fail
      refine hK.out _ _ ?_ (fun hHeld => ?_)
      · (try dsimp only); go_keep
      clear hK K
      try simp only [zR]
      refine tk (i := 6) (h := ?_)
      try simp only [zR]
      refine tk (i := 7) (h := ?_)
      try simp only [zR]
      refine tk (i := 8) (h := ?_)
      try simp only [zR]
      refine tk (i := 9) (h := ?_)
      try simp only [zR]
      refine tk (i := 10) (h := ?_)
      try simp only [zR]
      refine tk (i := 11) (h := ?_)
      try simp only [zR]
      refine tk (i := 12) (h := ?_)
      try simp only [zR]
      refine tk (i := 13) (h := ?_)
      try simp only [zR]
      refine tk (i := 14) (h := ?_)
      try simp only [zR]
      refine tk (i := 15) (h := ?_)
      try simp only [zR]
      refine tk (i := 16) (h := ?_)
      try simp only [zR]
      refine tk (i := 17) (h := ?_)
      try simp only [zR]
      refine tk (i := 18) (h := ?_)
      try simp only [zR]
      refine tk (i := 19) (h := ?_)
      try simp only [zR]
      refine tk (i := 20) (h := ?_)
      try simp only [zR]
      refine tk (i := 21) (h := ?_)
      try simp only [zR]
      refine tk (i := 22) (h := ?_)
      try simp only [zR]
      refine tk (i := 23) (h := ?_)
      try simp only [zR]
      refine tk (i := 24) (h := ?_)
      try simp only [zR]
      refine tr [25] ?_
      refine tc (h := fun K hK => ?_) (hs := tn)
      try go_simp
      go_at_call 16
      have hz := HBW.out.trans (P5.out.mono HBW.out.size)
      refine (rHoldsH_c 150 N y Av cv lv V _ (HYI.out.below hz) HO2.out (by omega) (HA0.out.v.below hz)).mono ?_
      rintro e y25 ⟨rfl, hb⟩
      have P25 : Hid (Below wr.heap.size wr y25) := P5.out.trans (hb.mono P5.out.size)
      clear hb hz
      clear k0 k1 k2 k3 k4 l0
      obtain ⟨⟨k0, k1, k2, k3, k4⟩, l0⟩ := HAL.out _ P25.out
      try go_wp2_with fail
      refine hK.out _ _ ?_ (fun hHeld => ?_)
      · (try dsimp only); go_keep
      clear hK K
      try simp only [zR]
      refine tk (i := 26) (h := ?_)
      try simp only [zR]
      refine wpAnyH_done (by kernel_rfl) ?_ _
      cases hh2 : hlB N (ptOf V) y with
      |
       false =>
       have HNN := Lib.hid (HSK.out (by unfold namB; rw [hh2, Bool.and_false, Bool.and_false]) _ P25.out)
       clear hh2 k0 k1 k2 k3 k4 l0 HAL HO HSK
       go_wp2
       go_roundw
       case rel => exact ⟨i + 1, A3, c3, q, by omega, by omega, by go_num, rfl, HNN⟩
       case measure => simp [intOf]; omega
      |
       true =>
       have HBY : Hid (namB N (ptOf V) x.v.s y = true) := by show namB N (ptOf V) x.v.s y = true; unfold namB; rw [hh2, HO2.out, decide_eq_true HLE.out]; rfl
       clear hh2
       have HB7 : Hid (Below w6.heap.size w6 y25) := HO.out.2.trans (P25.out.mono HO.out.2.size)
       have HO7 := Lib.hid ((HO.out.1.below P25.out).below ((Below.refl _ y25).alloc (Nat.le_refl _) (.cells #[.int .i64 y.v.s, .slice y.v.A y.v.n y.v.c, .bool y.v.K.s, .slice y.v.K.A y.v.K.n y.v.K.c, .slice y.v.K.B y.v.K.m y.v.K.d] 28)))
       go_wp2_with (at_builtin; refine wpc_appends rfl _ _ rfl rfl rfl (lo := w6.heap.size) (k := [y.v]) HO7.out (kons_new _ y.v) (by omega) (by have := HB7.out.size; simp; omega) ?_)
       intro A6 c6 z6 hown hgrow
       have HNN : Hid (OwnC z6 w6.heap.size A6 c6 (q + 1) ((x :: (vs.take (i + 1)).filter (namB N (ptOf V) x.v.s)).map (·.v)) ∧ Below w6.heap.size w6 z6) := by
        have hb1 : Below w6.heap.size w6 (y25.alloc (.cells #[.int .i64 y.v.s, .slice y.v.A y.v.n y.v.c, .bool y.v.K.s, .slice y.v.K.A y.v.K.n y.v.K.c, .slice y.v.K.B y.v.K.m y.v.K.d] 28)) := HB7.out.alloc HB7.out.size _
        refine ⟨?_, hb1.grown hgrow hb1.size fun k hk => ?_⟩
        ·
         rw [HTK.out, nam_yes HBY.out, ← List.cons_append, List.map_append]
         exact hown
        ·
         cases A3 with
         | none => simp at hk
         | some ad => simp at hk; subst hk; exact (HO7.out.lt ad rfl).1
       clear hown hgrow k0 k1 k2 k3 k4 l0 HAL HO HO7 HSK
       go_wp2
       go_roundw
       case rel => exact ⟨i + 1, A6, c6, q + 1, by omega, by omega, by go_num, rfl, HNN⟩
       case measure => simp [intOf]; omega
     ·
      have HLE : Hid (¬ y.v.s ≤ x.v.s) := hle
      go_upto_region 11 with fail
      refine wp_region_held_drew (S := fun w' => (w'.cell? ⟨b, off + i * 5, none⟩ = some (.int .i64 y.v.s) ∧ w'.cell? ⟨b, off + i * 5 + 1, none⟩ = some (.slice y.v.A y.v.n y.v.c) ∧ w'.cell? ⟨b, off + i * 5 + 2, none⟩ = some (.bool y.v.K.s) ∧ w'.cell? ⟨b, off + i * 5 + 3, none⟩ = some (.slice y.v.K.A y.v.K.n y.v.K.c) ∧ w'.cell? ⟨b, off + i * 5 + 4, none⟩ = some (.slice y.v.K.B y.v.K.m y.v.K.d)) ∧ w'.cell? ⟨b, off + k * 5, none⟩ = some (.int .i64 x.v.s)) (by kernel_rfl) ?_ (fun hHeld => ?_)
      ·
       (try dsimp only)
       go_keep
      refine tk (i := 0) (h := ?_)
      try simp only [zR]
      refine tk (i := 1) (h := ?_)
      try simp only [zR]
      refine tk (i := 2) (h := ?_)
      try simp only [zR]
      refine tk (i := 3) (h := ?_)
      try simp only [zR]
      refine tk (i := 4) (h := ?_)
      try simp only [zR]
      refine tr [5] ?_
      refine tc (h := fun K hK => ?_) (hs := tn)
      try go_simp
      go_at_call 26
      have hz := HBW.out.trans ((bel1 wr).mono HBW.out.size)
      refine (rIsH_c 150 N y _ rfl (by omega) _ (HYI.out.below hz) (by omega)).mono ?_
      rintro e y5 ⟨rfl, hb⟩
      rw [HO2.out]
      have P5 : Hid (Below wr.heap.size wr y5) := (bel1 wr).trans hb
      clear hb hz
      clear k0 k1 k2 k3 k4 l0
      obtain ⟨⟨k0, k1, k2, k3, k4⟩, l0⟩ := HAL.out _ P5.out
      try go_wp2_with fail
      refine hK.out _ _ ?_ (fun hHeld => ?_)
      · (try dsimp only); go_keep
      clear hK K
      try simp only [zR]
      have hled : decide (y.v.s ≤ x.v.s) = false := decide_eq_false (by have := HLE.out; omega)
      refine tk (i := 6) (h := ?_)
      try simp only [zR]
      refine tk (i := 7) (h := ?_)
      try simp only [zR]
      refine tk (i := 8) (h := ?_)
      try simp only [zR]
      refine tk (i := 9) (h := ?_)
      try simp only [zR]
      refine tk (i := 10) (h := ?_)
      try simp only [zR]
      refine tk (i := 11) (h := ?_)
      try simp only [zR]
      refine tk (i := 12) (h := ?_)
      try simp only [zR]
      refine tk (i := 13) (h := ?_)
      try simp only [zR]
      refine tk (i := 14) (h := ?_)
      try simp only [zR]
      refine tk (i := 15) (h := ?_)
      try simp only [zR]
      refine tk (i := 16) (h := ?_)
      try simp only [zR]
      refine tk (i := 17) (h := ?_)
      try simp only [zR]
      refine tk (i := 18) (h := ?_)
      try simp only [zR]
      refine tk (i := 19) (h := ?_)
      try simp only [zR]
      refine ts (i := 20) (h := ?_)
      try simp only [zR]
      refine ts (i := 21) (h := ?_)
      try simp only [zR]
      refine ts (i := 22) (h := ?_)
      try simp only [zR]
      refine ts (i := 23) (h := ?_)
      try simp only [zR]
      refine ts (i := 24) (h := ?_)
      try simp only [zR]
      refine ts (i := 25) (h := ?_)
      try simp only [zR]
      refine tk (i := 26) (h := ?_)
      try simp only [zR]
      refine wpAnyH_done (by kernel_rfl) ?_ _
      clear k0 k1 k2 k3 k4 l0 HAL hled
      have HNN := Lib.hid (HSK.out (by unfold namB; rw [decide_eq_false (by have := HLE.out; omega), Bool.false_and, Bool.and_false]) _ P5.out)
      clear HO HSK
      go_wp2
      go_roundw
      case rel => exact ⟨i + 1, A3, c3, q, by omega, by omega, by go_num, rfl, HNN⟩
      case measure => simp [intOf]; omega
   ·
    have i1 : ¬ (i : Int) < (m : Int) := by omega
    obtain rfl : i = m := by omega
    have HKN : Hid (Kns N 150 wr A3 q (x :: vs.filter (namB N (ptOf V) x.v.s)) ∧ Below w.heap.size w wr) := by
     have h1 := HO.out
     rw [List.take_of_length_le (by rw [HLEN.out]; exact Nat.le_refl _)] at h1
     have h2 := H6w.out.trans (h1.2.mono H6w.out.size)
     refine ⟨⟨h1.1.kons, fun z hz => ?_⟩, h2⟩
     rcases List.mem_cons.1 hz with rfl | hz
     · exact (HXI.out.1.below h2).kin
     · exact ((HA0.out.l.rd z (List.mem_filter.1 hz).1).below h2).kin
    clear HO
    obtain ⟨k0, k1, k2, k3, k4⟩ := HCC.out k x _ HX.out.1 HKN.out.2
    go_wp2_with fail
    refine (rIsH_c 150 N x _ rfl (by omega) wr (HXI.out.1.below HKN.out.2) (by omega)).mono ?_
    rintro e z1 ⟨rfl, hb⟩
    rw [HXI.out.2.1]
    have HZ1 : Hid (Below wr.heap.size wr z1 ∧ Below w.heap.size w z1) := ⟨hb, HKN.out.2.trans (hb.mono HKN.out.2.size)⟩
    clear hb k0 k1 k2 k3 k4
    obtain ⟨k0, k1, k2, k3, k4⟩ := HCC.out k x _ HX.out.1 HZ1.out.2
    go_wp2_with fail
    refine (rHoldsH_c 150 N x Av cv lv V z1 (HXI.out.1.below HZ1.out.2) HXI.out.2.1 (by omega) (HA0.out.v.below HZ1.out.2)).mono ?_
    rintro e z2 ⟨rfl, hb⟩
    rw [HXI.out.2.2]
    have HZ2 : Hid (Below wr.heap.size wr z2 ∧ Below w.heap.size w z2) := ⟨HZ1.out.1.trans (hb.mono HZ1.out.1.size), HZ1.out.2.trans (hb.mono HZ1.out.2.size)⟩
    clear hb k0 k1 k2 k3 k4 HZ1
    go_wp2_with fail
    refine (dConsistent_c (N : Int) N A3 q c3 (x :: vs.filter (namB N (ptOf V) x.v.s)) z2 (by omega) (HKN.out.1.below HZ2.out.1) (by omega) (by omega)).mono ?_
    rintro e z3 ⟨bb, rfl, hbb, hb⟩
    obtain rfl : bb = true := hbb.2 (nam_sat HX.out.2)
    have HZ3 : Hid (Below w.heap.size w z3) := HZ2.out.2.trans (hb.mono HZ2.out.2.size)
    clear hbb hb HZ2 HKN
    go_wp2_with fail
    refine (known12_c z3).mono ?_
    rintro e z4 ⟨rfl, hb⟩
    have HZ4 : Hid (Below w.heap.size w z4) := HZ3.out.trans (hb.mono HZ3.out.size)
    clear hb
    go_wp2
    go_ret
    exact ⟨rfl, HZ4.out⟩
 ·
  have HAY := Lib.hid (HA.out.below H6.out)
  have hrn : r < (m : Int) + (N : Int) := by omega
  have REST : Hid (Calls Tryz.prog 36 #[.slice A m c, .slice Ab nb cb, .slice Av N cv] w6 (BeatPost N (ptOf V) (allS N vs B) w6)) := rBeaten_c N A Ab Av m c nb cb cv vs lb lv B V w6 HAY.out.l (by omega) (by omega) HAY.out.b HAY.out.bd (by have := HAY.out.nb; omega) HAY.out.v
  by_cases hneg : r < 0
  ·
   go_wp2_with fail
   refine REST.out.mono ?_
   rintro e w7 ⟨r2, rfl, hr, hb⟩
   obtain rfl : r = r2 := HR1.out.same hr
   have H7 : Hid (Below w.heap.size w w7) := H6w.out.trans (hb.mono H6w.out.size)
   have err : (r == r) = true := by simp
   clear hr hb HAY REST hin hrng
   go_wp2_with fail
   refine (known12_c w7).mono ?_
   rintro e w8 ⟨rfl, hb⟩
   have H8 : Hid (Below w.heap.size w w8) := H7.out.trans (hb.mono H7.out.size)
   clear hb
   go_wp2
   go_ret
   exact ⟨rfl, H8.out⟩
  ·
   have hge : (m : Int) ≤ r := by omega
   go_wp2_with fail
   refine REST.out.mono ?_
   rintro e w7 ⟨r2, rfl, hr, hb⟩
   obtain rfl : r = r2 := HR1.out.same hr
   have H7 : Hid (Below w.heap.size w w7) := H6w.out.trans (hb.mono H6w.out.size)
   have err : (r == r) = true := by simp
   clear hr hb HAY REST hin hrng
   go_wp2_with fail
   refine (known12_c w7).mono ?_
   rintro e w8 ⟨rfl, hb⟩
   have H8 : Hid (Below w.heap.size w w8) := H7.out.trans (hb.mono H7.out.size)
   clear hb
   go_wp2
   go_ret
   exact ⟨rfl, H8.out⟩
end Go.Proofs.YtgffkaconhonlaaGreat
