/-
  HierBest: values that are not beaten are beaten by no others.
-/
import Derived.Test.YtgffkaconhonlaaGreatQHrQ
import Derived.Test.YtgffkaconhonlaaGreatQHrK
import Derived.Test.YtgffkaconhonlaaGreatQManL
import Derived.Test.YtgffkaconhonlaaGreatQOpenM
import Derived.Deep.Cut
import Derived.Test.YtgffkaconhonlaaGreatQRgn
namespace Go.Proofs.YtgffkaconhonlaaGreat
set_option maxRecDepth 20000
open Go.RowKit
theorem room6 {N : Nat} (h : N ≤ 6) : RoomD 150 6 N := by
 refine ⟨by omega, by omega, by omega, ?_⟩
 have h1 : 2 ^ N ≤ 2 ^ 6 := Nat.pow_le_pow_right (by omega) h
 have := Nat.mul_le_mul (Nat.le_refl (150 * (6 + 1) + 1)) h1
 omega
structure HArg (N : Nat) (w : World) (A Ab Av : Option Addr) (m nb : Nat) (vs : List Kin) (lb lv : List Rv) (B V : List Rat) : Prop where
 l : Hns N 150 w A m vs
 m75 : m ≤ 75
 b : Nums w Ab nb lb
 bd : RdV w 4 lb B
 nb : nb ≤ 100
 v : Vin N w Av lv V
theorem HArg.below {N : Nat} {w w' : World} {A Ab Av : Option Addr} {m nb : Nat} {vs : List Kin} {lb lv : List Rv} {B V : List Rat} (h : HArg N w A Ab Av m nb vs lb lv B V) (hb : Below w.heap.size w w') : HArg N w' A Ab Av m nb vs lb lv B V :=
 ⟨h.l.below hb, h.m75, h.b.below hb, RdV.below hb h.bd, h.nb, h.v.below hb⟩
set_option maxHeartbeats 25600000 in
theorem HierBest_any (A Ab Av Ao : Option Addr) (m c nb cb N cv no co : Nat) (ps : List (Cv × List Tv)) (lb lv lo : List Rv) (w : World) (hk : Kons w A m (ps.map (·.1))) (hf : ∀ x ∈ ps, Raw w x.1 x.2) (hm : m ≤ 1048576)
  (hbv : Nums w Ab nb lb) (hrb : ∀ x ∈ lb, RdR w x ∧ x.n ≤ 1048576 ∧ x.m ≤ 1048576) (hnb : nb ≤ 1048576) (hnv : Nums w Av N lv) (hrv : ∀ x ∈ lv, RdR w x ∧ x.n ≤ 1048576 ∧ x.m ≤ 1048576) (hN : N ≤ 1048576) (hov : Nums w Ao no lo) (hro : ∀ x ∈ lo, RdR w x ∧ x.n ≤ 1048576 ∧ x.m ≤ 1048576) (hno : no ≤ 1048576) :
  Calls Tryz.prog 7 #[.slice A m c, .slice Ab nb cb, .slice Av N cv, .slice Ao no co] w fun e w' => e = .returned (.bool true) ∧ Below w.heap.size w w' := by
 have HK := Lib.hid (And.intro hk hf)
 have HNB := Lib.hid (And.intro hbv hrb)
 have HNV := Lib.hid (And.intro hnv hrv)
 have HNO := Lib.hid (And.intro hov hro)
 have no0 : (0 : Int) ≤ (no : Int) := by omega
 have no1 : (no : Int) ≤ 1048576 := by omega
 have m0 : (0 : Int) ≤ (m : Int) := by omega
 have N0 : (0 : Int) ≤ (N : Int) := by omega
 have N1' : (N : Int) ≤ 1048576 := by omega
 clear hk hf hbv hrb hnv hrv hov hro
 go_enter Tryz.func7, Tryz.ntmps7
 go_wp2_with fail
 refine (heavyG_c A m c ps w HK.out.1 (fun x hx => (HK.out.2 x hx).fit) hm).mono ?_
 rintro e w1 ⟨r, rfl, hr, hb⟩
 have HR := Lib.hid hr
 have H1 : Hid (Below w.heap.size w w1) := hb
 clear hr hb
 cases r with
 |
  true =>
  go_wp2
  go_ret
  exact ⟨rfl, H1.out⟩
 | false =>
 go_wp2_with fail
 refine (many_c Ab nb cb lb w1 (HNB.out.1.below H1.out) hnb (fun x hx => ⟨(HNB.out.2 x hx).2.1, (HNB.out.2 x hx).2.2⟩)).mono ?_
 rintro e w2 ⟨r, rfl, hr, hb⟩
 have HRB : Hid (r = false → nb ≤ 100 ∧ ∀ x ∈ lb, x.n ≤ 3 ∧ x.m ≤ 3) := hr
 have H2 : Hid (Below w.heap.size w w2) := H1.out.trans (hb.mono H1.out.size)
 clear hr hb H1
 cases r with
 |
  true =>
  go_wp2
  go_ret
  exact ⟨rfl, H2.out⟩
 | false =>
 go_wp2_with fail
 refine (many_c Av N cv lv w2 (HNV.out.1.below H2.out) hN (fun x hx => ⟨(HNV.out.2 x hx).2.1, (HNV.out.2 x hx).2.2⟩)).mono ?_
 rintro e w3 ⟨r, rfl, hr, hb⟩
 have HRM : Hid (r = false → N ≤ 100 ∧ ∀ x ∈ lv, x.n ≤ 3 ∧ x.m ≤ 3) := hr
 have H3 : Hid (Below w.heap.size w w3) := H2.out.trans (hb.mono H2.out.size)
 clear hr hb H2
 cases r with
 |
  true =>
  go_wp2
  go_ret
  exact ⟨rfl, H3.out⟩
 | false =>
 go_wp2_with fail
 refine (many_c Ao no co lo w3 (HNO.out.1.below H3.out) hno (fun x hx => ⟨(HNO.out.2 x hx).2.1, (HNO.out.2 x hx).2.2⟩)).mono ?_
 rintro e w4 ⟨r, rfl, hr, hb⟩
 have HRO : Hid (r = false → no ≤ 100 ∧ ∀ x ∈ lo, x.n ≤ 3 ∧ x.m ≤ 3) := hr
 have H4 : Hid (Below w.heap.size w w4) := H3.out.trans (hb.mono H3.out.size)
 clear hr hb H3
 cases r with
 |
  true =>
  go_wp2
  go_ret
  exact ⟨rfl, H4.out⟩
 | false =>
 by_cases hn6 : (6 : Int) < (N : Int)
 ·
  go_wp2
  go_ret
  exact ⟨rfl, H4.out⟩
 by_cases hm8 : (8 : Int) < (m : Int)
 ·
  go_wp2
  go_ret
  exact ⟨rfl, H4.out⟩
 by_cases hon : ((no : Int) != (N : Int)) = true
 ·
  go_wp2
  go_ret
  exact ⟨rfl, H4.out⟩
 have hN6 : N ≤ 6 := by omega
 have hm8' : m ≤ 8 := by omega
 have hon' : no = N := by
  have h1 : ((no : Int) != (N : Int)) = false := by simpa using hon
  have h2 : (no : Int) = (N : Int) := by simpa using h1
  omega
 subst hon'
 have honb : ((no : Int) != (no : Int)) = false := by simp
 obtain ⟨hm75, vs, hvs, hkn⟩ := hns_of no HK.out.1 HK.out.2 (HR.out (by trivial))
 obtain ⟨V, hV⟩ := rdv_ex (p := 3) lv fun x hx => ⟨(HNV.out.2 x hx).1, (HRM.out (by trivial)).2 x hx⟩
 obtain ⟨B, hB⟩ := rdv_ex (p := 3) lb fun x hx => ⟨(HNB.out.2 x hx).1, (HRB.out (by trivial)).2 x hx⟩
 obtain ⟨O, hO⟩ := rdv_ex (p := 3) lo fun x hx => ⟨(HNO.out.2 x hx).1, (HRO.out (by trivial)).2 x hx⟩
 have HA0 : Hid (HArg no w A Ab Av m nb vs lb lv B V) := ⟨hkn, hm75, HNB.out.1, RdV.more (by omega) hB, (HRB.out (by trivial)).1, ⟨HNV.out.1, RdV.more (by omega) hV, by omega⟩⟩
 have HO0 : Hid (Vin no w Ao lo O) := ⟨HNO.out.1, RdV.more (by omega) hO, by omega⟩
 have HA : Hid (HArg no w4 A Ab Av m nb vs lb lv B V) := HA0.out.below H4.out
 have m2 : (m : Int) ≤ 8 := by omega
 have n6' : (no : Int) ≤ 6 := by omega
 have HLEN : Hid (vs.length = m) := hkn.len
 clear hV hB hO hvs hkn HR HRM HRB HRO HK HNV HNB HNO hm hN hnb hm75 hon hno
 go_wp2_with fail
 refine (Beaten_c 150 6 no A Ab Av m c nb cb cv vs lb lv B V w4 HA.out.l (by omega) (by omega) (by omega) (by omega) HA.out.b HA.out.bd (by have := HA.out.nb; omega) HA.out.v (room6 hN6) (fun y hy hyo => Nat.le_trans (HA.out.l.lens y hy hyo) hN6) (by omega)).mono ?_
 rintro e w6 ⟨r, rfl, hr, hb⟩
 have HR1 := Lib.hid hr
 have H6 : Hid (Below w4.heap.size w4 w6) := hb
 have H6w : Hid (Below w.heap.size w w6) := H4.out.trans (hb.mono H4.out.size)
 clear hr hb
 by_cases hr0 : 0 ≤ r
 ·
  have HAY := Lib.hid (HA.out.below H6.out)
  go_wp2_with fail
  refine (rBeaten_c no A Ab Av m c nb cb cv vs lb lv B V w6 HAY.out.l (by omega) (by omega) HAY.out.b HAY.out.bd (by have := HAY.out.nb; omega) HAY.out.v).mono ?_
  rintro e w7 ⟨r2, rfl, hr, hb⟩
  obtain rfl : r = r2 := HR1.out.same hr
  have H7 : Hid (Below w.heap.size w w7) := H6w.out.trans (hb.mono H6w.out.size)
  clear hr hb HAY
  go_wp2_with fail
  refine (known12_c w7).mono ?_
  rintro e w8 ⟨rfl, hb⟩
  have H8 : Hid (Below w.heap.size w w8) := H7.out.trans (hb.mono H7.out.size)
  clear hb
  go_wp2
  go_ret
  exact ⟨rfl, H8.out⟩
 ·
  have HNO : Hid (∀ c ∈ allS no vs B, ¬ Could no (ptOf V) (allS no vs B) c) := by
   rcases HR1.out with ⟨_, h⟩ | ⟨i, _, h, _⟩
   · exact h
   · omega
  clear HR1
  go_wp2
  go_loopw [10, 11, 12, 13, 14] (fun sv _ _ _ _ wr => ∃ s : Nat, s ≤ 4 ∧ sv = .int .i64 s ∧ Hid (Below w.heap.size w wr)) (fun sv _ _ _ _ _ => 4 - (intOf sv).toNat)
  case atStart => exact ⟨0, by omega, rfl, H6w⟩
  case round =>
   obtain ⟨s, hs, rfl, HBR⟩ := hrel
   have s0 : (0 : Int) ≤ (s : Int) := by omega
   by_cases hlt : s < 4
   ·
    have s1 : (s : Int) ≤ 3 := by omega
    go_wp2
    go_loopw [11, 12, 13, 14] (fun mv iv _ _ wx => ∃ (i : Nat) (mo : Bool), i ≤ m ∧ iv = .int .i64 i ∧ mv = .bool mo ∧ Hid (Below w.heap.size w wx ∧ (mo = true → ∃ x ∈ vs, x.ok = true ∧ x.v.s ≤ (s : Int) ∧ hlB no (ptOf O) x = true ∧ hlB no (ptOf V) x = false) ∧ ∀ j x, j < i → vs[j]? = some x → x.ok = true → x.v.s ≤ (s : Int) → hlB no (ptOf V) x = true → hlB no (ptOf O) x = true)) (fun _ iv _ _ _ => m - (intOf iv).toNat)
    case atStart => exact ⟨0, false, Nat.zero_le _, rfl, rfl, Lib.hid ⟨HBR.out, (fun h => by cases h), fun j x hj => absurd hj (Nat.not_lt_zero _)⟩⟩
    case round =>
     clear HBR
     obtain ⟨i, mo, hi, rfl, rfl, HM⟩ := hrel
     have i0 : (0 : Int) ≤ (i : Int) := by omega
     by_cases hlt2 : i < m
     ·
      have i1 : (i : Int) < (m : Int) := by omega
      have hil : i < vs.length := by rw [HLEN.out]; exact hlt2
      obtain ⟨b, off, hA, hbw, hcc⟩ := HA0.out.l.kons.mem (by omega)
      have hx := List.getElem?_eq_getElem hil
      have HXI := Lib.hid (And.intro (HA0.out.l.rd _ (List.getElem_mem hil)) (List.getElem_mem hil))
      have h5 := hcc i _ (show (vs.map (·.v))[i]? = some vs[i].v by rw [List.getElem?_map, hx]; rfl)
      have HX := Lib.hid hx
      generalize vs[i] = x at *
      have H5 : Hid (∀ wz, Below w.heap.size w wz → At5 wz b (off + i * 5) x.v) := fun wz hz => h5.keep (hz.block b hbw)
      obtain ⟨k0, k1, k2, k3, k4⟩ := H5.out _ HM.out.1
      clear hx hcc hbw h5 hil
      subst hA
      have HSK : Hid (¬ (x.ok = true ∧ x.v.s ≤ (s : Int)) → ∀ w', Below w.heap.size w w' → Below w.heap.size w w' ∧ (mo = true → ∃ x ∈ vs, x.ok = true ∧ x.v.s ≤ (s : Int) ∧ hlB no (ptOf O) x = true ∧ hlB no (ptOf V) x = false) ∧ ∀ j x, j < i + 1 → vs[j]? = some x → x.ok = true → x.v.s ≤ (s : Int) → hlB no (ptOf V) x = true → hlB no (ptOf O) x = true) := fun hno w' hw => ⟨hw, HM.out.2.1, fun j y hj hy ho hys hv => by
       by_cases e : j = i
       ·
        subst e
        rw [HX.out] at hy
        injection hy with hy
        subst hy
        exact absurd ⟨ho, hys⟩ hno
       · exact HM.out.2.2 j y (by omega) hy ho hys hv⟩
      by_cases hgt : (s : Int) < x.v.s
      ·
       have HN := Lib.hid (HSK.out (fun h => by have := h.2; omega) _ HM.out.1)
       clear HSK HM
       go_wp2
       clear k0 k1 k2 k3 k4 hgt
       go_roundw
       case rel => exact ⟨i + 1, mo, by omega, by go_num, rfl, HN⟩
       case measure => simp [intOf]; omega
      ·
       have hle : x.v.s ≤ (s : Int) := by omega
       have HLE := Lib.hid hle
       clear hle
       go_wp2_with fail
       refine (rIsH_c 150 no x _ rfl (by omega) wr (HXI.out.1.below HM.out.1) (by omega)).mono ?_
       rintro e z4 ⟨rfl, hb⟩
       have H4z : Hid (Below w.heap.size w z4) := HM.out.1.trans (hb.mono HM.out.1.size)
       clear hb k0 k1 k2 k3 k4
       cases ho : x.ok with
       |
        false =>
        have HN := Lib.hid (HSK.out (fun h => by rw [ho] at h; cases h.1) _ H4z.out)
        clear HSK HM ho
        go_wp2
        clear hgt
        go_roundw
        case rel => exact ⟨i + 1, mo, by omega, by go_num, rfl, HN⟩
        case measure => simp [intOf]; omega
       |
        true =>
        have HO := Lib.hid ho
        clear ho HSK hgt
        have HAL : Hid (∀ w', Below z4.heap.size z4 w' → w'.cell? ⟨b, off + i * 5, none⟩ = some (.int .i64 x.v.s) ∧ w'.cell? ⟨b, off + i * 5 + 1, none⟩ = some (.slice x.v.A x.v.n x.v.c) ∧ w'.cell? ⟨b, off + i * 5 + 2, none⟩ = some (.bool x.v.K.s) ∧ w'.cell? ⟨b, off + i * 5 + 3, none⟩ = some (.slice x.v.K.A x.v.K.n x.v.K.c) ∧ w'.cell? ⟨b, off + i * 5 + 4, none⟩ = some (.slice x.v.K.B x.v.K.m x.v.K.d)) := fun w' h => by
         obtain ⟨a0, a1, a2, a3, a4⟩ := H5.out _ (H4z.out.trans (h.mono H4z.out.size))
         exact ⟨a0, a1, a2, a3, a4⟩
        obtain ⟨k0, k1, k2, k3, k4⟩ := HAL.out _ (Below.refl _ _)
        have HM2 : Hid ((mo = true → ∃ x ∈ vs, x.ok = true ∧ x.v.s ≤ (s : Int) ∧ hlB no (ptOf O) x = true ∧ hlB no (ptOf V) x = false) ∧ ∀ j x, j < i → vs[j]? = some x → x.ok = true → x.v.s ≤ (s : Int) → hlB no (ptOf V) x = true → hlB no (ptOf O) x = true) := HM.out.2
        clear HM
        go_upto_region 14 with fail
        refine wp_region_held_drew (S := fun w' => w'.cell? ⟨b, off + i * 5, none⟩ = some (.int .i64 x.v.s) ∧ w'.cell? ⟨b, off + i * 5 + 1, none⟩ = some (.slice x.v.A x.v.n x.v.c) ∧ w'.cell? ⟨b, off + i * 5 + 2, none⟩ = some (.bool x.v.K.s) ∧ w'.cell? ⟨b, off + i * 5 + 3, none⟩ = some (.slice x.v.K.A x.v.K.n x.v.K.c) ∧ w'.cell? ⟨b, off + i * 5 + 4, none⟩ = some (.slice x.v.K.B x.v.K.m x.v.K.d)) (by kernel_rfl) ?_ (fun hHeld => ?_)
        ·
         (try dsimp only)
         go_keep
        refine tk (i := 0) (h := ?_)
        try simp only [zR]
        refine tk (i := 1) (h := ?_)
        try simp only [zR]
        refine tk (i := 2) (h := ?_)
        try simp only [zR]
        refine tk (i := 3) (h := ?_)
        try simp only [zR]
        refine tk (i := 4) (h := ?_)
        try simp only [zR]
        refine tk (i := 6) (h := ?_)
        try simp only [zR]
        refine tk (i := 7) (h := ?_)
        try simp only [zR]
        refine tk (i := 8) (h := ?_)
        try simp only [zR]
        refine tk (i := 9) (h := ?_)
        try simp only [zR]
        refine tk (i := 10) (h := ?_)
        try simp only [zR]
        refine tr [5] ?_
        refine tc (h := fun K hK => ?_) (hs := tn)
        try go_simp
        go_at_call 16
        have hz := H4z.out.trans ((bel1 z4).mono H4z.out.size)
        refine (rHoldsH_c 150 no x Av cv lv V _ (HXI.out.1.below hz) HO.out (by omega) (HA0.out.v.below hz)).mono ?_
        rintro e y5 ⟨rfl, hb⟩
        have P5 : Hid (Below z4.heap.size z4 y5) := (bel1 z4).trans hb
        clear hb hz
        clear k0 k1 k2 k3 k4
        obtain ⟨k0, k1, k2, k3, k4⟩ := HAL.out _ P5.out
        try go_wp2_with fail
        refine hK.out _ _ ?_ (fun hHeld => ?_)
        · (try dsimp only); go_keep
        clear hK K
        try simp only [zR]
        refine tr [11] ?_
        refine tc (h := fun K hK => ?_) (hs := tn)
        try go_simp
        go_at_call 16
        have hz := H4z.out.trans (P5.out.mono H4z.out.size)
        refine (rHoldsH_c 150 no x Ao co lo O _ (HXI.out.1.below hz) HO.out (by omega) (HO0.out.below hz)).mono ?_
        rintro e y11 ⟨rfl, hb⟩
        have P11 : Hid (Below z4.heap.size z4 y11) := P5.out.trans (hb.mono P5.out.size)
        clear hb hz
        clear k0 k1 k2 k3 k4
        obtain ⟨k0, k1, k2, k3, k4⟩ := HAL.out _ P11.out
        try go_wp2_with fail
        refine hK.out _ _ ?_ (fun hHeld => ?_)
        · (try dsimp only); go_keep
        clear hK K
        try simp only [zR]
        refine tk (i := 12) (h := ?_)
        try simp only [zR]
        refine tk (i := 13) (h := ?_)
        try simp only [zR]
        refine wpAnyH_done (by kernel_rfl) ?_ _
        clear k0 k1 k2 k3 k4 HAL
        have HZ : Hid (Below w.heap.size w y11) := H4z.out.trans (P11.out.mono H4z.out.size)
        cases h1 : hlB no (ptOf V) x with
        |
         true =>
         cases h2 : hlB no (ptOf O) x with
         |
          false =>
          clear h1 h2 HM2
          go_wp2_with fail
          refine (known12_c _).mono ?_
          rintro e w8 ⟨rfl, hb⟩
          have H8 : Hid (Below w.heap.size w w8) := HZ.out.trans (hb.mono HZ.out.size)
          clear hb
          go_wp2
          go_ret
          exact ⟨rfl, H8.out⟩
         |
          true =>
          cases mo with
          |
           true =>
           have HN : Hid (Below w.heap.size w y11 ∧ (true = true → ∃ x ∈ vs, x.ok = true ∧ x.v.s ≤ (s : Int) ∧ hlB no (ptOf O) x = true ∧ hlB no (ptOf V) x = false) ∧ ∀ j x, j < i + 1 → vs[j]? = some x → x.ok = true → x.v.s ≤ (s : Int) → hlB no (ptOf V) x = true → hlB no (ptOf O) x = true) := ⟨HZ.out, fun _ => HM2.out.1 rfl, fun j y hj hy hyo hys hv => by
            by_cases e : j = i
            ·
             subst e
             rw [HX.out] at hy
             injection hy with hy
             subst hy
             first | exact h2 | (rw [h1] at hv; cases hv)
            · exact HM2.out.2 j y (by omega) hy hyo hys hv⟩
           clear HM2 h1 h2
           go_wp2
           go_roundw
           case rel => exact ⟨i + 1, true, by omega, by go_num, rfl, HN⟩
           case measure => simp [intOf]; omega
          |
           false =>
           have HN : Hid (Below w.heap.size w y11 ∧ (false = true → ∃ x ∈ vs, x.ok = true ∧ x.v.s ≤ (s : Int) ∧ hlB no (ptOf O) x = true ∧ hlB no (ptOf V) x = false) ∧ ∀ j x, j < i + 1 → vs[j]? = some x → x.ok = true → x.v.s ≤ (s : Int) → hlB no (ptOf V) x = true → hlB no (ptOf O) x = true) := ⟨HZ.out, (fun h => by cases h), fun j y hj hy hyo hys hv => by
            by_cases e : j = i
            ·
             subst e
             rw [HX.out] at hy
             injection hy with hy
             subst hy
             first | exact h2 | (rw [h1] at hv; cases hv)
            · exact HM2.out.2 j y (by omega) hy hyo hys hv⟩
           clear HM2 h1 h2
           go_wp2
           go_roundw
           case rel => exact ⟨i + 1, false, by omega, by go_num, rfl, HN⟩
           case measure => simp [intOf]; omega
        |
         false =>
         cases h2 : hlB no (ptOf O) x with
         |
          true =>
          cases mo with
          |
           true =>
           have HN : Hid (Below w.heap.size w y11 ∧ (true = true → ∃ x ∈ vs, x.ok = true ∧ x.v.s ≤ (s : Int) ∧ hlB no (ptOf O) x = true ∧ hlB no (ptOf V) x = false) ∧ ∀ j x, j < i + 1 → vs[j]? = some x → x.ok = true → x.v.s ≤ (s : Int) → hlB no (ptOf V) x = true → hlB no (ptOf O) x = true) := ⟨HZ.out, fun _ => ⟨x, HXI.out.2, HO.out, HLE.out, h2, h1⟩, fun j y hj hy hyo hys hv => by
            by_cases e : j = i
            ·
             subst e
             rw [HX.out] at hy
             injection hy with hy
             subst hy
             first | exact h2 | (rw [h1] at hv; cases hv)
            · exact HM2.out.2 j y (by omega) hy hyo hys hv⟩
           clear HM2 h1 h2
           go_wp2
           go_roundw
           case rel => exact ⟨i + 1, true, by omega, by go_num, rfl, HN⟩
           case measure => simp [intOf]; omega
          |
           false =>
           have HN : Hid (Below w.heap.size w y11 ∧ (true = true → ∃ x ∈ vs, x.ok = true ∧ x.v.s ≤ (s : Int) ∧ hlB no (ptOf O) x = true ∧ hlB no (ptOf V) x = false) ∧ ∀ j x, j < i + 1 → vs[j]? = some x → x.ok = true → x.v.s ≤ (s : Int) → hlB no (ptOf V) x = true → hlB no (ptOf O) x = true) := ⟨HZ.out, fun _ => ⟨x, HXI.out.2, HO.out, HLE.out, h2, h1⟩, fun j y hj hy hyo hys hv => by
            by_cases e : j = i
            ·
             subst e
             rw [HX.out] at hy
             injection hy with hy
             subst hy
             first | exact h2 | (rw [h1] at hv; cases hv)
            · exact HM2.out.2 j y (by omega) hy hyo hys hv⟩
           clear HM2 h1 h2
           go_wp2
           go_roundw
           case rel => exact ⟨i + 1, true, by omega, by go_num, rfl, HN⟩
           case measure => simp [intOf]; omega
         |
          false =>
          cases mo with
          |
           true =>
           have HN : Hid (Below w.heap.size w y11 ∧ (true = true → ∃ x ∈ vs, x.ok = true ∧ x.v.s ≤ (s : Int) ∧ hlB no (ptOf O) x = true ∧ hlB no (ptOf V) x = false) ∧ ∀ j x, j < i + 1 → vs[j]? = some x → x.ok = true → x.v.s ≤ (s : Int) → hlB no (ptOf V) x = true → hlB no (ptOf O) x = true) := ⟨HZ.out, fun _ => HM2.out.1 rfl, fun j y hj hy hyo hys hv => by
            by_cases e : j = i
            ·
             subst e
             rw [HX.out] at hy
             injection hy with hy
             subst hy
             first | exact h2 | (rw [h1] at hv; cases hv)
            · exact HM2.out.2 j y (by omega) hy hyo hys hv⟩
           clear HM2 h1 h2
           go_wp2
           go_roundw
           case rel => exact ⟨i + 1, true, by omega, by go_num, rfl, HN⟩
           case measure => simp [intOf]; omega
          |
           false =>
           have HN : Hid (Below w.heap.size w y11 ∧ (false = true → ∃ x ∈ vs, x.ok = true ∧ x.v.s ≤ (s : Int) ∧ hlB no (ptOf O) x = true ∧ hlB no (ptOf V) x = false) ∧ ∀ j x, j < i + 1 → vs[j]? = some x → x.ok = true → x.v.s ≤ (s : Int) → hlB no (ptOf V) x = true → hlB no (ptOf O) x = true) := ⟨HZ.out, (fun h => by cases h), fun j y hj hy hyo hys hv => by
            by_cases e : j = i
            ·
             subst e
             rw [HX.out] at hy
             injection hy with hy
             subst hy
             first | exact h2 | (rw [h1] at hv; cases hv)
            · exact HM2.out.2 j y (by omega) hy hyo hys hv⟩
           clear HM2 h1 h2
           go_wp2
           go_roundw
           case rel => exact ⟨i + 1, false, by omega, by go_num, rfl, HN⟩
           case measure => simp [intOf]; omega
     ·
      have i1 : ¬ (i : Int) < (m : Int) := by omega
      cases mo with
      |
       true =>
       exfalso
       obtain ⟨x, hx, ho, hxs, h1, h2⟩ := HM.out.2.1 rfl
       have hb := best_math (N := no) (p := ptOf V) (q := ptOf O) (vs := vs) (B := B) (s := (s : Int)) s1 HNO.out (fun y hy hyo hys hyp => by
        obtain ⟨j, hj, e⟩ := List.getElem_of_mem hy
        have h3 := HM.out.2.2 j y (by rw [HLEN.out] at hj; omega) (by rw [List.getElem?_eq_getElem hj, e]) hyo hys (decide_eq_true hyp)
        exact of_decide_eq_true h3) x hx ho hxs (of_decide_eq_true h1)
       exact of_decide_eq_false h2 hb
      |
       false =>
       have HN : Hid (Below w.heap.size w wr) := HM.out.1
       clear HM
       go_wp2
       go_roundw
       case rel => exact ⟨s + 1, by omega, by go_num, HN⟩
       case measure => simp [intOf]; omega
   ·
    have s1 : ¬ (s : Int) ≤ 3 := by omega
    go_wp2_with fail
    refine (known12_c _).mono ?_
    rintro e w8 ⟨rfl, hb⟩
    have H8 : Hid (Below w.heap.size w w8) := HBR.out.trans (hb.mono HBR.out.size)
    clear hb HBR
    go_wp2
    go_ret
    exact ⟨rfl, H8.out⟩
end Go.Proofs.YtgffkaconhonlaaGreat
