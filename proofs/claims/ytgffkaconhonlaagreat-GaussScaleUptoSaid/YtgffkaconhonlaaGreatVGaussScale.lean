/-
  GaussScale: sums so often as one likes, but not nothing, tell the same.
-/
import Derived.Test.YtgffkaconhonlaaGreatVScA
import Derived.Test.YtgffkaconhonlaaGreatVKnG
import Derived.Test.YtgffkaconhonlaaGreatVGSolG
import Derived.Deep.Cut
import Derived.Test.YtgffkaconhonlaaGreatVRgn
namespace Go.Proofs.YtgffkaconhonlaaGreat
set_option maxRecDepth 20000
open Go.RowKit
theorem Fit.below {w w' : World} {v : Cv} {l : List Tv} (h : Fit w v l) (hb : Below w.heap.size w w') : Fit w' v l := ⟨h.row.below hb, h.n, h.kn, h.km, h.cap, h.each⟩
theorem room160 {N : Nat} (h : N ≤ 8) : Room 160 N := by
 refine ⟨by omega, by omega, by omega, ?_⟩
 have h1 : 2 ^ N ≤ 2 ^ 8 := Nat.pow_le_pow_right (by omega) h
 have h2 : 160 * (N + 1) + 1 ≤ 1441 := by omega
 have := Nat.mul_le_mul h2 h1
 omega
set_option maxHeartbeats 25600000 in
theorem GaussScale_any (A : Option Addr) (m c : Nat) (vy : Rv) (v n : Int) (ps : List (Cv × List Tv)) (w : World) (hk : Kons w A m (ps.map (·.1))) (hf : ∀ x ∈ ps, Raw w x.1 x.2) (hm : m ≤ 1048576) (hy : RdR w vy ∧ vy.n ≤ 1048576 ∧ vy.m ≤ 1048576) :
  Calls Tryz.prog 4 #[.slice A m c, .agg #[.bool vy.s, .slice vy.A vy.n vy.c, .slice vy.B vy.m vy.d], .int .i64 v, .int .i64 n] w fun e w' => e = .returned (.bool true) ∧ Below w.heap.size w w' := by
 have HK := Lib.hid (And.intro hk hf)
 have HY := Lib.hid hy
 have m0 : (0 : Int) ≤ (m : Int) := by omega
 have kx := C3.new w (.bool vy.s) (.slice vy.A vy.n vy.c) (.slice vy.B vy.m vy.d)
 have hB : Below w.heap.size w (w.alloc (.cells #[.bool vy.s, .slice vy.A vy.n vy.c, .slice vy.B vy.m vy.d] 26)) := (Below.refl _ _).alloc (Nat.le_refl _) _
 have HZ0 := Lib.hid (And.intro kx hB)
 clear hk hf hy kx hB
 go_enter Tryz.func4, Tryz.ntmps4
 go_wp2_with fail
 generalize w.alloc (.cells #[.bool vy.s, .slice vy.A vy.n vy.c, .slice vy.B vy.m vy.d] 26) = W0 at *
 obtain ⟨X, hX⟩ : ∃ X, X = w.heap.size := ⟨_, rfl⟩
 have HXE : Hid (X = w.heap.size) := hX
 rw [← hX] at HZ0
 rw [← hX]
 clear hX
 have HB0 : Hid (Below w.heap.size w W0) := HXE.out ▸ HZ0.out.2
 refine (heavyG_c A m c ps _ (HK.out.1.below HB0.out) (fun x hx => (HK.out.2 x hx).fit.below HB0.out) hm).mono ?_
 rintro e w1 ⟨r, rfl, hr, hb⟩
 have HR := Lib.hid hr
 have H1 : Hid (Below w.heap.size w w1 ∧ C3 w1 X (.bool vy.s) (.slice vy.A vy.n vy.c) (.slice vy.B vy.m vy.d)) := ⟨HB0.out.trans (hb.mono HB0.out.size), HZ0.out.1.below hb⟩
 clear hr hb HZ0 HB0
 cases r with
 |
  true =>
  go_wp2
  go_ret
  exact ⟨rfl, H1.out.1⟩
 | false =>
 obtain ⟨x0, x1, x2, _, _, _⟩ := H1.out.2.facts
 go_wp2_with fail
 have HV1 : Hid (C3 (w1.alloc (.cells #[.bool vy.s, .slice vy.A vy.n vy.c, .slice vy.B vy.m vy.d] 26)) w1.heap.size (.bool vy.s) (.slice vy.A vy.n vy.c) (.slice vy.B vy.m vy.d) ∧ Below w.heap.size w (w1.alloc (.cells #[.bool vy.s, .slice vy.A vy.n vy.c, .slice vy.B vy.m vy.d] 26)) ∧ C3 (w1.alloc (.cells #[.bool vy.s, .slice vy.A vy.n vy.c, .slice vy.B vy.m vy.d] 26)) X (.bool vy.s) (.slice vy.A vy.n vy.c) (.slice vy.B vy.m vy.d)) := ⟨C3.new w1 (.bool vy.s) (.slice vy.A vy.n vy.c) (.slice vy.B vy.m vy.d), H1.out.1.alloc H1.out.1.size _, H1.out.2.alloc _⟩
 clear x0 x1 x2
 generalize w1.alloc (.cells #[.bool vy.s, .slice vy.A vy.n vy.c, .slice vy.B vy.m vy.d] 26) = V at *
 generalize w1.heap.size = g1 at *
 refine (many_c (some ⟨g1, 0, none⟩) 1 1 [vy] V (nums_one HV1.out.1) (by omega) (fun x hx => by rw [List.mem_singleton.1 hx]; exact HY.out.2)).mono ?_
 rintro e w2 ⟨r, rfl, hr, hb⟩
 have HM : Hid (r = false → vy.n ≤ 3 ∧ vy.m ≤ 3) := fun h => (hr h).2 vy List.mem_cons_self
 have H2 : Hid (Below w.heap.size w w2 ∧ C3 w2 X (.bool vy.s) (.slice vy.A vy.n vy.c) (.slice vy.B vy.m vy.d)) := ⟨HV1.out.2.1.trans (hb.mono HV1.out.2.1.size), HV1.out.2.2.below hb⟩
 clear hr hb HV1 H1
 cases r with
 |
  true =>
  go_wp2
  go_ret
  exact ⟨rfl, H2.out.1⟩
 | false =>
 obtain ⟨r, hr⟩ := HY.out.1.rw (HM.out (by trivial)).1 (HM.out (by trivial)).2
 have HRY := Lib.hid hr
 clear hr HM HY
 obtain ⟨x0, x1, x2, _, _, _⟩ := H2.out.2.facts
 go_wp2_with fail
 refine (rZero_c vy r w2 ((HRY.out.below H2.out.1).more (by omega))).mono ?_
 rintro e w3 ⟨rfl, hb⟩
 have H3 : Hid (Below w.heap.size w w3 ∧ C3 w3 X (.bool vy.s) (.slice vy.A vy.n vy.c) (.slice vy.B vy.m vy.d)) := ⟨H2.out.1.trans (hb.mono H2.out.1.size), H2.out.2.below hb⟩
 clear hb H2 x0 x1 x2
 by_cases hr0 : r = 0
 ·
  rw [decide_eq_true hr0]
  clear hr0
  go_wp2
  go_ret
  exact ⟨rfl, H3.out.1⟩
 rw [decide_eq_false hr0]
 have HR0 : Hid (r ≠ 0) := hr0
 clear hr0
 by_cases hn1 : n < 1
 ·
  go_wp2
  go_ret
  exact ⟨rfl, H3.out.1⟩
 by_cases hn8 : 8 < n
 ·
  go_wp2
  go_ret
  exact ⟨rfl, H3.out.1⟩
 obtain ⟨N, rfl⟩ := Int.eq_ofNat_of_zero_le (show 0 ≤ n by omega)
 have hN8 : N ≤ 8 := by omega
 have HN : Hid (heldN (N : Int) = N) := by show _ = _; unfold heldN; omega
 obtain ⟨hm75, vs, _, hkn⟩ := kns_of N HK.out.1 HK.out.2 (HR.out (by trivial))
 have HV := Lib.hid hkn
 have m2 : (m : Int) ≤ 75 := by omega
 have n2 : (N : Int) ≤ 8 := by omega
 have n1 : (1 : Int) ≤ (N : Int) := by omega
 have HLEN : Hid (vs.length = m) := by have := hkn.kons.len; rwa [List.length_map] at this
 clear hkn HR HK hm hm75 hn1 hn8 hN8
 go_wp2
 go_loopw [9, 10] (fun mv iv wr => ∃ (i q : Nat) (A3 : Option Addr) (c3 : Nat) (us : List Kin), q ≤ i ∧ i ≤ m ∧ iv = .int .i64 i ∧ mv = .slice A3 q c3 ∧ Hid (SRow N r vs w3 wr A3 c3 q i us)) (fun _ iv _ => m - (intOf iv).toNat)
 case atStart => exact ⟨0, 0, none, 0, [], Nat.le_refl _, Nat.zero_le _, rfl, rfl, Lib.hid (SRow.start w3)⟩
 case round =>
  obtain ⟨i, q, A3, c3, us, hqi, hi, rfl, rfl, HM⟩ := hrel
  have i0 : (0 : Int) ≤ (i : Int) := by omega
  have HBW : Hid (Below w.heap.size w wr) := H3.out.1.trans (HM.out.below.mono H3.out.1.size)
  by_cases hlt : i < m
  ·
   have i1 : (i : Int) < (m : Int) := by omega
   have q9 : q ≤ 1000 := by omega
   have hil : i < vs.length := by rw [HLEN.out]; exact hlt
   obtain ⟨b, off, hA, hbw, hcc⟩ := HV.out.kons.mem (by omega)
   have hx := List.getElem?_eq_getElem hil
   have HXI := Lib.hid (HV.out.rd _ (List.getElem_mem hil))
   have h5 := hcc i _ (show (vs.map (·.v))[i]? = some vs[i].v by rw [List.getElem?_map, hx]; rfl)
   have HX := Lib.hid hx
   generalize vs[i] = x at *
   obtain ⟨va, La, ka, ok⟩ := x
   replace h5 : At5 w b (off + i * 5) va := h5
   have H5 : Hid (∀ wz, Below w.heap.size w wz → At5 wz b (off + i * 5) va) := fun wz hz => h5.keep (hz.block b hbw)
   obtain ⟨la, hla⟩ : ∃ la, va.n ≤ va.c ∧ va.n ≤ 1000 ∧ Rw w va.K ka 150 ∧ Tms w 0 va.A va.n la ∧ Rds w 150 la La ∧ (ok = true ↔ IsS w va la (N : Int)) := by
    obtain ⟨h1, h2, h3, la, h4, h5, h6⟩ := HXI.out
    exact ⟨la, h1, h2, h3, h4, h5, h6⟩
   have HLA := Lib.hid hla
   obtain ⟨k0, k1, k2, k3, k4⟩ := H5.out _ HBW.out
   subst hA
   clear hx hcc hbw h5 hla HXI hil
   go_wp2_with fail
   refine (rIsK_c va (N : Int) la La ka wr (by omega) HLA.out.1 (HLA.out.2.2.2.1.below HBW.out) ((HLA.out.2.2.2.2.1.below HBW.out).more (by omega)) ((HLA.out.2.2.1.below HBW.out).more (by omega)) HLA.out.2.1 ok (HLA.out.2.2.2.2.2.trans (IsS.turn HLA.out.2.2.2.2.1 HLA.out.2.2.1 HBW.out))).mono ?_
   rintro e w4 ⟨rfl, hb⟩
   have HM4 : Hid (SRow N r vs w3 w4 A3 c3 q i us) := HM.out.step_ hb
   have H4 : Hid (Below w.heap.size w w4) := HBW.out.trans (hb.mono HBW.out.size)
   clear hb k0 k1 k2 k3 k4 HM HBW
   cases ok with
   |
    false =>
    have HN2 := Lib.hid (HM4.out.no HX.out rfl)
    clear HM4
    go_wp2
    go_roundw
    case rel => exact ⟨i + 1, q, A3, c3, us, by omega, by omega, by go_num, rfl, HN2⟩
    case measure => simp [intOf]; omega
   |
    true =>
    have HIS : Hid (IsS w va la (N : Int)) := HLA.out.2.2.2.2.2.1 rfl
    have HAL : Hid (∀ w', Below w4.heap.size w4 w' → (w'.cell? ⟨b, off + i * 5, none⟩ = some (.int .i64 va.s) ∧ w'.cell? ⟨b, off + i * 5 + 1, none⟩ = some (.slice va.A va.n va.c) ∧ w'.cell? ⟨b, off + i * 5 + 2, none⟩ = some (.bool va.K.s) ∧ w'.cell? ⟨b, off + i * 5 + 3, none⟩ = some (.slice va.K.A va.K.n va.K.c) ∧ w'.cell? ⟨b, off + i * 5 + 4, none⟩ = some (.slice va.K.B va.K.m va.K.d)) ∧ w'.cell? ⟨X, 0, none⟩ = some (.bool vy.s) ∧ w'.cell? ⟨X, 1, none⟩ = some (.slice vy.A vy.n vy.c) ∧ w'.cell? ⟨X, 2, none⟩ = some (.slice vy.B vy.m vy.d)) := fun w' h => by
     obtain ⟨a0, a1, a2, a3, a4⟩ := H5.out _ (H4.out.trans (h.mono H4.out.size))
     obtain ⟨g0, g1, g2, _⟩ := ((H3.out.2.below HM4.out.below).below h).facts
     exact ⟨⟨a0, a1, a2, a3, a4⟩, g0, g1, g2⟩
    have HAG : Hid (∀ w', Below w3.heap.size w3 w' → Below w.heap.size w w' → (w'.cell? ⟨b, off + i * 5, none⟩ = some (.int .i64 va.s) ∧ w'.cell? ⟨b, off + i * 5 + 1, none⟩ = some (.slice va.A va.n va.c) ∧ w'.cell? ⟨b, off + i * 5 + 2, none⟩ = some (.bool va.K.s) ∧ w'.cell? ⟨b, off + i * 5 + 3, none⟩ = some (.slice va.K.A va.K.n va.K.c) ∧ w'.cell? ⟨b, off + i * 5 + 4, none⟩ = some (.slice va.K.B va.K.m va.K.d)) ∧ w'.cell? ⟨X, 0, none⟩ = some (.bool vy.s) ∧ w'.cell? ⟨X, 1, none⟩ = some (.slice vy.A vy.n vy.c) ∧ w'.cell? ⟨X, 2, none⟩ = some (.slice vy.B vy.m vy.d)) := fun w' h h2 => by
     obtain ⟨a0, a1, a2, a3, a4⟩ := H5.out _ h2
     obtain ⟨g0, g1, g2, _⟩ := (H3.out.2.below h).facts
     exact ⟨⟨a0, a1, a2, a3, a4⟩, g0, g1, g2⟩
    obtain ⟨⟨k0, k1, k2, k3, k4⟩, y0, y1, y2⟩ := HAL.out _ (Below.refl _ _)
    go_upto_region 8 with fail
    refine wp_region_held_drew (S := fun w' => (w'.cell? ⟨b, off + i * 5, none⟩ = some (.int .i64 va.s) ∧ w'.cell? ⟨b, off + i * 5 + 1, none⟩ = some (.slice va.A va.n va.c) ∧ w'.cell? ⟨b, off + i * 5 + 2, none⟩ = some (.bool va.K.s) ∧ w'.cell? ⟨b, off + i * 5 + 3, none⟩ = some (.slice va.K.A va.K.n va.K.c) ∧ w'.cell? ⟨b, off + i * 5 + 4, none⟩ = some (.slice va.K.B va.K.m va.K.d)) ∧ w'.cell? ⟨X, 0, none⟩ = some (.bool vy.s) ∧ w'.cell? ⟨X, 1, none⟩ = some (.slice vy.A vy.n vy.c) ∧ w'.cell? ⟨X, 2, none⟩ = some (.slice vy.B vy.m vy.d)) (by kernel_rfl) ?_ (fun hHeld => ?_)
    ·
     (try dsimp only)
     go_keep
    refine tk (i := 0) (h := ?_)
    try simp only [zR]
    refine tk (i := 1) (h := ?_)
    try simp only [zR]
    refine tk (i := 2) (h := ?_)
    try simp only [zR]
    refine tk (i := 3) (h := ?_)
    try simp only [zR]
    refine tk (i := 4) (h := ?_)
    try simp only [zR]
    refine tk (i := 5) (h := ?_)
    try simp only [zR]
    refine tr [6] ?_
    refine tc (h := fun K hK => ?_) (hs := tn)
    try go_simp
    go_at_call 27
    have hbz := H4.out.trans ((bel1 w4).mono H4.out.size)
    refine (rScaleK_c va vy La ka r _ ((Cw.more (p := 150) ⟨HLA.out.1, ⟨la, HLA.out.2.2.2.1.below hbz, HLA.out.2.2.2.2.1.below hbz⟩, HLA.out.2.2.1.below hbz⟩ (by omega))) ((HRY.out.below hbz).more (by omega)) HLA.out.2.1).mono ?_
    rintro e u5 ⟨z, rfl, hzs, hzn, hct, hb⟩
    have P5 : Hid (Below w4.heap.size w4 u5) := (bel1 w4).trans hb
    have HZ : Hid (z.s = va.s ∧ z.n ≤ va.n ∧ Ct u5 w4.heap.size z (scaleL r La) (ka * r)) := ⟨hzs, hzn, hct.lower (Nat.le_refl _)⟩
    clear hzs hzn hct hb hbz
    clear k0 k1 k2 k3 k4 y0 y1 y2
    obtain ⟨⟨k0, k1, k2, k3, k4⟩, y0, y1, y2⟩ := HAL.out _ P5.out
    try go_wp2_with fail
    refine hK.out _ _ ?_ (fun hHeld => ?_)
    · (try dsimp only); go_keep
    clear hK K
    try simp only [zR]
    refine tr [7] ?_
    refine tc (h := fun K hK => ?_) (hs := tn)
    try go_simp
    try go_wp2_with fail
    refine hK.out _ _ ?_ (fun hHeld => ?_)
    · (try dsimp only); go_keep
    clear hK K
    try simp only [zR]
    have HBS : Hid (Below u5.heap.size u5 (u5.alloc (.cells #[.int .i64 z.s, .slice z.A z.n z.c, .bool z.K.s, .slice z.K.A z.K.n z.K.c, .slice z.K.B z.K.m z.K.d] 28)) ∧ At5 (u5.alloc (.cells #[.int .i64 z.s, .slice z.A z.n z.c, .bool z.K.s, .slice z.K.A z.K.n z.K.c, .slice z.K.B z.K.m z.K.d] 28)) u5.heap.size 0 z) := ⟨(Below.refl _ _).alloc (Nat.le_refl _) _, At5.new u5 z⟩
    generalize u5.alloc (.cells #[.int .i64 z.s, .slice z.A z.n z.c, .bool z.K.s, .slice z.K.A z.K.n z.K.c, .slice z.K.B z.K.m z.K.d] 28) = u6 at *
    have P6 : Hid (Below w4.heap.size w4 u6) := P5.out.trans (HBS.out.1.mono P5.out.size)
    have HKI : Hid (∀ w', u6.grownBy w' (A3.map (·.block)) → KinOf N 160 w' ⟨z, scaleL r La, ka * r, true⟩) := fun w' hg => by
     have hct := (HZ.out.2.2.below HBS.out.1).stays (fun ad e => (HM4.out.own.lt ad e).2) hg
     have hr3 := HRY.out.sz (by omega)
     have hs := HIS.out.1
     refine hct.kin (by rw [HZ.out.1]; exact hs) (by have := HZ.out.2.1; have := HLA.out.2.1; omega) (Asc.scale r (HIS.out.asc HLA.out.2.2.2.2.1)) ?_ (((HLA.out.2.2.1.sz (by omega)).mul hr3).more (by omega))
     exact AllN.scale (P := fun q => Sz q 150) (Q := fun q => Sz q 160) (fun x hx => (hx.mul hr3).more (by omega)) (HLA.out.2.2.2.2.1.sz (by omega))
    clear k0 k1 k2 k3 k4 y0 y1 y2
    obtain ⟨⟨k0, k1, k2, k3, k4⟩, y0, y1, y2⟩ := HAL.out _ P6.out
    refine tr [8] ?_
    refine tc (h := fun K hK => ?_) (hs := tn)
    refine spc_append1 rfl _ _ rfl rfl rfl (lo := w3.heap.size) (t := z) (HM4.out.own.below P6.out) HBS.out.2 (by omega) (Nat.le_trans HM4.out.below.size P6.out.size) ?_
    intro A4 c4 u7 hown hgrow hwh
    have HM7 : Hid (SRow N r vs w3 u7 A4 c4 (q + 1) (i + 1) (us ++ [⟨z, scaleL r La, ka * r, true⟩])) := HM4.out.yes HX.out rfl P6.out HKI.out hown hgrow hwh
    clear hown hgrow hwh
    clear k0 k1 k2 k3 k4 y0 y1 y2
    obtain ⟨⟨k0, k1, k2, k3, k4⟩, y0, y1, y2⟩ := HAG.out _ HM7.out.below (H3.out.1.trans (HM7.out.below.mono H3.out.1.size))
    try go_wp2_with fail
    refine hK.out _ _ ?_ (fun hHeld => ?_)
    · (try dsimp only); go_keep
    clear hK K
    try simp only [zR]
    refine tk (i := 9) (h := ?_)
    try simp only [zR]
    refine wpAnyH_done (by kernel_rfl) ?_ _
    clear k0 k1 k2 k3 k4 y0 y1 y2 HM4 HAL HAG HKI HBS P5 P6 HZ HIS
    go_wp2
    go_roundw
    case rel => exact ⟨i + 1, q + 1, A4, c4, _, by omega, by omega, by go_num, rfl, HM7⟩
    case measure => simp [intOf]; omega
  ·
   have e : i = m := by omega
   have i1 : ¬ (i : Int) < (m : Int) := by omega
   subst e
   have HSM : Hid (sums N us = (sums N vs).map (tms · r)) := by
    have h := HM.out.sums
    rw [List.take_of_length_le (by rw [HLEN.out]; exact Nat.le_refl _)] at h
    exact h
   have HKN : Hid (Kns N 160 wr A3 q us) := HM.out.kns
   have HRO : Hid (Room 160 N) := room160 (by omega)
   have HRL : Hid (Room 150 N) := room150 (by omega)
   clear HM H3
   have q75 : q ≤ 75 := by omega
   go_wp2_with fail
   refine (Fixed_c (N : Int) v N 160 A3 q c3 us _ HN.out HKN.out (by omega) HRO.out).mono ?_
   rintro e w5 ⟨z1, b1, q1, rfl, hz1, hb5, f1, f2⟩
   have HF1 := Lib.hid (And.intro f1 f2)
   go_upto_region 10 with fail
   have HW5 : Hid (C3 (w5.alloc (.cells #[.bool z1.s, .slice z1.A z1.n z1.c, .slice z1.B z1.m z1.d] 26)) w5.heap.size (.bool z1.s) (.slice z1.A z1.n z1.c) (.slice z1.B z1.m z1.d) ∧ Below wr.heap.size wr (w5.alloc (.cells #[.bool z1.s, .slice z1.A z1.n z1.c, .slice z1.B z1.m z1.d] 26)) ∧ Rw (w5.alloc (.cells #[.bool z1.s, .slice z1.A z1.n z1.c, .slice z1.B z1.m z1.d] 26)) z1 q1 1000000000) := ⟨C3.new w5 (.bool z1.s) (.slice z1.A z1.n z1.c) (.slice z1.B z1.m z1.d), hb5.alloc hb5.size _, hz1.alloc _⟩
   clear hz1 hb5 f1 f2
   generalize w5.alloc (.cells #[.bool z1.s, .slice z1.A z1.n z1.c, .slice z1.B z1.m z1.d] 26) = W5 at *
   generalize w5.heap.size = X1 at *
   go_wp2_with fail
   refine (dFixed_c (N : Int) v N A i c vs W5 (by omega) (HV.out.below (HBW.out.trans (HW5.out.2.1.mono HBW.out.size))) (by omega) (by omega)).mono ?_
   rintro e w6 ⟨z2, b2, q2, rfl, hz2, hb6, g1, g2⟩
   obtain ⟨hbe, hqe⟩ := fix_sat (N := N) (S := sums N vs) (T := sums N us) (fun x => by rw [HSM.out]; exact sat_scale HR0.out x) g1 g2 HF1.out.1 HF1.out.2
   obtain rfl : b2 = b1 := hbe
   obtain rfl : q2 = q1 := hqe
   go_upto_region 11 with fail
   have HW6 : Hid (C3 (w6.alloc (.cells #[.bool z2.s, .slice z2.A z2.n z2.c, .slice z2.B z2.m z2.d] 26)) w6.heap.size (.bool z2.s) (.slice z2.A z2.n z2.c) (.slice z2.B z2.m z2.d) ∧ C3 (w6.alloc (.cells #[.bool z2.s, .slice z2.A z2.n z2.c, .slice z2.B z2.m z2.d] 26)) X1 (.bool z1.s) (.slice z1.A z1.n z1.c) (.slice z1.B z1.m z1.d) ∧ Below wr.heap.size wr (w6.alloc (.cells #[.bool z2.s, .slice z2.A z2.n z2.c, .slice z2.B z2.m z2.d] 26)) ∧ Rw (w6.alloc (.cells #[.bool z2.s, .slice z2.A z2.n z2.c, .slice z2.B z2.m z2.d] 26)) z2 q2 28500000000 ∧ Rw (w6.alloc (.cells #[.bool z2.s, .slice z2.A z2.n z2.c, .slice z2.B z2.m z2.d] 26)) z1 q2 1000000000) := by
    have h1 := HW5.out.2.1.trans (hb6.mono HW5.out.2.1.size)
    exact ⟨C3.new w6 (.bool z2.s) (.slice z2.A z2.n z2.c) (.slice z2.B z2.m z2.d), (HW5.out.1.below hb6).alloc _, h1.alloc h1.size _, hz2.alloc _, (HW5.out.2.2.below hb6).alloc _⟩
   clear hz2 hb6 g1 g2 HW5 HF1
   generalize w6.alloc (.cells #[.bool z2.s, .slice z2.A z2.n z2.c, .slice z2.B z2.m z2.d] 26) = W6 at *
   generalize w6.heap.size = X2 at *
   have HV6 : Hid (∀ w', Below W6.heap.size W6 w' → Kns N 160 w' A3 q us ∧ Kns N 150 w' A i vs ∧ Rw w' z2 q2 28500000000 ∧ Rw w' z1 q2 1000000000 ∧ C3 w' X1 (.bool z1.s) (.slice z1.A z1.n z1.c) (.slice z1.B z1.m z1.d) ∧ C3 w' X2 (.bool z2.s) (.slice z2.A z2.n z2.c) (.slice z2.B z2.m z2.d)) := fun w' h => by
    have h1 := HW6.out.2.2.1.trans (h.mono HW6.out.2.2.1.size)
    exact ⟨HKN.out.below h1, HV.out.below (HBW.out.trans (h1.mono HBW.out.size)), HW6.out.2.2.2.1.below h, HW6.out.2.2.2.2.below h, HW6.out.2.1.below h, HW6.out.1.below h⟩
   have HBW6 : Hid (Below w.heap.size w W6) := HBW.out.trans (HW6.out.2.2.1.mono HBW.out.size)
   clear HW6 HKN HV HBW
   go_wp2_with fail
   refine (Rank_c (N : Int) N 160 A3 q c3 us _ HN.out (HV6.out _ (Below.refl _ _)).1 (by omega) HRO.out).mono ?_
   rintro e w7 ⟨R1, rfl, hB1, hb⟩
   have H7 : Hid (Below W6.heap.size W6 w7) := hb
   have HR1 := Lib.hid hB1
   clear hb hB1
   go_wp2_with fail
   refine (Rank_c (N : Int) N 150 A i c vs _ HN.out (HV6.out _ H7.out).2.1 (by omega) HRL.out).mono ?_
   rintro e w8 ⟨R2, rfl, hB2, hb⟩
   have H8 : Hid (Below W6.heap.size W6 w8) := H7.out.trans (hb.mono H7.out.size)
   have hrr : R1.length = R2.length := HR1.out.same hB2 (by rw [HSM.out]; exact (sp_scale HR0.out).1) (by rw [HSM.out]; exact (sp_scale HR0.out).2)
   rw [hrr]
   generalize R2.length = rk at *
   clear hb hB2 hrr H7 HR1
   have rke : ((rk : Int) == (rk : Int)) = true := by simp
   go_wp2_with fail
   refine (Consistent_c (N : Int) N 160 A3 q c3 us _ HN.out (HV6.out _ H8.out).1 (by omega) HRO.out).mono ?_
   rintro e w9 ⟨b3, rfl, hc3, hb⟩
   have H9 : Hid (Below W6.heap.size W6 w9) := H8.out.trans (hb.mono H8.out.size)
   have HC3 := Lib.hid hc3
   clear hb hc3 H8
   go_wp2_with fail
   refine (Consistent_c (N : Int) N 150 A i c vs _ HN.out (HV6.out _ H9.out).2.1 (by omega) HRL.out).mono ?_
   rintro e w10 ⟨b4, rfl, hc4, hb⟩
   obtain rfl : b4 = b3 := cons_sat (S := sums N vs) (T := sums N us) (fun x => by rw [HSM.out]; exact sat_scale HR0.out x) hc4 HC3.out
   have H10 : Hid (Below W6.heap.size W6 w10) := H9.out.trans (hb.mono H9.out.size)
   clear hb hc4 HC3 H9
   have be4 : (b4 == b4) = true := by cases b4 <;> rfl
   have be2 : (b2 == b2) = true := by cases b2 <;> rfl
   obtain ⟨x0, x1, x2, _, _, _⟩ := (HV6.out _ H10.out).2.2.2.2.1.facts
   obtain ⟨y0, y1, y2, _, _, _⟩ := (HV6.out _ H10.out).2.2.2.2.2.facts
   go_wp2_with fail
   refine (rSame_c z1 z2 q2 q2 _ ((HV6.out _ H10.out).2.2.2.1.more (by omega)) ((HV6.out _ H10.out).2.2.1.more (by omega))).mono ?_
   rw [decide_eq_true rfl]
   rintro e w11 ⟨rfl, hb⟩
   have H11 : Hid (Below W6.heap.size W6 w11) := H10.out.trans (hb.mono H10.out.size)
   clear hb x0 x1 x2 y0 y1 y2
   go_wp2_with fail
   refine (known10_c _).mono ?_
   rintro e w12 ⟨rfl, hb⟩
   have H12 : Hid (Below w.heap.size w w12) := HBW6.out.trans ((H11.out.trans (hb.mono H11.out.size)).mono HBW6.out.size)
   clear hb
   go_wp2
   go_ret
   exact ⟨rfl, H12.out⟩
end Go.Proofs.YtgffkaconhonlaaGreat
