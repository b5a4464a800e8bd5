/-
  GaussFixed: a variable that is told to be a number is told so by sums that imply that, and by no others.
-/
import Derived.Test.YtgffkaconhonlaaGreatVFxA
import Derived.Test.YtgffkaconhonlaaGreatVGSolG
import Derived.Test.YtgffkaconhonlaaGreatVHvG
import Derived.Deep.Cut
import Derived.Test.YtgffkaconhonlaaGreatVRgn
namespace Go.Proofs.YtgffkaconhonlaaGreat
set_option maxRecDepth 20000
open Go.RowKit
theorem KinOf.below {N s : Nat} {w w' : World} {x : Kin} (h : KinOf N s w x) (hb : Below w.heap.size w w') : KinOf N s w' x := by
 obtain ⟨h1, h2, h3, la, h4, h5, h6⟩ := h
 exact ⟨h1, h2, h3.below hb, la, h4.below hb, h5.below hb, h6.trans (IsS.turn h5 h3 hb)⟩
theorem Kns.more {N s t : Nat} {w : World} {A : Option Addr} {m : Nat} {vs : List Kin} (h : Kns N s w A m vs) (hs : s ≤ t) : Kns N t w A m vs :=
 ⟨h.kons, fun x hx => by
  obtain ⟨h1, h2, h3, la, h4, h5, h6⟩ := h.rd x hx
  exact ⟨h1, h2, h3.more hs, la, h4, h5.more hs, h6⟩⟩
theorem Fit.below {w w' : World} {v : Cv} {l : List Tv} (h : Fit w v l) (hb : Below w.heap.size w w') : Fit w' v l := ⟨h.row.below hb, h.n, h.kn, h.km, h.cap, h.each⟩
def reK (va : Cv) (z : Rv) : Cv := ⟨va.s, va.A, va.n, va.c, z⟩
structure NewAt (V wx : World) (Y : Nat) (va : Cv) (z : Rv) (q : Rat) : Prop where
 cell : C5 wx Y (.int .i64 va.s) (.slice va.A va.n va.c) (.bool va.K.s) (.slice va.K.A va.K.n va.K.c) (.slice va.K.B va.K.m va.K.d)
 num : Rt wx 0 z q
 below : ∀ B, B ≤ Y → Below B V wx
theorem NewAt.put {V w : World} {Y : Nat} {va : Cv} {z : Rv} {q : Rat} (hk : C5 w Y (.int .i64 va.s) (.slice va.A va.n va.c) (.bool va.K.s) (.slice va.K.A va.K.n va.K.c) (.slice va.K.B va.K.m va.K.d)) (hz : Rt w V.heap.size z q) (hb : Below V.heap.size V w) (hY : Y < V.heap.size) :
  NewAt V (((w.setCell ⟨Y, 2, none⟩ (.bool z.s)).setCell ⟨Y, 3, none⟩ (.slice z.A z.n z.c)).setCell ⟨Y, 4, none⟩ (.slice z.B z.m z.d)) Y (reK va z) z q := by
 have hg : w.grownBy (((w.setCell ⟨Y, 2, none⟩ (.bool z.s)).setCell ⟨Y, 3, none⟩ (.slice z.A z.n z.c)).setCell ⟨Y, 4, none⟩ (.slice z.B z.m z.d)) (some Y) := ((kput_grown w Y 2 _).trans (kput_grown _ Y 3 _)).trans (kput_grown _ Y 4 _)
 refine ⟨((hk.set2 _).set3 _).set4 _, (hz.turn hY hg).lower (Nat.zero_le _), fun B hB => ?_⟩
 have h1 : Below B V w := ⟨hb.os, hb.tape, hb.output, hb.size, fun k hk => hb.block k (by omega)⟩
 exact h1.trans (below_of_grown_row hg hB (by have := hb.size; omega))
set_option maxHeartbeats 25600000 in
theorem GaussFixed_any (A : Option Addr) (m c : Nat) (v n : Int) (ps : List (Cv × List Tv)) (w : World) (hk : Kons w A m (ps.map (·.1))) (hf : ∀ x ∈ ps, Raw w x.1 x.2) (hm : m ≤ 1048576) :
  Calls Tryz.prog 5 #[.slice A m c, .int .i64 v, .int .i64 n] w fun e w' => e = .returned (.bool true) ∧ Below w.heap.size w w' := by
 have HK := Lib.hid (And.intro hk hf)
 have m0 : (0 : Int) ≤ (m : Int) := by omega
 clear hk hf
 go_enter Tryz.func5, Tryz.ntmps5
 go_wp2_with fail
 refine (heavyG_c A m c ps w HK.out.1 (fun x hx => (HK.out.2 x hx).fit) hm).mono ?_
 rintro e w1 ⟨r, rfl, hr, hb⟩
 have HR := Lib.hid hr
 have H1 : Hid (Below w.heap.size w w1) := hb
 clear hr hb
 cases r with
 |
  true =>
  go_wp2
  go_ret
  exact ⟨rfl, H1.out⟩
 | false =>
 by_cases hn1 : n < 1
 ·
  go_wp2
  go_ret
  exact ⟨rfl, H1.out⟩
 by_cases hn8 : 8 < n
 ·
  go_wp2
  go_ret
  exact ⟨rfl, H1.out⟩
 by_cases hv0 : v < 0
 ·
  go_wp2
  go_ret
  exact ⟨rfl, H1.out⟩
 by_cases hvn : n ≤ v
 ·
  go_wp2
  go_ret
  exact ⟨rfl, H1.out⟩
 obtain ⟨N, rfl⟩ := Int.eq_ofNat_of_zero_le (show 0 ≤ n by omega)
 obtain ⟨v, rfl⟩ := Int.eq_ofNat_of_zero_le (show 0 ≤ v by omega)
 have hN8 : N ≤ 8 := by omega
 have hN1 : 1 ≤ N := by omega
 have hvN : v < N := by omega
 have HN : Hid (heldN (N : Int) = N) := by show _ = _; unfold heldN; omega
 obtain ⟨hm75, vs, hkn, hfr⟩ := kns_ofF N HK.out.1 HK.out.2 (HR.out (by trivial))
 have HV := Lib.hid hkn
 have HFR : Hid (∀ x ∈ vs, x.ok = true → Fr (4294967296 ^ 150) x.L x.k) := fun x hx _ => hfr x hx
 have HFR2 : Hid (∀ x ∈ vs, x.ok = true → Fr (2 * bgP N) x.L x.k) := fun x hx _ => (hfr x hx).le (bgP_e hN1)
 have m2 : (m : Int) ≤ 75 := by omega
 have n2 : (N : Int) ≤ 8 := by omega
 have n1 : (1 : Int) ≤ (N : Int) := by omega
 have v0 : (0 : Int) ≤ (v : Int) := by omega
 have v1 : (v : Int) < (N : Int) := by omega
 have HVN : Hid (v < N ∧ N ≤ 8) := ⟨hvN, hN8⟩
 clear hkn hfr HR HK hm hm75 hn1 hn8 hv0 hvN hN8 hN1
 go_wp2_with fail
 refine (dConsistent_c (N : Int) N A m c vs w1 (by omega) (HV.out.below H1.out) HVN.out.2 (by omega)).mono ?_
 rintro e w2 ⟨b0, rfl, hc, hb⟩
 have H2 : Hid (Below w.heap.size w w2) := H1.out.trans (hb.mono H1.out.size)
 clear hb H1
 cases b0 with
 |
  false =>
  go_wp2
  go_ret
  exact ⟨rfl, H2.out⟩
 | true =>
 have HSAT : Hid (∃ x, Sat N (sums N vs) x) := hc.1 rfl
 clear hc
 go_wp2_with fail
 refine (Fixed_e (N : Int) (v : Int) N 150 (4294967296 ^ 150) 151 A m c vs _ HN.out (HV.out.below H2.out) (by omega) (room1F HVN.out.2) HFR.out).mono ?_
 rintro e w3 ⟨zx, b, q, rfl, hz, hb, f1, f2, q1, q2⟩
 have HF := Lib.hid (fix_two (vs := vs) HVN.out.1 HSAT.out f1 f2)
 have HQ := Lib.hid (And.intro (fr_c (v := (v : Int)) q1 q2) (sz_c HVN.out.2 q1 q2))
 have HRM : Hid (RoomE 38657 (2 * bgP N) (151 * 2 ^ N + 1) N) := roomP HVN.out.2 (by omega)
 clear f1 f2 q1 q2 HFR HSAT
 go_upto_region 4 with fail
 have HW4 : Hid (C3 (w3.alloc (.cells #[.bool zx.s, .slice zx.A zx.n zx.c, .slice zx.B zx.m zx.d] 26)) w3.heap.size (.bool zx.s) (.slice zx.A zx.n zx.c) (.slice zx.B zx.m zx.d) ∧ Below w.heap.size w (w3.alloc (.cells #[.bool zx.s, .slice zx.A zx.n zx.c, .slice zx.B zx.m zx.d] 26)) ∧ Rw (w3.alloc (.cells #[.bool zx.s, .slice zx.A zx.n zx.c, .slice zx.B zx.m zx.d] 26)) zx q 1000000000) := by
  have h1 := H2.out.trans (hb.mono H2.out.size)
  exact ⟨C3.new w3 (.bool zx.s) (.slice zx.A zx.n zx.c) (.slice zx.B zx.m zx.d), h1.alloc h1.size _, hz.alloc _⟩
 clear hz hb H2
 generalize w3.alloc (.cells #[.bool zx.s, .slice zx.A zx.n zx.c, .slice zx.B zx.m zx.d] 26) = W at *
 generalize w3.heap.size = X1 at *
 have HAL : Hid (∀ w', Below W.heap.size W w' → (w'.cell? ⟨X1, 0, none⟩ = some (.bool zx.s) ∧ w'.cell? ⟨X1, 1, none⟩ = some (.slice zx.A zx.n zx.c) ∧ w'.cell? ⟨X1, 2, none⟩ = some (.slice zx.B zx.m zx.d) ∧ w'.frozen? ⟨X1, 0, none⟩ = false ∧ w'.frozen? ⟨X1, 1, none⟩ = false ∧ w'.frozen? ⟨X1, 2, none⟩ = false)) := fun w' h => (HW4.out.1.below h).facts
 have HXL : Hid (X1 < W.heap.size) := HW4.out.1.lt
 have HZX : Hid (Rw W zx q 1000000000) := HW4.out.2.2
 have HBW : Hid (Below w.heap.size w W) := HW4.out.2.1
 obtain ⟨x0, x1, x2, _, _, _⟩ := HAL.out _ (Below.refl _ _)
 go_cut [9] from 44 (fun xv wx => ∃ (Y G : Nat) (y1 zc : Rv), xv = .pointer (some ⟨Y, 0, none⟩) ∧ Hid (OneC W wx Y G (v : Int) y1 zc (-q)))
 case first =>
  refine wp_region_held_drew (S := fun w' => w'.cell? ⟨X1, 0, none⟩ = some (.bool zx.s) ∧ w'.cell? ⟨X1, 1, none⟩ = some (.slice zx.A zx.n zx.c) ∧ w'.cell? ⟨X1, 2, none⟩ = some (.slice zx.B zx.m zx.d)) (by kernel_rfl) ?_ (fun hHeld => ?_)
  ·
   (try dsimp only)
   go_keep
  refine tk (i := 0) (h := ?_)
  try simp only [zR]
  refine tk (i := 4) (h := ?_)
  try simp only [zR]
  refine tr [1, 7] ?_
  refine tc (h := fun K hK => ?_) (hs := tc (h := fun K hK => ?_) (hs := tn))
  ·
   skip
   try go_simp
   go_at_call 28
   refine (rInt_c 1 _ (by omega)).mono ?_
   rintro e w1 ⟨y1, rfl, hz, hb⟩
   have Z1 := Lib.hid (hz.lower (Nat.zero_le _))
   have B1 := Lib.hid ((bel1 W).trans hb)
   clear hz hb
   clear x0 x1 x2
   obtain ⟨x0, x1, x2, _, _, _⟩ := HAL.out _ B1.out
   try go_wp2_with fail
   refine hK.out _ _ ?_ (fun hHeld => ?_)
   · (try dsimp only); go_keep
   clear hK K
   try simp only [zR]
   refine tk (i := 2) (h := ?_)
   try simp only [zR]
   refine tr [3, 5, 7] ?_
   refine tc (h := fun K hK => ?_) (hs := tc (h := fun K hK => ?_) (hs := tc (h := fun K hK => ?_) (hs := tn)))
   ·
    skip
    try go_simp
    try go_wp2_with fail
    refine hK.out _ _ ?_ (fun hHeld => ?_)
    · (try dsimp only); go_keep
    clear hK K
    try simp only [zR]
    have B3 : Hid (Below w1.heap.size w1 (w1.alloc (.cells #[.int .i64 (v : Int), .bool y1.s, .slice y1.A y1.n y1.c, .slice y1.B y1.m y1.d] 47))) := ((Below.refl _ _).alloc (Nat.le_refl _) _)
    have G3 : Hid ((w1.alloc (.cells #[.int .i64 (v : Int), .bool y1.s, .slice y1.A y1.n y1.c, .slice y1.B y1.m y1.d] 47)).heap[w1.heap.size]? = some (.cells #[.int .i64 (v : Int), .bool y1.s, .slice y1.A y1.n y1.c, .slice y1.B y1.m y1.d] 47 (0, 0)) ∧ w1.heap.size < (w1.alloc (.cells #[.int .i64 (v : Int), .bool y1.s, .slice y1.A y1.n y1.c, .slice y1.B y1.m y1.d] 47)).heap.size) := ⟨heap_alloc_new w1 _, by simp⟩
    generalize (w1.alloc (.cells #[.int .i64 (v : Int), .bool y1.s, .slice y1.A y1.n y1.c, .slice y1.B y1.m y1.d] 47)) = w3 at *
    clear x0 x1 x2
    obtain ⟨x0, x1, x2, _, _, _⟩ := HAL.out _ (B1.out.trans (B3.out.mono B1.out.size))
    refine tr [5, 7] ?_
    refine tc (h := fun K hK => ?_) (hs := tc (h := fun K hK => ?_) (hs := tn))
    ·
     skip
     try go_simp
     go_at_call 29
     refine (rNeg_c zx q _ ((HZX.out.below (B1.out.trans (B3.out.mono B1.out.size))).more (by omega))).mono ?_
     rintro e w5 ⟨zc, rfl, hz, hb⟩
     have Z5 := Lib.hid (hz.lower (Nat.zero_le _))
     have B5 := Lib.hid hb
     clear hz hb
     clear x0 x1 x2
     obtain ⟨x0, x1, x2, _, _, _⟩ := HAL.out _ ((B1.out.trans (B3.out.mono B1.out.size)).trans (B5.out.mono (B1.out.trans (B3.out.mono B1.out.size)).size))
     try go_wp2_with fail
     refine hK.out _ _ ?_ (fun hHeld => ?_)
     · (try dsimp only); go_keep
     clear hK K
     try simp only [zR]
     refine tk (i := 6) (h := ?_)
     try simp only [zR]
     refine tr [7] ?_
     refine tc (h := fun K hK => ?_) (hs := tn)
     try go_simp
     try go_wp2_with fail
     refine hK.out _ _ ?_ (fun hHeld => ?_)
     · (try dsimp only); go_keep
     clear hK K
     try simp only [zR]
     have B7 : Hid (Below w5.heap.size w5 (w5.alloc (.cells #[.int .i64 0, .slice none 0 0, .bool false, .slice none 0 0, .slice none 0 0] 28))) := ((Below.refl _ _).alloc (Nat.le_refl _) _)
     have Y7 : Hid (C5 (w5.alloc (.cells #[.int .i64 0, .slice none 0 0, .bool false, .slice none 0 0, .slice none 0 0] 28)) w5.heap.size (.int .i64 0) (.slice none 0 0) (.bool false) (.slice none 0 0) (.slice none 0 0)) := C5.new w5 (.int .i64 0) (.slice none 0 0) (.bool false) (.slice none 0 0) (.slice none 0 0)
     generalize (w5.alloc (.cells #[.int .i64 0, .slice none 0 0, .bool false, .slice none 0 0, .slice none 0 0] 28)) = w7 at *
     clear x0 x1 x2
     obtain ⟨x0, x1, x2, _, _, _⟩ := HAL.out _ (((B1.out.trans (B3.out.mono B1.out.size)).trans (B5.out.mono (B1.out.trans (B3.out.mono B1.out.size)).size)).trans (B7.out.mono ((B1.out.trans (B3.out.mono B1.out.size)).trans (B5.out.mono (B1.out.trans (B3.out.mono B1.out.size)).size)).size))
     have kY := Y7.out.below (Below.refl _ _)
     obtain ⟨y0, y1_, y2, y3, y4⟩ := kY.facts
     obtain ⟨t0, t1, t2, t3, t4⟩ := kY.thaw
     clear kY
     have mA : ¬ X1 = w5.heap.size := by have := HXL.out; have := ((B1.out.trans (B3.out.mono B1.out.size)).trans (B5.out.mono (B1.out.trans (B3.out.mono B1.out.size)).size)).size; omega
     have mB : ¬ w5.heap.size = X1 := fun e => mA e.symm
     refine tr [8] ?_
     refine tc (h := fun K hK => ?_) (hs := tn)
     try go_simp
     try go_wp2_with fail
     refine hK.out _ _ ?_ (fun hHeld => ?_)
     · (try dsimp only); go_keep
     clear hK K
     try simp only [zR]
     refine wpAnyH_done (by kernel_rfl) ?_ _
     go_wp2_with fail
     go_meet
     exact ⟨_, _, y1, zc, rfl, Lib.hid (OneC.put (Y7.out.below (Below.refl _ _)) (((B1.out.trans (B3.out.mono B1.out.size)).trans (B5.out.mono (B1.out.trans (B3.out.mono B1.out.size)).size)).size) (((B1.out.trans (B3.out.mono B1.out.size)).trans (B5.out.mono (B1.out.trans (B3.out.mono B1.out.size)).size)).trans (B7.out.mono ((B1.out.trans (B3.out.mono B1.out.size)).trans (B5.out.mono (B1.out.trans (B3.out.mono B1.out.size)).size)).size)) ⟨((B5.out.trans (B7.out.mono B5.out.size)).block _ G3.out.2).trans G3.out.1, (Z1.out.below ((B3.out.trans (B5.out.mono B3.out.size)).trans (B7.out.mono (B3.out.trans (B5.out.mono B3.out.size)).size))), (Z5.out.below B7.out)⟩)⟩
    ·
     skip
     try go_simp
     try go_wp2_with fail
     refine hK.out _ _ ?_ (fun hHeld => ?_)
     · (try dsimp only); go_keep
     clear hK K
     try simp only [zR]
     have B7 : Hid (Below w3.heap.size w3 (w3.alloc (.cells #[.int .i64 0, .slice none 0 0, .bool false, .slice none 0 0, .slice none 0 0] 28))) := ((Below.refl _ _).alloc (Nat.le_refl _) _)
     have Y7 : Hid (C5 (w3.alloc (.cells #[.int .i64 0, .slice none 0 0, .bool false, .slice none 0 0, .slice none 0 0] 28)) w3.heap.size (.int .i64 0) (.slice none 0 0) (.bool false) (.slice none 0 0) (.slice none 0 0)) := C5.new w3 (.int .i64 0) (.slice none 0 0) (.bool false) (.slice none 0 0) (.slice none 0 0)
     generalize (w3.alloc (.cells #[.int .i64 0, .slice none 0 0, .bool false, .slice none 0 0, .slice none 0 0] 28)) = w7 at *
     clear x0 x1 x2
     obtain ⟨x0, x1, x2, _, _, _⟩ := HAL.out _ ((B1.out.trans (B3.out.mono B1.out.size)).trans (B7.out.mono (B1.out.trans (B3.out.mono B1.out.size)).size))
     refine tr [5] ?_
     refine tc (h := fun K hK => ?_) (hs := tn)
     try go_simp
     go_at_call 29
     refine (rNeg_c zx q _ ((HZX.out.below ((B1.out.trans (B3.out.mono B1.out.size)).trans (B7.out.mono (B1.out.trans (B3.out.mono B1.out.size)).size))).more (by omega))).mono ?_
     rintro e w5 ⟨zc, rfl, hz, hb⟩
     have Z5 := Lib.hid (hz.lower (Nat.zero_le _))
     have B5 := Lib.hid hb
     clear hz hb
     clear x0 x1 x2
     obtain ⟨x0, x1, x2, _, _, _⟩ := HAL.out _ (((B1.out.trans (B3.out.mono B1.out.size)).trans (B7.out.mono (B1.out.trans (B3.out.mono B1.out.size)).size)).trans (B5.out.mono ((B1.out.trans (B3.out.mono B1.out.size)).trans (B7.out.mono (B1.out.trans (B3.out.mono B1.out.size)).size)).size))
     have kY := Y7.out.below B5.out
     obtain ⟨y0, y1_, y2, y3, y4⟩ := kY.facts
     obtain ⟨t0, t1, t2, t3, t4⟩ := kY.thaw
     clear kY
     have mA : ¬ X1 = w3.heap.size := by have := HXL.out; have := (B1.out.trans (B3.out.mono B1.out.size)).size; omega
     have mB : ¬ w3.heap.size = X1 := fun e => mA e.symm
     try go_wp2_with fail
     refine hK.out _ _ ?_ (fun hHeld => ?_)
     · (try dsimp only); go_keep
     clear hK K
     try simp only [zR]
     refine tk (i := 6) (h := ?_)
     try simp only [zR]
     refine tr [8] ?_
     refine tc (h := fun K hK => ?_) (hs := tn)
     try go_simp
     try go_wp2_with fail
     refine hK.out _ _ ?_ (fun hHeld => ?_)
     · (try dsimp only); go_keep
     clear hK K
     try simp only [zR]
     refine wpAnyH_done (by kernel_rfl) ?_ _
     go_wp2_with fail
     go_meet
     exact ⟨_, _, y1, zc, rfl, Lib.hid (OneC.put (Y7.out.below B5.out) ((B1.out.trans (B3.out.mono B1.out.size)).size) (((B1.out.trans (B3.out.mono B1.out.size)).trans (B7.out.mono (B1.out.trans (B3.out.mono B1.out.size)).size)).trans (B5.out.mono ((B1.out.trans (B3.out.mono B1.out.size)).trans (B7.out.mono (B1.out.trans (B3.out.mono B1.out.size)).size)).size)) ⟨((B7.out.trans (B5.out.mono B7.out.size)).block _ G3.out.2).trans G3.out.1, (Z1.out.below ((B3.out.trans (B7.out.mono B3.out.size)).trans (B5.out.mono (B3.out.trans (B7.out.mono B3.out.size)).size))), (Z5.out.below (Below.refl _ _))⟩)⟩
   ·
    skip
    try go_simp
    go_at_call 29
    refine (rNeg_c zx q _ ((HZX.out.below B1.out).more (by omega))).mono ?_
    rintro e w5 ⟨zc, rfl, hz, hb⟩
    have Z5 := Lib.hid (hz.lower (Nat.zero_le _))
    have B5 := Lib.hid hb
    clear hz hb
    clear x0 x1 x2
    obtain ⟨x0, x1, x2, _, _, _⟩ := HAL.out _ (B1.out.trans (B5.out.mono B1.out.size))
    try go_wp2_with fail
    refine hK.out _ _ ?_ (fun hHeld => ?_)
    · (try dsimp only); go_keep
    clear hK K
    try simp only [zR]
    refine tr [3, 7] ?_
    refine tc (h := fun K hK => ?_) (hs := tc (h := fun K hK => ?_) (hs := tn))
    ·
     skip
     try go_simp
     try go_wp2_with fail
     refine hK.out _ _ ?_ (fun hHeld => ?_)
     · (try dsimp only); go_keep
     clear hK K
     try simp only [zR]
     have B3 : Hid (Below w5.heap.size w5 (w5.alloc (.cells #[.int .i64 (v : Int), .bool y1.s, .slice y1.A y1.n y1.c, .slice y1.B y1.m y1.d] 47))) := ((Below.refl _ _).alloc (Nat.le_refl _) _)
     have G3 : Hid ((w5.alloc (.cells #[.int .i64 (v : Int), .bool y1.s, .slice y1.A y1.n y1.c, .slice y1.B y1.m y1.d] 47)).heap[w5.heap.size]? = some (.cells #[.int .i64 (v : Int), .bool y1.s, .slice y1.A y1.n y1.c, .slice y1.B y1.m y1.d] 47 (0, 0)) ∧ w5.heap.size < (w5.alloc (.cells #[.int .i64 (v : Int), .bool y1.s, .slice y1.A y1.n y1.c, .slice y1.B y1.m y1.d] 47)).heap.size) := ⟨heap_alloc_new w5 _, by simp⟩
     generalize (w5.alloc (.cells #[.int .i64 (v : Int), .bool y1.s, .slice y1.A y1.n y1.c, .slice y1.B y1.m y1.d] 47)) = w3 at *
     clear x0 x1 x2
     obtain ⟨x0, x1, x2, _, _, _⟩ := HAL.out _ ((B1.out.trans (B5.out.mono B1.out.size)).trans (B3.out.mono (B1.out.trans (B5.out.mono B1.out.size)).size))
     refine tk (i := 6) (h := ?_)
     try simp only [zR]
     refine tr [7] ?_
     refine tc (h := fun K hK => ?_) (hs := tn)
     try go_simp
     try go_wp2_with fail
     refine hK.out _ _ ?_ (fun hHeld => ?_)
     · (try dsimp only); go_keep
     clear hK K
     try simp only [zR]
     have B7 : Hid (Below w3.heap.size w3 (w3.alloc (.cells #[.int .i64 0, .slice none 0 0, .bool false, .slice none 0 0, .slice none 0 0] 28))) := ((Below.refl _ _).alloc (Nat.le_refl _) _)
     have Y7 : Hid (C5 (w3.alloc (.cells #[.int .i64 0, .slice none 0 0, .bool false, .slice none 0 0, .slice none 0 0] 28)) w3.heap.size (.int .i64 0) (.slice none 0 0) (.bool false) (.slice none 0 0) (.slice none 0 0)) := C5.new w3 (.int .i64 0) (.slice none 0 0) (.bool false) (.slice none 0 0) (.slice none 0 0)
     generalize (w3.alloc (.cells #[.int .i64 0, .slice none 0 0, .bool false, .slice none 0 0, .slice none 0 0] 28)) = w7 at *
     clear x0 x1 x2
     obtain ⟨x0, x1, x2, _, _, _⟩ := HAL.out _ (((B1.out.trans (B5.out.mono B1.out.size)).trans (B3.out.mono (B1.out.trans (B5.out.mono B1.out.size)).size)).trans (B7.out.mono ((B1.out.trans (B5.out.mono B1.out.size)).trans (B3.out.mono (B1.out.trans (B5.out.mono B1.out.size)).size)).size))
     have kY := Y7.out.below (Below.refl _ _)
     obtain ⟨y0, y1_, y2, y3, y4⟩ := kY.facts
     obtain ⟨t0, t1, t2, t3, t4⟩ := kY.thaw
     clear kY
     have mA : ¬ X1 = w3.heap.size := by have := HXL.out; have := ((B1.out.trans (B5.out.mono B1.out.size)).trans (B3.out.mono (B1.out.trans (B5.out.mono B1.out.size)).size)).size; omega
     have mB : ¬ w3.heap.size = X1 := fun e => mA e.symm
     refine tr [8] ?_
     refine tc (h := fun K hK => ?_) (hs := tn)
     try go_simp
     try go_wp2_with fail
     refine hK.out _ _ ?_ (fun hHeld => ?_)
     · (try dsimp only); go_keep
     clear hK K
     try simp only [zR]
     refine wpAnyH_done (by kernel_rfl) ?_ _
     go_wp2_with fail
     go_meet
     exact ⟨_, _, y1, zc, rfl, Lib.hid (OneC.put (Y7.out.below (Below.refl _ _)) (((B1.out.trans (B5.out.mono B1.out.size)).trans (B3.out.mono (B1.out.trans (B5.out.mono B1.out.size)).size)).size) (((B1.out.trans (B5.out.mono B1.out.size)).trans (B3.out.mono (B1.out.trans (B5.out.mono B1.out.size)).size)).trans (B7.out.mono ((B1.out.trans (B5.out.mono B1.out.size)).trans (B3.out.mono (B1.out.trans (B5.out.mono B1.out.size)).size)).size)) ⟨(B7.out.block _ G3.out.2).trans G3.out.1, (Z1.out.below ((B5.out.trans (B3.out.mono B5.out.size)).trans (B7.out.mono (B5.out.trans (B3.out.mono B5.out.size)).size))), (Z5.out.below (B3.out.trans (B7.out.mono B3.out.size)))⟩)⟩
    ·
     skip
     try go_simp
     try go_wp2_with fail
     refine hK.out _ _ ?_ (fun hHeld => ?_)
     · (try dsimp only); go_keep
     clear hK K
     try simp only [zR]
     have B7 : Hid (Below w5.heap.size w5 (w5.alloc (.cells #[.int .i64 0, .slice none 0 0, .bool false, .slice none 0 0, .slice none 0 0] 28))) := ((Below.refl _ _).alloc (Nat.le_refl _) _)
     have Y7 : Hid (C5 (w5.alloc (.cells #[.int .i64 0, .slice none 0 0, .bool false, .slice none 0 0, .slice none 0 0] 28)) w5.heap.size (.int .i64 0) (.slice none 0 0) (.bool false) (.slice none 0 0) (.slice none 0 0)) := C5.new w5 (.int .i64 0) (.slice none 0 0) (.bool false) (.slice none 0 0) (.slice none 0 0)
     generalize (w5.alloc (.cells #[.int .i64 0, .slice none 0 0, .bool false, .slice none 0 0, .slice none 0 0] 28)) = w7 at *
     clear x0 x1 x2
     obtain ⟨x0, x1, x2, _, _, _⟩ := HAL.out _ ((B1.out.trans (B5.out.mono B1.out.size)).trans (B7.out.mono (B1.out.trans (B5.out.mono B1.out.size)).size))
     refine tr [3] ?_
     refine tc (h := fun K hK => ?_) (hs := tn)
     try go_simp
     try go_wp2_with fail
     refine hK.out _ _ ?_ (fun hHeld => ?_)
     · (try dsimp only); go_keep
     clear hK K
     try simp only [zR]
     have B3 : Hid (Below w7.heap.size w7 (w7.alloc (.cells #[.int .i64 (v : Int), .bool y1.s, .slice y1.A y1.n y1.c, .slice y1.B y1.m y1.d] 47))) := ((Below.refl _ _).alloc (Nat.le_refl _) _)
     have G3 : Hid ((w7.alloc (.cells #[.int .i64 (v : Int), .bool y1.s, .slice y1.A y1.n y1.c, .slice y1.B y1.m y1.d] 47)).heap[w7.heap.size]? = some (.cells #[.int .i64 (v : Int), .bool y1.s, .slice y1.A y1.n y1.c, .slice y1.B y1.m y1.d] 47 (0, 0)) ∧ w7.heap.size < (w7.alloc (.cells #[.int .i64 (v : Int), .bool y1.s, .slice y1.A y1.n y1.c, .slice y1.B y1.m y1.d] 47)).heap.size) := ⟨heap_alloc_new w7 _, by simp⟩
     generalize (w7.alloc (.cells #[.int .i64 (v : Int), .bool y1.s, .slice y1.A y1.n y1.c, .slice y1.B y1.m y1.d] 47)) = w3 at *
     clear x0 x1 x2
     obtain ⟨x0, x1, x2, _, _, _⟩ := HAL.out _ (((B1.out.trans (B5.out.mono B1.out.size)).trans (B7.out.mono (B1.out.trans (B5.out.mono B1.out.size)).size)).trans (B3.out.mono ((B1.out.trans (B5.out.mono B1.out.size)).trans (B7.out.mono (B1.out.trans (B5.out.mono B1.out.size)).size)).size))
     have kY := Y7.out.below B3.out
     obtain ⟨y0, y1_, y2, y3, y4⟩ := kY.facts
     obtain ⟨t0, t1, t2, t3, t4⟩ := kY.thaw
     clear kY
     have mA : ¬ X1 = w5.heap.size := by have := HXL.out; have := (B1.out.trans (B5.out.mono B1.out.size)).size; omega
     have mB : ¬ w5.heap.size = X1 := fun e => mA e.symm
     refine tk (i := 6) (h := ?_)
     try simp only [zR]
     refine tr [8] ?_
     refine tc (h := fun K hK => ?_) (hs := tn)
     try go_simp
     try go_wp2_with fail
     refine hK.out _ _ ?_ (fun hHeld => ?_)
     · (try dsimp only); go_keep
     clear hK K
     try simp only [zR]
     refine wpAnyH_done (by kernel_rfl) ?_ _
     go_wp2_with fail
     go_meet
     exact ⟨_, _, y1, zc, rfl, Lib.hid (OneC.put (Y7.out.below B3.out) ((B1.out.trans (B5.out.mono B1.out.size)).size) (((B1.out.trans (B5.out.mono B1.out.size)).trans (B7.out.mono (B1.out.trans (B5.out.mono B1.out.size)).size)).trans (B3.out.mono ((B1.out.trans (B5.out.mono B1.out.size)).trans (B7.out.mono (B1.out.trans (B5.out.mono B1.out.size)).size)).size)) ⟨((Below.refl _ _).block _ G3.out.2).trans G3.out.1, (Z1.out.below ((B5.out.trans (B7.out.mono B5.out.size)).trans (B3.out.mono (B5.out.trans (B7.out.mono B5.out.size)).size))), (Z5.out.below (B7.out.trans (B3.out.mono B7.out.size)))⟩)⟩
   ·
    skip
    try go_simp
    try go_wp2_with fail
    refine hK.out _ _ ?_ (fun hHeld => ?_)
    · (try dsimp only); go_keep
    clear hK K
    try simp only [zR]
    have B7 : Hid (Below w1.heap.size w1 (w1.alloc (.cells #[.int .i64 0, .slice none 0 0, .bool false, .slice none 0 0, .slice none 0 0] 28))) := ((Below.refl _ _).alloc (Nat.le_refl _) _)
    have Y7 : Hid (C5 (w1.alloc (.cells #[.int .i64 0, .slice none 0 0, .bool false, .slice none 0 0, .slice none 0 0] 28)) w1.heap.size (.int .i64 0) (.slice none 0 0) (.bool false) (.slice none 0 0) (.slice none 0 0)) := C5.new w1 (.int .i64 0) (.slice none 0 0) (.bool false) (.slice none 0 0) (.slice none 0 0)
    generalize (w1.alloc (.cells #[.int .i64 0, .slice none 0 0, .bool false, .slice none 0 0, .slice none 0 0] 28)) = w7 at *
    clear x0 x1 x2
    obtain ⟨x0, x1, x2, _, _, _⟩ := HAL.out _ (B1.out.trans (B7.out.mono B1.out.size))
    refine tr [3, 5] ?_
    refine tc (h := fun K hK => ?_) (hs := tc (h := fun K hK => ?_) (hs := tn))
    ·
     skip
     try go_simp
     try go_wp2_with fail
     refine hK.out _ _ ?_ (fun hHeld => ?_)
     · (try dsimp only); go_keep
     clear hK K
     try simp only [zR]
     have B3 : Hid (Below w7.heap.size w7 (w7.alloc (.cells #[.int .i64 (v : Int), .bool y1.s, .slice y1.A y1.n y1.c, .slice y1.B y1.m y1.d] 47))) := ((Below.refl _ _).alloc (Nat.le_refl _) _)
     have G3 : Hid ((w7.alloc (.cells #[.int .i64 (v : Int), .bool y1.s, .slice y1.A y1.n y1.c, .slice y1.B y1.m y1.d] 47)).heap[w7.heap.size]? = some (.cells #[.int .i64 (v : Int), .bool y1.s, .slice y1.A y1.n y1.c, .slice y1.B y1.m y1.d] 47 (0, 0)) ∧ w7.heap.size < (w7.alloc (.cells #[.int .i64 (v : Int), .bool y1.s, .slice y1.A y1.n y1.c, .slice y1.B y1.m y1.d] 47)).heap.size) := ⟨heap_alloc_new w7 _, by simp⟩
     generalize (w7.alloc (.cells #[.int .i64 (v : Int), .bool y1.s, .slice y1.A y1.n y1.c, .slice y1.B y1.m y1.d] 47)) = w3 at *
     clear x0 x1 x2
     obtain ⟨x0, x1, x2, _, _, _⟩ := HAL.out _ ((B1.out.trans (B7.out.mono B1.out.size)).trans (B3.out.mono (B1.out.trans (B7.out.mono B1.out.size)).size))
     refine tr [5] ?_
     refine tc (h := fun K hK => ?_) (hs := tn)
     try go_simp
     go_at_call 29
     refine (rNeg_c zx q _ ((HZX.out.below ((B1.out.trans (B7.out.mono B1.out.size)).trans (B3.out.mono (B1.out.trans (B7.out.mono B1.out.size)).size))).more (by omega))).mono ?_
     rintro e w5 ⟨zc, rfl, hz, hb⟩
     have Z5 := Lib.hid (hz.lower (Nat.zero_le _))
     have B5 := Lib.hid hb
     clear hz hb
     clear x0 x1 x2
     obtain ⟨x0, x1, x2, _, _, _⟩ := HAL.out _ (((B1.out.trans (B7.out.mono B1.out.size)).trans (B3.out.mono (B1.out.trans (B7.out.mono B1.out.size)).size)).trans (B5.out.mono ((B1.out.trans (B7.out.mono B1.out.size)).trans (B3.out.mono (B1.out.trans (B7.out.mono B1.out.size)).size)).size))
     have kY := Y7.out.below (B3.out.trans (B5.out.mono B3.out.size))
     obtain ⟨y0, y1_, y2, y3, y4⟩ := kY.facts
     obtain ⟨t0, t1, t2, t3, t4⟩ := kY.thaw
     clear kY
     have mA : ¬ X1 = w1.heap.size := by have := HXL.out; have := B1.out.size; omega
     have mB : ¬ w1.heap.size = X1 := fun e => mA e.symm
     try go_wp2_with fail
     refine hK.out _ _ ?_ (fun hHeld => ?_)
     · (try dsimp only); go_keep
     clear hK K
     try simp only [zR]
     refine tk (i := 6) (h := ?_)
     try simp only [zR]
     refine tr [8] ?_
     refine tc (h := fun K hK => ?_) (hs := tn)
     try go_simp
     try go_wp2_with fail
     refine hK.out _ _ ?_ (fun hHeld => ?_)
     · (try dsimp only); go_keep
     clear hK K
     try simp only [zR]
     refine wpAnyH_done (by kernel_rfl) ?_ _
     go_wp2_with fail
     go_meet
     exact ⟨_, _, y1, zc, rfl, Lib.hid (OneC.put (Y7.out.below (B3.out.trans (B5.out.mono B3.out.size))) (B1.out.size) (((B1.out.trans (B7.out.mono B1.out.size)).trans (B3.out.mono (B1.out.trans (B7.out.mono B1.out.size)).size)).trans (B5.out.mono ((B1.out.trans (B7.out.mono B1.out.size)).trans (B3.out.mono (B1.out.trans (B7.out.mono B1.out.size)).size)).size)) ⟨(B5.out.block _ G3.out.2).trans G3.out.1, (Z1.out.below ((B7.out.trans (B3.out.mono B7.out.size)).trans (B5.out.mono (B7.out.trans (B3.out.mono B7.out.size)).size))), (Z5.out.below (Below.refl _ _))⟩)⟩
    ·
     skip
     try go_simp
     go_at_call 29
     refine (rNeg_c zx q _ ((HZX.out.below (B1.out.trans (B7.out.mono B1.out.size))).more (by omega))).mono ?_
     rintro e w5 ⟨zc, rfl, hz, hb⟩
     have Z5 := Lib.hid (hz.lower (Nat.zero_le _))
     have B5 := Lib.hid hb
     clear hz hb
     clear x0 x1 x2
     obtain ⟨x0, x1, x2, _, _, _⟩ := HAL.out _ ((B1.out.trans (B7.out.mono B1.out.size)).trans (B5.out.mono (B1.out.trans (B7.out.mono B1.out.size)).size))
     try go_wp2_with fail
     refine hK.out _ _ ?_ (fun hHeld => ?_)
     · (try dsimp only); go_keep
     clear hK K
     try simp only [zR]
     refine tr [3] ?_
     refine tc (h := fun K hK => ?_) (hs := tn)
     try go_simp
     try go_wp2_with fail
     refine hK.out _ _ ?_ (fun hHeld => ?_)
     · (try dsimp only); go_keep
     clear hK K
     try simp only [zR]
     have B3 : Hid (Below w5.heap.size w5 (w5.alloc (.cells #[.int .i64 (v : Int), .bool y1.s, .slice y1.A y1.n y1.c, .slice y1.B y1.m y1.d] 47))) := ((Below.refl _ _).alloc (Nat.le_refl _) _)
     have G3 : Hid ((w5.alloc (.cells #[.int .i64 (v : Int), .bool y1.s, .slice y1.A y1.n y1.c, .slice y1.B y1.m y1.d] 47)).heap[w5.heap.size]? = some (.cells #[.int .i64 (v : Int), .bool y1.s, .slice y1.A y1.n y1.c, .slice y1.B y1.m y1.d] 47 (0, 0)) ∧ w5.heap.size < (w5.alloc (.cells #[.int .i64 (v : Int), .bool y1.s, .slice y1.A y1.n y1.c, .slice y1.B y1.m y1.d] 47)).heap.size) := ⟨heap_alloc_new w5 _, by simp⟩
     generalize (w5.alloc (.cells #[.int .i64 (v : Int), .bool y1.s, .slice y1.A y1.n y1.c, .slice y1.B y1.m y1.d] 47)) = w3 at *
     clear x0 x1 x2
     obtain ⟨x0, x1, x2, _, _, _⟩ := HAL.out _ (((B1.out.trans (B7.out.mono B1.out.size)).trans (B5.out.mono (B1.out.trans (B7.out.mono B1.out.size)).size)).trans (B3.out.mono ((B1.out.trans (B7.out.mono B1.out.size)).trans (B5.out.mono (B1.out.trans (B7.out.mono B1.out.size)).size)).size))
     have kY := Y7.out.below (B5.out.trans (B3.out.mono B5.out.size))
     obtain ⟨y0, y1_, y2, y3, y4⟩ := kY.facts
     obtain ⟨t0, t1, t2, t3, t4⟩ := kY.thaw
     clear kY
     have mA : ¬ X1 = w1.heap.size := by have := HXL.out; have := B1.out.size; omega
     have mB : ¬ w1.heap.size = X1 := fun e => mA e.symm
     refine tk (i := 6) (h := ?_)
     try simp only [zR]
     refine tr [8] ?_
     refine tc (h := fun K hK => ?_) (hs := tn)
     try go_simp
     try go_wp2_with fail
     refine hK.out _ _ ?_ (fun hHeld => ?_)
     · (try dsimp only); go_keep
     clear hK K
     try simp only [zR]
     refine wpAnyH_done (by kernel_rfl) ?_ _
     go_wp2_with fail
     go_meet
     exact ⟨_, _, y1, zc, rfl, Lib.hid (OneC.put (Y7.out.below (B5.out.trans (B3.out.mono B5.out.size))) (B1.out.size) (((B1.out.trans (B7.out.mono B1.out.size)).trans (B5.out.mono (B1.out.trans (B7.out.mono B1.out.size)).size)).trans (B3.out.mono ((B1.out.trans (B7.out.mono B1.out.size)).trans (B5.out.mono (B1.out.trans (B7.out.mono B1.out.size)).size)).size)) ⟨((Below.refl _ _).block _ G3.out.2).trans G3.out.1, (Z1.out.below ((B7.out.trans (B5.out.mono B7.out.size)).trans (B3.out.mono (B7.out.trans (B5.out.mono B7.out.size)).size))), (Z5.out.below B3.out)⟩)⟩
  ·
   skip
   try go_simp
   try go_wp2_with fail
   refine hK.out _ _ ?_ (fun hHeld => ?_)
   · (try dsimp only); go_keep
   clear hK K
   try simp only [zR]
   have B7 : Hid (Below W.heap.size W (W.alloc (.cells #[.int .i64 0, .slice none 0 0, .bool false, .slice none 0 0, .slice none 0 0] 28)).drew) := ((Below.refl _ _).alloc (Nat.le_refl _) _).drew
   have Y7 : Hid (C5 (W.alloc (.cells #[.int .i64 0, .slice none 0 0, .bool false, .slice none 0 0, .slice none 0 0] 28)).drew W.heap.size (.int .i64 0) (.slice none 0 0) (.bool false) (.slice none 0 0) (.slice none 0 0)) := C5.new W (.int .i64 0) (.slice none 0 0) (.bool false) (.slice none 0 0) (.slice none 0 0)
   generalize (W.alloc (.cells #[.int .i64 0, .slice none 0 0, .bool false, .slice none 0 0, .slice none 0 0] 28)).drew = w7 at *
   clear x0 x1 x2
   obtain ⟨x0, x1, x2, _, _, _⟩ := HAL.out _ B7.out
   refine tr [1] ?_
   refine tc (h := fun K hK => ?_) (hs := tn)
   try go_simp
   go_at_call 28
   refine (rInt_c 1 _ (by omega)).mono ?_
   rintro e w1 ⟨y1, rfl, hz, hb⟩
   have Z1 := Lib.hid (hz.lower (Nat.zero_le _))
   have B1 := Lib.hid hb
   clear hz hb
   clear x0 x1 x2
   obtain ⟨x0, x1, x2, _, _, _⟩ := HAL.out _ (B7.out.trans (B1.out.mono B7.out.size))
   try go_wp2_with fail
   refine hK.out _ _ ?_ (fun hHeld => ?_)
   · (try dsimp only); go_keep
   clear hK K
   try simp only [zR]
   refine tk (i := 2) (h := ?_)
   try simp only [zR]
   refine tr [3, 5] ?_
   refine tc (h := fun K hK => ?_) (hs := tc (h := fun K hK => ?_) (hs := tn))
   ·
    skip
    try go_simp
    try go_wp2_with fail
    refine hK.out _ _ ?_ (fun hHeld => ?_)
    · (try dsimp only); go_keep
    clear hK K
    try simp only [zR]
    have B3 : Hid (Below w1.heap.size w1 (w1.alloc (.cells #[.int .i64 (v : Int), .bool y1.s, .slice y1.A y1.n y1.c, .slice y1.B y1.m y1.d] 47))) := ((Below.refl _ _).alloc (Nat.le_refl _) _)
    have G3 : Hid ((w1.alloc (.cells #[.int .i64 (v : Int), .bool y1.s, .slice y1.A y1.n y1.c, .slice y1.B y1.m y1.d] 47)).heap[w1.heap.size]? = some (.cells #[.int .i64 (v : Int), .bool y1.s, .slice y1.A y1.n y1.c, .slice y1.B y1.m y1.d] 47 (0, 0)) ∧ w1.heap.size < (w1.alloc (.cells #[.int .i64 (v : Int), .bool y1.s, .slice y1.A y1.n y1.c, .slice y1.B y1.m y1.d] 47)).heap.size) := ⟨heap_alloc_new w1 _, by simp⟩
    generalize (w1.alloc (.cells #[.int .i64 (v : Int), .bool y1.s, .slice y1.A y1.n y1.c, .slice y1.B y1.m y1.d] 47)) = w3 at *
    clear x0 x1 x2
    obtain ⟨x0, x1, x2, _, _, _⟩ := HAL.out _ ((B7.out.trans (B1.out.mono B7.out.size)).trans (B3.out.mono (B7.out.trans (B1.out.mono B7.out.size)).size))
    refine tr [5] ?_
    refine tc (h := fun K hK => ?_) (hs := tn)
    try go_simp
    go_at_call 29
    refine (rNeg_c zx q _ ((HZX.out.below ((B7.out.trans (B1.out.mono B7.out.size)).trans (B3.out.mono (B7.out.trans (B1.out.mono B7.out.size)).size))).more (by omega))).mono ?_
    rintro e w5 ⟨zc, rfl, hz, hb⟩
    have Z5 := Lib.hid (hz.lower (Nat.zero_le _))
    have B5 := Lib.hid hb
    clear hz hb
    clear x0 x1 x2
    obtain ⟨x0, x1, x2, _, _, _⟩ := HAL.out _ (((B7.out.trans (B1.out.mono B7.out.size)).trans (B3.out.mono (B7.out.trans (B1.out.mono B7.out.size)).size)).trans (B5.out.mono ((B7.out.trans (B1.out.mono B7.out.size)).trans (B3.out.mono (B7.out.trans (B1.out.mono B7.out.size)).size)).size))
    have kY := Y7.out.below ((B1.out.trans (B3.out.mono B1.out.size)).trans (B5.out.mono (B1.out.trans (B3.out.mono B1.out.size)).size))
    obtain ⟨y0, y1_, y2, y3, y4⟩ := kY.facts
    obtain ⟨t0, t1, t2, t3, t4⟩ := kY.thaw
    clear kY
    have mA : ¬ X1 = W.heap.size := by have := HXL.out; omega
    have mB : ¬ W.heap.size = X1 := fun e => mA e.symm
    try go_wp2_with fail
    refine hK.out _ _ ?_ (fun hHeld => ?_)
    · (try dsimp only); go_keep
    clear hK K
    try simp only [zR]
    refine tk (i := 6) (h := ?_)
    try simp only [zR]
    refine tr [8] ?_
    refine tc (h := fun K hK => ?_) (hs := tn)
    try go_simp
    try go_wp2_with fail
    refine hK.out _ _ ?_ (fun hHeld => ?_)
    · (try dsimp only); go_keep
    clear hK K
    try simp only [zR]
    refine wpAnyH_done (by kernel_rfl) ?_ _
    go_wp2_with fail
    go_meet
    exact ⟨_, _, y1, zc, rfl, Lib.hid (OneC.put (Y7.out.below ((B1.out.trans (B3.out.mono B1.out.size)).trans (B5.out.mono (B1.out.trans (B3.out.mono B1.out.size)).size))) (Nat.le_refl _) (((B7.out.trans (B1.out.mono B7.out.size)).trans (B3.out.mono (B7.out.trans (B1.out.mono B7.out.size)).size)).trans (B5.out.mono ((B7.out.trans (B1.out.mono B7.out.size)).trans (B3.out.mono (B7.out.trans (B1.out.mono B7.out.size)).size)).size)) ⟨(B5.out.block _ G3.out.2).trans G3.out.1, (Z1.out.below (B3.out.trans (B5.out.mono B3.out.size))), (Z5.out.below (Below.refl _ _))⟩)⟩
   ·
    skip
    try go_simp
    go_at_call 29
    refine (rNeg_c zx q _ ((HZX.out.below (B7.out.trans (B1.out.mono B7.out.size))).more (by omega))).mono ?_
    rintro e w5 ⟨zc, rfl, hz, hb⟩
    have Z5 := Lib.hid (hz.lower (Nat.zero_le _))
    have B5 := Lib.hid hb
    clear hz hb
    clear x0 x1 x2
    obtain ⟨x0, x1, x2, _, _, _⟩ := HAL.out _ ((B7.out.trans (B1.out.mono B7.out.size)).trans (B5.out.mono (B7.out.trans (B1.out.mono B7.out.size)).size))
    try go_wp2_with fail
    refine hK.out _ _ ?_ (fun hHeld => ?_)
    · (try dsimp only); go_keep
    clear hK K
    try simp only [zR]
    refine tr [3] ?_
    refine tc (h := fun K hK => ?_) (hs := tn)
    try go_simp
    try go_wp2_with fail
    refine hK.out _ _ ?_ (fun hHeld => ?_)
    · (try dsimp only); go_keep
    clear hK K
    try simp only [zR]
    have B3 : Hid (Below w5.heap.size w5 (w5.alloc (.cells #[.int .i64 (v : Int), .bool y1.s, .slice y1.A y1.n y1.c, .slice y1.B y1.m y1.d] 47))) := ((Below.refl _ _).alloc (Nat.le_refl _) _)
    have G3 : Hid ((w5.alloc (.cells #[.int .i64 (v : Int), .bool y1.s, .slice y1.A y1.n y1.c, .slice y1.B y1.m y1.d] 47)).heap[w5.heap.size]? = some (.cells #[.int .i64 (v : Int), .bool y1.s, .slice y1.A y1.n y1.c, .slice y1.B y1.m y1.d] 47 (0, 0)) ∧ w5.heap.size < (w5.alloc (.cells #[.int .i64 (v : Int), .bool y1.s, .slice y1.A y1.n y1.c, .slice y1.B y1.m y1.d] 47)).heap.size) := ⟨heap_alloc_new w5 _, by simp⟩
    generalize (w5.alloc (.cells #[.int .i64 (v : Int), .bool y1.s, .slice y1.A y1.n y1.c, .slice y1.B y1.m y1.d] 47)) = w3 at *
    clear x0 x1 x2
    obtain ⟨x0, x1, x2, _, _, _⟩ := HAL.out _ (((B7.out.trans (B1.out.mono B7.out.size)).trans (B5.out.mono (B7.out.trans (B1.out.mono B7.out.size)).size)).trans (B3.out.mono ((B7.out.trans (B1.out.mono B7.out.size)).trans (B5.out.mono (B7.out.trans (B1.out.mono B7.out.size)).size)).size))
    have kY := Y7.out.below ((B1.out.trans (B5.out.mono B1.out.size)).trans (B3.out.mono (B1.out.trans (B5.out.mono B1.out.size)).size))
    obtain ⟨y0, y1_, y2, y3, y4⟩ := kY.facts
    obtain ⟨t0, t1, t2, t3, t4⟩ := kY.thaw
    clear kY
    have mA : ¬ X1 = W.heap.size := by have := HXL.out; omega
    have mB : ¬ W.heap.size = X1 := fun e => mA e.symm
    refine tk (i := 6) (h := ?_)
    try simp only [zR]
    refine tr [8] ?_
    refine tc (h := fun K hK => ?_) (hs := tn)
    try go_simp
    try go_wp2_with fail
    refine hK.out _ _ ?_ (fun hHeld => ?_)
    · (try dsimp only); go_keep
    clear hK K
    try simp only [zR]
    refine wpAnyH_done (by kernel_rfl) ?_ _
    go_wp2_with fail
    go_meet
    exact ⟨_, _, y1, zc, rfl, Lib.hid (OneC.put (Y7.out.below ((B1.out.trans (B5.out.mono B1.out.size)).trans (B3.out.mono (B1.out.trans (B5.out.mono B1.out.size)).size))) (Nat.le_refl _) (((B7.out.trans (B1.out.mono B7.out.size)).trans (B5.out.mono (B7.out.trans (B1.out.mono B7.out.size)).size)).trans (B3.out.mono ((B7.out.trans (B1.out.mono B7.out.size)).trans (B5.out.mono (B7.out.trans (B1.out.mono B7.out.size)).size)).size)) ⟨((Below.refl _ _).block _ G3.out.2).trans G3.out.1, (Z1.out.below (B5.out.trans (B3.out.mono B5.out.size))), (Z5.out.below B3.out)⟩)⟩
 case rest =>
  obtain ⟨Y, G, y1, zc, rfl, HC0⟩ := hcut
  clear x0 x1 x2 HAL HXL HZX HW4
  generalize wc = V0 at *
  have HB0 : Hid (Below w.heap.size w V0) := HBW.out.trans (HC0.out.below.mono HBW.out.size)
  obtain ⟨vc, hvc⟩ : ∃ vc : Cv, vc = ⟨0, some ⟨G, 0, none⟩, 1, 1, zc⟩ := ⟨_, rfl⟩
  have HVC := Lib.hid hvc
  have HC : Hid (C5 V0 Y (.int .i64 vc.s) (.slice vc.A vc.n vc.c) (.bool vc.K.s) (.slice vc.K.A vc.K.n vc.K.c) (.slice vc.K.B vc.K.m vc.K.d)) := by
   show C5 _ _ _ _ _ _ _
   rw [hvc]
   exact HC0.out.cell
  have HO : Hid (One1 V0 G (v : Int) y1 zc (-q)) := HC0.out.one
  clear hvc HC0 HBW
  obtain ⟨c0, c1, c2, c3, c4⟩ := HC.out.facts
  go_upto_region 6 with fail
  clear c0 c1 c2 c3 c4
  have HV5 : Hid (C5 (V0.alloc (.cells #[.int .i64 vc.s, .slice vc.A vc.n vc.c, .bool vc.K.s, .slice vc.K.A vc.K.n vc.K.c, .slice vc.K.B vc.K.m vc.K.d] 28)) V0.heap.size (.int .i64 vc.s) (.slice vc.A vc.n vc.c) (.bool vc.K.s) (.slice vc.K.A vc.K.n vc.K.c) (.slice vc.K.B vc.K.m vc.K.d) ∧ Below V0.heap.size V0 (V0.alloc (.cells #[.int .i64 vc.s, .slice vc.A vc.n vc.c, .bool vc.K.s, .slice vc.K.A vc.K.n vc.K.c, .slice vc.K.B vc.K.m vc.K.d] 28))) := ⟨C5.new V0 (.int .i64 vc.s) (.slice vc.A vc.n vc.c) (.bool vc.K.s) (.slice vc.K.A vc.K.n vc.K.c) (.slice vc.K.B vc.K.m vc.K.d), (Below.refl _ _).alloc (Nat.le_refl _) _⟩
  generalize V0.alloc (.cells #[.int .i64 vc.s, .slice vc.A vc.n vc.c, .bool vc.K.s, .slice vc.K.A vc.K.n vc.K.c, .slice vc.K.B vc.K.m vc.K.d] 28) = V at *
  obtain ⟨X, hX⟩ : ∃ X, X = V0.heap.size := ⟨_, rfl⟩
  have HXE : Hid (X = V0.heap.size) := hX
  rw [← hX] at HV5
  rw [← hX]
  clear hX
  have HXB : Hid (X < V.heap.size) := HV5.out.1.lt
  have HB5 : Hid (Below V0.heap.size V0 V) := HXE.out ▸ HV5.out.2
  have HOV : Hid (One1 V G (v : Int) y1 zc (-q)) := HO.out.below HB5.out
  have HKD : Hid (Rw V vc.K (-q) 38657) := by
   show Rw _ _ _ _
   rw [HVC.out]
   exact HOV.out.n3.rw HQ.out.2.1
  obtain ⟨b0, b1, b2, b3, b4⟩ := HV5.out.1.facts
  go_cut [10] from 52 to 57 (fun xv wx => ∃ z : Rv, xv = .pointer (some ⟨X, 0, none⟩) ∧ Hid (NewAt V wx X (reK vc z) z (-q + ((1 : Int) : Rat))))
  case first =>
   refine wp_region_held_drew (S := fun _ => True) (by kernel_rfl) ?_ (fun hHeld => ?_)
   ·
    (try dsimp only)
    try go_keep
   refine tk (i := 0) (h := ?_)
   try simp only [zR]
   refine tr [1, 2] ?_
   refine tc (h := fun K hK => ?_) (hs := tc (h := fun K hK => ?_) (hs := tn))
   ·
    skip
    try go_simp
    try go_wp2_with fail
    refine hK.out _ _ ?_ (fun hHeld => ?_)
    · (try dsimp only); try go_keep
    clear hK K
    try simp only [zR]
    refine tr [2] ?_
    refine tc (h := fun K hK => ?_) (hs := tn)
    try go_simp
    go_at_call 28
    refine (rInt_c 1 _ (by omega)).mono ?_
    rintro e u1 ⟨z1, rfl, hz, hb⟩
    have P1 : Hid (Below V.heap.size V u1) := (bel1 V).trans hb
    have Z1 := Lib.hid (hz.rw one_sz)
    clear hz hb
    clear b0 b1 b2 b3 b4
    obtain ⟨b0, b1, b2, b3, b4⟩ := (HV5.out.1.below P1.out).facts
    try go_wp2_with fail
    refine hK.out _ _ ?_ (fun hHeld => ?_)
    · (try dsimp only); try go_keep
    clear hK K
    try simp only [zR]
    refine tr [3] ?_
    refine tc (h := fun K hK => ?_) (hs := tn)
    try go_simp
    go_at_call 30
    refine (rAdd_c vc.K z1 (-q) ((1 : Int) : Rat) _ ((HKD.out.below P1.out).more (by omega)) (Z1.out.more (by omega))).mono ?_
    rintro e u2 ⟨z, rfl, hz, hb⟩
    have P2 : Hid (Below V.heap.size V u2) := P1.out.trans (hb.mono P1.out.size)
    have HZ : Hid (Rt u2 V.heap.size z (-q + ((1 : Int) : Rat))) := hz.lower P1.out.size
    clear hz hb
    clear b0 b1 b2 b3 b4
    obtain ⟨b0, b1, b2, b3, b4⟩ := (HV5.out.1.below P2.out).facts
    obtain ⟨t0, t1, t2, t3, t4⟩ := (HV5.out.1.below P2.out).thaw
    try go_wp2_with fail
    refine hK.out _ _ ?_ (fun hHeld => ?_)
    · (try dsimp only); try go_keep
    clear hK K
    try simp only [zR]
    refine tk (i := 4) (h := ?_)
    try simp only [zR]
    refine tr [5] ?_
    refine tc (h := fun K hK => ?_) (hs := tn)
    try go_simp
    try go_wp2_with fail
    refine hK.out _ _ ?_ (fun hHeld => ?_)
    · (try dsimp only); try go_keep
    clear hK K
    try simp only [zR]
    refine wpAnyH_done (by kernel_rfl) ?_ _
    go_wp2_with fail
    go_meet
    exact ⟨z, rfl, Lib.hid (NewAt.put (HV5.out.1.below P2.out) HZ.out P2.out HXB.out)⟩
   ·
    skip
    try go_simp
    go_at_call 28
    refine (rInt_c 1 _ (by omega)).mono ?_
    rintro e u1 ⟨z1, rfl, hz, hb⟩
    have P1 : Hid (Below V.heap.size V u1) := (bel1 V).trans hb
    have Z1 := Lib.hid (hz.rw one_sz)
    clear hz hb
    clear b0 b1 b2 b3 b4
    obtain ⟨b0, b1, b2, b3, b4⟩ := (HV5.out.1.below P1.out).facts
    try go_wp2_with fail
    refine hK.out _ _ ?_ (fun hHeld => ?_)
    · (try dsimp only); try go_keep
    clear hK K
    try simp only [zR]
    refine tr [1] ?_
    refine tc (h := fun K hK => ?_) (hs := tn)
    try go_simp
    try go_wp2_with fail
    refine hK.out _ _ ?_ (fun hHeld => ?_)
    · (try dsimp only); try go_keep
    clear hK K
    try simp only [zR]
    refine tr [3] ?_
    refine tc (h := fun K hK => ?_) (hs := tn)
    try go_simp
    go_at_call 30
    refine (rAdd_c vc.K z1 (-q) ((1 : Int) : Rat) _ ((HKD.out.below P1.out).more (by omega)) (Z1.out.more (by omega))).mono ?_
    rintro e u2 ⟨z, rfl, hz, hb⟩
    have P2 : Hid (Below V.heap.size V u2) := P1.out.trans (hb.mono P1.out.size)
    have HZ : Hid (Rt u2 V.heap.size z (-q + ((1 : Int) : Rat))) := hz.lower P1.out.size
    clear hz hb
    clear b0 b1 b2 b3 b4
    obtain ⟨b0, b1, b2, b3, b4⟩ := (HV5.out.1.below P2.out).facts
    obtain ⟨t0, t1, t2, t3, t4⟩ := (HV5.out.1.below P2.out).thaw
    try go_wp2_with fail
    refine hK.out _ _ ?_ (fun hHeld => ?_)
    · (try dsimp only); try go_keep
    clear hK K
    try simp only [zR]
    refine tk (i := 4) (h := ?_)
    try simp only [zR]
    refine tr [5] ?_
    refine tc (h := fun K hK => ?_) (hs := tn)
    try go_simp
    try go_wp2_with fail
    refine hK.out _ _ ?_ (fun hHeld => ?_)
    · (try dsimp only); try go_keep
    clear hK K
    try simp only [zR]
    refine wpAnyH_done (by kernel_rfl) ?_ _
    go_wp2_with fail
    go_meet
    exact ⟨z, rfl, Lib.hid (NewAt.put (HV5.out.1.below P2.out) HZ.out P2.out HXB.out)⟩
  case rest =>
   obtain ⟨z, rfl, HNA⟩ := hcut
   clear b0 b1 b2 b3 b4
   have HBC : Hid (Below V0.heap.size V0 wc) := HB5.out.trans (HNA.out.below _ (by have := HXE.out; omega))
   have HOC : Hid (One1 wc G (v : Int) y1 zc (-q)) := HO.out.below HBC.out
   have HCC0 : Hid (C5 wc Y (.int .i64 vc.s) (.slice vc.A vc.n vc.c) (.bool vc.K.s) (.slice vc.K.A vc.K.n vc.K.c) (.slice vc.K.B vc.K.m vc.K.d)) := HC.out.below HBC.out
   have HOD : Hid (One1 wc G (v : Int) y1 z (-q + ((1 : Int) : Rat))) := ⟨HOC.out.cells, HOC.out.n1, HNA.out.num⟩
   have HBR : Hid (Below w.heap.size w wc) := HB0.out.trans (HBC.out.mono HB0.out.size)
   obtain ⟨vd, hvd⟩ : ∃ vd : Cv, vd = reK vc z := ⟨_, rfl⟩
   have HVD := Lib.hid hvd
   have HX5 : Hid (C5 wc X (.int .i64 vd.s) (.slice vd.A vd.n vd.c) (.bool vd.K.s) (.slice vd.K.A vd.K.n vd.K.c) (.slice vd.K.B vd.K.m vd.K.d)) := by
    show C5 _ _ _ _ _ _ _
    rw [hvd]
    exact HNA.out.cell
   clear hvd HNA HBC HC HO HV5 HB5 HXB HXE HOV HKD HB0
   generalize wc = wr at *
   have HAL : Hid (∀ w', Below wr.heap.size wr w' → w'.cell? ⟨X, 0, none⟩ = some (.int .i64 vd.s) ∧ w'.cell? ⟨X, 1, none⟩ = some (.slice vd.A vd.n vd.c) ∧ w'.cell? ⟨X, 2, none⟩ = some (.bool vd.K.s) ∧ w'.cell? ⟨X, 3, none⟩ = some (.slice vd.K.A vd.K.n vd.K.c) ∧ w'.cell? ⟨X, 4, none⟩ = some (.slice vd.K.B vd.K.m vd.K.d)) := fun w' h => (HX5.out.below h).facts
   obtain ⟨L, hL⟩ : ∃ L, L = vs.map (·.v) := ⟨_, rfl⟩
   have HL := Lib.hid hL
   have HKL : Hid (Kons wr A m L) := by show Kons _ _ _ _; rw [hL]; exact (HV.out.below HBR.out).kons
   clear hL
   obtain ⟨a0, a1, a2, a3, a4⟩ := HAL.out _ (Below.refl _ _)
   go_upto_region 7 with fail
   go_cut [11] from 57 (fun bv wx => ∃ (A3 : Option Addr) (c3 : Nat), bv = .slice A3 (m + 1) c3 ∧ Hid (OwnC wx wr.heap.size A3 c3 (m + 1) (L ++ [vd]) ∧ Below wr.heap.size wr wx))
   case first =>
    refine wp_region_held_drew (S := fun w' => w'.cell? ⟨X, 0, none⟩ = some (.int .i64 vd.s) ∧ w'.cell? ⟨X, 1, none⟩ = some (.slice vd.A vd.n vd.c) ∧ w'.cell? ⟨X, 2, none⟩ = some (.bool vd.K.s) ∧ w'.cell? ⟨X, 3, none⟩ = some (.slice vd.K.A vd.K.n vd.K.c) ∧ w'.cell? ⟨X, 4, none⟩ = some (.slice vd.K.B vd.K.m vd.K.d)) (by kernel_rfl) ?_ (fun hHeld => ?_)
    ·
     (try dsimp only)
     go_keep
    refine tk (i := 1) (h := ?_)
    try simp only [zR]
    refine tk (i := 3) (h := ?_)
    try simp only [zR]
    refine tr [0, 4] ?_
    refine tc (h := fun K hK => ?_) (hs := tc (h := fun K hK => ?_) (hs := tn))
    ·
     skip
     try go_simp
     try go_wp2_with fail
     refine hK.out _ _ ?_ (fun hHeld => ?_)
     · (try dsimp only); go_keep
     clear hK K
     try simp only [zR]
     have P0 : Hid (Below wr.heap.size wr (wr.alloc (.cells #[] 28)).drew) := (Below.refl wr.heap.size wr).trans ((((Below.refl _ _).alloc (Nat.le_refl _) _).drew).mono (Below.refl wr.heap.size wr).size)
     have E0 : Hid (OwnC (wr.alloc (.cells #[] 28)).drew wr.heap.size (some ⟨wr.heap.size, 0, none⟩) 0 0 [] ∧ Below wr.heap.size wr (wr.alloc (.cells #[] 28)).drew) := ⟨(OwnC.made0 wr).below (Below.refl _ _).drew, ((Below.refl _ _).alloc (Nat.le_refl _) _).drew⟩
     generalize (wr.alloc (.cells #[] 28)).drew = w0 at *
     clear a0 a1 a2 a3 a4
     obtain ⟨a0, a1, a2, a3, a4⟩ := HAL.out _ P0.out
     refine tr [2, 4] ?_
     refine tc (h := fun K hK => ?_) (hs := tc (h := fun K hK => ?_) (hs := tn))
     ·
      skip
      refine spc_appends rfl _ _ rfl rfl rfl (lo := wr.heap.size) (l := []) (n := 0) E0.out.1 (HKL.out.below P0.out) (by omega) (by have := E0.out.2.size; omega) ?_
      intro A6 c6 w2 hown hgrow
      have P2 : Hid (Below wr.heap.size wr w2) := P0.out.grown hgrow P0.out.size (by intro k hk; simp at hk; have := (Below.refl wr.heap.size wr).size; omega)
      have G2 : Hid (OwnC w2 wr.heap.size A6 c6 m L) := OwnC.lower (by simpa using hown) (Below.refl wr.heap.size wr).size
      clear hown hgrow
      try rw [Nat.zero_add]
      clear a0 a1 a2 a3 a4
      obtain ⟨a0, a1, a2, a3, a4⟩ := HAL.out _ P2.out
      try go_wp2_with fail
      refine hK.out _ _ ?_ (fun hHeld => ?_)
      · (try dsimp only); go_keep
      clear hK K
      try simp only [zR]
      refine tr [4] ?_
      refine tc (h := fun K hK => ?_) (hs := tn)
      try go_simp
      try go_wp2_with fail
      refine hK.out _ _ ?_ (fun hHeld => ?_)
      · (try dsimp only); go_keep
      clear hK K
      try simp only [zR]
      have P4 : Hid (Below wr.heap.size wr (w2.alloc (.cells #[.int .i64 vd.s, .slice vd.A vd.n vd.c, .bool vd.K.s, .slice vd.K.A vd.K.n vd.K.c, .slice vd.K.B vd.K.m vd.K.d] 28))) := P2.out.trans ((((Below.refl _ _).alloc (Nat.le_refl _) _)).mono P2.out.size)
      have G4 : Hid ((w2.alloc (.cells #[.int .i64 vd.s, .slice vd.A vd.n vd.c, .bool vd.K.s, .slice vd.K.A vd.K.n vd.K.c, .slice vd.K.B vd.K.m vd.K.d] 28)).heap[w2.heap.size]? = some (.cells #[.int .i64 vd.s, .slice vd.A vd.n vd.c, .bool vd.K.s, .slice vd.K.A vd.K.n vd.K.c, .slice vd.K.B vd.K.m vd.K.d] 28 (0, 0)) ∧ w2.heap.size < (w2.alloc (.cells #[.int .i64 vd.s, .slice vd.A vd.n vd.c, .bool vd.K.s, .slice vd.K.A vd.K.n vd.K.c, .slice vd.K.B vd.K.m vd.K.d] 28)).heap.size) := ⟨heap_alloc_new w2 _, by simp⟩
      have D4 : Hid (Below w2.heap.size w2 (w2.alloc (.cells #[.int .i64 vd.s, .slice vd.A vd.n vd.c, .bool vd.K.s, .slice vd.K.A vd.K.n vd.K.c, .slice vd.K.B vd.K.m vd.K.d] 28))) := ((Below.refl _ _).alloc (Nat.le_refl _) _)
      generalize (w2.alloc (.cells #[.int .i64 vd.s, .slice vd.A vd.n vd.c, .bool vd.K.s, .slice vd.K.A vd.K.n vd.K.c, .slice vd.K.B vd.K.m vd.K.d] 28)) = w4 at *
      clear a0 a1 a2 a3 a4
      obtain ⟨a0, a1, a2, a3, a4⟩ := HAL.out _ P4.out
      refine tr [5] ?_
      refine tc (h := fun K hK => ?_) (hs := tn)
      refine spc_appends rfl _ _ rfl rfl rfl (lo := wr.heap.size) (G2.out.below D4.out) (kons_one (v := vd) G4.out.1) (by omega) P4.out.size ?_
      intro A7 c7 w5 hown hgrow
      have P5 : Hid (OwnC w5 wr.heap.size A7 c7 (m + 1) (L ++ [vd]) ∧ Below wr.heap.size wr w5) := ⟨hown, far_grown P4.out (G2.out.below D4.out) hgrow⟩
      clear hown hgrow
      clear a0 a1 a2 a3 a4
      obtain ⟨a0, a1, a2, a3, a4⟩ := HAL.out _ P5.out.2
      try go_wp2_with fail
      refine hK.out _ _ ?_ (fun hHeld => ?_)
      · (try dsimp only); go_keep
      clear hK K
      try simp only [zR]
      refine tk (i := 6) (h := ?_)
      try simp only [zR]
      refine wpAnyH_done (by kernel_rfl) ?_ _
      go_wp2_with fail
      go_meet
      exact ⟨_, _, rfl, P5⟩
     ·
      skip
      try go_simp
      try go_wp2_with fail
      refine hK.out _ _ ?_ (fun hHeld => ?_)
      · (try dsimp only); go_keep
      clear hK K
      try simp only [zR]
      have P4 : Hid (Below wr.heap.size wr (w0.alloc (.cells #[.int .i64 vd.s, .slice vd.A vd.n vd.c, .bool vd.K.s, .slice vd.K.A vd.K.n vd.K.c, .slice vd.K.B vd.K.m vd.K.d] 28))) := P0.out.trans ((((Below.refl _ _).alloc (Nat.le_refl _) _)).mono P0.out.size)
      have G4 : Hid ((w0.alloc (.cells #[.int .i64 vd.s, .slice vd.A vd.n vd.c, .bool vd.K.s, .slice vd.K.A vd.K.n vd.K.c, .slice vd.K.B vd.K.m vd.K.d] 28)).heap[w0.heap.size]? = some (.cells #[.int .i64 vd.s, .slice vd.A vd.n vd.c, .bool vd.K.s, .slice vd.K.A vd.K.n vd.K.c, .slice vd.K.B vd.K.m vd.K.d] 28 (0, 0)) ∧ w0.heap.size < (w0.alloc (.cells #[.int .i64 vd.s, .slice vd.A vd.n vd.c, .bool vd.K.s, .slice vd.K.A vd.K.n vd.K.c, .slice vd.K.B vd.K.m vd.K.d] 28)).heap.size) := ⟨heap_alloc_new w0 _, by simp⟩
      have D4 : Hid (Below w0.heap.size w0 (w0.alloc (.cells #[.int .i64 vd.s, .slice vd.A vd.n vd.c, .bool vd.K.s, .slice vd.K.A vd.K.n vd.K.c, .slice vd.K.B vd.K.m vd.K.d] 28))) := ((Below.refl _ _).alloc (Nat.le_refl _) _)
      have HNE : Hid (w0.heap.size ≠ wr.heap.size) := by have := E0.out.1.lt _ rfl; show _ ≠ _; omega
      generalize (w0.alloc (.cells #[.int .i64 vd.s, .slice vd.A vd.n vd.c, .bool vd.K.s, .slice vd.K.A vd.K.n vd.K.c, .slice vd.K.B vd.K.m vd.K.d] 28)) = w4 at *
      clear a0 a1 a2 a3 a4
      obtain ⟨a0, a1, a2, a3, a4⟩ := HAL.out _ P4.out
      refine tr [2] ?_
      refine tc (h := fun K hK => ?_) (hs := tn)
      refine spc_appends rfl _ _ rfl rfl rfl (lo := wr.heap.size) (l := []) (n := 0) (E0.out.1.below D4.out) (HKL.out.below P4.out) (by omega) (by have := E0.out.2.size; have := D4.out.size; omega) ?_
      intro A6 c6 w2 hown hgrow
      have P2 : Hid (Below wr.heap.size wr w2) := P4.out.grown hgrow P4.out.size (by intro k hk; simp at hk; have := (Below.refl wr.heap.size wr).size; omega)
      have G2 : Hid (OwnC w2 wr.heap.size A6 c6 m L) := OwnC.lower (by simpa using hown) (Below.refl wr.heap.size wr).size
      replace G4 : Hid (w2.heap[w0.heap.size]? = some (.cells #[.int .i64 vd.s, .slice vd.A vd.n vd.c, .bool vd.K.s, .slice vd.K.A vd.K.n vd.K.c, .slice vd.K.B vd.K.m vd.K.d] 28 (0, 0)) ∧ w0.heap.size < w2.heap.size) := ⟨(hgrow.block _ G4.out.2 (by have := HNE.out; simp; omega)).trans G4.out.1, Nat.lt_of_lt_of_le G4.out.2 hgrow.size⟩
      clear hown hgrow
      try rw [Nat.zero_add]
      clear a0 a1 a2 a3 a4
      obtain ⟨a0, a1, a2, a3, a4⟩ := HAL.out _ P2.out
      try go_wp2_with fail
      refine hK.out _ _ ?_ (fun hHeld => ?_)
      · (try dsimp only); go_keep
      clear hK K
      try simp only [zR]
      refine tr [5] ?_
      refine tc (h := fun K hK => ?_) (hs := tn)
      refine spc_appends rfl _ _ rfl rfl rfl (lo := wr.heap.size) G2.out (kons_one (v := vd) G4.out.1) (by omega) P2.out.size ?_
      intro A7 c7 w5 hown hgrow
      have P5 : Hid (OwnC w5 wr.heap.size A7 c7 (m + 1) (L ++ [vd]) ∧ Below wr.heap.size wr w5) := ⟨hown, far_grown P2.out G2.out hgrow⟩
      clear hown hgrow
      clear a0 a1 a2 a3 a4
      obtain ⟨a0, a1, a2, a3, a4⟩ := HAL.out _ P5.out.2
      try go_wp2_with fail
      refine hK.out _ _ ?_ (fun hHeld => ?_)
      · (try dsimp only); go_keep
      clear hK K
      try simp only [zR]
      refine tk (i := 6) (h := ?_)
      try simp only [zR]
      refine wpAnyH_done (by kernel_rfl) ?_ _
      go_wp2_with fail
      go_meet
      exact ⟨_, _, rfl, P5⟩
    ·
     skip
     try go_simp
     try go_wp2_with fail
     refine hK.out _ _ ?_ (fun hHeld => ?_)
     · (try dsimp only); go_keep
     clear hK K
     try simp only [zR]
     have P4 : Hid (Below wr.heap.size wr (wr.alloc (.cells #[.int .i64 vd.s, .slice vd.A vd.n vd.c, .bool vd.K.s, .slice vd.K.A vd.K.n vd.K.c, .slice vd.K.B vd.K.m vd.K.d] 28)).drew) := (Below.refl wr.heap.size wr).trans ((((Below.refl _ _).alloc (Nat.le_refl _) _).drew).mono (Below.refl wr.heap.size wr).size)
     have G4 : Hid ((wr.alloc (.cells #[.int .i64 vd.s, .slice vd.A vd.n vd.c, .bool vd.K.s, .slice vd.K.A vd.K.n vd.K.c, .slice vd.K.B vd.K.m vd.K.d] 28)).drew.heap[wr.heap.size]? = some (.cells #[.int .i64 vd.s, .slice vd.A vd.n vd.c, .bool vd.K.s, .slice vd.K.A vd.K.n vd.K.c, .slice vd.K.B vd.K.m vd.K.d] 28 (0, 0)) ∧ wr.heap.size < (wr.alloc (.cells #[.int .i64 vd.s, .slice vd.A vd.n vd.c, .bool vd.K.s, .slice vd.K.A vd.K.n vd.K.c, .slice vd.K.B vd.K.m vd.K.d] 28)).drew.heap.size) := ⟨heap_alloc_new wr _, by simp⟩
     have D4 : Hid (Below wr.heap.size wr (wr.alloc (.cells #[.int .i64 vd.s, .slice vd.A vd.n vd.c, .bool vd.K.s, .slice vd.K.A vd.K.n vd.K.c, .slice vd.K.B vd.K.m vd.K.d] 28)).drew) := ((Below.refl _ _).alloc (Nat.le_refl _) _).drew
     generalize (wr.alloc (.cells #[.int .i64 vd.s, .slice vd.A vd.n vd.c, .bool vd.K.s, .slice vd.K.A vd.K.n vd.K.c, .slice vd.K.B vd.K.m vd.K.d] 28)).drew = w4 at *
     clear a0 a1 a2 a3 a4
     obtain ⟨a0, a1, a2, a3, a4⟩ := HAL.out _ P4.out
     refine tr [0] ?_
     refine tc (h := fun K hK => ?_) (hs := tn)
     try go_simp
     try go_wp2_with fail
     refine hK.out _ _ ?_ (fun hHeld => ?_)
     · (try dsimp only); go_keep
     clear hK K
     try simp only [zR]
     have P0 : Hid (Below wr.heap.size wr (w4.alloc (.cells #[] 28))) := P4.out.trans ((((Below.refl _ _).alloc (Nat.le_refl _) _)).mono P4.out.size)
     have E0 : Hid (OwnC (w4.alloc (.cells #[] 28)) w4.heap.size (some ⟨w4.heap.size, 0, none⟩) 0 0 [] ∧ Below w4.heap.size w4 (w4.alloc (.cells #[] 28))) := ⟨(OwnC.made0 w4), ((Below.refl _ _).alloc (Nat.le_refl _) _)⟩
     have HNE : Hid (wr.heap.size ≠ w4.heap.size) := by have := G4.out.2; show _ ≠ _; omega
     replace G4 : Hid ((w4.alloc (.cells #[] 28)).heap[wr.heap.size]? = some (.cells #[.int .i64 vd.s, .slice vd.A vd.n vd.c, .bool vd.K.s, .slice vd.K.A vd.K.n vd.K.c, .slice vd.K.B vd.K.m vd.K.d] 28 (0, 0)) ∧ wr.heap.size < (w4.alloc (.cells #[] 28)).heap.size) := ⟨(E0.out.2.block _ G4.out.2).trans G4.out.1, Nat.lt_of_lt_of_le G4.out.2 E0.out.2.size⟩
     generalize (w4.alloc (.cells #[] 28)) = w0 at *
     clear a0 a1 a2 a3 a4
     obtain ⟨a0, a1, a2, a3, a4⟩ := HAL.out _ P0.out
     refine tr [2] ?_
     refine tc (h := fun K hK => ?_) (hs := tn)
     refine spc_appends rfl _ _ rfl rfl rfl (lo := w4.heap.size) (l := []) (n := 0) E0.out.1 (HKL.out.below P0.out) (by omega) (by have := E0.out.2.size; omega) ?_
     intro A6 c6 w2 hown hgrow
     have P2 : Hid (Below wr.heap.size wr w2) := P0.out.grown hgrow P0.out.size (by intro k hk; simp at hk; have := P4.out.size; omega)
     have G2 : Hid (OwnC w2 wr.heap.size A6 c6 m L) := OwnC.lower (by simpa using hown) P4.out.size
     replace G4 : Hid (w2.heap[wr.heap.size]? = some (.cells #[.int .i64 vd.s, .slice vd.A vd.n vd.c, .bool vd.K.s, .slice vd.K.A vd.K.n vd.K.c, .slice vd.K.B vd.K.m vd.K.d] 28 (0, 0)) ∧ wr.heap.size < w2.heap.size) := ⟨(hgrow.block _ G4.out.2 (by have := HNE.out; simp; omega)).trans G4.out.1, Nat.lt_of_lt_of_le G4.out.2 hgrow.size⟩
     clear hown hgrow
     try rw [Nat.zero_add]
     clear a0 a1 a2 a3 a4
     obtain ⟨a0, a1, a2, a3, a4⟩ := HAL.out _ P2.out
     try go_wp2_with fail
     refine hK.out _ _ ?_ (fun hHeld => ?_)
     · (try dsimp only); go_keep
     clear hK K
     try simp only [zR]
     refine tr [5] ?_
     refine tc (h := fun K hK => ?_) (hs := tn)
     refine spc_appends rfl _ _ rfl rfl rfl (lo := wr.heap.size) G2.out (kons_one (v := vd) G4.out.1) (by omega) P2.out.size ?_
     intro A7 c7 w5 hown hgrow
     have P5 : Hid (OwnC w5 wr.heap.size A7 c7 (m + 1) (L ++ [vd]) ∧ Below wr.heap.size wr w5) := ⟨hown, far_grown P2.out G2.out hgrow⟩
     clear hown hgrow
     clear a0 a1 a2 a3 a4
     obtain ⟨a0, a1, a2, a3, a4⟩ := HAL.out _ P5.out.2
     try go_wp2_with fail
     refine hK.out _ _ ?_ (fun hHeld => ?_)
     · (try dsimp only); go_keep
     clear hK K
     try simp only [zR]
     refine tk (i := 6) (h := ?_)
     try simp only [zR]
     refine wpAnyH_done (by kernel_rfl) ?_ _
     go_wp2_with fail
     go_meet
     exact ⟨_, _, rfl, P5⟩
   case rest =>
    obtain ⟨A3, c3, rfl, HA3⟩ := hcut
    clear a0 a1 a2 a3 a4 HAL HKL HX5
    have HBM : Hid (Below w.heap.size w wc) := HBR.out.trans (HA3.out.2.mono HBR.out.size)
    have HVM : Hid (Kns N 38657 wc A m vs) := (HV.out.below HBM.out).more (by omega)
    have HCM : Hid (C5 wc Y (.int .i64 vc.s) (.slice vc.A vc.n vc.c) (.bool vc.K.s) (.slice vc.K.A vc.K.n vc.K.c) (.slice vc.K.B vc.K.m vc.K.d)) := HCC0.out.below HA3.out.2
    have HKC : Hid (KinOf N 38657 wc ⟨vc, [((v : Int), ((1 : Int) : Rat))], -q, true⟩) := by
     show KinOf _ _ _ _
     rw [HVC.out]
     exact (HOC.out.below HA3.out.2).kin v0 v1 HQ.out.2.1 (by omega)
    have HMO : Hid (Kns N 38657 wc A3 (m + 1) (vs ++ [⟨vd, [((v : Int), ((1 : Int) : Rat))], -q + ((1 : Int) : Rat), true⟩])) := by
     refine ⟨by rw [List.map_append, ← HL.out]; exact HA3.out.1.kons, fun x hx => ?_⟩
     rcases List.mem_append.1 hx with hx | hx
     · exact HVM.out.rd x hx
     ·
      rw [List.mem_singleton.1 hx, HVD.out, HVC.out]
      exact (HOD.out.below HA3.out.2).kin v0 v1 HQ.out.2.2 (by omega)
    have HFM : Hid (∀ x ∈ vs ++ [⟨vd, [((v : Int), ((1 : Int) : Rat))], -q + ((1 : Int) : Rat), true⟩], x.ok = true → Fr (2 * bgP N) x.L x.k) := fun x hx ho => by
     rcases List.mem_append.1 hx with hx | hx
     · exact HFR2.out x hx ho
     · rw [List.mem_singleton.1 hx]; exact HQ.out.1.2
    clear HA3 HOC HOD HCC0 HBR HV HL HVC HVD
    generalize wc = WM at *
    obtain ⟨a0, a1, a2, a3, a4⟩ := HCM.out.facts
    go_wp2_with fail
    refine (Implies_e (N : Int) N 38657 (2 * bgP N) (151 * 2 ^ N + 1) A m c vs vc [((v : Int), ((1 : Int) : Rat))] (-q) true WM HN.out HVM.out HKC.out (by omega) HRM.out HFR2.out (fun _ => HQ.out.1.1)).mono ?_
    rintro e w8 ⟨b1, rfl, hi1, hb8⟩
    obtain rfl : b1 = b := HF.out.1 b1 _ (by trivial) hi1
    have H8 : Hid (Below WM.heap.size WM w8) := hb8
    clear hi1 hb8 a0 a1 a2 a3 a4
    have beq : (b1 == b1) = true := by cases b1 <;> rfl
    go_wp2_with fail
    refine (Consistent_e (N : Int) N 38657 (2 * bgP N) (151 * 2 ^ N + 1) A3 (m + 1) c3 (vs ++ [⟨vd, [((v : Int), ((1 : Int) : Rat))], -q + ((1 : Int) : Rat), true⟩]) _ HN.out (HMO.out.below H8.out) (by omega) HRM.out HFM.out).mono ?_
    rintro e w9 ⟨b2, rfl, hc2, hb9⟩
    obtain rfl : b2 = !b1 := HF.out.2 vd b2 hc2
    have H9 : Hid (Below WM.heap.size WM w9) := H8.out.trans (hb9.mono H8.out.size)
    clear hc2 hb9
    have beq2 : ((!b1) == (!b1)) = true := by cases b1 <;> rfl
    go_wp2_with fail
    refine (known10_c _).mono ?_
    rintro e w10 ⟨rfl, hb⟩
    have H10 : Hid (Below w.heap.size w w10) := HBM.out.trans ((H9.out.trans (hb.mono H9.out.size)).mono HBM.out.size)
    clear hb
    go_wp2
    go_ret
    exact ⟨rfl, H10.out⟩
end Go.Proofs.YtgffkaconhonlaaGreat
