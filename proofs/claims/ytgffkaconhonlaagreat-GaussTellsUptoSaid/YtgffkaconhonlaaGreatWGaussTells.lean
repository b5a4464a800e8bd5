/-
  GaussTells: of any sums whether they can hold, how many are independent, what a variable must be, whether another one holds, too.
-/
import Derived.Test.YtgffkaconhonlaaGreatWTlA
import Derived.Test.YtgffkaconhonlaaGreatWGSolG
import Derived.Test.YtgffkaconhonlaaGreatWKnG
import Derived.Test.YtgffkaconhonlaaGreatWSpc
import Derived.Test.YtgffkaconhonlaaGreatWMany
import Derived.Test.YtgffkaconhonlaaGreatWOpenN
import Derived.Deep.Cut
import Derived.Test.YtgffkaconhonlaaGreatWRgn
namespace Go.Proofs.YtgffkaconhonlaaGreat
set_option maxRecDepth 20000
open Go.RowKit
theorem KinOf.below {N s : Nat} {w w' : World} {x : Kin} (h : KinOf N s w x) (hb : Below w.heap.size w w') : KinOf N s w' x := by
 obtain ⟨h1, h2, h3, la, h4, h5, h6⟩ := h
 exact ⟨h1, h2, h3.below hb, la, h4.below hb, h5.below hb, h6.trans (IsS.turn h5 h3 hb)⟩
theorem Fit.below {w w' : World} {v : Cv} {l : List Tv} (h : Fit w v l) (hb : Below w.heap.size w w') : Fit w' v l := ⟨h.row.below hb, h.n, h.kn, h.km, h.cap, h.each⟩
theorem imp_one {b b' : Bool} {P : Prop} (h : b = true ↔ P) (h' : b' = true ↔ P) : b = b' := by
 have := h.trans h'.symm
 cases b <;> cases b' <;> simp_all
set_option maxHeartbeats 25600000 in
theorem GaussTells_any (A A' : Option Addr) (m c q c' : Nat) (vc : Cv) (lc : List Tv) (v n : Int) (ps : List (Cv × List Tv)) (lv : List Rv) (w : World) (hk : Kons w A m (ps.map (·.1))) (hf : ∀ x ∈ ps, Raw w x.1 x.2) (hm : m ≤ 1048576) (hc : Raw w vc lc) (hc64 : ∀ x ∈ lc, -9223372036854775808 ≤ x.v ∧ x.v ≤ 9223372036854775807)
  (hnv : Nums w A' q lv) (hrv : ∀ x ∈ lv, RdR w x ∧ x.n ≤ 1048576 ∧ x.m ≤ 1048576) (hq : q ≤ 1048576) :
  Calls Tryz.prog 3 #[.slice A m c, .agg #[.int .i64 vc.s, .slice vc.A vc.n vc.c, .bool vc.K.s, .slice vc.K.A vc.K.n vc.K.c, .slice vc.K.B vc.K.m vc.K.d], .slice A' q c', .int .i64 v, .int .i64 n] w fun e w' => e = .returned (.bool true) ∧ Below w.heap.size w w' := by
 have HK := Lib.hid (And.intro hk hf)
 have HCR := Lib.hid (And.intro hc hc64)
 have HNV := Lib.hid (And.intro hnv hrv)
 have m0 : (0 : Int) ≤ (m : Int) := by omega
 have ka := C5.new w (.int .i64 vc.s) (.slice vc.A vc.n vc.c) (.bool vc.K.s) (.slice vc.K.A vc.K.n vc.K.c) (.slice vc.K.B vc.K.m vc.K.d)
 have hB : Below w.heap.size w (w.alloc (.cells #[.int .i64 vc.s, .slice vc.A vc.n vc.c, .bool vc.K.s, .slice vc.K.A vc.K.n vc.K.c, .slice vc.K.B vc.K.m vc.K.d] 28)) := (Below.refl _ _).alloc (Nat.le_refl _) _
 have HZ0 := Lib.hid (And.intro ka hB)
 clear hk hf hc hc64 hnv hrv ka hB
 go_enter Tryz.func3, Tryz.ntmps3
 go_wp2_with fail
 generalize w.alloc (.cells #[.int .i64 vc.s, .slice vc.A vc.n vc.c, .bool vc.K.s, .slice vc.K.A vc.K.n vc.K.c, .slice vc.K.B vc.K.m vc.K.d] 28) = W0 at *
 obtain ⟨X, hX⟩ : ∃ X, X = w.heap.size := ⟨_, rfl⟩
 have HXE : Hid (X = w.heap.size) := hX
 rw [← hX] at HZ0
 rw [← hX]
 clear hX
 have HB0 : Hid (Below w.heap.size w W0) := HXE.out ▸ HZ0.out.2
 refine (heavyG_c A m c ps _ (HK.out.1.below HB0.out) (fun x hx => (HK.out.2 x hx).fit.below HB0.out) hm).mono ?_
 rintro e w1 ⟨r, rfl, hr, hb⟩
 have HR := Lib.hid hr
 have HB1 : Hid (Below w.heap.size w w1 ∧ C5 w1 X (.int .i64 vc.s) (.slice vc.A vc.n vc.c) (.bool vc.K.s) (.slice vc.K.A vc.K.n vc.K.c) (.slice vc.K.B vc.K.m vc.K.d)) := ⟨HB0.out.trans (hb.mono HB0.out.size), HZ0.out.1.below hb⟩
 clear hr hb HZ0 HB0
 cases r with
 |
  true =>
  go_wp2
  go_ret
  exact ⟨rfl, HB1.out.1⟩
 | false =>
 obtain ⟨a0, a1, a2, a3, a4⟩ := HB1.out.2.facts
 go_wp2_with fail
 have HV1 : Hid ((w1.alloc (.cells #[.int .i64 vc.s, .slice vc.A vc.n vc.c, .bool vc.K.s, .slice vc.K.A vc.K.n vc.K.c, .slice vc.K.B vc.K.m vc.K.d] 28)).heap[w1.heap.size]? = some (.cells #[.int .i64 vc.s, .slice vc.A vc.n vc.c, .bool vc.K.s, .slice vc.K.A vc.K.n vc.K.c, .slice vc.K.B vc.K.m vc.K.d] 28 (0, 0)) ∧ Below w.heap.size w (w1.alloc (.cells #[.int .i64 vc.s, .slice vc.A vc.n vc.c, .bool vc.K.s, .slice vc.K.A vc.K.n vc.K.c, .slice vc.K.B vc.K.m vc.K.d] 28)) ∧ C5 (w1.alloc (.cells #[.int .i64 vc.s, .slice vc.A vc.n vc.c, .bool vc.K.s, .slice vc.K.A vc.K.n vc.K.c, .slice vc.K.B vc.K.m vc.K.d] 28)) X (.int .i64 vc.s) (.slice vc.A vc.n vc.c) (.bool vc.K.s) (.slice vc.K.A vc.K.n vc.K.c) (.slice vc.K.B vc.K.m vc.K.d)) := ⟨heap_alloc_new w1 _, HB1.out.1.alloc HB1.out.1.size _, HB1.out.2.alloc _⟩
 clear a0 a1 a2 a3 a4
 generalize w1.alloc (.cells #[.int .i64 vc.s, .slice vc.A vc.n vc.c, .bool vc.K.s, .slice vc.K.A vc.K.n vc.K.c, .slice vc.K.B vc.K.m vc.K.d] 28) = V at *
 generalize w1.heap.size = g1 at *
 refine (heavyG_c (some ⟨g1, 0, none⟩) 1 1 [(vc, lc)] _ (kons_one (v := vc) HV1.out.1) (fun x hx => by rw [List.mem_singleton.1 hx]; exact HCR.out.1.fit.below HV1.out.2.1) (by omega)).mono ?_
 rintro e w2 ⟨r, rfl, hr, hb⟩
 have HR' := Lib.hid hr
 have H2 : Hid (Below w.heap.size w w2 ∧ C5 w2 X (.int .i64 vc.s) (.slice vc.A vc.n vc.c) (.bool vc.K.s) (.slice vc.K.A vc.K.n vc.K.c) (.slice vc.K.B vc.K.m vc.K.d)) := ⟨HV1.out.2.1.trans (hb.mono HV1.out.2.1.size), HV1.out.2.2.below hb⟩
 clear hr hb HV1 HB1
 cases r with
 |
  true =>
  go_wp2
  go_ret
  exact ⟨rfl, H2.out.1⟩
 | false =>
 go_wp2_with fail
 refine (many_c A' q c' lv w2 (HNV.out.1.below H2.out.1) hq (fun x hx => ⟨(HNV.out.2 x hx).2.1, (HNV.out.2 x hx).2.2⟩)).mono ?_
 rintro e w3 ⟨r, rfl, hr, hb⟩
 have HRM : Hid (r = false → q ≤ 100 ∧ ∀ x ∈ lv, x.n ≤ 3 ∧ x.m ≤ 3) := hr
 have H3 : Hid (Below w.heap.size w w3 ∧ C5 w3 X (.int .i64 vc.s) (.slice vc.A vc.n vc.c) (.bool vc.K.s) (.slice vc.K.A vc.K.n vc.K.c) (.slice vc.K.B vc.K.m vc.K.d)) := ⟨H2.out.1.trans (hb.mono H2.out.1.size), H2.out.2.below hb⟩
 clear hr hb H2
 cases r with
 |
  true =>
  go_wp2
  go_ret
  exact ⟨rfl, H3.out.1⟩
 | false =>
 by_cases hn12 : 12 < n
 ·
  go_wp2
  go_ret
  exact ⟨rfl, H3.out.1⟩
 obtain ⟨N, hN⟩ : ∃ N, heldN n = N := ⟨_, rfl⟩
 have hNi : min (max n 0) 64 = (N : Int) := by rw [← hN]; exact (heldN_int n).symm
 have hN12 : N ≤ 12 := by omega
 have HN : Hid (heldN n = N ∧ min (max n 0) 64 = (N : Int) ∧ N ≤ 12) := ⟨hN, hNi, hN12⟩
 have HRO : Hid (Room 150 N) := room150 hN12
 obtain ⟨hm75, vs, _, hkn⟩ := kns_of N HK.out.1 HK.out.2 (HR.out (by trivial))
 have HV0 := Lib.hid hkn
 have hcost : cost vc lc ≤ 150 := Nat.le_trans (costA_get (ps := [(vc, lc)]) (i := 0) rfl) (HR'.out (by trivial))
 obtain ⟨Lc, kc, hrc⟩ := HCR.out.1.rinT hcost HCR.out.2
 obtain ⟨V, hV⟩ := rdv_ex (p := 3) lv fun x hx => ⟨(HNV.out.2 x hx).1, (HRM.out (by trivial)).2 x hx⟩
 have HVI : Hid (VinT q w A' lv V) := ⟨HNV.out.1, RdV.more (by omega) hV, (HRM.out (by trivial)).1⟩
 have HXC := Lib.hid hrc
 obtain ⟨okc, hokc⟩ : ∃ okc : Bool, okc = true ↔ IsS w vc lc (N : Int) := by
  classical
  exact ⟨decide (IsS w vc lc (N : Int)), decide_eq_true_iff⟩
 have HKC : Hid (KinOf N 150 w ⟨vc, Lc, kc, okc⟩) := hrc.kin hokc
 have m2 : (m : Int) ≤ 75 := by omega
 have n12 : n ≤ 12 := by omega
 clear hkn hcost hrc hV hokc HR HR' HRM HNV HCR HK hm75 hN hNi hN12 hm hq hn12
 go_wp2_with fail
 refine (Fixed_c n v N 150 A m c vs w3 HN.out.1 (HV0.out.below H3.out.1) (by omega) HRO.out).mono ?_
 rintro e w4 ⟨z1, b1, q1, rfl, hz1, hb4, f1, f2⟩
 have HF1 := Lib.hid (And.intro f1 f2)
 go_upto_region 4 with fail
 have HW4 : Hid (C3 (w4.alloc (.cells #[.bool z1.s, .slice z1.A z1.n z1.c, .slice z1.B z1.m z1.d] 26)) w4.heap.size (.bool z1.s) (.slice z1.A z1.n z1.c) (.slice z1.B z1.m z1.d) ∧ Below w.heap.size w (w4.alloc (.cells #[.bool z1.s, .slice z1.A z1.n z1.c, .slice z1.B z1.m z1.d] 26)) ∧ C5 (w4.alloc (.cells #[.bool z1.s, .slice z1.A z1.n z1.c, .slice z1.B z1.m z1.d] 26)) X (.int .i64 vc.s) (.slice vc.A vc.n vc.c) (.bool vc.K.s) (.slice vc.K.A vc.K.n vc.K.c) (.slice vc.K.B vc.K.m vc.K.d) ∧ Rw (w4.alloc (.cells #[.bool z1.s, .slice z1.A z1.n z1.c, .slice z1.B z1.m z1.d] 26)) z1 q1 1000000000) := by
  have h1 := H3.out.1.trans (hb4.mono H3.out.1.size)
  exact ⟨C3.new w4 (.bool z1.s) (.slice z1.A z1.n z1.c) (.slice z1.B z1.m z1.d), h1.alloc h1.size _, (H3.out.2.below hb4).alloc _, hz1.alloc _⟩
 clear hz1 hb4 f1 f2 H3
 generalize w4.alloc (.cells #[.bool z1.s, .slice z1.A z1.n z1.c, .slice z1.B z1.m z1.d] 26) = W4 at *
 generalize w4.heap.size = X1 at *
 go_wp2_with fail
 refine (dFixed_c n v N A m c vs W4 HN.out.2.1 (HV0.out.below HW4.out.2.1) HN.out.2.2 (by omega)).mono ?_
 rintro e w5 ⟨z2, b2, q2, rfl, hz2, hb5, g1, g2⟩
 obtain ⟨hbe, hqe⟩ := fix_same (N := N) (us := vs) (vs := vs) (fun f => Iff.rfl) g1 g2 HF1.out.1 HF1.out.2
 obtain rfl : b2 = b1 := hbe
 obtain rfl : q2 = q1 := hqe
 go_upto_region 5 with fail
 have HW5 : Hid (C3 (w5.alloc (.cells #[.bool z2.s, .slice z2.A z2.n z2.c, .slice z2.B z2.m z2.d] 26)) w5.heap.size (.bool z2.s) (.slice z2.A z2.n z2.c) (.slice z2.B z2.m z2.d) ∧ C3 (w5.alloc (.cells #[.bool z2.s, .slice z2.A z2.n z2.c, .slice z2.B z2.m z2.d] 26)) X1 (.bool z1.s) (.slice z1.A z1.n z1.c) (.slice z1.B z1.m z1.d) ∧ C5 (w5.alloc (.cells #[.bool z2.s, .slice z2.A z2.n z2.c, .slice z2.B z2.m z2.d] 26)) X (.int .i64 vc.s) (.slice vc.A vc.n vc.c) (.bool vc.K.s) (.slice vc.K.A vc.K.n vc.K.c) (.slice vc.K.B vc.K.m vc.K.d) ∧ Below w.heap.size w (w5.alloc (.cells #[.bool z2.s, .slice z2.A z2.n z2.c, .slice z2.B z2.m z2.d] 26)) ∧ Rw (w5.alloc (.cells #[.bool z2.s, .slice z2.A z2.n z2.c, .slice z2.B z2.m z2.d] 26)) z2 q2 28500000000 ∧ Rw (w5.alloc (.cells #[.bool z2.s, .slice z2.A z2.n z2.c, .slice z2.B z2.m z2.d] 26)) z1 q2 1000000000) := by
  have h1 := HW4.out.2.1.trans (hb5.mono HW4.out.2.1.size)
  exact ⟨C3.new w5 (.bool z2.s) (.slice z2.A z2.n z2.c) (.slice z2.B z2.m z2.d), (HW4.out.1.below hb5).alloc _, (HW4.out.2.2.1.below hb5).alloc _, h1.alloc h1.size _, hz2.alloc _, (HW4.out.2.2.2.below hb5).alloc _⟩
 clear hz2 hb5 g1 g2 HW4 HF1
 generalize w5.alloc (.cells #[.bool z2.s, .slice z2.A z2.n z2.c, .slice z2.B z2.m z2.d] 26) = W at *
 generalize w5.heap.size = X2 at *
 have HBW : Hid (Below w.heap.size w W) := HW5.out.2.2.2.1
 have HALL : Hid (∀ w', Below W.heap.size W w' → Kns N 150 w' A m vs ∧ RinT w' vc lc Lc kc ∧ VinT q w' A' lv V ∧ KinOf N 150 w' ⟨vc, Lc, kc, okc⟩ ∧ Rw w' z2 q2 28500000000 ∧ Rw w' z1 q2 1000000000) := fun w' h => by
  have h1 := HBW.out.trans (h.mono HBW.out.size)
  exact ⟨HV0.out.below h1, HXC.out.below h1, HVI.out.below h1, HKC.out.below h1, HW5.out.2.2.2.2.1.below h, HW5.out.2.2.2.2.2.below h⟩
 have HAL : Hid (∀ w', Below W.heap.size W w' → (w'.cell? ⟨X, 0, none⟩ = some (.int .i64 vc.s) ∧ w'.cell? ⟨X, 1, none⟩ = some (.slice vc.A vc.n vc.c) ∧ w'.cell? ⟨X, 2, none⟩ = some (.bool vc.K.s) ∧ w'.cell? ⟨X, 3, none⟩ = some (.slice vc.K.A vc.K.n vc.K.c) ∧ w'.cell? ⟨X, 4, none⟩ = some (.slice vc.K.B vc.K.m vc.K.d)) ∧ (w'.cell? ⟨X1, 0, none⟩ = some (.bool z1.s) ∧ w'.cell? ⟨X1, 1, none⟩ = some (.slice z1.A z1.n z1.c) ∧ w'.cell? ⟨X1, 2, none⟩ = some (.slice z1.B z1.m z1.d)) ∧ (w'.cell? ⟨X2, 0, none⟩ = some (.bool z2.s) ∧ w'.cell? ⟨X2, 1, none⟩ = some (.slice z2.A z2.n z2.c) ∧ w'.cell? ⟨X2, 2, none⟩ = some (.slice z2.B z2.m z2.d))) := fun w' h => by
  obtain ⟨g0, g1, g2, _⟩ := (HW5.out.2.1.below h).facts
  obtain ⟨t0, t1, t2, _⟩ := (HW5.out.1.below h).facts
  exact ⟨(HW5.out.2.2.1.below h).facts, ⟨g0, g1, g2⟩, ⟨t0, t1, t2⟩⟩
 clear HW5 HV0 HXC HVI HKC HXE
 obtain ⟨⟨a0, a1, a2, a3, a4⟩, ⟨x0, x1, x2⟩, ⟨y0, y1, y2⟩⟩ := HAL.out _ (Below.refl _ _)
 have be2 : (b2 == b2) = true := by cases b2 <;> rfl
 refine wp_region_held_drew (S := fun w' => (w'.cell? ⟨X, 0, none⟩ = some (.int .i64 vc.s) ∧ w'.cell? ⟨X, 1, none⟩ = some (.slice vc.A vc.n vc.c) ∧ w'.cell? ⟨X, 2, none⟩ = some (.bool vc.K.s) ∧ w'.cell? ⟨X, 3, none⟩ = some (.slice vc.K.A vc.K.n vc.K.c) ∧ w'.cell? ⟨X, 4, none⟩ = some (.slice vc.K.B vc.K.m vc.K.d)) ∧ (w'.cell? ⟨X1, 0, none⟩ = some (.bool z1.s) ∧ w'.cell? ⟨X1, 1, none⟩ = some (.slice z1.A z1.n z1.c) ∧ w'.cell? ⟨X1, 2, none⟩ = some (.slice z1.B z1.m z1.d)) ∧ (w'.cell? ⟨X2, 0, none⟩ = some (.bool z2.s) ∧ w'.cell? ⟨X2, 1, none⟩ = some (.slice z2.A z2.n z2.c) ∧ w'.cell? ⟨X2, 2, none⟩ = some (.slice z2.B z2.m z2.d))) (by kernel_rfl) ?_ (fun hHeld => ?_)
 ·
  (try dsimp only)
  go_keep
 refine tk (i := 0) (h := ?_)
 try simp only [zR]
 refine tk (i := 1) (h := ?_)
 try simp only [zR]
 refine tk (i := 3) (h := ?_)
 try simp only [zR]
 refine tk (i := 4) (h := ?_)
 try simp only [zR]
 refine tr [2] ?_
 refine tc (h := fun K hK => ?_) (hs := tn)
 try go_simp
 go_at_call 15
 refine (HoldsT_c vc A' q c' lc lv Lc V kc _ (HALL.out _ (bel1 W)).2.1 (HALL.out _ (bel1 W)).2.2.1).mono ?_
 rintro ee u2 ⟨rfl, hb⟩
 have P2 : Hid (Below W.heap.size W u2) := (bel1 W).trans hb
 obtain ⟨bh, hbh⟩ : ∃ bh, bh = decide (atL (atV V) Lc kc = 0) := ⟨_, rfl⟩
 have HBH := Lib.hid hbh
 rw [← hbh]
 clear hb hbh
 have beh : (bh == bh) = true := by cases bh <;> rfl
 clear a0 a1 a2 a3 a4 x0 x1 x2 y0 y1 y2
 obtain ⟨⟨a0, a1, a2, a3, a4⟩, ⟨x0, x1, x2⟩, ⟨y0, y1, y2⟩⟩ := HAL.out _ P2.out
 try go_wp2_with fail
 refine hK.out _ _ ?_ (fun hHeld => ?_)
 · (try dsimp only); go_keep
 clear hK K
 try simp only [zR]
 refine tr [5] ?_
 refine tc (h := fun K hK => ?_) (hs := tn)
 try go_simp
 go_at_call 16
 refine (rHoldsT_c vc A' q c' lc lv Lc V kc _ (HALL.out _ P2.out).2.1 (HALL.out _ P2.out).2.2.1).mono ?_
 rw [← HBH.out]
 rintro ee u5 ⟨rfl, hb⟩
 have P5 : Hid (Below W.heap.size W u5) := P2.out.trans (hb.mono P2.out.size)
 clear hb
 clear a0 a1 a2 a3 a4 x0 x1 x2 y0 y1 y2
 obtain ⟨⟨a0, a1, a2, a3, a4⟩, ⟨x0, x1, x2⟩, ⟨y0, y1, y2⟩⟩ := HAL.out _ P5.out
 try go_wp2_with fail
 refine hK.out _ _ ?_ (fun hHeld => ?_)
 · (try dsimp only); go_keep
 clear hK K
 try simp only [zR]
 refine tk (i := 6) (h := ?_)
 try simp only [zR]
 refine tk (i := 7) (h := ?_)
 try simp only [zR]
 refine tk (i := 8) (h := ?_)
 try simp only [zR]
 refine tk (i := 9) (h := ?_)
 try simp only [zR]
 refine tk (i := 11) (h := ?_)
 try simp only [zR]
 refine tk (i := 12) (h := ?_)
 try simp only [zR]
 refine tr [10] ?_
 refine tc (h := fun K hK => ?_) (hs := tn)
 try go_simp
 go_at_call 17
 refine (Consistent_c n N 150 A m c vs _ HN.out.1 (HALL.out _ P5.out).1 (by omega) HRO.out).mono ?_
 rintro ee u10 ⟨bc, rfl, hc1, hb⟩
 have P10 : Hid (Below W.heap.size W u10) := P5.out.trans (hb.mono P5.out.size)
 have HC1 := Lib.hid hc1
 clear hb hc1
 have bec : (bc == bc) = true := by cases bc <;> rfl
 clear a0 a1 a2 a3 a4 x0 x1 x2 y0 y1 y2
 obtain ⟨⟨a0, a1, a2, a3, a4⟩, ⟨x0, x1, x2⟩, ⟨y0, y1, y2⟩⟩ := HAL.out _ P10.out
 try go_wp2_with fail
 refine hK.out _ _ ?_ (fun hHeld => ?_)
 · (try dsimp only); go_keep
 clear hK K
 try simp only [zR]
 refine tr [13] ?_
 refine tc (h := fun K hK => ?_) (hs := tn)
 try go_simp
 go_at_call 18
 refine (dConsistent_c n N A m c vs _ HN.out.2.1 (HALL.out _ P10.out).1 HN.out.2.2 (by omega)).mono ?_
 rintro ee u13 ⟨bc2, rfl, hc2, hb⟩
 obtain rfl : bc2 = bc := imp_one hc2 HC1.out
 have P13 : Hid (Below W.heap.size W u13) := P10.out.trans (hb.mono P10.out.size)
 clear hb hc2 HC1
 clear a0 a1 a2 a3 a4 x0 x1 x2 y0 y1 y2
 obtain ⟨⟨a0, a1, a2, a3, a4⟩, ⟨x0, x1, x2⟩, ⟨y0, y1, y2⟩⟩ := HAL.out _ P13.out
 try go_wp2_with fail
 refine hK.out _ _ ?_ (fun hHeld => ?_)
 · (try dsimp only); go_keep
 clear hK K
 try simp only [zR]
 refine tk (i := 14) (h := ?_)
 try simp only [zR]
 refine tk (i := 15) (h := ?_)
 try simp only [zR]
 refine tk (i := 16) (h := ?_)
 try simp only [zR]
 refine tk (i := 17) (h := ?_)
 try simp only [zR]
 refine tk (i := 18) (h := ?_)
 try simp only [zR]
 refine tk (i := 20) (h := ?_)
 try simp only [zR]
 refine tk (i := 21) (h := ?_)
 try simp only [zR]
 refine tr [19] ?_
 refine tc (h := fun K hK => ?_) (hs := tn)
 try go_simp
 go_at_call 19
 refine (Rank_c n N 150 A m c vs _ HN.out.1 (HALL.out _ P13.out).1 (by omega) HRO.out).mono ?_
 rintro ee u19 ⟨R1, rfl, hr1, hb⟩
 have P19 : Hid (Below W.heap.size W u19) := P13.out.trans (hb.mono P13.out.size)
 obtain ⟨rk, hrk⟩ : ∃ rk, rk = R1.length := ⟨_, rfl⟩
 have HRK := Lib.hid (And.intro hrk hr1)
 rw [← hrk]
 clear hb hr1 hrk
 have rke : ((rk : Int) == (rk : Int)) = true := by simp
 clear a0 a1 a2 a3 a4 x0 x1 x2 y0 y1 y2
 obtain ⟨⟨a0, a1, a2, a3, a4⟩, ⟨x0, x1, x2⟩, ⟨y0, y1, y2⟩⟩ := HAL.out _ P19.out
 try go_wp2_with fail
 refine hK.out _ _ ?_ (fun hHeld => ?_)
 · (try dsimp only); go_keep
 clear hK K
 try simp only [zR]
 refine tr [22] ?_
 refine tc (h := fun K hK => ?_) (hs := tn)
 try go_simp
 go_at_call 20
 refine (dRank_c n N A m c vs _ HN.out.2.1 (HALL.out _ P19.out).1 HN.out.2.2 (by omega)).mono ?_
 rintro ee u22 ⟨R2, rfl, hr2, hb⟩
 have hrr : R2.length = rk := by rw [HRK.out.1]; exact hr2.same HRK.out.2 (fun _ hs => Sp.mem hs) (fun _ hs => Sp.mem hs)
 rw [hrr]
 have P22 : Hid (Below W.heap.size W u22) := P19.out.trans (hb.mono P19.out.size)
 clear hb hr2 hrr HRK
 clear a0 a1 a2 a3 a4 x0 x1 x2 y0 y1 y2
 obtain ⟨⟨a0, a1, a2, a3, a4⟩, ⟨x0, x1, x2⟩, ⟨y0, y1, y2⟩⟩ := HAL.out _ P22.out
 try go_wp2_with fail
 refine hK.out _ _ ?_ (fun hHeld => ?_)
 · (try dsimp only); go_keep
 clear hK K
 try simp only [zR]
 refine tk (i := 23) (h := ?_)
 try simp only [zR]
 refine tk (i := 24) (h := ?_)
 try simp only [zR]
 refine tk (i := 25) (h := ?_)
 try simp only [zR]
 refine tk (i := 26) (h := ?_)
 try simp only [zR]
 refine tk (i := 27) (h := ?_)
 try simp only [zR]
 refine tk (i := 28) (h := ?_)
 try simp only [zR]
 refine tk (i := 30) (h := ?_)
 try simp only [zR]
 refine tk (i := 31) (h := ?_)
 try simp only [zR]
 refine tk (i := 32) (h := ?_)
 try simp only [zR]
 refine tr [29] ?_
 refine tc (h := fun K hK => ?_) (hs := tn)
 try go_simp
 go_at_call 21
 refine (Implies_c n N 150 A m c vs vc Lc kc okc _ HN.out.1 (HALL.out _ P22.out).1 (HALL.out _ P22.out).2.2.2.1 (by omega) HRO.out).mono ?_
 rintro ee u29 ⟨bi, rfl, hi1, hb⟩
 have P29 : Hid (Below W.heap.size W u29) := P22.out.trans (hb.mono P22.out.size)
 have HI1 := Lib.hid hi1
 clear hb hi1
 have bei : (bi == bi) = true := by cases bi <;> rfl
 clear a0 a1 a2 a3 a4 x0 x1 x2 y0 y1 y2
 obtain ⟨⟨a0, a1, a2, a3, a4⟩, ⟨x0, x1, x2⟩, ⟨y0, y1, y2⟩⟩ := HAL.out _ P29.out
 try go_wp2_with fail
 refine hK.out _ _ ?_ (fun hHeld => ?_)
 · (try dsimp only); go_keep
 clear hK K
 try simp only [zR]
 refine tr [33] ?_
 refine tc (h := fun K hK => ?_) (hs := tn)
 try go_simp
 go_at_call 22
 refine (dImplies_c n N A m c vs vc Lc kc okc _ HN.out.2.1 (HALL.out _ P29.out).1 (HALL.out _ P29.out).2.2.2.1 HN.out.2.2 (by omega)).mono ?_
 rintro ee u33 ⟨bi2, rfl, hi2, hb⟩
 obtain rfl : bi2 = bi := imp_one hi2 HI1.out
 have P33 : Hid (Below W.heap.size W u33) := P29.out.trans (hb.mono P29.out.size)
 clear hb hi2 HI1
 clear a0 a1 a2 a3 a4 x0 x1 x2 y0 y1 y2
 obtain ⟨⟨a0, a1, a2, a3, a4⟩, ⟨x0, x1, x2⟩, ⟨y0, y1, y2⟩⟩ := HAL.out _ P33.out
 try go_wp2_with fail
 refine hK.out _ _ ?_ (fun hHeld => ?_)
 · (try dsimp only); go_keep
 clear hK K
 try simp only [zR]
 refine tk (i := 34) (h := ?_)
 try simp only [zR]
 refine tk (i := 35) (h := ?_)
 try simp only [zR]
 refine tk (i := 36) (h := ?_)
 try simp only [zR]
 refine tk (i := 37) (h := ?_)
 try simp only [zR]
 refine tk (i := 38) (h := ?_)
 try simp only [zR]
 refine tr [39] ?_
 refine tc (h := fun K hK => ?_) (hs := tn)
 try go_simp
 go_at_call 23
 refine (rSame_c z1 z2 q2 q2 _ ((HALL.out _ P33.out).2.2.2.2.2.more (by omega)) ((HALL.out _ P33.out).2.2.2.2.1.more (by omega))).mono ?_
 rw [decide_eq_true rfl]
 rintro ee u39 ⟨rfl, hb⟩
 have P39 : Hid (Below W.heap.size W u39) := P33.out.trans (hb.mono P33.out.size)
 clear hb
 clear a0 a1 a2 a3 a4 x0 x1 x2 y0 y1 y2
 obtain ⟨⟨a0, a1, a2, a3, a4⟩, ⟨x0, x1, x2⟩, ⟨y0, y1, y2⟩⟩ := HAL.out _ P39.out
 try go_wp2_with fail
 refine hK.out _ _ ?_ (fun hHeld => ?_)
 · (try dsimp only); go_keep
 clear hK K
 try simp only [zR]
 refine tk (i := 40) (h := ?_)
 try simp only [zR]
 refine tk (i := 41) (h := ?_)
 try simp only [zR]
 refine tk (i := 42) (h := ?_)
 try simp only [zR]
 refine tk (i := 43) (h := ?_)
 try simp only [zR]
 refine tk (i := 44) (h := ?_)
 try simp only [zR]
 refine tk (i := 45) (h := ?_)
 try simp only [zR]
 refine tk (i := 46) (h := ?_)
 try simp only [zR]
 refine tr [47] ?_
 refine tc (h := fun K hK => ?_) (hs := tn)
 try go_simp
 go_at_call 24
 refine (known10_c _).mono ?_
 rintro ee u47 ⟨rfl, hb⟩
 have P47 : Hid (Below W.heap.size W u47) := P39.out.trans (hb.mono P39.out.size)
 clear hb
 clear a0 a1 a2 a3 a4 x0 x1 x2 y0 y1 y2
 obtain ⟨⟨a0, a1, a2, a3, a4⟩, ⟨x0, x1, x2⟩, ⟨y0, y1, y2⟩⟩ := HAL.out _ P47.out
 try go_wp2_with fail
 refine hK.out _ _ ?_ (fun hHeld => ?_)
 · (try dsimp only); go_keep
 clear hK K
 try simp only [zR]
 refine tk (i := 48) (h := ?_)
 try simp only [zR]
 refine tk (i := 49) (h := ?_)
 try simp only [zR]
 refine wpAnyH_done (by kernel_rfl) ?_ _
 go_wp2_with fail
 go_ret
 exact ⟨rfl, HBW.out.trans (P47.out.mono HBW.out.size)⟩
end Go.Proofs.YtgffkaconhonlaaGreat
