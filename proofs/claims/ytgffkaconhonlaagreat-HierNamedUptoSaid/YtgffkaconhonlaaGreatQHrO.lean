/-
  The document's At: what a sum is at values.
  The document's Holds; those that may be and hold.
-/
import Derived.Test.YtgffkaconhonlaaGreatQHrB
import Derived.Test.YtgffkaconhonlaaGreatQMRr
import Derived.Test.YtgffkaconhonlaaGreatQRgn
import Derived.Test.YtgffkaconhonlaaGreatQRIgz
namespace Go.Proofs.YtgffkaconhonlaaGreat
set_option maxRecDepth 20000
open Go.RowKit
theorem AtP.idle {w wr : World} {va : Cv} {zs : Rv} {la : List Tv} {L : List (Int × Rat)} {V : List Rat} {k : Rat} {i H : Nat} {x : Tv} {X : Int × Rat}
  (h : C3 wr H (.bool zs.s) (.slice zs.A zs.n zs.c) (.slice zs.B zs.m zs.d) ∧ Rt wr (w.heap.size + 2) zs (atL (atV V) (L.take i) k) ∧ Sz (atL (atV V) (L.take i) k) (bndA la i) ∧ C5 wr w.heap.size (.int .i64 va.s) (.slice va.A va.n va.c) (.bool va.K.s) (.slice va.K.A va.K.n va.K.c) (.slice va.K.B va.K.m va.K.d) ∧ C3 wr (w.heap.size + 1) (.bool false) (.slice none 0 0) (.slice none 0 0) ∧ Below w.heap.size w wr ∧ H < wr.heap.size)
  (hx : la[i]? = some x) (hX : L[i]? = some X) (ex : x.v = X.1) (h0 : atV V x.v = 0) :
  Hid (C3 wr H (.bool zs.s) (.slice zs.A zs.n zs.c) (.slice zs.B zs.m zs.d) ∧ Rt wr (w.heap.size + 2) zs (atL (atV V) (L.take (i + 1)) k) ∧ Sz (atL (atV V) (L.take (i + 1)) k) (bndA la (i + 1)) ∧ C5 wr w.heap.size (.int .i64 va.s) (.slice va.A va.n va.c) (.bool va.K.s) (.slice va.K.A va.K.n va.K.c) (.slice va.K.B va.K.m va.K.d) ∧ C3 wr (w.heap.size + 1) (.bool false) (.slice none 0 0) (.slice none 0 0) ∧ Below w.heap.size w wr ∧ H < wr.heap.size) := by
 have e := atL_take (atV V) L k i X hX
 rw [← ex, h0, Rat.mul_zero, Rat.add_zero] at e
 refine ⟨h.1, by rw [e]; exact h.2.1, by rw [e]; exact h.2.2.1.more (by unfold bndA; rw [costK_succ hx]; omega), h.2.2.2⟩
set_option maxHeartbeats 12800000 in
theorem rAtK_c (va : Cv) (A : Option Addr) (n c : Nat) (la : List Tv) (lv : List Rv) (L : List (Int × Rat)) (V : List Rat) (k : Rat) (w : World) (hcost : cost va la ≤ 150) (ha2 : Tms w 0 va.A va.n la) (ha3 : Rds w 150 la L) (ha4 : Rw w va.K k 150) (hV : Nums w A n lv) (hR : RdV w 4 lv V) (hn : n ≤ 1000) :
  Calls Tryz.prog 49 #[.agg #[.int .i64 va.s, .slice va.A va.n va.c, .bool va.K.s, .slice va.K.A va.K.n va.K.c, .slice va.K.B va.K.m va.K.d], .slice A n c] w fun e w' => ∃ z : Rv, e = .returned (.agg #[.bool z.s, .slice z.A z.n z.c, .slice z.B z.m z.d]) ∧ Rt w' w.heap.size z (atL (atV V) L k) ∧ Sz (atL (atV V) L k) 1100 ∧ Below w.heap.size w w' := by
 have hvn : va.n ≤ 150 := by
  have h1 := costK_len la va.n (by rw [ha2.len]; exact Nat.le_refl _)
  unfold cost at hcost; omega
 have n0 : (0 : Int) ≤ (va.n : Int) := by omega
 have n9 : (va.n : Int) ≤ 150 := by omega
 have m0 : (0 : Int) ≤ (n : Int) := by omega
 have m9 : (n : Int) ≤ 1000 := by omega
 have HW0 := Lib.hid (And.intro ha2 (And.intro (Rds.more (show 150 ≤ 28500000000 by omega) ha3) ha4))
 have HLL := Lib.hid (And.intro ha2.len ha3.len)
 have HVL := Lib.hid (And.intro hV.len hR.len)
 have HV0 := Lib.hid (And.intro hV (RdV.more (show 4 ≤ 28500000000 by omega) hR))
 have HSV := Lib.hid (RdV.sz (by omega) hR)
 have HCO := Lib.hid hcost
 clear ha2 ha3 ha4 hV hR hcost
 have ka := (C5.new w (.int .i64 va.s) (.slice va.A va.n va.c) (.bool va.K.s) (.slice va.K.A va.K.n va.K.c) (.slice va.K.B va.K.m va.K.d)).alloc (.cells #[.bool false, .slice none 0 0, .slice none 0 0] 26)
 have kz := C3.new (w.alloc (.cells #[.int .i64 va.s, .slice va.A va.n va.c, .bool va.K.s, .slice va.K.A va.K.n va.K.c, .slice va.K.B va.K.m va.K.d] 28)) (.bool false) (.slice none 0 0) (.slice none 0 0)
 have hs1 : (w.alloc (.cells #[.int .i64 va.s, .slice va.A va.n va.c, .bool va.K.s, .slice va.K.A va.K.n va.K.c, .slice va.K.B va.K.m va.K.d] 28)).heap.size = w.heap.size + 1 := by simp
 rw [hs1] at kz
 have hB : Below w.heap.size w ((w.alloc (.cells #[.int .i64 va.s, .slice va.A va.n va.c, .bool va.K.s, .slice va.K.A va.K.n va.K.c, .slice va.K.B va.K.m va.K.d] 28)).alloc (.cells #[.bool false, .slice none 0 0, .slice none 0 0] 26)) := ((Below.refl _ _).alloc (Nat.le_refl _) _).alloc (by simp) _
 have hs2 : ((w.alloc (.cells #[.int .i64 va.s, .slice va.A va.n va.c, .bool va.K.s, .slice va.K.A va.K.n va.K.c, .slice va.K.B va.K.m va.K.d] 28)).alloc (.cells #[.bool false, .slice none 0 0, .slice none 0 0] 26)).heap.size = w.heap.size + 2 := by simp
 obtain ⟨a0, a1, a2, a3, a4⟩ := ka.facts
 go_enter Tryz.func49, Tryz.ntmps49
 go_wp2_with fail
 clear a0 a1 a2 a3 a4 hs1
 generalize (w.alloc (.cells #[.int .i64 va.s, .slice va.A va.n va.c, .bool va.K.s, .slice va.K.A va.K.n va.K.c, .slice va.K.B va.K.m va.K.d] 28)).alloc (.cells #[.bool false, .slice none 0 0, .slice none 0 0] 26) = W at *
 refine (rNorm_c va.K k _ ((HW0.out.2.2.below hB).more (by omega))).mono ?_
 rintro e w1 ⟨z, rfl, hz, hb⟩
 have KA := Lib.hid (And.intro (ka.below hb) (kz.below hb))
 have HB1 := Lib.hid (hB.trans (hb.mono (by omega)))
 have hz1 := hb.size
 have HZ := Lib.hid (hz.lower (show w.heap.size + 2 ≤ W.heap.size by omega))
 clear hb ka kz hB hz
 have ks := C3.new w1 (.bool z.s) (.slice z.A z.n z.c) (.slice z.B z.m z.d)
 have hba : Below w1.heap.size w1 (w1.alloc (.cells #[.bool z.s, .slice z.A z.n z.c, .slice z.B z.m z.d] 26)) := (Below.refl _ _).alloc (Nat.le_refl _) _
 have hsA : (w1.alloc (.cells #[.bool z.s, .slice z.A z.n z.c, .slice z.B z.m z.d] 26)).heap.size = w1.heap.size + 1 := by simp
 have HST : Hid (C3 (w1.alloc (.cells #[.bool z.s, .slice z.A z.n z.c, .slice z.B z.m z.d] 26)) w1.heap.size (.bool z.s) (.slice z.A z.n z.c) (.slice z.B z.m z.d) ∧ Rt (w1.alloc (.cells #[.bool z.s, .slice z.A z.n z.c, .slice z.B z.m z.d] 26)) (w.heap.size + 2) z (atL (atV V) (L.take 0) k) ∧ Sz (atL (atV V) (L.take 0) k) (bndA la 0) ∧ C5 (w1.alloc (.cells #[.bool z.s, .slice z.A z.n z.c, .slice z.B z.m z.d] 26)) w.heap.size (.int .i64 va.s) (.slice va.A va.n va.c) (.bool va.K.s) (.slice va.K.A va.K.n va.K.c) (.slice va.K.B va.K.m va.K.d) ∧ C3 (w1.alloc (.cells #[.bool z.s, .slice z.A z.n z.c, .slice z.B z.m z.d] 26)) (w.heap.size + 1) (.bool false) (.slice none 0 0) (.slice none 0 0) ∧ Below w.heap.size w (w1.alloc (.cells #[.bool z.s, .slice z.A z.n z.c, .slice z.B z.m z.d] 26)) ∧ w1.heap.size < (w1.alloc (.cells #[.bool z.s, .slice z.A z.n z.c, .slice z.B z.m z.d] 26)).heap.size) :=
  ⟨ks, HZ.out.below hba, (HW0.out.2.2.sz (by omega)).more (by unfold bndA; omega), KA.out.1.below hba, KA.out.2.below hba, HB1.out.trans (hba.mono HB1.out.size), by omega⟩
 clear ks hba
 go_wp2
 go_loopw [6, 7] (fun iv _ wr => ∃ (i : Nat) (z : Rv), i ≤ va.n ∧ iv = .int .i64 i ∧ Hid (C3 wr w1.heap.size (.bool z.s) (.slice z.A z.n z.c) (.slice z.B z.m z.d) ∧ Rt wr (w.heap.size + 2) z (atL (atV V) (L.take i) k) ∧ Sz (atL (atV V) (L.take i) k) (bndA la i) ∧ C5 wr w.heap.size (.int .i64 va.s) (.slice va.A va.n va.c) (.bool va.K.s) (.slice va.K.A va.K.n va.K.c) (.slice va.K.B va.K.m va.K.d) ∧ C3 wr (w.heap.size + 1) (.bool false) (.slice none 0 0) (.slice none 0 0) ∧ Below w.heap.size w wr ∧ w1.heap.size < wr.heap.size)) (fun iv _ _ => va.n - (intOf iv).toNat)
 case atStart => exact ⟨0, z, by omega, rfl, HST⟩
 case round =>
  clear HST HZ
  obtain ⟨i, zs, hi, rfl, HST⟩ := hrel
  by_cases hlt : i < va.n
  ·
   have i0 : (0 : Int) ≤ (i : Int) := by omega
   have i1 : (i : Int) < (va.n : Int) := by omega
   obtain ⟨b, off, hvA, _, hbw, hc⟩ := HW0.out.1.mem (by omega)
   obtain ⟨x, X, hx, hX, hxv, hxr⟩ := HW0.out.2.1.get i (by rw [HLL.out.1]; omega)
   have HVA := Lib.hid hvA
   have HX := Lib.hid (And.intro hx (And.intro hX hxv))
   have HXR := Lib.hid hxr
   have HC := Lib.hid (hc i x hx)
   have HALL : Hid (∀ w', Below wr.heap.size wr w' → C3 w' w1.heap.size (.bool zs.s) (.slice zs.A zs.n zs.c) (.slice zs.B zs.m zs.d) ∧ Rt w' (w.heap.size + 2) zs (atL (atV V) (L.take i) k) ∧ Rw w' x.r X.2 28500000000 ∧ (Nums w' A n lv ∧ RdV w' 28500000000 lv V) ∧ C5 w' w.heap.size (.int .i64 va.s) (.slice va.A va.n va.c) (.bool va.K.s) (.slice va.K.A va.K.n va.K.c) (.slice va.K.B va.K.m va.K.d) ∧ C3 w' (w.heap.size + 1) (.bool false) (.slice none 0 0) (.slice none 0 0) ∧ Below w.heap.size w w') := fun w' h => by
    have h2 := HST.out.2.2.2.2.2.1.trans (h.mono HST.out.2.2.2.2.2.1.size)
    exact ⟨HST.out.1.below h, HST.out.2.1.below h, HXR.out.below h2, ⟨HV0.out.1.below h2, RdV.below h2 HV0.out.2⟩, HST.out.2.2.2.1.below h, HST.out.2.2.2.2.1.below h, h2⟩
   have HXC : Hid (∀ w', Below wr.heap.size wr w' → At4 w' b (off + i * 4) x) := fun w' h => HC.out.keep ((HALL.out _ h).2.2.2.2.2.2.block b hbw)
   have hw1 : w1.heap.size < wr.heap.size := HST.out.2.2.2.2.2.2
   have HSZ : Hid (bndA la i ≤ 28500000000 ∧ x.r.n + x.r.m + 1 + 4 ≤ 28500000000) := by
    have h1 := costK_mono la (show i + 1 ≤ va.n by omega)
    rw [costK_succ HX.out.1] at h1
    have h2 := HCO.out
    unfold cost at h2
    refine ⟨?_, by omega⟩
    unfold bndA
    omega
   clear hx hX hxv hxr hc hvA
   obtain ⟨a0, a1, a2, a3, a4⟩ := (HALL.out _ (Below.refl _ _)).2.2.2.2.1.facts
   rw [HVA.out] at a1
   obtain ⟨x0, x1, x2, x3⟩ := HXC.out _ (Below.refl _ _)
   by_cases hin : 0 ≤ x.v ∧ x.v < n
   ·
    obtain ⟨j, hj⟩ : ∃ j : Nat, x.v = (j : Int) := ⟨x.v.toNat, by omega⟩
    have HJ := Lib.hid hj
    have j0 : (0 : Int) ≤ (j : Int) := by omega
    have j1 : (j : Int) < (n : Int) := by omega
    rw [hj] at x0
    obtain ⟨vb, voff, rfl, hvb, hvc⟩ := HV0.out.1.mem (by omega)
    obtain ⟨y, Y, hy, hY, hyr⟩ := HV0.out.2.get j (by rw [HVL.out.1]; omega)
    have hyv : atV V (j : Int) = Y := by unfold atV; rw [if_pos (by omega), Int.toNat_natCast, hY]; rfl
    have HYV := Lib.hid hyv
    have HSY := Lib.hid (HSV.out Y (List.mem_of_getElem? hY))
    have HYC : Hid (∀ w', Below wr.heap.size wr w' → At3 w' vb (voff + j * 3) y) := fun w' h => (hvc j y hy).keep ((HALL.out _ h).2.2.2.2.2.2.block vb hvb)
    have HY : Hid (∀ w', Below wr.heap.size wr w' → Rw w' y Y 28500000000) := fun w' h => hyr.below (HALL.out _ h).2.2.2.2.2.2
    obtain ⟨y0, y1, y2⟩ := HYC.out _ (Below.refl _ _)
    obtain ⟨s0, s1, s2, t0, t1, t2⟩ := (HALL.out _ (Below.refl _ _)).1.facts
    clear hj hy hY hyr hyv hvc hin
    have hbs1 := HB1.out.size
    have n1 : ¬ w.heap.size = w1.heap.size := by omega
    have n2 : ¬ w1.heap.size = w.heap.size := by omega
    have n3 : ¬ b = w1.heap.size := by omega
    have n4 : ¬ w1.heap.size = b := by omega
    have n5 : ¬ vb = w1.heap.size := by omega
    have n6 : ¬ w1.heap.size = vb := by omega
    go_wp2_with fail
    refine wp_region_held_drew (S := fun w' => w'.cell? ⟨w.heap.size, 1, none⟩ = some (.slice (some ⟨b, off, none⟩) va.n va.c) ∧ w'.cell? ⟨b, off + i * 4 + 1, none⟩ = some (.bool x.r.s) ∧ w'.cell? ⟨b, off + i * 4 + 2, none⟩ = some (.slice x.r.A x.r.n x.r.c) ∧ w'.cell? ⟨b, off + i * 4 + 3, none⟩ = some (.slice x.r.B x.r.m x.r.d) ∧ w'.cell? ⟨vb, voff + j * 3, none⟩ = some (.bool y.s) ∧ w'.cell? ⟨vb, voff + j * 3 + 1, none⟩ = some (.slice y.A y.n y.c) ∧ w'.cell? ⟨vb, voff + j * 3 + 2, none⟩ = some (.slice y.B y.m y.d)) (by kernel_rfl) ?_ (fun hHeld => ?_)
    ·
     (try dsimp only)
     go_keep
    refine tk (i := 1) (h := ?_)
    try simp only [zR]
    refine tk (i := 2) (h := ?_)
    try simp only [zR]
    refine tk (i := 3) (h := ?_)
    try simp only [zR]
    refine tk (i := 4) (h := ?_)
    try simp only [zR]
    refine tk (i := 5) (h := ?_)
    try simp only [zR]
    refine tk (i := 6) (h := ?_)
    try simp only [zR]
    refine tk (i := 7) (h := ?_)
    try simp only [zR]
    refine tk (i := 8) (h := ?_)
    try simp only [zR]
    refine tk (i := 9) (h := ?_)
    try simp only [zR]
    refine tk (i := 10) (h := ?_)
    try simp only [zR]
    refine tr [0, 11] ?_
    refine tc (h := fun K hK => ?_) (hs := tc (h := fun K hK => ?_) (hs := tn))
    ·
     skip
     try go_simp
     try go_wp2_with fail
     refine hK.out _ _ ?_ (fun hHeld => ?_)
     · (try dsimp only); go_keep
     clear hK K
     try simp only [zR]
     refine tr [11] ?_
     refine tc (h := fun K hK => ?_) (hs := tn)
     try go_simp
     go_at_call 57
     refine (rMul_c x.r y X.2 Y _ ((HALL.out _ (bel_At wr)).2.2.1.more (by omega)) (HY.out _ (bel_At wr))).mono ?_
     rintro ee w3 ⟨u, rfl, hu, hb⟩
     have hbW := (bel_At wr).trans hb
     clear a0 a1 a2 a3 a4 x0 x1 x2 x3 y0 y1 y2 s0 s1 s2 t0 t1 t2
     obtain ⟨a0, a1, a2, a3, a4⟩ := (HALL.out _ hbW).2.2.2.2.1.facts
     rw [HVA.out] at a1
     obtain ⟨x0, x1, x2, x3⟩ := HXC.out _ hbW
     obtain ⟨y0, y1, y2⟩ := HYC.out _ hbW
     obtain ⟨s0, s1, s2, t0, t1, t2⟩ := (HALL.out _ hbW).1.facts
     have HU := Lib.hid hu
     have HW3 := Lib.hid hbW
     clear hb hbW hu
     try go_wp2_with fail
     refine hK.out _ _ ?_ (fun hHeld => ?_)
     · (try dsimp only); go_keep
     clear hK K
     try simp only [zR]
     refine tr [12] ?_
     refine tc (h := fun K hK => ?_) (hs := tn)
     try go_simp
     go_at_call 30
     refine (rAdd_c zs u (atL (atV V) (L.take i) k) (X.2 * Y) _ (((HALL.out _ HW3.out).2.1.rw HST.out.2.2.1).more HSZ.out.1) ((HU.out.rw ((HXR.out.tight).mul HSY.out)).more HSZ.out.2)).mono ?_
     rintro ee w4 ⟨s, rfl, hs, hb⟩
     have hbW := HW3.out.trans (hb.mono HW3.out.size)
     clear a0 a1 a2 a3 a4 x0 x1 x2 x3 y0 y1 y2 s0 s1 s2 t0 t1 t2
     obtain ⟨a0, a1, a2, a3, a4⟩ := (HALL.out _ hbW).2.2.2.2.1.facts
     rw [HVA.out] at a1
     obtain ⟨x0, x1, x2, x3⟩ := HXC.out _ hbW
     obtain ⟨y0, y1, y2⟩ := HYC.out _ hbW
     obtain ⟨s0, s1, s2, t0, t1, t2⟩ := (HALL.out _ hbW).1.facts
     have hs' : Rt w4 w3.heap.size s (atL (atV V) (L.take i) k + X.2 * atV V (j : Int)) := by rw [HYV.out]; exact hs
     have HS := Lib.hid hs'
     have HW4 := Lib.hid hbW
     have hz3 := HW3.out.size
     have hz4 := HW4.out.size
     clear hb hbW hs hs'
     try go_wp2_with fail
     refine hK.out _ _ ?_ (fun hHeld => ?_)
     · (try dsimp only); go_keep
     clear hK K
     try simp only [zR]
     refine tr [13] ?_
     refine tc (h := fun K hK => ?_) (hs := tn)
     try go_simp
     try go_wp2_with fail
     refine hK.out _ _ ?_ (fun hHeld => ?_)
     · (try dsimp only); go_keep
     clear hK K
     try simp only [zR]
     refine wpAnyH_done (by kernel_rfl) ?_ _
     clear a0 a1 a2 a3 a4 x0 x1 x2 x3 y0 y1 y2 s0 s1 s2 t0 t1 t2
     go_wp2
     go_roundw
     case rel =>
      have hst := AtP.step (x := x) (X := X) (HALL.out _ HW4.out) (by rw [HJ.out]; exact HS.out) HX.out.1 HX.out.2.1 HX.out.2.2 HST.out.2.2.1 HXR.out HSV.out (by omega) (by omega) (by omega)
      exact ⟨i + 1, s, by omega, by go_num, hst⟩
     case measure => simp [intOf]; omega
    ·
     skip
     try go_simp
     go_at_call 57
     refine (rMul_c x.r y X.2 Y _ ((HALL.out _ (bel_At wr)).2.2.1.more (by omega)) (HY.out _ (bel_At wr))).mono ?_
     rintro ee w3 ⟨u, rfl, hu, hb⟩
     have hbW := (bel_At wr).trans hb
     clear a0 a1 a2 a3 a4 x0 x1 x2 x3 y0 y1 y2 s0 s1 s2 t0 t1 t2
     obtain ⟨a0, a1, a2, a3, a4⟩ := (HALL.out _ hbW).2.2.2.2.1.facts
     rw [HVA.out] at a1
     obtain ⟨x0, x1, x2, x3⟩ := HXC.out _ hbW
     obtain ⟨y0, y1, y2⟩ := HYC.out _ hbW
     obtain ⟨s0, s1, s2, t0, t1, t2⟩ := (HALL.out _ hbW).1.facts
     have HU := Lib.hid hu
     have HW3 := Lib.hid hbW
     clear hb hbW hu
     try go_wp2_with fail
     refine hK.out _ _ ?_ (fun hHeld => ?_)
     · (try dsimp only); go_keep
     clear hK K
     try simp only [zR]
     refine tr [0] ?_
     refine tc (h := fun K hK => ?_) (hs := tn)
     try go_simp
     try go_wp2_with fail
     refine hK.out _ _ ?_ (fun hHeld => ?_)
     · (try dsimp only); go_keep
     clear hK K
     try simp only [zR]
     refine tr [12] ?_
     refine tc (h := fun K hK => ?_) (hs := tn)
     try go_simp
     go_at_call 30
     refine (rAdd_c zs u (atL (atV V) (L.take i) k) (X.2 * Y) _ (((HALL.out _ HW3.out).2.1.rw HST.out.2.2.1).more HSZ.out.1) ((HU.out.rw ((HXR.out.tight).mul HSY.out)).more HSZ.out.2)).mono ?_
     rintro ee w4 ⟨s, rfl, hs, hb⟩
     have hbW := HW3.out.trans (hb.mono HW3.out.size)
     clear a0 a1 a2 a3 a4 x0 x1 x2 x3 y0 y1 y2 s0 s1 s2 t0 t1 t2
     obtain ⟨a0, a1, a2, a3, a4⟩ := (HALL.out _ hbW).2.2.2.2.1.facts
     rw [HVA.out] at a1
     obtain ⟨x0, x1, x2, x3⟩ := HXC.out _ hbW
     obtain ⟨y0, y1, y2⟩ := HYC.out _ hbW
     obtain ⟨s0, s1, s2, t0, t1, t2⟩ := (HALL.out _ hbW).1.facts
     have hs' : Rt w4 w3.heap.size s (atL (atV V) (L.take i) k + X.2 * atV V (j : Int)) := by rw [HYV.out]; exact hs
     have HS := Lib.hid hs'
     have HW4 := Lib.hid hbW
     have hz3 := HW3.out.size
     have hz4 := HW4.out.size
     clear hb hbW hs hs'
     try go_wp2_with fail
     refine hK.out _ _ ?_ (fun hHeld => ?_)
     · (try dsimp only); go_keep
     clear hK K
     try simp only [zR]
     refine tr [13] ?_
     refine tc (h := fun K hK => ?_) (hs := tn)
     try go_simp
     try go_wp2_with fail
     refine hK.out _ _ ?_ (fun hHeld => ?_)
     · (try dsimp only); go_keep
     clear hK K
     try simp only [zR]
     refine wpAnyH_done (by kernel_rfl) ?_ _
     clear a0 a1 a2 a3 a4 x0 x1 x2 x3 y0 y1 y2 s0 s1 s2 t0 t1 t2
     go_wp2
     go_roundw
     case rel =>
      have hst := AtP.step (x := x) (X := X) (HALL.out _ HW4.out) (by rw [HJ.out]; exact HS.out) HX.out.1 HX.out.2.1 HX.out.2.2 HST.out.2.2.1 HXR.out HSV.out (by omega) (by omega) (by omega)
      exact ⟨i + 1, s, by omega, by go_num, hst⟩
     case measure => simp [intOf]; omega
   ·
    have h0 : atV V x.v = 0 := by
     unfold atV
     split
     · rw [List.getElem?_eq_none (by rw [← HVL.out.2, HVL.out.1]; omega)]; rfl
     · rfl
    have H0 := Lib.hid h0
    have hcase : x.v < 0 ∨ (¬ x.v < 0 ∧ (n : Int) ≤ x.v) := by omega
    clear h0 hin
    rcases hcase with h1 | ⟨h1, h2⟩
    ·
     have h1' : ¬ 0 ≤ x.v := by omega
     go_wp2
     go_roundw
     case rel => exact ⟨i + 1, zs, by omega, by go_num, AtP.idle HST.out HX.out.1 HX.out.2.1 HX.out.2.2 H0.out⟩
     case measure => simp [intOf]; omega
    ·
     have h1' : 0 ≤ x.v := by omega
     have h2' : ¬ x.v < (n : Int) := by omega
     go_wp2
     go_roundw
     case rel => exact ⟨i + 1, zs, by omega, by go_num, AtP.idle HST.out HX.out.1 HX.out.2.1 HX.out.2.2 H0.out⟩
     case measure => simp [intOf]; omega
  ·
   have i1 : ¬ (i : Int) < (va.n : Int) := by omega
   have heq : L.take i = L := List.take_of_length_le (by rw [← HLL.out.2, HLL.out.1]; omega)
   rw [heq] at HST
   have hbd : Hid (bndA la i ≤ 1100) := by
    have h1 := costK_mono la (show i ≤ va.n by omega)
    have h2 := HCO.out
    unfold cost at h2
    show bndA la i ≤ 1100
    unfold bndA
    omega
   obtain ⟨a0, a1, a2, a3, a4⟩ := HST.out.2.2.2.1.facts
   obtain ⟨s0, s1, s2, t0, t1, t2⟩ := HST.out.1.facts
   obtain ⟨q0, q1, q2, r0, r1, r2⟩ := HST.out.2.2.2.2.1.facts
   have hsw := HST.out.2.2.2.2.2.2
   clear heq
   go_wp2
   refine ret3 (fn := Tryz.f49) Tryz.results49 rfl rfl HST.out.2.2.2.2.1 ?_
   exact ⟨zs, rfl, (HST.out.2.1.put (by omega) _ _ _).lower (by omega), HST.out.2.2.1.more hbd.out, HST.out.2.2.2.2.2.1.trans (put3_below (by omega) _ _ _)⟩
end Go.Proofs.YtgffkaconhonlaaGreat

namespace Go.Proofs.YtgffkaconhonlaaGreat
set_option maxRecDepth 20000
open Go.RowKit
set_option maxHeartbeats 3200000 in
theorem rHolds_c (s : Nat) (va : Cv) (A : Option Addr) (N c : Nat) (la : List Tv) (lv : List Rv) (L : List (Int × Rat)) (V : List Rat) (k : Rat) (w : World) (h : Rin s w va la L k) (hs : s ≤ 150) (hV : Vin N w A lv V) :
  Calls Tryz.prog 16 #[.agg #[.int .i64 va.s, .slice va.A va.n va.c, .bool va.K.s, .slice va.K.A va.K.n va.K.c, .slice va.K.B va.K.m va.K.d], .slice A N c] w fun e w' => e = .returned (.bool (decide (atL (atV V) L k = 0))) ∧ Below w.heap.size w w' := by
 have ka := C5.new w (.int .i64 va.s) (.slice va.A va.n va.c) (.bool va.K.s) (.slice va.K.A va.K.n va.K.c) (.slice va.K.B va.K.m va.K.d)
 have hB : Below w.heap.size w (w.alloc (.cells #[.int .i64 va.s, .slice va.A va.n va.c, .bool va.K.s, .slice va.K.A va.K.n va.K.c, .slice va.K.B va.K.m va.K.d] 28)) := (Below.refl _ _).alloc (Nat.le_refl _) _
 have HB := Lib.hid hB
 have H := Lib.hid (And.intro h (And.intro hV hs))
 obtain ⟨a0, a1, a2, a3, a4⟩ := ka.facts
 clear ka hB h hV hs
 go_enter Tryz.func16, Tryz.ntmps16
 go_wp2_with fail
 clear a0 a1 a2 a3 a4
 generalize w.alloc (.cells #[.int .i64 va.s, .slice va.A va.n va.c, .bool va.K.s, .slice va.K.A va.K.n va.K.c, .slice va.K.B va.K.m va.K.d] 28) = W at *
 have h1 := H.out.1.below HB.out
 have h2 := H.out.2.1.below HB.out
 refine (rAtK_c va A N c la lv L V k W h1.cost h1.row (h1.rd.more H.out.2.2) (h1.num.more H.out.2.2) h2.row h2.rd (by have := h2.n; omega)).mono ?_
 rintro e w1 ⟨z, rfl, hz, hsz, hb⟩
 have H1 : Hid (Below w.heap.size w w1) := HB.out.trans (hb.mono HB.out.size)
 have HZ := Lib.hid (And.intro hz hsz)
 clear hz hsz hb h1 h2
 go_wp2_with fail
 refine (rZero_c z _ w1 ((HZ.out.1.rw HZ.out.2).more (by omega))).mono ?_
 rintro e w2 ⟨rfl, hb⟩
 have H2 : Hid (Below w.heap.size w w2) := H1.out.trans (hb.mono H1.out.size)
 clear hb
 go_wp2
 go_ret
 exact ⟨rfl, H2.out⟩
def hlB (N : Nat) (p : Nat → Rat) (x : Kin) : Bool := decide (dot N (fn N x.L x.k) p = 0)
theorem rHoldsH_c (s N : Nat) (x : Kin) (A : Option Addr) (c : Nat) (lv : List Rv) (V : List Rat) (w : World) (h : Hin N s w x) (ho : x.ok = true) (hs : s ≤ 150) (hV : Vin N w A lv V) :
  Calls Tryz.prog 16 #[.agg #[.int .i64 x.v.s, .slice x.v.A x.v.n x.v.c, .bool x.v.K.s, .slice x.v.K.A x.v.K.n x.v.K.c, .slice x.v.K.B x.v.K.m x.v.K.d], .slice A N c] w fun e w' => e = .returned (.bool (hlB N (ptOf V) x)) ∧ Below w.heap.size w w' := by
 obtain ⟨la, hr, hi⟩ := h
 have e1 : hlB N (ptOf V) x = decide (atL (atV V) x.L x.k = 0) := by
  unfold hlB
  rw [← dot_at (atV V) ((hi.1 ho).vars hr.rd)]
  rfl
 rw [e1]
 exact rHolds_c s x.v A N c la lv x.L V x.k w hr hs hV
theorem rIsH_c (s N : Nat) (x : Kin) (n : Int) (hn : n = (N : Int)) (hN : N ≤ 100) (w : World) (h : Hin N s w x) (hs : s ≤ 150) :
  Calls Tryz.prog 26 #[.agg #[.int .i64 x.v.s, .slice x.v.A x.v.n x.v.c, .bool x.v.K.s, .slice x.v.K.A x.v.K.n x.v.K.c, .slice x.v.K.B x.v.K.m x.v.K.d], .int .i64 n] w fun e w' => e = .returned (.bool x.ok) ∧ Below w.heap.size w w' := by
 obtain ⟨la, hr, hi⟩ := h
 subst hn
 exact rIsK_c x.v (N : Int) la x.L x.k w (by omega) hr.cap hr.row ((hr.rd.more hs).more (by omega)) ((hr.num.more hs).more (by omega)) hr.n x.ok hi
def goodB (N : Nat) (p : Nat → Rat) (x : Kin) : Bool := x.ok && hlB N p x
theorem good_hol {N : Nat} {p : Nat → Rat} {x : Kin} (h : goodB N p x = true) : x.ok = true ∧ dot N (fn N x.L x.k) p = 0 := by
 unfold goodB hlB at h
 rw [Bool.and_eq_true] at h
 exact ⟨h.1, of_decide_eq_true h.2⟩
theorem holB_ok {N : Nat} {p : Nat → Rat} {x : Kin} (h : x.ok = true) : holB N p x = hlB N p x := by unfold holB hlB; rw [h]; rfl
theorem filter_yes {N : Nat} {p : Nat → Rat} {vs : List Kin} {x : Kin} (h : goodB N p x = true) : (vs ++ [x]).filter (goodB N p) = vs.filter (goodB N p) ++ [x] := by
 rw [List.filter_append, List.filter_cons_of_pos h]; rfl
theorem filter_no {N : Nat} {p : Nat → Rat} {vs : List Kin} {x : Kin} (h : goodB N p x = false) : (vs ++ [x]).filter (goodB N p) = vs.filter (goodB N p) := by
 rw [List.filter_append, List.filter_cons_of_neg (by rw [h]; simp)]; simp
theorem Hns.lens {N s : Nat} {w : World} {A : Option Addr} {m : Nat} {vs : List Kin} (h : Hns N s w A m vs) : ∀ x ∈ vs, x.ok = true → x.L.length ≤ N := fun x hx ho => by
 obtain ⟨la, hr, hi⟩ := h.rd x hx
 have := ((hi.1 ho).asc hr.rd).len (by omega)
 omega
end Go.Proofs.YtgffkaconhonlaaGreat
