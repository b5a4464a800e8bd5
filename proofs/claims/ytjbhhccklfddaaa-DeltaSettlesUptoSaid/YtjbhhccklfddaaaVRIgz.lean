/-
  The document's Is of sums.
  The document's Is of sums, whatever comes in.
-/
import Derived.Test.YtjbhhccklfddaaaVIsD
import Derived.Deep.Cut
import Derived.Test.YtjbhhccklfddaaaVRgn
namespace Go.Proofs.Ytjbhhccklfddaaa
set_option maxRecDepth 20000
open Go.RowKit
theorem rIs_v (v : Rv) (r : Rat) (bb : Bool) (w : World) (hv : Rw w v r 19000000000) (hbb : bb = true ↔ Nrm w v) :
  Calls Try.prog 52 #[.agg #[.bool v.s, .slice v.A v.n v.c, .slice v.B v.m v.d]] w fun e w' => e = .returned (.bool bb) ∧ Below w.heap.size w w' := by
 obtain ⟨_, _, _, _, a, b, ha, hb, hr⟩ := id hv
 refine rIs_c v a b r bb w hv ha hb hr (hbb.trans ⟨?_, fun h => ⟨a, b, ha, hb, h⟩⟩)
 rintro ⟨a', b', h1, h2, h3⟩
 have e1 := ha.det h1
 have e2 := hb.det h2
 subst e1 e2
 exact h3
theorem openK1 (w : World) (v : Cv) (W : World) (h : w.alloc (.cells #[.int .i64 v.s, .slice v.A v.n v.c, .bool v.K.s, .slice v.K.A v.K.n v.K.c, .slice v.K.B v.K.m v.K.d] 43) = W) : C5 W w.heap.size (.int .i64 v.s) (.slice v.A v.n v.c) (.bool v.K.s) (.slice v.K.A v.K.n v.K.c) (.slice v.K.B v.K.m v.K.d) ∧ Below w.heap.size w W ∧ W.heap.size = w.heap.size + 1 := by
 subst h
 exact ⟨C5.new w (.int .i64 v.s) (.slice v.A v.n v.c) (.bool v.K.s) (.slice v.K.A v.K.n v.K.c) (.slice v.K.B v.K.m v.K.d), (Below.refl w.heap.size w).alloc (Nat.le_refl _) _, by simp⟩
set_option maxHeartbeats 12800000 in
theorem rIsK_yes (va : Cv) (N : Int) (la : List Tv) (L : List (Int × Rat)) (k : Rat) (w : World) (_hN : 0 ≤ N ∧ N ≤ 9223372036854775807 ∨ N < 0 ∧ -9223372036854775808 ≤ N) (_hnc : va.n ≤ va.c) (ha2 : Tms w 0 va.A va.n la) (ha3 : Rds w 19000000000 la L) (ha4 : Rw w va.K k 19000000000) (hn : va.n ≤ 1000) (s0 : 0 ≤ va.s) (s4 : va.s ≤ 4) (hK : Nrm w va.K) (r : Bool) (hr : r = true ↔ TOk w N la la.length) :
  Calls Try.prog 32 #[.agg #[.int .i64 va.s, .slice va.A va.n va.c, .bool va.K.s, .slice va.K.A va.K.n va.K.c, .slice va.K.B va.K.m va.K.d], .int .i64 N] w fun e w' => e = .returned (.bool r) ∧ Below w.heap.size w w' := by
 have hr' := Lib.hid hr
 clear hr
 have n0 : (0 : Int) ≤ (va.n : Int) := by omega
 have n9 : (va.n : Int) ≤ 1000 := by omega
 have s0' : ¬ va.s < 0 := by omega
 have s4' : ¬ 4 < va.s := by omega
 have HW0 := Lib.hid (And.intro ha2 (And.intro ha3 ha4))
 have HKN := Lib.hid hK
 clear ha2 ha3 ha4 hK
 go_enter Try.func32, Try.ntmps32
 go_wp2_with fail
 generalize hW : w.alloc (.cells #[.int .i64 va.s, .slice va.A va.n va.c, .bool va.K.s, .slice va.K.A va.K.n va.K.c, .slice va.K.B va.K.m va.K.d] 43) = W
 obtain ⟨ka, HW, hsW⟩ := openK1 w va W hW
 clear hW
 refine (rIs_v va.K k true _ (HW0.out.2.2.below HW) ⟨fun _ => (Nrm.iff HW0.out.2.2 HW).1 HKN.out, fun _ => rfl⟩).mono ?_
 rintro e w1 ⟨rfl, hb1'⟩
 replace ka := ka.below hb1'
 have HB1 := Lib.hid (HW.trans (hb1'.mono (by omega)))
 have hs1 := hb1'.size
 clear hb1' HW
 obtain ⟨a0, a1, a2, a3, a4⟩ := ka.facts
 have KA := Lib.hid ka
 clear ka
 go_wp2
 clear a0 a1 a2 a3 a4
 have HT : Hid (TOk w N la 0) := fun j x hj => absurd hj (Nat.not_lt_zero _)
 go_loopw [5, 6] (fun iv _ wr => ∃ i : Nat, i ≤ va.n ∧ iv = .int .i64 i ∧ Hid (TOk w N la i) ∧ Hid (Below w1.heap.size w1 wr)) (fun iv _ _ => va.n - (intOf iv).toNat)
 case atStart => exact ⟨0, Nat.zero_le _, rfl, HT, Lib.hid (Below.refl _ _)⟩
 case round =>
  clear HT
  obtain ⟨i, hi, rfl, HT, HBR⟩ := hrel
  have ka := KA.out.below HBR.out
  have HBW := Lib.hid (HB1.out.trans (HBR.out.mono HB1.out.size))
  obtain ⟨a0, a1, a2, a3, a4⟩ := ka.facts
  by_cases hlt : i < va.n
  ·
   have i0 : (0 : Int) ≤ (i : Int) := by omega
   have i1 : (i : Int) < (va.n : Int) := by omega
   obtain ⟨g, off, hvA, _, hgw, hc⟩ := HW0.out.1.mem (by omega)
   rw [hvA] at a1
   have HVA := Lib.hid hvA
   obtain ⟨x, X, hx, hX, hxv, hxr⟩ := HW0.out.2.1.get i (by rw [HW0.out.1.len]; omega)
   obtain ⟨x0, x1, x2, x3⟩ := (hc i x hx).keep (HBW.out.block g hgw)
   have HX := Lib.hid hx
   have HXR := Lib.hid hxr
   have HC := Lib.hid hc
   clear hx hX hxv hc hxr hvA
   go_wp2_with fail
   have ax := At4.new wr x
   have hba : Below wr.heap.size wr (wr.alloc (.cells #[.int .i64 x.v, .bool x.r.s, .slice x.r.A x.r.n x.r.c, .slice x.r.B x.r.m x.r.d] 40)) := (Below.refl _ _).alloc (Nat.le_refl _) _
   have hzA : (wr.alloc (.cells #[.int .i64 x.v, .bool x.r.s, .slice x.r.A x.r.n x.r.c, .slice x.r.B x.r.m x.r.d] 40)).heap.size = wr.heap.size + 1 := by simp
   clear x0 x1 x2 x3 a0 a1 a2 a3 a4
   obtain ⟨x0, x1, x2, x3⟩ := ax
   have HBA := Lib.hid (HBR.out.trans (hba.mono HBR.out.size))
   have HBB := Lib.hid (HBW.out.trans (hba.mono HBW.out.size))
   have ka := ka.below hba
   clear hba
   generalize wr.alloc (.cells #[.int .i64 x.v, .bool x.r.s, .slice x.r.A x.r.n x.r.c, .slice x.r.B x.r.m x.r.d] 40) = WA at *
   obtain ⟨a0, a1, a2, a3, a4⟩ := ka.facts
   obtain ⟨g', off', hvA, _, _, _⟩ := HW0.out.1.mem (by omega)
   have HIN := Lib.hid (show i < la.length by rw [HW0.out.1.len]; exact hlt)
   have NO : Hid ((¬ (0 ≤ x.v ∧ x.v < N ∧ (∀ y, 0 < i → la[i - 1]? = some y → y.v < x.v) ∧ Nrm w x.r ∧ x.r.n ≠ 0)) → r = false) := fun h => by
    cases hrr : r with
    | false => rfl
    | true => exact absurd (hr'.out.1 hrr i x HIN.out HX.out) h
   clear hvA
   by_cases c1 : x.v < 0
   ·
    have NO1 := Lib.hid (NO.out (fun h => absurd h.1 (by omega)))
    go_quiet (fail)
    clear x0 x1 x2 x3 a0 a1 a2 a3 a4
    go_wp2
    go_ret
    exact ⟨by rw [NO1.out]; rfl, HBB.out.trans ((below_drewN' _ WA _).mono HBB.out.size)⟩
   by_cases c2 : N ≤ x.v
   ·
    have NO1 := Lib.hid (NO.out (fun h => absurd h.2.1 (by omega)))
    go_quiet (fail)
    clear x0 x1 x2 x3 a0 a1 a2 a3 a4
    go_wp2
    go_ret
    exact ⟨by rw [NO1.out]; rfl, HBB.out.trans ((below_drewN' _ WA _).mono HBB.out.size)⟩
   have c1' : ¬ x.v < 0 := c1
   have c2' : ¬ N ≤ x.v := c2
   rw [HVA.out] at a1
   cases i with
   |
    zero =>
    by_cases hN : Nrm w x.r
    ·
     have HN := Lib.hid hN
     refine wp_region_held_drew (S := fun w' => w'.cell? ⟨w.heap.size, 1, none⟩ = some (.slice (some ⟨g, off, none⟩) va.n va.c) ∧ w'.cell? ⟨wr.heap.size, 0, none⟩ = some (.int .i64 x.v) ∧ w'.cell? ⟨wr.heap.size, 0 + 1, none⟩ = some (.bool x.r.s) ∧ w'.cell? ⟨wr.heap.size, 0 + 2, none⟩ = some (.slice x.r.A x.r.n x.r.c) ∧ w'.cell? ⟨wr.heap.size, 0 + 3, none⟩ = some (.slice x.r.B x.r.m x.r.d)) (by kernel_rfl) ?_ (fun hHeld => ?_)
     ·
      (try dsimp only)
      go_keep
     refine tk (i := 0) (h := ?_)
     try simp only [zR]
     refine tk (i := 1) (h := ?_)
     try simp only [zR]
     refine tk (i := 2) (h := ?_)
     try simp only [zR]
     refine tk (i := 3) (h := ?_)
     try simp only [zR]
     refine tk (i := 4) (h := ?_)
     try simp only [zR]
     refine tk (i := 5) (h := ?_)
     try simp only [zR]
     refine tk (i := 6) (h := ?_)
     try simp only [zR]
     refine tk (i := 7) (h := ?_)
     try simp only [zR]
     refine tk (i := 8) (h := ?_)
     try simp only [zR]
     refine tk (i := 9) (h := ?_)
     try simp only [zR]
     refine tk (i := 10) (h := ?_)
     try simp only [zR]
     refine tk (i := 11) (h := ?_)
     try simp only [zR]
     refine tk (i := 12) (h := ?_)
     try simp only [zR]
     refine ts (i := 13) (h := ?_)
     try simp only [zR]
     refine ts (i := 14) (h := ?_)
     try simp only [zR]
     refine ts (i := 15) (h := ?_)
     try simp only [zR]
     refine ts (i := 16) (h := ?_)
     try simp only [zR]
     refine ts (i := 17) (h := ?_)
     try simp only [zR]
     refine ts (i := 18) (h := ?_)
     try simp only [zR]
     refine ts (i := 19) (h := ?_)
     try simp only [zR]
     refine ts (i := 20) (h := ?_)
     try simp only [zR]
     refine ts (i := 21) (h := ?_)
     try simp only [zR]
     refine ts (i := 22) (h := ?_)
     try simp only [zR]
     refine tk (i := 23) (h := ?_)
     try simp only [zR]
     refine tk (i := 24) (h := ?_)
     try simp only [zR]
     refine tk (i := 25) (h := ?_)
     try simp only [zR]
     refine tk (i := 26) (h := ?_)
     try simp only [zR]
     refine tk (i := 27) (h := ?_)
     try simp only [zR]
     refine tr [28] ?_
     refine tc (h := fun K hK => ?_) (hs := tn)
     go_simp
     go_at_call 52
     refine (rIs_v x.r X.2 true _ ((HXR.out.below HBB.out).below (bel1 WA)) ⟨fun _ => (Nrm.iff HXR.out (HBB.out.trans ((bel1 WA).mono HBB.out.size))).1 hN, fun _ => rfl⟩).mono ?_
     rintro ee w2 ⟨rfl, hb⟩
     have hb' := (bel1 WA).trans hb
     have hk := hb'.block wr.heap.size (by omega)
     obtain ⟨a0, a1, a2, a3, a4⟩ := (ka.below hb').facts
     rw [HVA.out] at a1
     replace x0 := (World.cell?_of_block hk).trans x0
     replace x1 := (World.cell?_of_block hk).trans x1
     replace x2 := (World.cell?_of_block hk).trans x2
     replace x3 := (World.cell?_of_block hk).trans x3
     have HB9 := Lib.hid (HBA.out.trans (hb'.mono HBA.out.size))
     have HB8 := Lib.hid (HBB.out.trans (hb'.mono HBB.out.size))
     clear hk hb hb'
     try go_wp2_with fail
     refine hK.out _ _ ?_ (fun hHeld => ?_)
     · (try dsimp only); go_keep
     clear hK K
     try simp only [zR]
     refine tk (i := 29) (h := ?_)
     try simp only [zR]
     refine tk (i := 30) (h := ?_)
     try simp only [zR]
     refine tk (i := 31) (h := ?_)
     try simp only [zR]
     refine tk (i := 32) (h := ?_)
     try simp only [zR]
     refine tk (i := 33) (h := ?_)
     try simp only [zR]
     refine tk (i := 34) (h := ?_)
     try simp only [zR]
     refine tk (i := 35) (h := ?_)
     try simp only [zR]
     refine tk (i := 36) (h := ?_)
     try simp only [zR]
     refine tk (i := 37) (h := ?_)
     try simp only [zR]
     refine wpAnyH_done (by kernel_rfl) ?_ _
     clear x0 x1 x2 x3 a0 a1 a2 a3 a4 hN
     by_cases c5 : x.r.n = 0
     ·
      have c5' : (x.r.n : Int) = 0 := by omega
      have NO1 := Lib.hid (NO.out (fun h => h.2.2.2.2 c5))
      clear c5
      go_wp2
      go_ret
      exact ⟨by rw [NO1.out]; rfl, HB8.out⟩
     ·
      have c5' : ¬ (x.r.n : Int) = 0 := by omega
      have C5' := Lib.hid c5
      clear c5
      go_wp2
      go_roundw
      case rel => exact ⟨0 + 1, by omega, by go_num, HT.out.step HX.out (by omega) (by omega) (fun _ h9 _ => absurd h9 (Nat.lt_irrefl _)) HN.out C5'.out, HB9⟩
      case measure => simp [intOf]; omega
    ·
     have HN := Lib.hid hN
     refine wp_region_held_drew (S := fun w' => w'.cell? ⟨w.heap.size, 1, none⟩ = some (.slice (some ⟨g, off, none⟩) va.n va.c) ∧ w'.cell? ⟨wr.heap.size, 0, none⟩ = some (.int .i64 x.v) ∧ w'.cell? ⟨wr.heap.size, 0 + 1, none⟩ = some (.bool x.r.s) ∧ w'.cell? ⟨wr.heap.size, 0 + 2, none⟩ = some (.slice x.r.A x.r.n x.r.c) ∧ w'.cell? ⟨wr.heap.size, 0 + 3, none⟩ = some (.slice x.r.B x.r.m x.r.d)) (by kernel_rfl) ?_ (fun hHeld => ?_)
     ·
      (try dsimp only)
      go_keep
     refine tk (i := 0) (h := ?_)
     try simp only [zR]
     refine tk (i := 1) (h := ?_)
     try simp only [zR]
     refine tk (i := 2) (h := ?_)
     try simp only [zR]
     refine tk (i := 3) (h := ?_)
     try simp only [zR]
     refine tk (i := 4) (h := ?_)
     try simp only [zR]
     refine tk (i := 5) (h := ?_)
     try simp only [zR]
     refine tk (i := 6) (h := ?_)
     try simp only [zR]
     refine tk (i := 7) (h := ?_)
     try simp only [zR]
     refine tk (i := 8) (h := ?_)
     try simp only [zR]
     refine tk (i := 9) (h := ?_)
     try simp only [zR]
     refine tk (i := 10) (h := ?_)
     try simp only [zR]
     refine tk (i := 11) (h := ?_)
     try simp only [zR]
     refine tk (i := 12) (h := ?_)
     try simp only [zR]
     refine ts (i := 13) (h := ?_)
     try simp only [zR]
     refine ts (i := 14) (h := ?_)
     try simp only [zR]
     refine ts (i := 15) (h := ?_)
     try simp only [zR]
     refine ts (i := 16) (h := ?_)
     try simp only [zR]
     refine ts (i := 17) (h := ?_)
     try simp only [zR]
     refine ts (i := 18) (h := ?_)
     try simp only [zR]
     refine ts (i := 19) (h := ?_)
     try simp only [zR]
     refine ts (i := 20) (h := ?_)
     try simp only [zR]
     refine ts (i := 21) (h := ?_)
     try simp only [zR]
     refine ts (i := 22) (h := ?_)
     try simp only [zR]
     refine tk (i := 23) (h := ?_)
     try simp only [zR]
     refine tk (i := 24) (h := ?_)
     try simp only [zR]
     refine tk (i := 25) (h := ?_)
     try simp only [zR]
     refine tk (i := 26) (h := ?_)
     try simp only [zR]
     refine tk (i := 27) (h := ?_)
     try simp only [zR]
     refine tr [28] ?_
     refine tc (h := fun K hK => ?_) (hs := tn)
     go_simp
     go_at_call 52
     refine (rIs_v x.r X.2 false _ ((HXR.out.below HBB.out).below (bel1 WA)) ⟨fun h => (by cases h), fun h => absurd ((Nrm.iff HXR.out (HBB.out.trans ((bel1 WA).mono HBB.out.size))).2 h) hN⟩).mono ?_
     rintro ee w2 ⟨rfl, hb⟩
     have hb' := (bel1 WA).trans hb
     have hk := hb'.block wr.heap.size (by omega)
     obtain ⟨a0, a1, a2, a3, a4⟩ := (ka.below hb').facts
     rw [HVA.out] at a1
     replace x0 := (World.cell?_of_block hk).trans x0
     replace x1 := (World.cell?_of_block hk).trans x1
     replace x2 := (World.cell?_of_block hk).trans x2
     replace x3 := (World.cell?_of_block hk).trans x3
     have HB9 := Lib.hid (HBA.out.trans (hb'.mono HBA.out.size))
     have HB8 := Lib.hid (HBB.out.trans (hb'.mono HBB.out.size))
     clear hk hb hb'
     try go_wp2_with fail
     refine hK.out _ _ ?_ (fun hHeld => ?_)
     · (try dsimp only); go_keep
     clear hK K
     try simp only [zR]
     refine tk (i := 29) (h := ?_)
     try simp only [zR]
     refine tk (i := 30) (h := ?_)
     try simp only [zR]
     refine tk (i := 31) (h := ?_)
     try simp only [zR]
     refine ts (i := 32) (h := ?_)
     try simp only [zR]
     refine ts (i := 33) (h := ?_)
     try simp only [zR]
     refine ts (i := 34) (h := ?_)
     try simp only [zR]
     refine ts (i := 35) (h := ?_)
     try simp only [zR]
     refine ts (i := 36) (h := ?_)
     try simp only [zR]
     refine tk (i := 37) (h := ?_)
     try simp only [zR]
     refine wpAnyH_done (by kernel_rfl) ?_ _
     clear x0 x1 x2 x3 a0 a1 a2 a3 a4 hN
     have NO1 := Lib.hid (NO.out (fun h => HN.out h.2.2.2.1))
     go_wp2
     go_ret
     exact ⟨by rw [NO1.out]; rfl, HB8.out⟩
   |
    succ j =>
    obtain ⟨y, Y, hy, hY9, hyv9, hyr9⟩ := HW0.out.2.1.get j (by rw [HW0.out.1.len]; omega)
    clear hY9 hyv9 hyr9
    have y0 := ((HC.out j y hy).keep (HBB.out.block g hgw)).h0
    have HY := Lib.hid hy
    clear hy
    have hj0 : (0 : Int) ≤ (j : Int) := by omega
    have hj1 : (j : Int) < (va.n : Int) := by omega
    have hjw : IntKind.i64.wrap (j : Int) = (j : Int) := by rw [IntKind.wrap_i64]; omega
    by_cases c3 : x.v ≤ y.v
    ·
     have NO1 := Lib.hid (NO.out (fun h => by have := h.2.2.1 y (by omega) HY.out; omega))
     have c3d : decide (x.v ≤ y.v) = true := decide_eq_true c3
     have c3e : ¬ y.v < x.v := by omega
     have c3f : decide (0 < (j : Int) + 1) = true := decide_eq_true (by omega)
     have c3g : (0 : Int) < (j : Int) + 1 := by omega
     refine wp_region_held_drew (S := fun w' => w'.cell? ⟨w.heap.size, 1, none⟩ = some (.slice (some ⟨g, off, none⟩) va.n va.c) ∧ w'.cell? ⟨wr.heap.size, 0, none⟩ = some (.int .i64 x.v) ∧ w'.cell? ⟨wr.heap.size, 0 + 1, none⟩ = some (.bool x.r.s) ∧ w'.cell? ⟨wr.heap.size, 0 + 2, none⟩ = some (.slice x.r.A x.r.n x.r.c) ∧ w'.cell? ⟨wr.heap.size, 0 + 3, none⟩ = some (.slice x.r.B x.r.m x.r.d) ∧ w'.cell? ⟨g, off + j * 4, none⟩ = some (.int .i64 y.v)) (by kernel_rfl) ?_ (fun hHeld => ?_)
     ·
      (try dsimp only)
      go_keep
     refine tk (i := 0) (h := ?_)
     try simp only [zR]
     refine tk (i := 1) (h := ?_)
     try simp only [zR]
     refine tk (i := 2) (h := ?_)
     try simp only [zR]
     refine tk (i := 3) (h := ?_)
     try simp only [zR]
     refine tk (i := 4) (h := ?_)
     try simp only [zR]
     refine tk (i := 5) (h := ?_)
     try simp only [zR]
     refine tk (i := 6) (h := ?_)
     try simp only [zR]
     refine tk (i := 7) (h := ?_)
     try simp only [zR]
     refine tk (i := 8) (h := ?_)
     try simp only [zR]
     refine tk (i := 9) (h := ?_)
     try simp only [zR]
     refine tk (i := 10) (h := ?_)
     try simp only [zR]
     refine tk (i := 11) (h := ?_)
     try simp only [zR]
     refine tk (i := 12) (h := ?_)
     try simp only [zR]
     refine tk (i := 13) (h := ?_)
     try simp only [zR]
     refine tk (i := 14) (h := ?_)
     try simp only [zR]
     refine tk (i := 15) (h := ?_)
     try simp only [zR]
     refine tk (i := 16) (h := ?_)
     try simp only [zR]
     refine tk (i := 17) (h := ?_)
     try simp only [zR]
     refine tk (i := 18) (h := ?_)
     try simp only [zR]
     refine tk (i := 19) (h := ?_)
     try simp only [zR]
     refine tk (i := 20) (h := ?_)
     try simp only [zR]
     refine tk (i := 21) (h := ?_)
     try simp only [zR]
     refine tk (i := 22) (h := ?_)
     try simp only [zR]
     refine tk (i := 23) (h := ?_)
     try simp only [zR]
     refine tk (i := 24) (h := ?_)
     try simp only [zR]
     refine tk (i := 25) (h := ?_)
     try simp only [zR]
     refine ts (i := 26) (h := ?_)
     try simp only [zR]
     refine ts (i := 27) (h := ?_)
     try simp only [zR]
     refine ts (i := 28) (h := ?_)
     try simp only [zR]
     refine ts (i := 29) (h := ?_)
     try simp only [zR]
     refine tk (i := 30) (h := ?_)
     try simp only [zR]
     refine tk (i := 31) (h := ?_)
     try simp only [zR]
     refine ts (i := 32) (h := ?_)
     try simp only [zR]
     refine ts (i := 33) (h := ?_)
     try simp only [zR]
     refine ts (i := 34) (h := ?_)
     try simp only [zR]
     refine ts (i := 35) (h := ?_)
     try simp only [zR]
     refine ts (i := 36) (h := ?_)
     try simp only [zR]
     refine tk (i := 37) (h := ?_)
     try simp only [zR]
     refine wpAnyH_done (by kernel_rfl) ?_ _
     clear x0 x1 x2 x3 a0 a1 a2 a3 a4 y0
     go_wp2
     go_ret
     exact ⟨by rw [NO1.out]; rfl, HBB.out.trans ((bel1 WA).mono HBB.out.size)⟩
    by_cases hN : Nrm w x.r
    ·
     have HN := Lib.hid hN
     refine wp_region_held_drew (S := fun w' => w'.cell? ⟨w.heap.size, 1, none⟩ = some (.slice (some ⟨g, off, none⟩) va.n va.c) ∧ w'.cell? ⟨wr.heap.size, 0, none⟩ = some (.int .i64 x.v) ∧ w'.cell? ⟨wr.heap.size, 0 + 1, none⟩ = some (.bool x.r.s) ∧ w'.cell? ⟨wr.heap.size, 0 + 2, none⟩ = some (.slice x.r.A x.r.n x.r.c) ∧ w'.cell? ⟨wr.heap.size, 0 + 3, none⟩ = some (.slice x.r.B x.r.m x.r.d) ∧ w'.cell? ⟨g, off + j * 4, none⟩ = some (.int .i64 y.v)) (by kernel_rfl) ?_ (fun hHeld => ?_)
     ·
      (try dsimp only)
      go_keep
     refine tk (i := 0) (h := ?_)
     try simp only [zR]
     refine tk (i := 1) (h := ?_)
     try simp only [zR]
     refine tk (i := 2) (h := ?_)
     try simp only [zR]
     refine tk (i := 3) (h := ?_)
     try simp only [zR]
     refine tk (i := 4) (h := ?_)
     try simp only [zR]
     refine tk (i := 5) (h := ?_)
     try simp only [zR]
     refine tk (i := 6) (h := ?_)
     try simp only [zR]
     refine tk (i := 7) (h := ?_)
     try simp only [zR]
     refine tk (i := 8) (h := ?_)
     try simp only [zR]
     refine tk (i := 9) (h := ?_)
     try simp only [zR]
     refine tk (i := 10) (h := ?_)
     try simp only [zR]
     refine tk (i := 11) (h := ?_)
     try simp only [zR]
     refine tk (i := 12) (h := ?_)
     try simp only [zR]
     refine tk (i := 13) (h := ?_)
     try simp only [zR]
     refine tk (i := 14) (h := ?_)
     try simp only [zR]
     refine tk (i := 15) (h := ?_)
     try simp only [zR]
     refine tk (i := 16) (h := ?_)
     try simp only [zR]
     refine tk (i := 17) (h := ?_)
     try simp only [zR]
     refine tk (i := 18) (h := ?_)
     try simp only [zR]
     refine tk (i := 19) (h := ?_)
     try simp only [zR]
     refine tk (i := 20) (h := ?_)
     try simp only [zR]
     refine tk (i := 21) (h := ?_)
     try simp only [zR]
     refine tk (i := 22) (h := ?_)
     try simp only [zR]
     refine tk (i := 23) (h := ?_)
     try simp only [zR]
     refine tk (i := 24) (h := ?_)
     try simp only [zR]
     refine tk (i := 25) (h := ?_)
     try simp only [zR]
     refine tk (i := 26) (h := ?_)
     try simp only [zR]
     refine tk (i := 27) (h := ?_)
     try simp only [zR]
     refine tr [28] ?_
     refine tc (h := fun K hK => ?_) (hs := tn)
     go_simp
     go_at_call 52
     refine (rIs_v x.r X.2 true _ ((HXR.out.below HBB.out).below (bel1 WA)) ⟨fun _ => (Nrm.iff HXR.out (HBB.out.trans ((bel1 WA).mono HBB.out.size))).1 hN, fun _ => rfl⟩).mono ?_
     rintro ee w2 ⟨rfl, hb⟩
     have hb' := (bel1 WA).trans hb
     have hk := hb'.block wr.heap.size (by omega)
     obtain ⟨a0, a1, a2, a3, a4⟩ := (ka.below hb').facts
     rw [HVA.out] at a1
     replace x0 := (World.cell?_of_block hk).trans x0
     replace x1 := (World.cell?_of_block hk).trans x1
     replace x2 := (World.cell?_of_block hk).trans x2
     replace x3 := (World.cell?_of_block hk).trans x3
     have hky := hb'.block g (Nat.lt_of_lt_of_le hgw HBB.out.size)
     replace y0 := (World.cell?_of_block hky).trans y0
     clear hky
     have HB9 := Lib.hid (HBA.out.trans (hb'.mono HBA.out.size))
     have HB8 := Lib.hid (HBB.out.trans (hb'.mono HBB.out.size))
     clear hk hb hb'
     try go_wp2_with fail
     refine hK.out _ _ ?_ (fun hHeld => ?_)
     · (try dsimp only); go_keep
     clear hK K
     try simp only [zR]
     refine tk (i := 29) (h := ?_)
     try simp only [zR]
     refine tk (i := 30) (h := ?_)
     try simp only [zR]
     refine tk (i := 31) (h := ?_)
     try simp only [zR]
     refine tk (i := 32) (h := ?_)
     try simp only [zR]
     refine tk (i := 33) (h := ?_)
     try simp only [zR]
     refine tk (i := 34) (h := ?_)
     try simp only [zR]
     refine tk (i := 35) (h := ?_)
     try simp only [zR]
     refine tk (i := 36) (h := ?_)
     try simp only [zR]
     refine tk (i := 37) (h := ?_)
     try simp only [zR]
     refine wpAnyH_done (by kernel_rfl) ?_ _
     clear x0 x1 x2 x3 a0 a1 a2 a3 a4 y0 hN
     by_cases c5 : x.r.n = 0
     ·
      have c5' : (x.r.n : Int) = 0 := by omega
      have NO1 := Lib.hid (NO.out (fun h => h.2.2.2.2 c5))
      clear c5
      go_wp2
      go_ret
      exact ⟨by rw [NO1.out]; rfl, HB8.out⟩
     ·
      have c5' : ¬ (x.r.n : Int) = 0 := by omega
      have C5' := Lib.hid c5
      clear c5
      go_wp2
      go_roundw
      case rel => exact ⟨j + 1 + 1, by omega, by go_num, HT.out.step HX.out (by omega) (by omega) (fun y9 _ h9 => by rw [Nat.add_sub_cancel, HY.out] at h9; injection h9 with h9; subst h9; omega) HN.out C5'.out, HB9⟩
      case measure => simp [intOf]; omega
    ·
     have HN := Lib.hid hN
     refine wp_region_held_drew (S := fun w' => w'.cell? ⟨w.heap.size, 1, none⟩ = some (.slice (some ⟨g, off, none⟩) va.n va.c) ∧ w'.cell? ⟨wr.heap.size, 0, none⟩ = some (.int .i64 x.v) ∧ w'.cell? ⟨wr.heap.size, 0 + 1, none⟩ = some (.bool x.r.s) ∧ w'.cell? ⟨wr.heap.size, 0 + 2, none⟩ = some (.slice x.r.A x.r.n x.r.c) ∧ w'.cell? ⟨wr.heap.size, 0 + 3, none⟩ = some (.slice x.r.B x.r.m x.r.d) ∧ w'.cell? ⟨g, off + j * 4, none⟩ = some (.int .i64 y.v)) (by kernel_rfl) ?_ (fun hHeld => ?_)
     ·
      (try dsimp only)
      go_keep
     refine tk (i := 0) (h := ?_)
     try simp only [zR]
     refine tk (i := 1) (h := ?_)
     try simp only [zR]
     refine tk (i := 2) (h := ?_)
     try simp only [zR]
     refine tk (i := 3) (h := ?_)
     try simp only [zR]
     refine tk (i := 4) (h := ?_)
     try simp only [zR]
     refine tk (i := 5) (h := ?_)
     try simp only [zR]
     refine tk (i := 6) (h := ?_)
     try simp only [zR]
     refine tk (i := 7) (h := ?_)
     try simp only [zR]
     refine tk (i := 8) (h := ?_)
     try simp only [zR]
     refine tk (i := 9) (h := ?_)
     try simp only [zR]
     refine tk (i := 10) (h := ?_)
     try simp only [zR]
     refine tk (i := 11) (h := ?_)
     try simp only [zR]
     refine tk (i := 12) (h := ?_)
     try simp only [zR]
     refine tk (i := 13) (h := ?_)
     try simp only [zR]
     refine tk (i := 14) (h := ?_)
     try simp only [zR]
     refine tk (i := 15) (h := ?_)
     try simp only [zR]
     refine tk (i := 16) (h := ?_)
     try simp only [zR]
     refine tk (i := 17) (h := ?_)
     try simp only [zR]
     refine tk (i := 18) (h := ?_)
     try simp only [zR]
     refine tk (i := 19) (h := ?_)
     try simp only [zR]
     refine tk (i := 20) (h := ?_)
     try simp only [zR]
     refine tk (i := 21) (h := ?_)
     try simp only [zR]
     refine tk (i := 22) (h := ?_)
     try simp only [zR]
     refine tk (i := 23) (h := ?_)
     try simp only [zR]
     refine tk (i := 24) (h := ?_)
     try simp only [zR]
     refine tk (i := 25) (h := ?_)
     try simp only [zR]
     refine tk (i := 26) (h := ?_)
     try simp only [zR]
     refine tk (i := 27) (h := ?_)
     try simp only [zR]
     refine tr [28] ?_
     refine tc (h := fun K hK => ?_) (hs := tn)
     go_simp
     go_at_call 52
     refine (rIs_v x.r X.2 false _ ((HXR.out.below HBB.out).below (bel1 WA)) ⟨fun h => (by cases h), fun h => absurd ((Nrm.iff HXR.out (HBB.out.trans ((bel1 WA).mono HBB.out.size))).2 h) hN⟩).mono ?_
     rintro ee w2 ⟨rfl, hb⟩
     have hb' := (bel1 WA).trans hb
     have hk := hb'.block wr.heap.size (by omega)
     obtain ⟨a0, a1, a2, a3, a4⟩ := (ka.below hb').facts
     rw [HVA.out] at a1
     replace x0 := (World.cell?_of_block hk).trans x0
     replace x1 := (World.cell?_of_block hk).trans x1
     replace x2 := (World.cell?_of_block hk).trans x2
     replace x3 := (World.cell?_of_block hk).trans x3
     have hky := hb'.block g (Nat.lt_of_lt_of_le hgw HBB.out.size)
     replace y0 := (World.cell?_of_block hky).trans y0
     clear hky
     have HB9 := Lib.hid (HBA.out.trans (hb'.mono HBA.out.size))
     have HB8 := Lib.hid (HBB.out.trans (hb'.mono HBB.out.size))
     clear hk hb hb'
     try go_wp2_with fail
     refine hK.out _ _ ?_ (fun hHeld => ?_)
     · (try dsimp only); go_keep
     clear hK K
     try simp only [zR]
     refine tk (i := 29) (h := ?_)
     try simp only [zR]
     refine tk (i := 30) (h := ?_)
     try simp only [zR]
     refine tk (i := 31) (h := ?_)
     try simp only [zR]
     refine ts (i := 32) (h := ?_)
     try simp only [zR]
     refine ts (i := 33) (h := ?_)
     try simp only [zR]
     refine ts (i := 34) (h := ?_)
     try simp only [zR]
     refine ts (i := 35) (h := ?_)
     try simp only [zR]
     refine ts (i := 36) (h := ?_)
     try simp only [zR]
     refine tk (i := 37) (h := ?_)
     try simp only [zR]
     refine wpAnyH_done (by kernel_rfl) ?_ _
     clear x0 x1 x2 x3 a0 a1 a2 a3 a4 y0 hN
     have NO1 := Lib.hid (NO.out (fun h => HN.out h.2.2.2.1))
     go_wp2
     go_ret
     exact ⟨by rw [NO1.out]; rfl, HB8.out⟩
  ·
   have i1 : ¬ (i : Int) < (va.n : Int) := by omega
   go_wp2
   go_ret
   refine ⟨?_, HBW.out⟩
   have e1 : r = true := hr'.out.2 (fun j x hj hx => HT.out j x (by rw [HW0.out.1.len] at hj; omega) hx)
   rw [e1]; rfl
end Go.Proofs.Ytjbhhccklfddaaa

namespace Go.Proofs.Ytjbhhccklfddaaa
set_option maxRecDepth 20000
open Go.RowKit
set_option maxHeartbeats 3200000 in
theorem rIsK_c (va : Cv) (N : Int) (la : List Tv) (L : List (Int × Rat)) (k : Rat) (w : World) (hN : 0 ≤ N ∧ N ≤ 9223372036854775807 ∨ N < 0 ∧ -9223372036854775808 ≤ N) (hnc : va.n ≤ va.c) (ha2 : Tms w 0 va.A va.n la) (ha3 : Rds w 19000000000 la L) (ha4 : Rw w va.K k 19000000000) (hn : va.n ≤ 1000) (r : Bool) (hr : r = true ↔ IsS w va la N) :
  Calls Try.prog 32 #[.agg #[.int .i64 va.s, .slice va.A va.n va.c, .bool va.K.s, .slice va.K.A va.K.n va.K.c, .slice va.K.B va.K.m va.K.d], .int .i64 N] w fun e w' => e = .returned (.bool r) ∧ Below w.heap.size w w' := by
 have NO : ¬ IsS w va la N → r = false := fun h => by
  cases hrr : r with
  | false => rfl
  | true => exact absurd (hr.1 hrr) h
 by_cases s0 : 0 ≤ va.s
 ·
  by_cases s4 : va.s ≤ 4
  ·
   by_cases hK : Nrm w va.K
   · exact rIsK_yes va N la L k w hN hnc ha2 ha3 ha4 hn s0 s4 hK r (hr.trans ⟨fun h => h.2.2, fun h => ⟨⟨s0, s4⟩, hK, h⟩⟩)
   ·
    have NO1 := Lib.hid (NO (fun h => hK h.2.1))
    have HK := Lib.hid hK
    have s0' : ¬ va.s < 0 := by omega
    have s4' : ¬ 4 < va.s := by omega
    have HA := Lib.hid ha4
    clear hr NO ha2 ha3 ha4 hK
    go_enter Try.func32, Try.ntmps32
    go_wp2_with fail
    generalize hW : w.alloc (.cells #[.int .i64 va.s, .slice va.A va.n va.c, .bool va.K.s, .slice va.K.A va.K.n va.K.c, .slice va.K.B va.K.m va.K.d] 43) = W
    obtain ⟨ka, HW, hsW⟩ := openK1 w va W hW
    clear hW
    refine (rIs_v va.K k false _ (HA.out.below HW) ⟨fun h => (by cases h), fun h => absurd ((Nrm.iff HA.out HW).2 h) HK.out⟩).mono ?_
    rintro e w1 ⟨rfl, hb1'⟩
    have HB1 := Lib.hid (HW.trans (hb1'.mono (by omega)))
    clear hb1' HW ka
    go_wp2
    go_ret
    exact ⟨by rw [NO1.out]; rfl, HB1.out⟩
  ·
   have NO1 := Lib.hid (NO (fun h => s4 h.1.2))
   have s4' : 4 < va.s := by omega
   have HB1 := Lib.hid ((Below.refl w.heap.size w).alloc (Nat.le_refl _) (.cells #[.int .i64 va.s, .slice va.A va.n va.c, .bool va.K.s, .slice va.K.A va.K.n va.K.c, .slice va.K.B va.K.m va.K.d] 43))
   have s0' : ¬ va.s < 0 := by omega
   clear hr NO ha2 ha3 ha4
   go_enter Try.func32, Try.ntmps32
   go_wp2
   go_ret
   exact ⟨by rw [NO1.out]; rfl, HB1.out⟩
 ·
  have NO1 := Lib.hid (NO (fun h => s0 h.1.1))
  have s0' : va.s < 0 := by omega
  have HB1 := Lib.hid ((Below.refl w.heap.size w).alloc (Nat.le_refl _) (.cells #[.int .i64 va.s, .slice va.A va.n va.c, .bool va.K.s, .slice va.K.A va.K.n va.K.c, .slice va.K.B va.K.m va.K.d] 43))
  clear hr NO ha2 ha3 ha4
  go_enter Try.func32, Try.ntmps32
  go_wp2
  go_ret
  exact ⟨by rw [NO1.out]; rfl, HB1.out⟩
end Go.Proofs.Ytjbhhccklfddaaa
