/-
  A row's arguments opened: a struct of a sign and two slices of uint32 that is read as data reads as a rational.
  RatLooks: the walk of the law over a rational and a whole number.
  Proved: for every rational, any sign and limbs, and every whole number, RatLooks answers true and leaves the rational as it was: normal, whether it is, is 0, is too large, the other sign, the whole number below, the whole number, are the document's own. No condition.
-/
import Derived.Test.YtadopepoicbahaaOpen
import Derived.Test.YtadopepoicbahaaRatA
import Derived.Lib.SmallJoins
import Derived.SizedLaws
import Derived.Test.YtadopepoicbahaaLook1
namespace Go.Proofs.Ytadopepoicbahaa
open Go.Joins Go.ChangeShapes Go.WideShapes Go.ChangeAt Go.RowKit

theorem Try.cells24 : Try.prog.cellsOf 24 = 3 := by kernel_rfl
theorem Try.bytes38 : Try.prog.bytesOf 38 = 4 := by kernel_rfl

theorem open_limbs {H : Type} {enc : TypeId × Value → H} {W : World} {v : Value} {y : DataW H × List MemPlace} {fuel : Nat} (hf : DataW.trod enc Try.prog W 0 (fun _ => true) true fuel 22 [v] = some y)
    (hlt : ∀ x ∈ y.2, x.block < W.heap.size) (hsz : ∀ n ∈ y.1.weights Try.prog 22, n ≤ reachBytes) :
    ∃ A n c l, v = .slice A n c ∧ n ≤ c ∧ c ≤ 100000000000000 ∧ Row W 0 A n l := by
  rcases open_ints Try.underlying22 Try.underlying38 Try.cells38 hf with ⟨hcs, hx⟩ | ⟨a, len', cap', zs, hcs, _, hl, hm, hz, hx, hcell, hwz⟩
  · simp at hcs
    subst hcs
    exact ⟨none, 0, 0, [], rfl, Nat.le_refl _, by omega, Row.nil_ _ _ _⟩
  · simp at hcs
    subst hcs
    subst hx
    simp only [if_true] at hz
    have hr : ∀ z ∈ zs, 0 ≤ z ∧ z < 4294967296 := by
      intro z hz
      have := hwz z hz
      simp only [Lit.wf, Bool.and_eq_true, decide_eq_true_eq] at this
      have h1 : IntKind.u32.min = 0 := rfl
      have h2 : IntKind.u32.max = 4294967295 := rfl
      omega
    have hcap : cap' ≤ 100000000000000 := by
      have h1 := hsz ((lits (H := H) IntKind.u32 (List.take len' zs)).length * 4 + (lits (H := H) IntKind.u32 (List.drop len' zs)).length * 4) (by
        simp [DataW.weights, Try.underlying22, Try.bytes38, Nat.add_mul])
      have h2 : reachBytes < 2 ^ 47 := reachBytes_lt
      simp [lits] at h1
      omega
    have hlen : (zs.take len').length = len' := by simp; omega
    refine ⟨some a, len', cap', (zs.take len').map Int.toNat, rfl, hl, hcap, by simp; omega, ?_, ?_⟩
    · intro i
      rw [dg_eq, List.getElem?_map]
      cases hq : (zs.take len')[i]? with
      | none => simp
      | some z =>
        have hmem : z ∈ zs := List.mem_of_mem_take (List.mem_of_getElem? hq)
        have := hr z hmem
        simp; omega
    · intro hn
      obtain ⟨b, off, spot⟩ := a
      have hspot : spot = none := by simpa [Addr.add] using World.cell?_spot (hcell 0 (by omega))
      subst hspot
      have hbW : b < W.heap.size := hlt (.cell b off) (MemPlace.mem_row.2 ⟨0, by omega, by simp⟩)
      refine ⟨b, off, rfl, Nat.zero_le _, hbW, fun j hj => ?_⟩
      rw [← add_plain, hcell j (by omega), dg_map zs len' j (by omega)]
      have hj2 : j < zs.length := by omega
      have : zs.getD j 0 = zs[j] := by simp [List.getD, hj2]
      rw [this]
      exact (hr _ (List.getElem_mem hj2)).1

theorem open_rat {H : Type} {enc : TypeId × Value → H} {W : World} {v : Value} {d : DataW H} {p : List MemPlace} (h0 : DataW.Trod enc Try.prog W 0 (fun _ => true) true 24 v d p)
    {base : Nat} (hval : Value.okWide Try.prog W .any base 24 v) (hlt : ∀ x ∈ p, x.block < W.heap.size) (hsz : ∀ n ∈ d.weights Try.prog 24, n ≤ reachBytes) :
    ∃ rv : Rv, v = .agg #[.bool rv.s, .slice rv.A rv.n rv.c, .slice rv.B rv.m rv.d] ∧ rv.n ≤ rv.c ∧ rv.m ≤ rv.d ∧ rv.n ≤ 100000000000000 ∧ rv.m ≤ 100000000000000 ∧ ∃ a b, Row W 0 rv.A rv.n a ∧ Row W 0 rv.B rv.m b := by
  obtain ⟨v0, v1, v2, y0, y1, y2, n, rfl, rfl, rfl, t0, t1, t2⟩ := open_agg3 Try.underlying24 (by kernel_rfl) Try.cells24 hval h0
  obtain ⟨s, hs, _⟩ := DataW.trod_bool Try.underlying4 t0
  simp at hs
  subst hs
  have hw : ∀ k, k ∈ y1.1.weights Try.prog 22 ∨ k ∈ y2.1.weights Try.prog 22 → k ≤ reachBytes := by
    intro k hk
    refine hsz k ?_
    simp only [DataW.weights, Try.underlying24, DataW.weightsEach, List.map, List.mem_append]
    rcases hk with h | h
    · exact .inr (.inl h)
    · exact .inr (.inr (.inl h))
  obtain ⟨A, n1, c1, a, rfl, e1, e2, ra⟩ := open_limbs t1 (fun x hx => hlt x (by simp [hx])) (fun k hk => hw k (.inl hk))
  obtain ⟨B, m1, d1, b, rfl, g1, g2, rb⟩ := open_limbs t2 (fun x hx => hlt x (by simp [hx])) (fun k hk => hw k (.inr hk))
  exact ⟨⟨s, A, n1, c1, B, m1, d1⟩, rfl, e1, g1, by show n1 ≤ _; omega, by show m1 ≤ _; omega, a, b, ra, rb⟩
end Go.Proofs.Ytadopepoicbahaa

namespace Go.Proofs.Ytadopepoicbahaa
open Go.RowKit

theorem Zero_v (v : Rv) (r : Rat) (b : Bool) (w : World) (hv : Rw w v r 5000) (hb : decide (r = 0) = b) :
    Calls Try.prog 31 #[.agg #[.bool v.s, .slice v.A v.n v.c, .slice v.B v.m v.d]] w fun e w' => e = .returned (.bool b) ∧ Below w.heap.size w w' := by
  subst hb; exact Zero_any v r w hv
theorem Large_v (v : Rv) (r : Rat) (b : Bool) (w : World) (hv : Rw w v r 2000) (hb : decide (16 < (lim r.num.natAbs).length ∨ 16 < (lim r.den).length) = b) :
    Calls Try.prog 33 #[.agg #[.bool v.s, .slice v.A v.n v.c, .slice v.B v.m v.d]] w fun e w' => e = .returned (.bool b) ∧ Below w.heap.size w w' := by
  subst hb; exact Large_c v r w hv
theorem Sz.floor' {r : Rat} {p : Nat} (h : Sz r p) : Sz ((r.floor : Int) : Rat) (p + 2) := by
  have hp := h.pos
  have e := rn_floor (decide (r.num < 0)) (x := r.num.natAbs) r.den_nz
  rw [rn_self] at e
  have h1 : Bd 1 1 := by show (1 : Nat) < 4294967296 ^ 1; omega
  have h2 : Bd (r.num.natAbs / r.den) p := h.num.le (Nat.div_le_self _ _)
  have h3 : Bd (r.num.natAbs / r.den + 1) (p + 2) := (h2.add h1).more (by omega)
  refine Sz.ofRn e.symm (h3.le ?_) (h1.more (by omega)) (by omega)
  split <;> omega
theorem Sz.big' {i : Int} (h : i.natAbs < 18446744073709551616) : Sz (i : Rat) 2 := ⟨show i.natAbs < 4294967296 ^ 2 by omega, show 1 < 4294967296 ^ 2 by omega⟩

set_option maxRecDepth 100000 in
set_option maxHeartbeats 16000000 in
theorem RatLooks_few (v : Rv) (a b : List Nat) (r : Rat) (i : Int) (bz bl bi : Bool) (w : World) (hi : Hid (-9223372036854775808 ≤ i ∧ i ≤ 9223372036854775807)) (hn : v.n ≤ 20) (hm : v.m ≤ 20) (c1 : v.n ≤ v.c) (c2 : v.m ≤ v.d) (ra : Row w 0 v.A v.n a) (rb : Row w 0 v.B v.m b) (hr : Hid (rn v.s (val a) (val b) = r)) (ez : Hid (decide (r = 0) = bz)) (el : Hid (decide (16 < (lim r.num.natAbs).length ∨ 16 < (lim r.den).length) = bl)) (ei : Hid (bi = true ↔ IsN v.s a b)) (hc : (v.n : Int) + v.m ≤ 16) :
    Calls Try.prog 4 #[.agg #[.bool v.s, .slice v.A v.n v.c, .slice v.B v.m v.d], .int .i64 i] w fun e w' => e = .returned (.bool true) ∧ Below w.heap.size w w' := by
  have h_0 : Rw w v r 20 := ⟨c1, c2, hn, hm, a, b, ra, rb, hr.out⟩
  have z_v := h_0.sz (by omega)
  have n_v := z_v.neg
  have f_v := z_v.floor'
  have z_i : Sz (i : Rat) 2 := Sz.big' (by have := hi.out; omega)
  have hni : (v.n : Int) ≤ 20 := by omega
  have hmi : (v.m : Int) ≤ 20 := by omega
  go_enter Try.func4, Try.ntmps4
  go_wp2_with fail
  generalize hW : (w.alloc (.cells #[.bool v.s, .slice v.A v.n v.c, .slice v.B v.m v.d] 24)) = W
  obtain ⟨k_v, HB, hsW⟩ := open1 w v W hW
  clear hW hsW hc hni hmi
  have h_v := ((h_0.below HB).drew).more (show 20 ≤ 2000 by omega)
  have g_v := ((h_0.below HB).drew).more (show 20 ≤ 56 by omega)
  replace ra := (ra.below HB).drew
  replace rb := (rb.below HB).drew
  clear h_0
  obtain ⟨v_0, v_1, v_2, v_3, v_4, v_5⟩ := k_v.facts
  replace k_v := k_v.drew
  replace HB := HB.drew
  have mk0 : Hid True := trivial
  go_region_held3 (fun w' => w'.cell? ⟨w.heap.size, 0, none⟩ = some (.bool v.s) ∧ w'.cell? ⟨w.heap.size, 1, none⟩ = some (.slice v.A v.n v.c) ∧ w'.cell? ⟨w.heap.size, 2, none⟩ = some (.slice v.B v.m v.d)) (go_keep)
      (first
      | (go_at_call 27
         have mk1 := mk0
         clear mk0
         refine (Norm_any v r _ (h_v.more (by omega))).mono ?_
         rintro e w1 ⟨x1, rfl, ht_x1, hb⟩
         replace HB := HB.trans (hb.mono HB.size)
         replace k_v := k_v.below hb
         replace h_v := h_v.below hb
         replace g_v := g_v.below hb
         replace ra := ra.below hb
         replace rb := rb.below hb
         have h_x1 := (ht_x1.rw z_v).more (show _ ≤ 2000 by omega)
         clear hb
         clear v_0 v_1 v_2 v_3 v_4 v_5
         obtain ⟨v_0, v_1, v_2, v_3, v_4, v_5⟩ := k_v.facts)
      | (go_at_call 28
         have mk2 := mk1
         clear mk1
         refine (rNorm_c v r _ (g_v.more (by omega))).mono ?_
         rintro e w2 ⟨x2, rfl, ht_x2, hb⟩
         replace HB := HB.trans (hb.mono HB.size)
         replace k_v := k_v.below hb
         replace h_v := h_v.below hb
         replace g_v := g_v.below hb
         replace ra := ra.below hb
         replace rb := rb.below hb
         replace h_x1 := h_x1.below hb
         replace ht_x1 := ht_x1.below hb
         have h_x2 := (ht_x2.rw z_v).more (show _ ≤ 2000 by omega)
         clear hb
         clear v_0 v_1 v_2 v_3 v_4 v_5
         obtain ⟨v_0, v_1, v_2, v_3, v_4, v_5⟩ := k_v.facts)
      | (go_at_call 15
         have mk3 := mk2
         clear mk2
         refine (one_yes x1 x2 _ _ _ _ _ ht_x1 ht_x2 rfl (ht_x1.len z_v (by omega)).1 (ht_x1.len z_v (by omega)).2).mono ?_
         rintro e w3 ⟨rfl, hb⟩
         replace HB := HB.trans (hb.mono HB.size)
         replace k_v := k_v.below hb
         replace h_v := h_v.below hb
         replace g_v := g_v.below hb
         replace ra := ra.below hb
         replace rb := rb.below hb
         replace h_x1 := h_x1.below hb
         replace ht_x1 := ht_x1.below hb
         replace h_x2 := h_x2.below hb
         replace ht_x2 := ht_x2.below hb
         clear hb
         clear v_0 v_1 v_2 v_3 v_4 v_5
         obtain ⟨v_0, v_1, v_2, v_3, v_4, v_5⟩ := k_v.facts
         clear h_x1 ht_x1 h_x2 ht_x2)
      | (go_at_call 29
         have mk4 := mk3
         clear mk3
         refine (Is_c v a b bi _ c1 c2 (by omega) (by omega) ra rb ei.out).mono ?_
         rintro e w4 ⟨rfl, hb⟩
         replace HB := HB.trans (hb.mono HB.size)
         replace k_v := k_v.below hb
         replace h_v := h_v.below hb
         replace g_v := g_v.below hb
         replace ra := ra.below hb
         replace rb := rb.below hb
         clear hb
         clear v_0 v_1 v_2 v_3 v_4 v_5
         obtain ⟨v_0, v_1, v_2, v_3, v_4, v_5⟩ := k_v.facts)
      | (go_at_call 30
         have mk5 := mk4
         clear mk4
         refine (rIs_c v a b r bi _ (g_v.more (by omega)) ra rb hr.out ei.out).mono ?_
         rintro e w5 ⟨rfl, hb⟩
         replace HB := HB.trans (hb.mono HB.size)
         replace k_v := k_v.below hb
         replace h_v := h_v.below hb
         replace g_v := g_v.below hb
         replace ra := ra.below hb
         replace rb := rb.below hb
         clear hb
         clear v_0 v_1 v_2 v_3 v_4 v_5
         obtain ⟨v_0, v_1, v_2, v_3, v_4, v_5⟩ := k_v.facts)
      | (go_at_call 31
         have mk6 := mk5
         clear mk5
         refine (Zero_v v r bz _ (h_v.more (by omega)) ez.out).mono ?_
         rintro e w6 ⟨rfl, hb⟩
         replace HB := HB.trans (hb.mono HB.size)
         replace k_v := k_v.below hb
         replace h_v := h_v.below hb
         replace g_v := g_v.below hb
         replace ra := ra.below hb
         replace rb := rb.below hb
         clear hb
         clear v_0 v_1 v_2 v_3 v_4 v_5
         obtain ⟨v_0, v_1, v_2, v_3, v_4, v_5⟩ := k_v.facts)
      | (go_at_call 32
         have mk7 := mk6
         clear mk6
         refine (rZero_v v r bz _ (g_v.more (by omega)) ez.out).mono ?_
         rintro e w7 ⟨rfl, hb⟩
         replace HB := HB.trans (hb.mono HB.size)
         replace k_v := k_v.below hb
         replace h_v := h_v.below hb
         replace g_v := g_v.below hb
         replace ra := ra.below hb
         replace rb := rb.below hb
         clear hb
         clear v_0 v_1 v_2 v_3 v_4 v_5
         obtain ⟨v_0, v_1, v_2, v_3, v_4, v_5⟩ := k_v.facts)
      | (go_at_call 33
         have mk8 := mk7
         clear mk7
         refine (Large_v v r bl _ h_v el.out).mono ?_
         rintro e w8 ⟨rfl, hb⟩
         replace HB := HB.trans (hb.mono HB.size)
         replace k_v := k_v.below hb
         replace h_v := h_v.below hb
         replace g_v := g_v.below hb
         replace ra := ra.below hb
         replace rb := rb.below hb
         clear hb
         clear v_0 v_1 v_2 v_3 v_4 v_5
         obtain ⟨v_0, v_1, v_2, v_3, v_4, v_5⟩ := k_v.facts)
      | (go_at_call 34
         have mk9 := mk8
         clear mk8
         refine (rLarge_c v r bl _ (g_v.more (by omega)) el).mono ?_
         rintro e w9 ⟨rfl, hb⟩
         replace HB := HB.trans (hb.mono HB.size)
         replace k_v := k_v.below hb
         replace h_v := h_v.below hb
         replace g_v := g_v.below hb
         replace ra := ra.below hb
         replace rb := rb.below hb
         clear hb
         clear v_0 v_1 v_2 v_3 v_4 v_5
         obtain ⟨v_0, v_1, v_2, v_3, v_4, v_5⟩ := k_v.facts)
      | (go_at_call 35
         have mk10 := mk9
         clear mk9
         refine (Neg_c v r _ h_v).mono ?_
         rintro e w10 ⟨x3, rfl, ht_x3, hb⟩
         replace HB := HB.trans (hb.mono HB.size)
         replace k_v := k_v.below hb
         replace h_v := h_v.below hb
         replace g_v := g_v.below hb
         replace ra := ra.below hb
         replace rb := rb.below hb
         have h_x3 := (ht_x3.rw n_v).more (show _ ≤ 2000 by omega)
         clear hb
         clear v_0 v_1 v_2 v_3 v_4 v_5
         obtain ⟨v_0, v_1, v_2, v_3, v_4, v_5⟩ := k_v.facts)
      | (go_at_call 36
         have mk11 := mk10
         clear mk10
         refine (rNeg_c v r _ (g_v.more (by omega))).mono ?_
         rintro e w11 ⟨x4, rfl, ht_x4, hb⟩
         replace HB := HB.trans (hb.mono HB.size)
         replace k_v := k_v.below hb
         replace h_v := h_v.below hb
         replace g_v := g_v.below hb
         replace ra := ra.below hb
         replace rb := rb.below hb
         replace h_x3 := h_x3.below hb
         replace ht_x3 := ht_x3.below hb
         have h_x4 := (ht_x4.rw n_v).more (show _ ≤ 2000 by omega)
         clear hb
         clear v_0 v_1 v_2 v_3 v_4 v_5
         obtain ⟨v_0, v_1, v_2, v_3, v_4, v_5⟩ := k_v.facts)
      | (go_at_call 15
         have mk12 := mk11
         clear mk11
         refine (one_yes x3 x4 _ _ _ _ _ ht_x3 ht_x4 rfl (ht_x3.len n_v (by omega)).1 (ht_x3.len n_v (by omega)).2).mono ?_
         rintro e w12 ⟨rfl, hb⟩
         replace HB := HB.trans (hb.mono HB.size)
         replace k_v := k_v.below hb
         replace h_v := h_v.below hb
         replace g_v := g_v.below hb
         replace ra := ra.below hb
         replace rb := rb.below hb
         replace h_x3 := h_x3.below hb
         replace ht_x3 := ht_x3.below hb
         replace h_x4 := h_x4.below hb
         replace ht_x4 := ht_x4.below hb
         clear hb
         clear v_0 v_1 v_2 v_3 v_4 v_5
         obtain ⟨v_0, v_1, v_2, v_3, v_4, v_5⟩ := k_v.facts
         clear h_x3 ht_x3 h_x4 ht_x4)
      | (go_at_call 37
         have mk13 := mk12
         clear mk12
         refine (Floor_c v r _ h_v).mono ?_
         rintro e w13 ⟨x5, rfl, ht_x5, hb⟩
         replace HB := HB.trans (hb.mono HB.size)
         replace k_v := k_v.below hb
         replace h_v := h_v.below hb
         replace g_v := g_v.below hb
         replace ra := ra.below hb
         replace rb := rb.below hb
         have h_x5 := (ht_x5.rw f_v).more (show _ ≤ 2000 by omega)
         clear hb
         clear v_0 v_1 v_2 v_3 v_4 v_5
         obtain ⟨v_0, v_1, v_2, v_3, v_4, v_5⟩ := k_v.facts)
      | (go_at_call 38
         have mk14 := mk13
         clear mk13
         refine (rFloor_c v r _ g_v).mono ?_
         rintro e w14 ⟨x6, rfl, ht_x6, hb⟩
         replace HB := HB.trans (hb.mono HB.size)
         replace k_v := k_v.below hb
         replace h_v := h_v.below hb
         replace g_v := g_v.below hb
         replace ra := ra.below hb
         replace rb := rb.below hb
         replace h_x5 := h_x5.below hb
         replace ht_x5 := ht_x5.below hb
         have h_x6 := (ht_x6.rw f_v).more (show _ ≤ 2000 by omega)
         clear hb
         clear v_0 v_1 v_2 v_3 v_4 v_5
         obtain ⟨v_0, v_1, v_2, v_3, v_4, v_5⟩ := k_v.facts)
      | (go_at_call 15
         have mk15 := mk14
         clear mk14
         refine (one_yes x5 x6 _ _ _ _ _ ht_x5 ht_x6 rfl (ht_x5.len f_v (by omega)).1 (ht_x5.len f_v (by omega)).2).mono ?_
         rintro e w15 ⟨rfl, hb⟩
         replace HB := HB.trans (hb.mono HB.size)
         replace k_v := k_v.below hb
         replace h_v := h_v.below hb
         replace g_v := g_v.below hb
         replace ra := ra.below hb
         replace rb := rb.below hb
         replace h_x5 := h_x5.below hb
         replace ht_x5 := ht_x5.below hb
         replace h_x6 := h_x6.below hb
         replace ht_x6 := ht_x6.below hb
         clear hb
         clear v_0 v_1 v_2 v_3 v_4 v_5
         obtain ⟨v_0, v_1, v_2, v_3, v_4, v_5⟩ := k_v.facts
         clear h_x5 ht_x5 h_x6 ht_x6)
      | (go_at_call 39
         have mk16 := mk15
         clear mk15
         refine (Int_any i _ hi.out).mono ?_
         rintro e w16 ⟨x7, rfl, ht_x7, hb⟩
         replace HB := HB.trans (hb.mono HB.size)
         replace k_v := k_v.below hb
         replace h_v := h_v.below hb
         replace g_v := g_v.below hb
         replace ra := ra.below hb
         replace rb := rb.below hb
         have h_x7 := (ht_x7.rw z_i).more (show _ ≤ 2000 by omega)
         clear hb
         clear v_0 v_1 v_2 v_3 v_4 v_5
         obtain ⟨v_0, v_1, v_2, v_3, v_4, v_5⟩ := k_v.facts)
      | (go_at_call 40
         have mk17 := mk16
         clear mk16
         refine (rInt_c i _ hi.out).mono ?_
         rintro e w17 ⟨x8, rfl, ht_x8, hb⟩
         replace HB := HB.trans (hb.mono HB.size)
         replace k_v := k_v.below hb
         replace h_v := h_v.below hb
         replace g_v := g_v.below hb
         replace ra := ra.below hb
         replace rb := rb.below hb
         replace h_x7 := h_x7.below hb
         replace ht_x7 := ht_x7.below hb
         have h_x8 := (ht_x8.rw z_i).more (show _ ≤ 2000 by omega)
         clear hb
         clear v_0 v_1 v_2 v_3 v_4 v_5
         obtain ⟨v_0, v_1, v_2, v_3, v_4, v_5⟩ := k_v.facts)
      | (go_at_call 15
         have mk18 := mk17
         clear mk17
         refine (one_yes x7 x8 _ _ _ _ _ ht_x7 ht_x8 rfl (ht_x7.len z_i (by omega)).1 (ht_x7.len z_i (by omega)).2).mono ?_
         rintro e w18 ⟨rfl, hb⟩
         replace HB := HB.trans (hb.mono HB.size)
         replace k_v := k_v.below hb
         replace h_v := h_v.below hb
         replace g_v := g_v.below hb
         replace ra := ra.below hb
         replace rb := rb.below hb
         replace h_x7 := h_x7.below hb
         replace ht_x7 := ht_x7.below hb
         replace h_x8 := h_x8.below hb
         replace ht_x8 := ht_x8.below hb
         clear hb
         clear v_0 v_1 v_2 v_3 v_4 v_5
         obtain ⟨v_0, v_1, v_2, v_3, v_4, v_5⟩ := k_v.facts
         clear h_x7 ht_x7 h_x8 ht_x8)
      | (go_at_call 41
         have mk19 := mk18
         clear mk18
         refine (Of_rows v.s v.A v.B v.n v.m v.c v.d a b r _ (by omega) (by omega) c1 c2 ra rb hr.out).mono ?_
         rintro e w19 ⟨x9, rfl, ht_x9, hb⟩
         replace HB := HB.trans (hb.mono HB.size)
         replace k_v := k_v.below hb
         replace h_v := h_v.below hb
         replace g_v := g_v.below hb
         replace ra := ra.below hb
         replace rb := rb.below hb
         have h_x9 := (ht_x9.rw z_v).more (show _ ≤ 2000 by omega)
         clear hb
         clear v_0 v_1 v_2 v_3 v_4 v_5
         obtain ⟨v_0, v_1, v_2, v_3, v_4, v_5⟩ := k_v.facts)
      | (go_at_call 28
         have mk20 := mk19
         clear mk19
         refine (rNorm_c v r _ (g_v.more (by omega))).mono ?_
         rintro e w20 ⟨y1, rfl, ht_y1, hb⟩
         replace HB := HB.trans (hb.mono HB.size)
         replace k_v := k_v.below hb
         replace h_v := h_v.below hb
         replace g_v := g_v.below hb
         replace ra := ra.below hb
         replace rb := rb.below hb
         replace h_x9 := h_x9.below hb
         replace ht_x9 := ht_x9.below hb
         have h_y1 := (ht_y1.rw z_v).more (show _ ≤ 2000 by omega)
         clear hb
         clear v_0 v_1 v_2 v_3 v_4 v_5
         obtain ⟨v_0, v_1, v_2, v_3, v_4, v_5⟩ := k_v.facts)
      | (go_at_call 15
         have mk21 := mk20
         clear mk20
         refine (one_yes x9 y1 _ _ _ _ _ ht_x9 ht_y1 rfl (ht_x9.len z_v (by omega)).1 (ht_x9.len z_v (by omega)).2).mono ?_
         rintro e w21 ⟨rfl, hb⟩
         replace HB := HB.trans (hb.mono HB.size)
         replace k_v := k_v.below hb
         replace h_v := h_v.below hb
         replace g_v := g_v.below hb
         replace ra := ra.below hb
         replace rb := rb.below hb
         replace h_x9 := h_x9.below hb
         replace ht_x9 := ht_x9.below hb
         replace h_y1 := h_y1.below hb
         replace ht_y1 := ht_y1.below hb
         clear hb
         clear v_0 v_1 v_2 v_3 v_4 v_5
         obtain ⟨v_0, v_1, v_2, v_3, v_4, v_5⟩ := k_v.facts
         clear h_x9 ht_x9 h_y1 ht_y1)
      | (go_at_call 26
         have mk22 := mk21
         clear mk21
         refine (known_any _).mono ?_
         rintro e w22 ⟨rfl, hb⟩
         replace HB := HB.trans (hb.mono HB.size)
         replace k_v := k_v.below hb
         replace h_v := h_v.below hb
         replace g_v := g_v.below hb
         replace ra := ra.below hb
         replace rb := rb.below hb
         clear hb
         clear v_0 v_1 v_2 v_3 v_4 v_5
         obtain ⟨v_0, v_1, v_2, v_3, v_4, v_5⟩ := k_v.facts))
  go_wp2
  go_ret
  exact ⟨rfl, HB⟩

set_option maxRecDepth 100000 in
set_option maxHeartbeats 16000000 in
theorem RatLooks_flat (v : Rv) (a b : List Nat) (r : Rat) (i : Int) (bz bl bi : Bool) (w : World) (hi : Hid (-9223372036854775808 ≤ i ∧ i ≤ 9223372036854775807)) (hn : v.n ≤ 20) (hm : v.m ≤ 20) (c1 : v.n ≤ v.c) (c2 : v.m ≤ v.d) (ra : Row w 0 v.A v.n a) (rb : Row w 0 v.B v.m b) (hr : Hid (rn v.s (val a) (val b) = r)) (ez : Hid (decide (r = 0) = bz)) (el : Hid (decide (16 < (lim r.num.natAbs).length ∨ 16 < (lim r.den).length) = bl)) (ei : Hid (bi = true ↔ IsN v.s a b)) (hc : (16 : Int) < (v.n : Int) + v.m) (hc1 : (v.m : Int) ≤ 1) :
    Calls Try.prog 4 #[.agg #[.bool v.s, .slice v.A v.n v.c, .slice v.B v.m v.d], .int .i64 i] w fun e w' => e = .returned (.bool true) ∧ Below w.heap.size w w' := by
  have h_0 : Rw w v r 20 := ⟨c1, c2, hn, hm, a, b, ra, rb, hr.out⟩
  have z_v := h_0.sz (by omega)
  have n_v := z_v.neg
  have f_v := z_v.floor'
  have z_i : Sz (i : Rat) 2 := Sz.big' (by have := hi.out; omega)
  have hni : (v.n : Int) ≤ 20 := by omega
  have hmi : (v.m : Int) ≤ 20 := by omega
  go_enter Try.func4, Try.ntmps4
  go_wp2_with fail
  generalize hW : (w.alloc (.cells #[.bool v.s, .slice v.A v.n v.c, .slice v.B v.m v.d] 24)) = W
  obtain ⟨k_v, HB, hsW⟩ := open1 w v W hW
  clear hW hsW hc hni hmi hc1
  have h_v := ((h_0.below HB).drew).more (show 20 ≤ 2000 by omega)
  have g_v := ((h_0.below HB).drew).more (show 20 ≤ 56 by omega)
  replace ra := (ra.below HB).drew
  replace rb := (rb.below HB).drew
  clear h_0
  obtain ⟨v_0, v_1, v_2, v_3, v_4, v_5⟩ := k_v.facts
  replace k_v := k_v.drew
  replace HB := HB.drew
  have mk0 : Hid True := trivial
  go_region_held3 (fun w' => w'.cell? ⟨w.heap.size, 0, none⟩ = some (.bool v.s) ∧ w'.cell? ⟨w.heap.size, 1, none⟩ = some (.slice v.A v.n v.c) ∧ w'.cell? ⟨w.heap.size, 2, none⟩ = some (.slice v.B v.m v.d)) (go_keep)
      (first
      | (go_at_call 27
         have mk1 := mk0
         clear mk0
         refine (Norm_any v r _ (h_v.more (by omega))).mono ?_
         rintro e w1 ⟨x1, rfl, ht_x1, hb⟩
         replace HB := HB.trans (hb.mono HB.size)
         replace k_v := k_v.below hb
         replace h_v := h_v.below hb
         replace g_v := g_v.below hb
         replace ra := ra.below hb
         replace rb := rb.below hb
         have h_x1 := (ht_x1.rw z_v).more (show _ ≤ 2000 by omega)
         clear hb
         clear v_0 v_1 v_2 v_3 v_4 v_5
         obtain ⟨v_0, v_1, v_2, v_3, v_4, v_5⟩ := k_v.facts)
      | (go_at_call 28
         have mk2 := mk1
         clear mk1
         refine (rNorm_c v r _ (g_v.more (by omega))).mono ?_
         rintro e w2 ⟨x2, rfl, ht_x2, hb⟩
         replace HB := HB.trans (hb.mono HB.size)
         replace k_v := k_v.below hb
         replace h_v := h_v.below hb
         replace g_v := g_v.below hb
         replace ra := ra.below hb
         replace rb := rb.below hb
         replace h_x1 := h_x1.below hb
         replace ht_x1 := ht_x1.below hb
         have h_x2 := (ht_x2.rw z_v).more (show _ ≤ 2000 by omega)
         clear hb
         clear v_0 v_1 v_2 v_3 v_4 v_5
         obtain ⟨v_0, v_1, v_2, v_3, v_4, v_5⟩ := k_v.facts)
      | (go_at_call 15
         have mk3 := mk2
         clear mk2
         refine (one_yes x1 x2 _ _ _ _ _ ht_x1 ht_x2 rfl (ht_x1.len z_v (by omega)).1 (ht_x1.len z_v (by omega)).2).mono ?_
         rintro e w3 ⟨rfl, hb⟩
         replace HB := HB.trans (hb.mono HB.size)
         replace k_v := k_v.below hb
         replace h_v := h_v.below hb
         replace g_v := g_v.below hb
         replace ra := ra.below hb
         replace rb := rb.below hb
         replace h_x1 := h_x1.below hb
         replace ht_x1 := ht_x1.below hb
         replace h_x2 := h_x2.below hb
         replace ht_x2 := ht_x2.below hb
         clear hb
         clear v_0 v_1 v_2 v_3 v_4 v_5
         obtain ⟨v_0, v_1, v_2, v_3, v_4, v_5⟩ := k_v.facts
         clear h_x1 ht_x1 h_x2 ht_x2)
      | (go_at_call 29
         have mk4 := mk3
         clear mk3
         refine (Is_c v a b bi _ c1 c2 (by omega) (by omega) ra rb ei.out).mono ?_
         rintro e w4 ⟨rfl, hb⟩
         replace HB := HB.trans (hb.mono HB.size)
         replace k_v := k_v.below hb
         replace h_v := h_v.below hb
         replace g_v := g_v.below hb
         replace ra := ra.below hb
         replace rb := rb.below hb
         clear hb
         clear v_0 v_1 v_2 v_3 v_4 v_5
         obtain ⟨v_0, v_1, v_2, v_3, v_4, v_5⟩ := k_v.facts)
      | (go_at_call 30
         have mk5 := mk4
         clear mk4
         refine (rIs_c v a b r bi _ (g_v.more (by omega)) ra rb hr.out ei.out).mono ?_
         rintro e w5 ⟨rfl, hb⟩
         replace HB := HB.trans (hb.mono HB.size)
         replace k_v := k_v.below hb
         replace h_v := h_v.below hb
         replace g_v := g_v.below hb
         replace ra := ra.below hb
         replace rb := rb.below hb
         clear hb
         clear v_0 v_1 v_2 v_3 v_4 v_5
         obtain ⟨v_0, v_1, v_2, v_3, v_4, v_5⟩ := k_v.facts)
      | (go_at_call 31
         have mk6 := mk5
         clear mk5
         refine (Zero_v v r bz _ (h_v.more (by omega)) ez.out).mono ?_
         rintro e w6 ⟨rfl, hb⟩
         replace HB := HB.trans (hb.mono HB.size)
         replace k_v := k_v.below hb
         replace h_v := h_v.below hb
         replace g_v := g_v.below hb
         replace ra := ra.below hb
         replace rb := rb.below hb
         clear hb
         clear v_0 v_1 v_2 v_3 v_4 v_5
         obtain ⟨v_0, v_1, v_2, v_3, v_4, v_5⟩ := k_v.facts)
      | (go_at_call 32
         have mk7 := mk6
         clear mk6
         refine (rZero_v v r bz _ (g_v.more (by omega)) ez.out).mono ?_
         rintro e w7 ⟨rfl, hb⟩
         replace HB := HB.trans (hb.mono HB.size)
         replace k_v := k_v.below hb
         replace h_v := h_v.below hb
         replace g_v := g_v.below hb
         replace ra := ra.below hb
         replace rb := rb.below hb
         clear hb
         clear v_0 v_1 v_2 v_3 v_4 v_5
         obtain ⟨v_0, v_1, v_2, v_3, v_4, v_5⟩ := k_v.facts)
      | (go_at_call 33
         have mk8 := mk7
         clear mk7
         refine (Large_v v r bl _ h_v el.out).mono ?_
         rintro e w8 ⟨rfl, hb⟩
         replace HB := HB.trans (hb.mono HB.size)
         replace k_v := k_v.below hb
         replace h_v := h_v.below hb
         replace g_v := g_v.below hb
         replace ra := ra.below hb
         replace rb := rb.below hb
         clear hb
         clear v_0 v_1 v_2 v_3 v_4 v_5
         obtain ⟨v_0, v_1, v_2, v_3, v_4, v_5⟩ := k_v.facts)
      | (go_at_call 34
         have mk9 := mk8
         clear mk8
         refine (rLarge_c v r bl _ (g_v.more (by omega)) el).mono ?_
         rintro e w9 ⟨rfl, hb⟩
         replace HB := HB.trans (hb.mono HB.size)
         replace k_v := k_v.below hb
         replace h_v := h_v.below hb
         replace g_v := g_v.below hb
         replace ra := ra.below hb
         replace rb := rb.below hb
         clear hb
         clear v_0 v_1 v_2 v_3 v_4 v_5
         obtain ⟨v_0, v_1, v_2, v_3, v_4, v_5⟩ := k_v.facts)
      | (go_at_call 35
         have mk10 := mk9
         clear mk9
         refine (Neg_c v r _ h_v).mono ?_
         rintro e w10 ⟨x3, rfl, ht_x3, hb⟩
         replace HB := HB.trans (hb.mono HB.size)
         replace k_v := k_v.below hb
         replace h_v := h_v.below hb
         replace g_v := g_v.below hb
         replace ra := ra.below hb
         replace rb := rb.below hb
         have h_x3 := (ht_x3.rw n_v).more (show _ ≤ 2000 by omega)
         clear hb
         clear v_0 v_1 v_2 v_3 v_4 v_5
         obtain ⟨v_0, v_1, v_2, v_3, v_4, v_5⟩ := k_v.facts)
      | (go_at_call 36
         have mk11 := mk10
         clear mk10
         refine (rNeg_c v r _ (g_v.more (by omega))).mono ?_
         rintro e w11 ⟨x4, rfl, ht_x4, hb⟩
         replace HB := HB.trans (hb.mono HB.size)
         replace k_v := k_v.below hb
         replace h_v := h_v.below hb
         replace g_v := g_v.below hb
         replace ra := ra.below hb
         replace rb := rb.below hb
         replace h_x3 := h_x3.below hb
         replace ht_x3 := ht_x3.below hb
         have h_x4 := (ht_x4.rw n_v).more (show _ ≤ 2000 by omega)
         clear hb
         clear v_0 v_1 v_2 v_3 v_4 v_5
         obtain ⟨v_0, v_1, v_2, v_3, v_4, v_5⟩ := k_v.facts)
      | (go_at_call 15
         have mk12 := mk11
         clear mk11
         refine (one_yes x3 x4 _ _ _ _ _ ht_x3 ht_x4 rfl (ht_x3.len n_v (by omega)).1 (ht_x3.len n_v (by omega)).2).mono ?_
         rintro e w12 ⟨rfl, hb⟩
         replace HB := HB.trans (hb.mono HB.size)
         replace k_v := k_v.below hb
         replace h_v := h_v.below hb
         replace g_v := g_v.below hb
         replace ra := ra.below hb
         replace rb := rb.below hb
         replace h_x3 := h_x3.below hb
         replace ht_x3 := ht_x3.below hb
         replace h_x4 := h_x4.below hb
         replace ht_x4 := ht_x4.below hb
         clear hb
         clear v_0 v_1 v_2 v_3 v_4 v_5
         obtain ⟨v_0, v_1, v_2, v_3, v_4, v_5⟩ := k_v.facts
         clear h_x3 ht_x3 h_x4 ht_x4)
      | (go_at_call 37
         have mk13 := mk12
         clear mk12
         refine (Floor_c v r _ h_v).mono ?_
         rintro e w13 ⟨x5, rfl, ht_x5, hb⟩
         replace HB := HB.trans (hb.mono HB.size)
         replace k_v := k_v.below hb
         replace h_v := h_v.below hb
         replace g_v := g_v.below hb
         replace ra := ra.below hb
         replace rb := rb.below hb
         have h_x5 := (ht_x5.rw f_v).more (show _ ≤ 2000 by omega)
         clear hb
         clear v_0 v_1 v_2 v_3 v_4 v_5
         obtain ⟨v_0, v_1, v_2, v_3, v_4, v_5⟩ := k_v.facts)
      | (go_at_call 38
         have mk14 := mk13
         clear mk13
         refine (rFloor_c v r _ g_v).mono ?_
         rintro e w14 ⟨x6, rfl, ht_x6, hb⟩
         replace HB := HB.trans (hb.mono HB.size)
         replace k_v := k_v.below hb
         replace h_v := h_v.below hb
         replace g_v := g_v.below hb
         replace ra := ra.below hb
         replace rb := rb.below hb
         replace h_x5 := h_x5.below hb
         replace ht_x5 := ht_x5.below hb
         have h_x6 := (ht_x6.rw f_v).more (show _ ≤ 2000 by omega)
         clear hb
         clear v_0 v_1 v_2 v_3 v_4 v_5
         obtain ⟨v_0, v_1, v_2, v_3, v_4, v_5⟩ := k_v.facts)
      | (go_at_call 15
         have mk15 := mk14
         clear mk14
         refine (one_yes x5 x6 _ _ _ _ _ ht_x5 ht_x6 rfl (ht_x5.len f_v (by omega)).1 (ht_x5.len f_v (by omega)).2).mono ?_
         rintro e w15 ⟨rfl, hb⟩
         replace HB := HB.trans (hb.mono HB.size)
         replace k_v := k_v.below hb
         replace h_v := h_v.below hb
         replace g_v := g_v.below hb
         replace ra := ra.below hb
         replace rb := rb.below hb
         replace h_x5 := h_x5.below hb
         replace ht_x5 := ht_x5.below hb
         replace h_x6 := h_x6.below hb
         replace ht_x6 := ht_x6.below hb
         clear hb
         clear v_0 v_1 v_2 v_3 v_4 v_5
         obtain ⟨v_0, v_1, v_2, v_3, v_4, v_5⟩ := k_v.facts
         clear h_x5 ht_x5 h_x6 ht_x6)
      | (go_at_call 39
         have mk16 := mk15
         clear mk15
         refine (Int_any i _ hi.out).mono ?_
         rintro e w16 ⟨x7, rfl, ht_x7, hb⟩
         replace HB := HB.trans (hb.mono HB.size)
         replace k_v := k_v.below hb
         replace h_v := h_v.below hb
         replace g_v := g_v.below hb
         replace ra := ra.below hb
         replace rb := rb.below hb
         have h_x7 := (ht_x7.rw z_i).more (show _ ≤ 2000 by omega)
         clear hb
         clear v_0 v_1 v_2 v_3 v_4 v_5
         obtain ⟨v_0, v_1, v_2, v_3, v_4, v_5⟩ := k_v.facts)
      | (go_at_call 40
         have mk17 := mk16
         clear mk16
         refine (rInt_c i _ hi.out).mono ?_
         rintro e w17 ⟨x8, rfl, ht_x8, hb⟩
         replace HB := HB.trans (hb.mono HB.size)
         replace k_v := k_v.below hb
         replace h_v := h_v.below hb
         replace g_v := g_v.below hb
         replace ra := ra.below hb
         replace rb := rb.below hb
         replace h_x7 := h_x7.below hb
         replace ht_x7 := ht_x7.below hb
         have h_x8 := (ht_x8.rw z_i).more (show _ ≤ 2000 by omega)
         clear hb
         clear v_0 v_1 v_2 v_3 v_4 v_5
         obtain ⟨v_0, v_1, v_2, v_3, v_4, v_5⟩ := k_v.facts)
      | (go_at_call 15
         have mk18 := mk17
         clear mk17
         refine (one_yes x7 x8 _ _ _ _ _ ht_x7 ht_x8 rfl (ht_x7.len z_i (by omega)).1 (ht_x7.len z_i (by omega)).2).mono ?_
         rintro e w18 ⟨rfl, hb⟩
         replace HB := HB.trans (hb.mono HB.size)
         replace k_v := k_v.below hb
         replace h_v := h_v.below hb
         replace g_v := g_v.below hb
         replace ra := ra.below hb
         replace rb := rb.below hb
         replace h_x7 := h_x7.below hb
         replace ht_x7 := ht_x7.below hb
         replace h_x8 := h_x8.below hb
         replace ht_x8 := ht_x8.below hb
         clear hb
         clear v_0 v_1 v_2 v_3 v_4 v_5
         obtain ⟨v_0, v_1, v_2, v_3, v_4, v_5⟩ := k_v.facts
         clear h_x7 ht_x7 h_x8 ht_x8)
      | (go_at_call 41
         have mk19 := mk18
         clear mk18
         refine (Of_rows v.s v.A v.B v.n v.m v.c v.d a b r _ (by omega) (by omega) c1 c2 ra rb hr.out).mono ?_
         rintro e w19 ⟨x9, rfl, ht_x9, hb⟩
         replace HB := HB.trans (hb.mono HB.size)
         replace k_v := k_v.below hb
         replace h_v := h_v.below hb
         replace g_v := g_v.below hb
         replace ra := ra.below hb
         replace rb := rb.below hb
         have h_x9 := (ht_x9.rw z_v).more (show _ ≤ 2000 by omega)
         clear hb
         clear v_0 v_1 v_2 v_3 v_4 v_5
         obtain ⟨v_0, v_1, v_2, v_3, v_4, v_5⟩ := k_v.facts)
      | (go_at_call 28
         have mk20 := mk19
         clear mk19
         refine (rNorm_c v r _ (g_v.more (by omega))).mono ?_
         rintro e w20 ⟨y1, rfl, ht_y1, hb⟩
         replace HB := HB.trans (hb.mono HB.size)
         replace k_v := k_v.below hb
         replace h_v := h_v.below hb
         replace g_v := g_v.below hb
         replace ra := ra.below hb
         replace rb := rb.below hb
         replace h_x9 := h_x9.below hb
         replace ht_x9 := ht_x9.below hb
         have h_y1 := (ht_y1.rw z_v).more (show _ ≤ 2000 by omega)
         clear hb
         clear v_0 v_1 v_2 v_3 v_4 v_5
         obtain ⟨v_0, v_1, v_2, v_3, v_4, v_5⟩ := k_v.facts)
      | (go_at_call 15
         have mk21 := mk20
         clear mk20
         refine (one_yes x9 y1 _ _ _ _ _ ht_x9 ht_y1 rfl (ht_x9.len z_v (by omega)).1 (ht_x9.len z_v (by omega)).2).mono ?_
         rintro e w21 ⟨rfl, hb⟩
         replace HB := HB.trans (hb.mono HB.size)
         replace k_v := k_v.below hb
         replace h_v := h_v.below hb
         replace g_v := g_v.below hb
         replace ra := ra.below hb
         replace rb := rb.below hb
         replace h_x9 := h_x9.below hb
         replace ht_x9 := ht_x9.below hb
         replace h_y1 := h_y1.below hb
         replace ht_y1 := ht_y1.below hb
         clear hb
         clear v_0 v_1 v_2 v_3 v_4 v_5
         obtain ⟨v_0, v_1, v_2, v_3, v_4, v_5⟩ := k_v.facts
         clear h_x9 ht_x9 h_y1 ht_y1)
      | (go_at_call 26
         have mk22 := mk21
         clear mk21
         refine (known_any _).mono ?_
         rintro e w22 ⟨rfl, hb⟩
         replace HB := HB.trans (hb.mono HB.size)
         replace k_v := k_v.below hb
         replace h_v := h_v.below hb
         replace g_v := g_v.below hb
         replace ra := ra.below hb
         replace rb := rb.below hb
         clear hb
         clear v_0 v_1 v_2 v_3 v_4 v_5
         obtain ⟨v_0, v_1, v_2, v_3, v_4, v_5⟩ := k_v.facts))
  go_wp2
  go_ret
  exact ⟨rfl, HB⟩

set_option maxHeartbeats 1600000 in
theorem RatLooks_wide (v : Rv) (i : Int) (w : World) (l1 : v.n ≤ 100000000000000) (l2 : v.m ≤ 100000000000000) (h : 20 < v.n ∨ 20 < v.m) :
    Calls Try.prog 4 #[.agg #[.bool v.s, .slice v.A v.n v.c, .slice v.B v.m v.d], .int .i64 i] w fun e w' => e = .returned (.bool true) ∧ Below w.heap.size w w' := by
  have HB := (Below.refl w.heap.size w).alloc (Nat.le_refl _) (.cells #[.bool v.s, .slice v.A v.n v.c, .slice v.B v.m v.d] 24)
  by_cases h1 : 20 < v.n
  · have g1 : (20 : Int) < v.n := by omega
    clear h h1
    go_enter Try.func4, Try.ntmps4
    go_wp2_with fail
    go_ret
    exact ⟨rfl, HB⟩
  · have g1 : (v.n : Int) ≤ 20 := by omega
    have g2 : (20 : Int) < v.m := by omega
    clear h h1
    go_enter Try.func4, Try.ntmps4
    go_wp2_with fail
    go_ret
    exact ⟨rfl, HB⟩
set_option maxHeartbeats 1600000 in
theorem RatLooks_deep (v : Rv) (i : Int) (w : World) (l1 : v.n ≤ 20) (l2 : v.m ≤ 20) (h : 16 < v.n + v.m) (h' : 1 < v.m) :
    Calls Try.prog 4 #[.agg #[.bool v.s, .slice v.A v.n v.c, .slice v.B v.m v.d], .int .i64 i] w fun e w' => e = .returned (.bool true) ∧ Below w.heap.size w w' := by
  have HB := (Below.refl w.heap.size w).alloc (Nat.le_refl _) (.cells #[.bool v.s, .slice v.A v.n v.c, .slice v.B v.m v.d] 24)
  have g1 : (v.n : Int) ≤ 20 := by omega
  have g2 : (v.m : Int) ≤ 20 := by omega
  have g3 : (16 : Int) < (v.n : Int) + v.m := by omega
  have g4 : (1 : Int) < v.m := by omega
  clear h h'
  go_enter Try.func4, Try.ntmps4
  go_wp2_with fail
  go_ret
  exact ⟨rfl, HB⟩
theorem RatLooks_any (v : Rv) (i : Int) (w : World) (hi : -9223372036854775808 ≤ i ∧ i ≤ 9223372036854775807) (l_v : v.n ≤ 100000000000000 ∧ v.m ≤ 100000000000000) (c_v : v.n ≤ v.c ∧ v.m ≤ v.d) (r_v : ∃ a b, Row w 0 v.A v.n a ∧ Row w 0 v.B v.m b) :
    Calls Try.prog 4 #[.agg #[.bool v.s, .slice v.A v.n v.c, .slice v.B v.m v.d], .int .i64 i] w fun e w' => e = .returned (.bool true) ∧ Below w.heap.size w w' := by
  by_cases h : 20 < v.n ∨ 20 < v.m
  · exact RatLooks_wide v i w l_v.1 l_v.2 h
  · by_cases h1 : 16 < v.n + v.m ∧ 1 < v.m
    · exact RatLooks_deep v i w (by omega) (by omega) h1.1 h1.2
    · obtain ⟨a, b, ra, rb⟩ := r_v
      obtain ⟨bi, hbi⟩ : ∃ bi : Bool, bi = true ↔ IsN v.s a b := by
        by_cases hq : IsN v.s a b
        · exact ⟨true, by simp [hq]⟩
        · exact ⟨false, by simp [hq]⟩
      by_cases h2 : v.n + v.m ≤ 16
      · exact RatLooks_few v a b _ i _ _ bi w hi (by omega) (by omega) c_v.1 c_v.2 ra rb rfl rfl rfl hbi (by omega)
      · exact RatLooks_flat v a b _ i _ _ bi w hi (by omega) (by omega) c_v.1 c_v.2 ra rb rfl rfl rfl hbi (by omega) (by omega)
end Go.Proofs.Ytadopepoicbahaa

namespace Go.Proofs.Ytadopepoicbahaa
open Go.Joins Go.ChangeShapes Go.WideShapes Go.ChangeAt Go.RowKit


set_option maxRecDepth 100000 in
theorem ratLooks_lifted (os : Os) (started : os.Started) (H : Type) (enc : TypeId × Value → H) :
    ReturnsInHanded {} Try.checked os 4 .any (Rows.ratLooksSpec.pre6 enc Try.prog Try.f4 Rows.ratLooksRow.domain false) (Rows.ratLooksSpec.post enc Try.prog Try.f4 false true false false) := by
  refine returnsInHanded_of_change_sized (C := Try.checked) Try.own started (by kernel_rfl) Try.func4
    (ChangeSpec.witness6 (enc := enc) (C := Try.checked) false ⟨#[], #[.agg #[.bool false, .slice none 0 0, .slice none 0 0], .int .i64 0], []⟩ 8 (by kernel_rfl) (by kernel_rfl) (by kernel_rfl) (by kernel_rfl)) ?_
  intro W base args ds gs before hval0 hW hcnd hsz _
  have hval : ∀ (j : Nat) t v, Try.f4.params[j]? = some t → args[j]? = some v → Value.okWide Try.prog W .any base t v := hval0
  have hW' := hW
  obtain ⟨p, q, hA0, hV, rfl, hfz, hnd⟩ := hW
  have hA : DataW.TrodAll enc Try.prog W 0 (fun _ => true) true Try.f4.params.toList args.toList ds p := hA0
  rw [Try.params4] at hA hval
  obtain ⟨v0, v1, d0, d1, p0, p1, rfl, rfl, rfl, h0, h1⟩ := trodAll_two hA
  obtain ⟨rfl, rfl⟩ := trodVars_none hV
  clear hA0 hval0
  simp only [List.append_nil] at hW'
  obtain ⟨i1, rfl, rfl, rfl, wi1⟩ := open_int Try.underlying3 (hval 1 _ v1 rfl rfl) h1
  have hi1 : -9223372036854775808 ≤ i1 ∧ i1 ≤ 9223372036854775807 := by
    have e1 : IntKind.i64.min = -9223372036854775808 := rfl
    have e2 : IntKind.i64.max = 9223372036854775807 := rfl
    have := wi1
    simp only [Lit.wf, Bool.and_eq_true, decide_eq_true_eq] at this
    omega
  have hlt0 : ∀ x ∈ p0, x.block < W.heap.size := fun x hx => hW'.lt x (by simp [hx])
  obtain ⟨v, rfl, e_v, g_v, l_v, m_v, a_v, b_v, ra_v, rb_v⟩ := open_rat h0 (hval 0 _ v0 rfl rfl) hlt0 (fun n hn => by simpa using List.all_eq_true.1 hsz _ (DataW.weights_mem_each (j := 0) rfl rfl n hn))
  have hargs : ∀ (W' : World) (v : Value) (d : DataW H) (ps : List MemPlace), DataW.Trod enc Try.prog W 0 (fun _ => true) true 24 v d ps → (∀ x ∈ ps, x.block < W.heap.size) → Below W.heap.size W W' → DataW.Trod enc Try.prog W' 0 (fun b => decide (b < W.heap.size)) true 24 v d ps :=
    fun W' v d ps h hl hn => Below.trod Try.laidOut (by kernel_rfl) (of_decide_eq_true (by kernel_rfl)) h hn hl
  refine (RatLooks_any v i1 W hi1 ⟨l_v, m_v⟩ ⟨e_v, g_v⟩ ⟨a_v, b_v, ra_v, rb_v⟩).mono fun e W' ⟨he, hnx⟩ => ?_
  subst he
  refine ⟨_, rfl, _, _, _, [], _, [], hW', ?_, (trodAll_mk2 (hargs _ _ _ _ h0 hlt0 hnx) (shut_int Try.underlying3 wi1)), rfl, hnx.frame _, fun h => by cases h⟩
  exact trodAll_mk1 (shut_bool Try.underlying4 true)

theorem ratLooks_holds : Rows.RatLooksSaid :=
  OpenClaim.holds_of_wide 4 Try.f4 rfl rfl rfl rfl rfl rfl rfl ⟨rfl, rfl, rfl, rfl, rfl⟩ rfl rfl rfl rfl rfl (by kernel_rfl) Try.func4 (by kernel_rfl)
    (of_decide_eq_true (by kernel_rfl)) (by unfold Func.isWrapper; first | (rw [if_pos (by decide +kernel)]; kernel_rfl) | (rw [if_neg (by decide +kernel)]; exact ⟨rfl, rfl⟩))
    (fun os started H enc _ => ratLooks_lifted os started H enc)
end Go.Proofs.Ytadopepoicbahaa
