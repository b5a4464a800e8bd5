/-
  A row's arguments opened: a struct of a sign and two slices of uint32 that is read as data reads as a rational.
  RatReckons: the walk of the law over rationals.
  Proved: for every two rationals, any signs and limbs, RatReckons answers true and leaves them as they were: sum, difference, product, quotient, comparison are the document's own, limb by limb. No condition.
-/
import Derived.Test.YtadopepoicbahaaOpen
import Derived.Test.YtadopepoicbahaaRatA
import Derived.Lib.SmallJoins
import Derived.SizedLaws
import Derived.Test.YtadopepoicbahaaRefD
import Derived.Test.YtadopepoicbahaaRefE
import Derived.Test.YtadopepoicbahaaRefF
import Derived.Test.YtadopepoicbahaaRefG
import Derived.Test.YtadopepoicbahaaRefH
namespace Go.Proofs.Ytadopepoicbahaa
open Go.Joins Go.ChangeShapes Go.WideShapes Go.ChangeAt Go.RowKit

theorem Try.cells24 : Try.prog.cellsOf 24 = 3 := by kernel_rfl
theorem Try.bytes38 : Try.prog.bytesOf 38 = 4 := by kernel_rfl

theorem open_limbs {H : Type} {enc : TypeId × Value → H} {W : World} {v : Value} {y : DataW H × List MemPlace} {fuel : Nat} (hf : DataW.trod enc Try.prog W 0 (fun _ => true) true fuel 22 [v] = some y)
    (hlt : ∀ x ∈ y.2, x.block < W.heap.size) (hsz : ∀ n ∈ y.1.weights Try.prog 22, n ≤ reachBytes) :
    ∃ A n c l, v = .slice A n c ∧ n ≤ c ∧ c ≤ 100000000000000 ∧ Row W 0 A n l := by
  rcases open_ints Try.underlying22 Try.underlying38 Try.cells38 hf with ⟨hcs, hx⟩ | ⟨a, len', cap', zs, hcs, _, hl, hm, hz, hx, hcell, hwz⟩
  · simp at hcs
    subst hcs
    exact ⟨none, 0, 0, [], rfl, Nat.le_refl _, by omega, Row.nil_ _ _ _⟩
  · simp at hcs
    subst hcs
    subst hx
    simp only [if_true] at hz
    have hr : ∀ z ∈ zs, 0 ≤ z ∧ z < 4294967296 := by
      intro z hz
      have := hwz z hz
      simp only [Lit.wf, Bool.and_eq_true, decide_eq_true_eq] at this
      have h1 : IntKind.u32.min = 0 := rfl
      have h2 : IntKind.u32.max = 4294967295 := rfl
      omega
    have hcap : cap' ≤ 100000000000000 := by
      have h1 := hsz ((lits (H := H) IntKind.u32 (List.take len' zs)).length * 4 + (lits (H := H) IntKind.u32 (List.drop len' zs)).length * 4) (by
        simp [DataW.weights, Try.underlying22, Try.bytes38, Nat.add_mul])
      have h2 : reachBytes < 2 ^ 47 := reachBytes_lt
      simp [lits] at h1
      omega
    have hlen : (zs.take len').length = len' := by simp; omega
    refine ⟨some a, len', cap', (zs.take len').map Int.toNat, rfl, hl, hcap, by simp; omega, ?_, ?_⟩
    · intro i
      rw [dg_eq, List.getElem?_map]
      cases hq : (zs.take len')[i]? with
      | none => simp
      | some z =>
        have hmem : z ∈ zs := List.mem_of_mem_take (List.mem_of_getElem? hq)
        have := hr z hmem
        simp; omega
    · intro hn
      obtain ⟨b, off, spot⟩ := a
      have hspot : spot = none := by simpa [Addr.add] using World.cell?_spot (hcell 0 (by omega))
      subst hspot
      have hbW : b < W.heap.size := hlt (.cell b off) (MemPlace.mem_row.2 ⟨0, by omega, by simp⟩)
      refine ⟨b, off, rfl, Nat.zero_le _, hbW, fun j hj => ?_⟩
      rw [← add_plain, hcell j (by omega), dg_map zs len' j (by omega)]
      have hj2 : j < zs.length := by omega
      have : zs.getD j 0 = zs[j] := by simp [List.getD, hj2]
      rw [this]
      exact (hr _ (List.getElem_mem hj2)).1

theorem open_rat {H : Type} {enc : TypeId × Value → H} {W : World} {v : Value} {d : DataW H} {p : List MemPlace} (h0 : DataW.Trod enc Try.prog W 0 (fun _ => true) true 24 v d p)
    {base : Nat} (hval : Value.okWide Try.prog W .any base 24 v) (hlt : ∀ x ∈ p, x.block < W.heap.size) (hsz : ∀ n ∈ d.weights Try.prog 24, n ≤ reachBytes) :
    ∃ rv : Rv, v = .agg #[.bool rv.s, .slice rv.A rv.n rv.c, .slice rv.B rv.m rv.d] ∧ rv.n ≤ rv.c ∧ rv.m ≤ rv.d ∧ rv.n ≤ 100000000000000 ∧ rv.m ≤ 100000000000000 ∧ ∃ a b, Row W 0 rv.A rv.n a ∧ Row W 0 rv.B rv.m b := by
  obtain ⟨v0, v1, v2, y0, y1, y2, n, rfl, rfl, rfl, t0, t1, t2⟩ := open_agg3 Try.underlying24 (by kernel_rfl) Try.cells24 hval h0
  obtain ⟨s, hs, _⟩ := DataW.trod_bool Try.underlying4 t0
  simp at hs
  subst hs
  have hw : ∀ k, k ∈ y1.1.weights Try.prog 22 ∨ k ∈ y2.1.weights Try.prog 22 → k ≤ reachBytes := by
    intro k hk
    refine hsz k ?_
    simp only [DataW.weights, Try.underlying24, DataW.weightsEach, List.map, List.mem_append]
    rcases hk with h | h
    · exact .inr (.inl h)
    · exact .inr (.inr (.inl h))
  obtain ⟨A, n1, c1, a, rfl, e1, e2, ra⟩ := open_limbs t1 (fun x hx => hlt x (by simp [hx])) (fun k hk => hw k (.inl hk))
  obtain ⟨B, m1, d1, b, rfl, g1, g2, rb⟩ := open_limbs t2 (fun x hx => hlt x (by simp [hx])) (fun k hk => hw k (.inr hk))
  exact ⟨⟨s, A, n1, c1, B, m1, d1⟩, rfl, e1, g1, by show n1 ≤ _; omega, by show m1 ≤ _; omega, a, b, ra, rb⟩
end Go.Proofs.Ytadopepoicbahaa

namespace Go.Proofs.Ytadopepoicbahaa
open Go.RowKit

theorem Rt.drew' {w : World} {lo : Nat} {v : Rv} {r : Rat} (h : Rt w lo v r) : Rt w.drew lo v r := h.below ⟨rfl, rfl, rfl, Nat.le_refl _, fun _ _ => rfl⟩

set_option maxRecDepth 100000 in
set_option maxHeartbeats 16000000 in
theorem RatReckons_pos (v u : Rv) (r s : Rat) (k : Int) (b : Bool) (w : World) (h_0 : Hid (s ≠ 0)) (e_k : Hid (sgn (r - s) = k)) (e_b : Hid (decide (r = s) = b)) (hlen : v.n + v.m + u.n + u.m ≤ 16) (h_v : Rw w v r 16) (h_u : Rw w u s 16) :
    Calls Try.prog 3 #[.agg #[.bool v.s, .slice v.A v.n v.c, .slice v.B v.m v.d], .agg #[.bool u.s, .slice u.A u.n u.c, .slice u.B u.m u.d]] w fun e w' => e = .returned (.bool true) ∧ Below w.heap.size w w' := by
  have z_v : Sz r 16 := h_v.sz (by omega)
  have z_u : Sz s 16 := h_u.sz (by omega)
  have s_vu := z_v.add z_u
  have d_vu := z_v.sub z_u
  have p_vu := z_v.mul z_u
  have q_vu := z_v.div z_u h_0.out
  go_enter Try.func3, Try.ntmps3
  go_wp2_with fail
  generalize hW : ((w.alloc (.cells #[.bool v.s, .slice v.A v.n v.c, .slice v.B v.m v.d] 24)).alloc (.cells #[.bool u.s, .slice u.A u.n u.c, .slice u.B u.m u.d] 24)).alloc (.cells #[.bool v.s, .slice v.A v.n v.c, .slice v.B v.m v.d, .bool u.s, .slice u.A u.n u.c, .slice u.B u.m u.d] 24) = W
  obtain ⟨k_v, k_u, HB, hsW, hbig⟩ := open2b w v u W hW
  clear hW
  refine (big_any (pick v u u) (w.heap.size + 1 + 1) 2 _ (by omega) ?_ hbig).mono ?_
  · intro i hi
    have : i = 0 ∨ i = 1 := by omega
    rcases this with rfl | rfl <;> simp only [pick] <;> omega
  rintro e w0 ⟨rfl, hb⟩
  rw [decide_eq_false (show ¬ 16 < tot (pick v u u) 2 by simp only [tot, pick]; omega)]
  replace HB := HB.trans (hb.mono (by omega))
  replace k_v := k_v.below hb
  replace k_u := k_u.below hb
  clear hb hbig hsW
  obtain ⟨v_0, v_1, v_2, v_3, v_4, v_5⟩ := k_v.facts
  obtain ⟨u_0, u_1, u_2, u_3, u_4, u_5⟩ := k_u.facts
  go_wp2_with fail
  have h_v8 := h_v.below HB
  have h_u8 := h_u.below HB
  clear h_v h_u v_0 v_1 v_2 v_3 v_4 v_5 u_0 u_1 u_2 u_3 u_4 u_5
  refine (Div_c v u r s _ (h_v8.more (by omega)) (h_u8.more (by omega)) h_0.out).mono ?_
  rintro e w1 ⟨q1, rfl, ht_q1, hb⟩
  replace HB := HB.trans (hb.mono HB.size)
  replace k_v := k_v.below hb
  replace k_u := k_u.below hb
  replace h_v8 := h_v8.below hb
  replace h_u8 := h_u8.below hb
  clear hb
  obtain ⟨v_0, v_1, v_2, v_3, v_4, v_5⟩ := k_v.facts
  have lt_v := k_v.lt
  obtain ⟨u_0, u_1, u_2, u_3, u_4, u_5⟩ := k_u.facts
  have lt_u := k_u.lt
  go_wp2_with fail
  clear lt_v lt_u
  have k_q1 := C3.new w1 (.bool q1.s) (.slice q1.A q1.n q1.c) (.slice q1.B q1.m q1.d)
  have hbn := (Below.refl w1.heap.size w1).alloc (Nat.le_refl _) (.cells #[.bool q1.s, .slice q1.A q1.n q1.c, .slice q1.B q1.m q1.d] 24)
  replace HB := HB.trans (hbn.mono HB.size)
  replace k_v := k_v.below hbn
  replace k_u := k_u.below hbn
  replace h_v8 := h_v8.below hbn
  replace h_u8 := h_u8.below hbn
  replace ht_q1 := ht_q1.below hbn
  clear hbn v_0 v_1 v_2 v_3 v_4 v_5 u_0 u_1 u_2 u_3 u_4 u_5
  generalize hWx : w1.alloc (.cells #[.bool q1.s, .slice q1.A q1.n q1.c, .slice q1.B q1.m q1.d] 24) = W1x at *
  clear hWx
  refine (rDiv_c v u r s _ (h_v8.more (by omega)) (h_u8.more (by omega)) h_0).mono ?_
  rintro e w2 ⟨q2, rfl, ht_q2, hb⟩
  replace HB := HB.trans (hb.mono HB.size)
  replace k_v := k_v.below hb
  replace k_u := k_u.below hb
  replace k_q1 := k_q1.below hb
  replace h_v8 := h_v8.below hb
  replace h_u8 := h_u8.below hb
  replace ht_q1 := ht_q1.below hb
  clear hb
  obtain ⟨v_0, v_1, v_2, v_3, v_4, v_5⟩ := k_v.facts
  have lt_v := k_v.lt
  obtain ⟨u_0, u_1, u_2, u_3, u_4, u_5⟩ := k_u.facts
  have lt_u := k_u.lt
  obtain ⟨q1_0, q1_1, q1_2, q1_3, q1_4, q1_5⟩ := k_q1.facts
  have lt_q1 := k_q1.lt
  go_wp2_with fail
  clear lt_v lt_u lt_q1
  have k_q2 := C3.new w2 (.bool q2.s) (.slice q2.A q2.n q2.c) (.slice q2.B q2.m q2.d)
  have hbn := (Below.refl w2.heap.size w2).alloc (Nat.le_refl _) (.cells #[.bool q2.s, .slice q2.A q2.n q2.c, .slice q2.B q2.m q2.d] 24)
  replace HB := HB.trans (hbn.mono HB.size)
  replace k_v := k_v.below hbn
  replace k_u := k_u.below hbn
  replace k_q1 := k_q1.below hbn
  replace h_v8 := h_v8.below hbn
  replace h_u8 := h_u8.below hbn
  replace ht_q1 := ht_q1.below hbn
  replace ht_q2 := ht_q2.below hbn
  clear hbn v_0 v_1 v_2 v_3 v_4 v_5 u_0 u_1 u_2 u_3 u_4 u_5 q1_0 q1_1 q1_2 q1_3 q1_4 q1_5
  generalize hWx : w2.alloc (.cells #[.bool q2.s, .slice q2.A q2.n q2.c, .slice q2.B q2.m q2.d] 24) = W2x at *
  clear hWx
  have g_v := (h_v8.drew).more (show 16 ≤ 29 by omega)
  have h_v := (h_v8.drew).more (show 16 ≤ 2000 by omega)
  have g_u := (h_u8.drew).more (show 16 ≤ 29 by omega)
  have h_u := (h_u8.drew).more (show 16 ≤ 2000 by omega)
  replace ht_q1 := ht_q1.drew'
  replace ht_q2 := ht_q2.drew'
  obtain ⟨v_0, v_1, v_2, v_3, v_4, v_5⟩ := k_v.facts
  obtain ⟨u_0, u_1, u_2, u_3, u_4, u_5⟩ := k_u.facts
  obtain ⟨q1_0, q1_1, q1_2, q1_3, q1_4, q1_5⟩ := k_q1.facts
  obtain ⟨q2_0, q2_1, q2_2, q2_3, q2_4, q2_5⟩ := k_q2.facts
  replace k_v := k_v.drew
  replace k_u := k_u.drew
  replace k_q1 := k_q1.drew
  replace k_q2 := k_q2.drew
  replace HB := HB.drew
  have mk0 : Hid True := trivial
  clear hlen h_v8 h_u8
  go_region_held3 (fun w' => w'.cell? ⟨w.heap.size, 0, none⟩ = some (.bool v.s) ∧ w'.cell? ⟨w.heap.size, 1, none⟩ = some (.slice v.A v.n v.c) ∧ w'.cell? ⟨w.heap.size, 2, none⟩ = some (.slice v.B v.m v.d) ∧ w'.cell? ⟨w.heap.size + 1, 0, none⟩ = some (.bool u.s) ∧ w'.cell? ⟨w.heap.size + 1, 1, none⟩ = some (.slice u.A u.n u.c) ∧ w'.cell? ⟨w.heap.size + 1, 2, none⟩ = some (.slice u.B u.m u.d) ∧ w'.cell? ⟨w1.heap.size, 0, none⟩ = some (.bool q1.s) ∧ w'.cell? ⟨w1.heap.size, 1, none⟩ = some (.slice q1.A q1.n q1.c) ∧ w'.cell? ⟨w1.heap.size, 2, none⟩ = some (.slice q1.B q1.m q1.d) ∧ w'.cell? ⟨w2.heap.size, 0, none⟩ = some (.bool q2.s) ∧ w'.cell? ⟨w2.heap.size, 1, none⟩ = some (.slice q2.A q2.n q2.c) ∧ w'.cell? ⟨w2.heap.size, 2, none⟩ = some (.slice q2.B q2.m q2.d)) (go_keep)
      (first
      | (go_at_call 16
         have mk1 := mk0
         clear mk0
         refine (Add_c v u _ _ _ (h_v) (h_u)).mono ?_
         rintro e w1 ⟨x1, rfl, ht_x1, hb⟩
         replace HB := HB.trans (hb.mono HB.size)
         replace k_v := k_v.below hb
         replace k_u := k_u.below hb
         replace k_q1 := k_q1.below hb
         replace k_q2 := k_q2.below hb
         replace h_v := h_v.below hb
         replace h_u := h_u.below hb
         replace g_v := g_v.below hb
         replace g_u := g_u.below hb
         replace ht_q1 := ht_q1.below hb
         replace ht_q2 := ht_q2.below hb
         have h_x1 := (ht_x1.rw s_vu).more (show _ ≤ 2000 by omega)
         clear hb
         clear v_0 v_1 v_2 v_3 v_4 v_5 u_0 u_1 u_2 u_3 u_4 u_5 q1_0 q1_1 q1_2 q1_3 q1_4 q1_5 q2_0 q2_1 q2_2 q2_3 q2_4 q2_5
         obtain ⟨v_0, v_1, v_2, v_3, v_4, v_5⟩ := k_v.facts
         obtain ⟨u_0, u_1, u_2, u_3, u_4, u_5⟩ := k_u.facts
         obtain ⟨q1_0, q1_1, q1_2, q1_3, q1_4, q1_5⟩ := k_q1.facts
         obtain ⟨q2_0, q2_1, q2_2, q2_3, q2_4, q2_5⟩ := k_q2.facts)
      | (go_at_call 17
         have mk2 := mk1
         clear mk1
         refine (rAdd_c v u _ _ _ (g_v) (g_u)).mono ?_
         rintro e w2 ⟨x2, rfl, ht_x2, hb⟩
         replace HB := HB.trans (hb.mono HB.size)
         replace k_v := k_v.below hb
         replace k_u := k_u.below hb
         replace k_q1 := k_q1.below hb
         replace k_q2 := k_q2.below hb
         replace h_v := h_v.below hb
         replace h_u := h_u.below hb
         replace g_v := g_v.below hb
         replace g_u := g_u.below hb
         replace ht_q1 := ht_q1.below hb
         replace ht_q2 := ht_q2.below hb
         replace h_x1 := h_x1.below hb
         replace ht_x1 := ht_x1.below hb
         have h_x2 := (ht_x2.rw s_vu).more (show _ ≤ 2000 by omega)
         clear hb
         clear v_0 v_1 v_2 v_3 v_4 v_5 u_0 u_1 u_2 u_3 u_4 u_5 q1_0 q1_1 q1_2 q1_3 q1_4 q1_5 q2_0 q2_1 q2_2 q2_3 q2_4 q2_5
         obtain ⟨v_0, v_1, v_2, v_3, v_4, v_5⟩ := k_v.facts
         obtain ⟨u_0, u_1, u_2, u_3, u_4, u_5⟩ := k_u.facts
         obtain ⟨q1_0, q1_1, q1_2, q1_3, q1_4, q1_5⟩ := k_q1.facts
         obtain ⟨q2_0, q2_1, q2_2, q2_3, q2_4, q2_5⟩ := k_q2.facts)
      | (go_at_call 15
         have mk3 := mk2
         clear mk2
         refine (one_yes x1 x2 _ _ _ _ _ ht_x1 ht_x2 rfl (ht_x1.len s_vu (by omega)).1 (ht_x1.len s_vu (by omega)).2).mono ?_
         rintro e w3 ⟨rfl, hb⟩
         replace HB := HB.trans (hb.mono HB.size)
         replace k_v := k_v.below hb
         replace k_u := k_u.below hb
         replace k_q1 := k_q1.below hb
         replace k_q2 := k_q2.below hb
         replace h_v := h_v.below hb
         replace h_u := h_u.below hb
         replace g_v := g_v.below hb
         replace g_u := g_u.below hb
         replace ht_q1 := ht_q1.below hb
         replace ht_q2 := ht_q2.below hb
         replace h_x1 := h_x1.below hb
         replace ht_x1 := ht_x1.below hb
         replace h_x2 := h_x2.below hb
         replace ht_x2 := ht_x2.below hb
         clear hb
         clear v_0 v_1 v_2 v_3 v_4 v_5 u_0 u_1 u_2 u_3 u_4 u_5 q1_0 q1_1 q1_2 q1_3 q1_4 q1_5 q2_0 q2_1 q2_2 q2_3 q2_4 q2_5
         obtain ⟨v_0, v_1, v_2, v_3, v_4, v_5⟩ := k_v.facts
         obtain ⟨u_0, u_1, u_2, u_3, u_4, u_5⟩ := k_u.facts
         obtain ⟨q1_0, q1_1, q1_2, q1_3, q1_4, q1_5⟩ := k_q1.facts
         obtain ⟨q2_0, q2_1, q2_2, q2_3, q2_4, q2_5⟩ := k_q2.facts
         clear h_x1 ht_x1 h_x2 ht_x2)
      | (go_at_call 18
         have mk4 := mk3
         clear mk3
         refine (Sub_c v u _ _ _ (h_v) (h_u)).mono ?_
         rintro e w4 ⟨x3, rfl, ht_x3, hb⟩
         replace HB := HB.trans (hb.mono HB.size)
         replace k_v := k_v.below hb
         replace k_u := k_u.below hb
         replace k_q1 := k_q1.below hb
         replace k_q2 := k_q2.below hb
         replace h_v := h_v.below hb
         replace h_u := h_u.below hb
         replace g_v := g_v.below hb
         replace g_u := g_u.below hb
         replace ht_q1 := ht_q1.below hb
         replace ht_q2 := ht_q2.below hb
         have h_x3 := (ht_x3.rw d_vu).more (show _ ≤ 2000 by omega)
         clear hb
         clear v_0 v_1 v_2 v_3 v_4 v_5 u_0 u_1 u_2 u_3 u_4 u_5 q1_0 q1_1 q1_2 q1_3 q1_4 q1_5 q2_0 q2_1 q2_2 q2_3 q2_4 q2_5
         obtain ⟨v_0, v_1, v_2, v_3, v_4, v_5⟩ := k_v.facts
         obtain ⟨u_0, u_1, u_2, u_3, u_4, u_5⟩ := k_u.facts
         obtain ⟨q1_0, q1_1, q1_2, q1_3, q1_4, q1_5⟩ := k_q1.facts
         obtain ⟨q2_0, q2_1, q2_2, q2_3, q2_4, q2_5⟩ := k_q2.facts)
      | (go_at_call 19
         have mk5 := mk4
         clear mk4
         refine (rSub_c v u _ _ _ (g_v) (g_u)).mono ?_
         rintro e w5 ⟨x4, rfl, ht_x4, hb⟩
         replace HB := HB.trans (hb.mono HB.size)
         replace k_v := k_v.below hb
         replace k_u := k_u.below hb
         replace k_q1 := k_q1.below hb
         replace k_q2 := k_q2.below hb
         replace h_v := h_v.below hb
         replace h_u := h_u.below hb
         replace g_v := g_v.below hb
         replace g_u := g_u.below hb
         replace ht_q1 := ht_q1.below hb
         replace ht_q2 := ht_q2.below hb
         replace h_x3 := h_x3.below hb
         replace ht_x3 := ht_x3.below hb
         have h_x4 := (ht_x4.rw d_vu).more (show _ ≤ 2000 by omega)
         clear hb
         clear v_0 v_1 v_2 v_3 v_4 v_5 u_0 u_1 u_2 u_3 u_4 u_5 q1_0 q1_1 q1_2 q1_3 q1_4 q1_5 q2_0 q2_1 q2_2 q2_3 q2_4 q2_5
         obtain ⟨v_0, v_1, v_2, v_3, v_4, v_5⟩ := k_v.facts
         obtain ⟨u_0, u_1, u_2, u_3, u_4, u_5⟩ := k_u.facts
         obtain ⟨q1_0, q1_1, q1_2, q1_3, q1_4, q1_5⟩ := k_q1.facts
         obtain ⟨q2_0, q2_1, q2_2, q2_3, q2_4, q2_5⟩ := k_q2.facts)
      | (go_at_call 15
         have mk6 := mk5
         clear mk5
         refine (one_yes x3 x4 _ _ _ _ _ ht_x3 ht_x4 rfl (ht_x3.len d_vu (by omega)).1 (ht_x3.len d_vu (by omega)).2).mono ?_
         rintro e w6 ⟨rfl, hb⟩
         replace HB := HB.trans (hb.mono HB.size)
         replace k_v := k_v.below hb
         replace k_u := k_u.below hb
         replace k_q1 := k_q1.below hb
         replace k_q2 := k_q2.below hb
         replace h_v := h_v.below hb
         replace h_u := h_u.below hb
         replace g_v := g_v.below hb
         replace g_u := g_u.below hb
         replace ht_q1 := ht_q1.below hb
         replace ht_q2 := ht_q2.below hb
         replace h_x3 := h_x3.below hb
         replace ht_x3 := ht_x3.below hb
         replace h_x4 := h_x4.below hb
         replace ht_x4 := ht_x4.below hb
         clear hb
         clear v_0 v_1 v_2 v_3 v_4 v_5 u_0 u_1 u_2 u_3 u_4 u_5 q1_0 q1_1 q1_2 q1_3 q1_4 q1_5 q2_0 q2_1 q2_2 q2_3 q2_4 q2_5
         obtain ⟨v_0, v_1, v_2, v_3, v_4, v_5⟩ := k_v.facts
         obtain ⟨u_0, u_1, u_2, u_3, u_4, u_5⟩ := k_u.facts
         obtain ⟨q1_0, q1_1, q1_2, q1_3, q1_4, q1_5⟩ := k_q1.facts
         obtain ⟨q2_0, q2_1, q2_2, q2_3, q2_4, q2_5⟩ := k_q2.facts
         clear h_x3 ht_x3 h_x4 ht_x4)
      | (go_at_call 20
         have mk7 := mk6
         clear mk6
         refine (Mul_c v u _ _ _ (h_v) (h_u)).mono ?_
         rintro e w7 ⟨x5, rfl, ht_x5, hb⟩
         replace HB := HB.trans (hb.mono HB.size)
         replace k_v := k_v.below hb
         replace k_u := k_u.below hb
         replace k_q1 := k_q1.below hb
         replace k_q2 := k_q2.below hb
         replace h_v := h_v.below hb
         replace h_u := h_u.below hb
         replace g_v := g_v.below hb
         replace g_u := g_u.below hb
         replace ht_q1 := ht_q1.below hb
         replace ht_q2 := ht_q2.below hb
         have h_x5 := (ht_x5.rw p_vu).more (show _ ≤ 2000 by omega)
         clear hb
         clear v_0 v_1 v_2 v_3 v_4 v_5 u_0 u_1 u_2 u_3 u_4 u_5 q1_0 q1_1 q1_2 q1_3 q1_4 q1_5 q2_0 q2_1 q2_2 q2_3 q2_4 q2_5
         obtain ⟨v_0, v_1, v_2, v_3, v_4, v_5⟩ := k_v.facts
         obtain ⟨u_0, u_1, u_2, u_3, u_4, u_5⟩ := k_u.facts
         obtain ⟨q1_0, q1_1, q1_2, q1_3, q1_4, q1_5⟩ := k_q1.facts
         obtain ⟨q2_0, q2_1, q2_2, q2_3, q2_4, q2_5⟩ := k_q2.facts)
      | (go_at_call 21
         have mk8 := mk7
         clear mk7
         refine (rMul_c v u _ _ _ (g_v) (g_u)).mono ?_
         rintro e w8 ⟨x6, rfl, ht_x6, hb⟩
         replace HB := HB.trans (hb.mono HB.size)
         replace k_v := k_v.below hb
         replace k_u := k_u.below hb
         replace k_q1 := k_q1.below hb
         replace k_q2 := k_q2.below hb
         replace h_v := h_v.below hb
         replace h_u := h_u.below hb
         replace g_v := g_v.below hb
         replace g_u := g_u.below hb
         replace ht_q1 := ht_q1.below hb
         replace ht_q2 := ht_q2.below hb
         replace h_x5 := h_x5.below hb
         replace ht_x5 := ht_x5.below hb
         have h_x6 := (ht_x6.rw p_vu).more (show _ ≤ 2000 by omega)
         clear hb
         clear v_0 v_1 v_2 v_3 v_4 v_5 u_0 u_1 u_2 u_3 u_4 u_5 q1_0 q1_1 q1_2 q1_3 q1_4 q1_5 q2_0 q2_1 q2_2 q2_3 q2_4 q2_5
         obtain ⟨v_0, v_1, v_2, v_3, v_4, v_5⟩ := k_v.facts
         obtain ⟨u_0, u_1, u_2, u_3, u_4, u_5⟩ := k_u.facts
         obtain ⟨q1_0, q1_1, q1_2, q1_3, q1_4, q1_5⟩ := k_q1.facts
         obtain ⟨q2_0, q2_1, q2_2, q2_3, q2_4, q2_5⟩ := k_q2.facts)
      | (go_at_call 15
         have mk9 := mk8
         clear mk8
         refine (one_yes x5 x6 _ _ _ _ _ ht_x5 ht_x6 rfl (ht_x5.len p_vu (by omega)).1 (ht_x5.len p_vu (by omega)).2).mono ?_
         rintro e w9 ⟨rfl, hb⟩
         replace HB := HB.trans (hb.mono HB.size)
         replace k_v := k_v.below hb
         replace k_u := k_u.below hb
         replace k_q1 := k_q1.below hb
         replace k_q2 := k_q2.below hb
         replace h_v := h_v.below hb
         replace h_u := h_u.below hb
         replace g_v := g_v.below hb
         replace g_u := g_u.below hb
         replace ht_q1 := ht_q1.below hb
         replace ht_q2 := ht_q2.below hb
         replace h_x5 := h_x5.below hb
         replace ht_x5 := ht_x5.below hb
         replace h_x6 := h_x6.below hb
         replace ht_x6 := ht_x6.below hb
         clear hb
         clear v_0 v_1 v_2 v_3 v_4 v_5 u_0 u_1 u_2 u_3 u_4 u_5 q1_0 q1_1 q1_2 q1_3 q1_4 q1_5 q2_0 q2_1 q2_2 q2_3 q2_4 q2_5
         obtain ⟨v_0, v_1, v_2, v_3, v_4, v_5⟩ := k_v.facts
         obtain ⟨u_0, u_1, u_2, u_3, u_4, u_5⟩ := k_u.facts
         obtain ⟨q1_0, q1_1, q1_2, q1_3, q1_4, q1_5⟩ := k_q1.facts
         obtain ⟨q2_0, q2_1, q2_2, q2_3, q2_4, q2_5⟩ := k_q2.facts
         clear h_x5 ht_x5 h_x6 ht_x6)
      | (go_at_call 15
         have mk10 := mk9
         clear mk9
         refine (one_yes q1 q2 _ _ _ _ _ ht_q1 ht_q2 rfl (ht_q1.len q_vu (by omega)).1 (ht_q1.len q_vu (by omega)).2).mono ?_
         rintro e w10 ⟨rfl, hb⟩
         replace HB := HB.trans (hb.mono HB.size)
         replace k_v := k_v.below hb
         replace k_u := k_u.below hb
         replace k_q1 := k_q1.below hb
         replace k_q2 := k_q2.below hb
         replace h_v := h_v.below hb
         replace h_u := h_u.below hb
         replace g_v := g_v.below hb
         replace g_u := g_u.below hb
         replace ht_q1 := ht_q1.below hb
         replace ht_q2 := ht_q2.below hb
         clear hb
         clear v_0 v_1 v_2 v_3 v_4 v_5 u_0 u_1 u_2 u_3 u_4 u_5 q1_0 q1_1 q1_2 q1_3 q1_4 q1_5 q2_0 q2_1 q2_2 q2_3 q2_4 q2_5
         obtain ⟨v_0, v_1, v_2, v_3, v_4, v_5⟩ := k_v.facts
         obtain ⟨u_0, u_1, u_2, u_3, u_4, u_5⟩ := k_u.facts
         obtain ⟨q1_0, q1_1, q1_2, q1_3, q1_4, q1_5⟩ := k_q1.facts
         obtain ⟨q2_0, q2_1, q2_2, q2_3, q2_4, q2_5⟩ := k_q2.facts)
      | (go_at_call 22
         have mk11 := mk10
         clear mk10
         refine (Cmp_v v u _ _ k _ h_v h_u e_k.out).mono ?_
         rintro e w11 ⟨rfl, hb⟩
         replace HB := HB.trans (hb.mono HB.size)
         replace k_v := k_v.below hb
         replace k_u := k_u.below hb
         replace k_q1 := k_q1.below hb
         replace k_q2 := k_q2.below hb
         replace h_v := h_v.below hb
         replace h_u := h_u.below hb
         replace g_v := g_v.below hb
         replace g_u := g_u.below hb
         replace ht_q1 := ht_q1.below hb
         replace ht_q2 := ht_q2.below hb
         clear hb
         clear v_0 v_1 v_2 v_3 v_4 v_5 u_0 u_1 u_2 u_3 u_4 u_5 q1_0 q1_1 q1_2 q1_3 q1_4 q1_5 q2_0 q2_1 q2_2 q2_3 q2_4 q2_5
         obtain ⟨v_0, v_1, v_2, v_3, v_4, v_5⟩ := k_v.facts
         obtain ⟨u_0, u_1, u_2, u_3, u_4, u_5⟩ := k_u.facts
         obtain ⟨q1_0, q1_1, q1_2, q1_3, q1_4, q1_5⟩ := k_q1.facts
         obtain ⟨q2_0, q2_1, q2_2, q2_3, q2_4, q2_5⟩ := k_q2.facts)
      | (go_at_call 23
         have mk12 := mk11
         clear mk11
         refine (rCmp2_v v u _ _ k _ g_v g_u e_k.out).mono ?_
         rintro e w12 ⟨rfl, hb⟩
         replace HB := HB.trans (hb.mono HB.size)
         replace k_v := k_v.below hb
         replace k_u := k_u.below hb
         replace k_q1 := k_q1.below hb
         replace k_q2 := k_q2.below hb
         replace h_v := h_v.below hb
         replace h_u := h_u.below hb
         replace g_v := g_v.below hb
         replace g_u := g_u.below hb
         replace ht_q1 := ht_q1.below hb
         replace ht_q2 := ht_q2.below hb
         clear hb
         clear v_0 v_1 v_2 v_3 v_4 v_5 u_0 u_1 u_2 u_3 u_4 u_5 q1_0 q1_1 q1_2 q1_3 q1_4 q1_5 q2_0 q2_1 q2_2 q2_3 q2_4 q2_5
         obtain ⟨v_0, v_1, v_2, v_3, v_4, v_5⟩ := k_v.facts
         obtain ⟨u_0, u_1, u_2, u_3, u_4, u_5⟩ := k_u.facts
         obtain ⟨q1_0, q1_1, q1_2, q1_3, q1_4, q1_5⟩ := k_q1.facts
         obtain ⟨q2_0, q2_1, q2_2, q2_3, q2_4, q2_5⟩ := k_q2.facts)
      | (go_at_call 24
         have mk13 := mk12
         clear mk12
         refine (Same_v v u _ _ b _ h_v h_u e_b.out).mono ?_
         rintro e w13 ⟨rfl, hb⟩
         replace HB := HB.trans (hb.mono HB.size)
         replace k_v := k_v.below hb
         replace k_u := k_u.below hb
         replace k_q1 := k_q1.below hb
         replace k_q2 := k_q2.below hb
         replace h_v := h_v.below hb
         replace h_u := h_u.below hb
         replace g_v := g_v.below hb
         replace g_u := g_u.below hb
         replace ht_q1 := ht_q1.below hb
         replace ht_q2 := ht_q2.below hb
         clear hb
         clear v_0 v_1 v_2 v_3 v_4 v_5 u_0 u_1 u_2 u_3 u_4 u_5 q1_0 q1_1 q1_2 q1_3 q1_4 q1_5 q2_0 q2_1 q2_2 q2_3 q2_4 q2_5
         obtain ⟨v_0, v_1, v_2, v_3, v_4, v_5⟩ := k_v.facts
         obtain ⟨u_0, u_1, u_2, u_3, u_4, u_5⟩ := k_u.facts
         obtain ⟨q1_0, q1_1, q1_2, q1_3, q1_4, q1_5⟩ := k_q1.facts
         obtain ⟨q2_0, q2_1, q2_2, q2_3, q2_4, q2_5⟩ := k_q2.facts)
      | (go_at_call 25
         have mk14 := mk13
         clear mk13
         refine (rSame_v v u _ _ b _ g_v g_u e_b.out).mono ?_
         rintro e w14 ⟨rfl, hb⟩
         replace HB := HB.trans (hb.mono HB.size)
         replace k_v := k_v.below hb
         replace k_u := k_u.below hb
         replace k_q1 := k_q1.below hb
         replace k_q2 := k_q2.below hb
         replace h_v := h_v.below hb
         replace h_u := h_u.below hb
         replace g_v := g_v.below hb
         replace g_u := g_u.below hb
         replace ht_q1 := ht_q1.below hb
         replace ht_q2 := ht_q2.below hb
         clear hb
         clear v_0 v_1 v_2 v_3 v_4 v_5 u_0 u_1 u_2 u_3 u_4 u_5 q1_0 q1_1 q1_2 q1_3 q1_4 q1_5 q2_0 q2_1 q2_2 q2_3 q2_4 q2_5
         obtain ⟨v_0, v_1, v_2, v_3, v_4, v_5⟩ := k_v.facts
         obtain ⟨u_0, u_1, u_2, u_3, u_4, u_5⟩ := k_u.facts
         obtain ⟨q1_0, q1_1, q1_2, q1_3, q1_4, q1_5⟩ := k_q1.facts
         obtain ⟨q2_0, q2_1, q2_2, q2_3, q2_4, q2_5⟩ := k_q2.facts)
      | (go_at_call 26
         have mk15 := mk14
         clear mk14
         refine (known_any _).mono ?_
         rintro e w15 ⟨rfl, hb⟩
         replace HB := HB.trans (hb.mono HB.size)
         replace k_v := k_v.below hb
         replace k_u := k_u.below hb
         replace k_q1 := k_q1.below hb
         replace k_q2 := k_q2.below hb
         replace h_v := h_v.below hb
         replace h_u := h_u.below hb
         replace g_v := g_v.below hb
         replace g_u := g_u.below hb
         replace ht_q1 := ht_q1.below hb
         replace ht_q2 := ht_q2.below hb
         clear hb
         clear v_0 v_1 v_2 v_3 v_4 v_5 u_0 u_1 u_2 u_3 u_4 u_5 q1_0 q1_1 q1_2 q1_3 q1_4 q1_5 q2_0 q2_1 q2_2 q2_3 q2_4 q2_5
         obtain ⟨v_0, v_1, v_2, v_3, v_4, v_5⟩ := k_v.facts
         obtain ⟨u_0, u_1, u_2, u_3, u_4, u_5⟩ := k_u.facts
         obtain ⟨q1_0, q1_1, q1_2, q1_3, q1_4, q1_5⟩ := k_q1.facts
         obtain ⟨q2_0, q2_1, q2_2, q2_3, q2_4, q2_5⟩ := k_q2.facts))
  go_wp2
  go_ret
  exact ⟨rfl, HB⟩

set_option maxRecDepth 100000 in
set_option maxHeartbeats 16000000 in
theorem RatReckons_zero (v u : Rv) (r s : Rat) (k : Int) (b : Bool) (w : World) (h_0 : Hid (s = 0)) (e_k : Hid (sgn (r - s) = k)) (e_b : Hid (decide (r = s) = b)) (hlen : v.n + v.m + u.n + u.m ≤ 16) (h_v : Rw w v r 16) (h_u : Rw w u s 16) :
    Calls Try.prog 3 #[.agg #[.bool v.s, .slice v.A v.n v.c, .slice v.B v.m v.d], .agg #[.bool u.s, .slice u.A u.n u.c, .slice u.B u.m u.d]] w fun e w' => e = .returned (.bool true) ∧ Below w.heap.size w w' := by
  have z_v : Sz r 16 := h_v.sz (by omega)
  have z_u : Sz s 16 := h_u.sz (by omega)
  have s_vu := z_v.add z_u
  have d_vu := z_v.sub z_u
  have p_vu := z_v.mul z_u
  have q_vu := (Sz.zero (p := 1) (by omega))
  go_enter Try.func3, Try.ntmps3
  go_wp2_with fail
  generalize hW : ((w.alloc (.cells #[.bool v.s, .slice v.A v.n v.c, .slice v.B v.m v.d] 24)).alloc (.cells #[.bool u.s, .slice u.A u.n u.c, .slice u.B u.m u.d] 24)).alloc (.cells #[.bool v.s, .slice v.A v.n v.c, .slice v.B v.m v.d, .bool u.s, .slice u.A u.n u.c, .slice u.B u.m u.d] 24) = W
  obtain ⟨k_v, k_u, HB, hsW, hbig⟩ := open2b w v u W hW
  clear hW
  refine (big_any (pick v u u) (w.heap.size + 1 + 1) 2 _ (by omega) ?_ hbig).mono ?_
  · intro i hi
    have : i = 0 ∨ i = 1 := by omega
    rcases this with rfl | rfl <;> simp only [pick] <;> omega
  rintro e w0 ⟨rfl, hb⟩
  rw [decide_eq_false (show ¬ 16 < tot (pick v u u) 2 by simp only [tot, pick]; omega)]
  replace HB := HB.trans (hb.mono (by omega))
  replace k_v := k_v.below hb
  replace k_u := k_u.below hb
  clear hb hbig hsW
  obtain ⟨v_0, v_1, v_2, v_3, v_4, v_5⟩ := k_v.facts
  obtain ⟨u_0, u_1, u_2, u_3, u_4, u_5⟩ := k_u.facts
  go_wp2_with fail
  have h_v8 := h_v.below HB
  have h_u8 := h_u.below HB
  clear h_v h_u v_0 v_1 v_2 v_3 v_4 v_5 u_0 u_1 u_2 u_3 u_4 u_5
  refine (Div_zero_c v u s _ (h_u8.more (by omega)) h_0.out).mono ?_
  rintro e w1 ⟨q1, rfl, ht_q1, hb⟩
  replace HB := HB.trans (hb.mono HB.size)
  replace k_v := k_v.below hb
  replace k_u := k_u.below hb
  replace h_v8 := h_v8.below hb
  replace h_u8 := h_u8.below hb
  clear hb
  obtain ⟨v_0, v_1, v_2, v_3, v_4, v_5⟩ := k_v.facts
  have lt_v := k_v.lt
  obtain ⟨u_0, u_1, u_2, u_3, u_4, u_5⟩ := k_u.facts
  have lt_u := k_u.lt
  go_wp2_with fail
  clear lt_v lt_u
  have k_q1 := C3.new w1 (.bool q1.s) (.slice q1.A q1.n q1.c) (.slice q1.B q1.m q1.d)
  have hbn := (Below.refl w1.heap.size w1).alloc (Nat.le_refl _) (.cells #[.bool q1.s, .slice q1.A q1.n q1.c, .slice q1.B q1.m q1.d] 24)
  replace HB := HB.trans (hbn.mono HB.size)
  replace k_v := k_v.below hbn
  replace k_u := k_u.below hbn
  replace h_v8 := h_v8.below hbn
  replace h_u8 := h_u8.below hbn
  replace ht_q1 := ht_q1.below hbn
  clear hbn v_0 v_1 v_2 v_3 v_4 v_5 u_0 u_1 u_2 u_3 u_4 u_5
  generalize hWx : w1.alloc (.cells #[.bool q1.s, .slice q1.A q1.n q1.c, .slice q1.B q1.m q1.d] 24) = W1x at *
  clear hWx
  refine (rDiv_zero_c v u r s _ (h_v8.more (by omega)) (h_u8.more (by omega)) h_0).mono ?_
  rintro e w2 ⟨q2, rfl, ht_q2, hb⟩
  replace HB := HB.trans (hb.mono HB.size)
  replace k_v := k_v.below hb
  replace k_u := k_u.below hb
  replace k_q1 := k_q1.below hb
  replace h_v8 := h_v8.below hb
  replace h_u8 := h_u8.below hb
  replace ht_q1 := ht_q1.below hb
  clear hb
  obtain ⟨v_0, v_1, v_2, v_3, v_4, v_5⟩ := k_v.facts
  have lt_v := k_v.lt
  obtain ⟨u_0, u_1, u_2, u_3, u_4, u_5⟩ := k_u.facts
  have lt_u := k_u.lt
  obtain ⟨q1_0, q1_1, q1_2, q1_3, q1_4, q1_5⟩ := k_q1.facts
  have lt_q1 := k_q1.lt
  go_wp2_with fail
  clear lt_v lt_u lt_q1
  have k_q2 := C3.new w2 (.bool q2.s) (.slice q2.A q2.n q2.c) (.slice q2.B q2.m q2.d)
  have hbn := (Below.refl w2.heap.size w2).alloc (Nat.le_refl _) (.cells #[.bool q2.s, .slice q2.A q2.n q2.c, .slice q2.B q2.m q2.d] 24)
  replace HB := HB.trans (hbn.mono HB.size)
  replace k_v := k_v.below hbn
  replace k_u := k_u.below hbn
  replace k_q1 := k_q1.below hbn
  replace h_v8 := h_v8.below hbn
  replace h_u8 := h_u8.below hbn
  replace ht_q1 := ht_q1.below hbn
  replace ht_q2 := ht_q2.below hbn
  clear hbn v_0 v_1 v_2 v_3 v_4 v_5 u_0 u_1 u_2 u_3 u_4 u_5 q1_0 q1_1 q1_2 q1_3 q1_4 q1_5
  generalize hWx : w2.alloc (.cells #[.bool q2.s, .slice q2.A q2.n q2.c, .slice q2.B q2.m q2.d] 24) = W2x at *
  clear hWx
  have g_v := (h_v8.drew).more (show 16 ≤ 29 by omega)
  have h_v := (h_v8.drew).more (show 16 ≤ 2000 by omega)
  have g_u := (h_u8.drew).more (show 16 ≤ 29 by omega)
  have h_u := (h_u8.drew).more (show 16 ≤ 2000 by omega)
  replace ht_q1 := ht_q1.drew'
  replace ht_q2 := ht_q2.drew'
  obtain ⟨v_0, v_1, v_2, v_3, v_4, v_5⟩ := k_v.facts
  obtain ⟨u_0, u_1, u_2, u_3, u_4, u_5⟩ := k_u.facts
  obtain ⟨q1_0, q1_1, q1_2, q1_3, q1_4, q1_5⟩ := k_q1.facts
  obtain ⟨q2_0, q2_1, q2_2, q2_3, q2_4, q2_5⟩ := k_q2.facts
  replace k_v := k_v.drew
  replace k_u := k_u.drew
  replace k_q1 := k_q1.drew
  replace k_q2 := k_q2.drew
  replace HB := HB.drew
  have mk0 : Hid True := trivial
  clear hlen h_v8 h_u8
  go_region_held3 (fun w' => w'.cell? ⟨w.heap.size, 0, none⟩ = some (.bool v.s) ∧ w'.cell? ⟨w.heap.size, 1, none⟩ = some (.slice v.A v.n v.c) ∧ w'.cell? ⟨w.heap.size, 2, none⟩ = some (.slice v.B v.m v.d) ∧ w'.cell? ⟨w.heap.size + 1, 0, none⟩ = some (.bool u.s) ∧ w'.cell? ⟨w.heap.size + 1, 1, none⟩ = some (.slice u.A u.n u.c) ∧ w'.cell? ⟨w.heap.size + 1, 2, none⟩ = some (.slice u.B u.m u.d) ∧ w'.cell? ⟨w1.heap.size, 0, none⟩ = some (.bool q1.s) ∧ w'.cell? ⟨w1.heap.size, 1, none⟩ = some (.slice q1.A q1.n q1.c) ∧ w'.cell? ⟨w1.heap.size, 2, none⟩ = some (.slice q1.B q1.m q1.d) ∧ w'.cell? ⟨w2.heap.size, 0, none⟩ = some (.bool q2.s) ∧ w'.cell? ⟨w2.heap.size, 1, none⟩ = some (.slice q2.A q2.n q2.c) ∧ w'.cell? ⟨w2.heap.size, 2, none⟩ = some (.slice q2.B q2.m q2.d)) (go_keep)
      (first
      | (go_at_call 16
         have mk1 := mk0
         clear mk0
         refine (Add_c v u _ _ _ (h_v) (h_u)).mono ?_
         rintro e w1 ⟨x1, rfl, ht_x1, hb⟩
         replace HB := HB.trans (hb.mono HB.size)
         replace k_v := k_v.below hb
         replace k_u := k_u.below hb
         replace k_q1 := k_q1.below hb
         replace k_q2 := k_q2.below hb
         replace h_v := h_v.below hb
         replace h_u := h_u.below hb
         replace g_v := g_v.below hb
         replace g_u := g_u.below hb
         replace ht_q1 := ht_q1.below hb
         replace ht_q2 := ht_q2.below hb
         have h_x1 := (ht_x1.rw s_vu).more (show _ ≤ 2000 by omega)
         clear hb
         clear v_0 v_1 v_2 v_3 v_4 v_5 u_0 u_1 u_2 u_3 u_4 u_5 q1_0 q1_1 q1_2 q1_3 q1_4 q1_5 q2_0 q2_1 q2_2 q2_3 q2_4 q2_5
         obtain ⟨v_0, v_1, v_2, v_3, v_4, v_5⟩ := k_v.facts
         obtain ⟨u_0, u_1, u_2, u_3, u_4, u_5⟩ := k_u.facts
         obtain ⟨q1_0, q1_1, q1_2, q1_3, q1_4, q1_5⟩ := k_q1.facts
         obtain ⟨q2_0, q2_1, q2_2, q2_3, q2_4, q2_5⟩ := k_q2.facts)
      | (go_at_call 17
         have mk2 := mk1
         clear mk1
         refine (rAdd_c v u _ _ _ (g_v) (g_u)).mono ?_
         rintro e w2 ⟨x2, rfl, ht_x2, hb⟩
         replace HB := HB.trans (hb.mono HB.size)
         replace k_v := k_v.below hb
         replace k_u := k_u.below hb
         replace k_q1 := k_q1.below hb
         replace k_q2 := k_q2.below hb
         replace h_v := h_v.below hb
         replace h_u := h_u.below hb
         replace g_v := g_v.below hb
         replace g_u := g_u.below hb
         replace ht_q1 := ht_q1.below hb
         replace ht_q2 := ht_q2.below hb
         replace h_x1 := h_x1.below hb
         replace ht_x1 := ht_x1.below hb
         have h_x2 := (ht_x2.rw s_vu).more (show _ ≤ 2000 by omega)
         clear hb
         clear v_0 v_1 v_2 v_3 v_4 v_5 u_0 u_1 u_2 u_3 u_4 u_5 q1_0 q1_1 q1_2 q1_3 q1_4 q1_5 q2_0 q2_1 q2_2 q2_3 q2_4 q2_5
         obtain ⟨v_0, v_1, v_2, v_3, v_4, v_5⟩ := k_v.facts
         obtain ⟨u_0, u_1, u_2, u_3, u_4, u_5⟩ := k_u.facts
         obtain ⟨q1_0, q1_1, q1_2, q1_3, q1_4, q1_5⟩ := k_q1.facts
         obtain ⟨q2_0, q2_1, q2_2, q2_3, q2_4, q2_5⟩ := k_q2.facts)
      | (go_at_call 15
         have mk3 := mk2
         clear mk2
         refine (one_yes x1 x2 _ _ _ _ _ ht_x1 ht_x2 rfl (ht_x1.len s_vu (by omega)).1 (ht_x1.len s_vu (by omega)).2).mono ?_
         rintro e w3 ⟨rfl, hb⟩
         replace HB := HB.trans (hb.mono HB.size)
         replace k_v := k_v.below hb
         replace k_u := k_u.below hb
         replace k_q1 := k_q1.below hb
         replace k_q2 := k_q2.below hb
         replace h_v := h_v.below hb
         replace h_u := h_u.below hb
         replace g_v := g_v.below hb
         replace g_u := g_u.below hb
         replace ht_q1 := ht_q1.below hb
         replace ht_q2 := ht_q2.below hb
         replace h_x1 := h_x1.below hb
         replace ht_x1 := ht_x1.below hb
         replace h_x2 := h_x2.below hb
         replace ht_x2 := ht_x2.below hb
         clear hb
         clear v_0 v_1 v_2 v_3 v_4 v_5 u_0 u_1 u_2 u_3 u_4 u_5 q1_0 q1_1 q1_2 q1_3 q1_4 q1_5 q2_0 q2_1 q2_2 q2_3 q2_4 q2_5
         obtain ⟨v_0, v_1, v_2, v_3, v_4, v_5⟩ := k_v.facts
         obtain ⟨u_0, u_1, u_2, u_3, u_4, u_5⟩ := k_u.facts
         obtain ⟨q1_0, q1_1, q1_2, q1_3, q1_4, q1_5⟩ := k_q1.facts
         obtain ⟨q2_0, q2_1, q2_2, q2_3, q2_4, q2_5⟩ := k_q2.facts
         clear h_x1 ht_x1 h_x2 ht_x2)
      | (go_at_call 18
         have mk4 := mk3
         clear mk3
         refine (Sub_c v u _ _ _ (h_v) (h_u)).mono ?_
         rintro e w4 ⟨x3, rfl, ht_x3, hb⟩
         replace HB := HB.trans (hb.mono HB.size)
         replace k_v := k_v.below hb
         replace k_u := k_u.below hb
         replace k_q1 := k_q1.below hb
         replace k_q2 := k_q2.below hb
         replace h_v := h_v.below hb
         replace h_u := h_u.below hb
         replace g_v := g_v.below hb
         replace g_u := g_u.below hb
         replace ht_q1 := ht_q1.below hb
         replace ht_q2 := ht_q2.below hb
         have h_x3 := (ht_x3.rw d_vu).more (show _ ≤ 2000 by omega)
         clear hb
         clear v_0 v_1 v_2 v_3 v_4 v_5 u_0 u_1 u_2 u_3 u_4 u_5 q1_0 q1_1 q1_2 q1_3 q1_4 q1_5 q2_0 q2_1 q2_2 q2_3 q2_4 q2_5
         obtain ⟨v_0, v_1, v_2, v_3, v_4, v_5⟩ := k_v.facts
         obtain ⟨u_0, u_1, u_2, u_3, u_4, u_5⟩ := k_u.facts
         obtain ⟨q1_0, q1_1, q1_2, q1_3, q1_4, q1_5⟩ := k_q1.facts
         obtain ⟨q2_0, q2_1, q2_2, q2_3, q2_4, q2_5⟩ := k_q2.facts)
      | (go_at_call 19
         have mk5 := mk4
         clear mk4
         refine (rSub_c v u _ _ _ (g_v) (g_u)).mono ?_
         rintro e w5 ⟨x4, rfl, ht_x4, hb⟩
         replace HB := HB.trans (hb.mono HB.size)
         replace k_v := k_v.below hb
         replace k_u := k_u.below hb
         replace k_q1 := k_q1.below hb
         replace k_q2 := k_q2.below hb
         replace h_v := h_v.below hb
         replace h_u := h_u.below hb
         replace g_v := g_v.below hb
         replace g_u := g_u.below hb
         replace ht_q1 := ht_q1.below hb
         replace ht_q2 := ht_q2.below hb
         replace h_x3 := h_x3.below hb
         replace ht_x3 := ht_x3.below hb
         have h_x4 := (ht_x4.rw d_vu).more (show _ ≤ 2000 by omega)
         clear hb
         clear v_0 v_1 v_2 v_3 v_4 v_5 u_0 u_1 u_2 u_3 u_4 u_5 q1_0 q1_1 q1_2 q1_3 q1_4 q1_5 q2_0 q2_1 q2_2 q2_3 q2_4 q2_5
         obtain ⟨v_0, v_1, v_2, v_3, v_4, v_5⟩ := k_v.facts
         obtain ⟨u_0, u_1, u_2, u_3, u_4, u_5⟩ := k_u.facts
         obtain ⟨q1_0, q1_1, q1_2, q1_3, q1_4, q1_5⟩ := k_q1.facts
         obtain ⟨q2_0, q2_1, q2_2, q2_3, q2_4, q2_5⟩ := k_q2.facts)
      | (go_at_call 15
         have mk6 := mk5
         clear mk5
         refine (one_yes x3 x4 _ _ _ _ _ ht_x3 ht_x4 rfl (ht_x3.len d_vu (by omega)).1 (ht_x3.len d_vu (by omega)).2).mono ?_
         rintro e w6 ⟨rfl, hb⟩
         replace HB := HB.trans (hb.mono HB.size)
         replace k_v := k_v.below hb
         replace k_u := k_u.below hb
         replace k_q1 := k_q1.below hb
         replace k_q2 := k_q2.below hb
         replace h_v := h_v.below hb
         replace h_u := h_u.below hb
         replace g_v := g_v.below hb
         replace g_u := g_u.below hb
         replace ht_q1 := ht_q1.below hb
         replace ht_q2 := ht_q2.below hb
         replace h_x3 := h_x3.below hb
         replace ht_x3 := ht_x3.below hb
         replace h_x4 := h_x4.below hb
         replace ht_x4 := ht_x4.below hb
         clear hb
         clear v_0 v_1 v_2 v_3 v_4 v_5 u_0 u_1 u_2 u_3 u_4 u_5 q1_0 q1_1 q1_2 q1_3 q1_4 q1_5 q2_0 q2_1 q2_2 q2_3 q2_4 q2_5
         obtain ⟨v_0, v_1, v_2, v_3, v_4, v_5⟩ := k_v.facts
         obtain ⟨u_0, u_1, u_2, u_3, u_4, u_5⟩ := k_u.facts
         obtain ⟨q1_0, q1_1, q1_2, q1_3, q1_4, q1_5⟩ := k_q1.facts
         obtain ⟨q2_0, q2_1, q2_2, q2_3, q2_4, q2_5⟩ := k_q2.facts
         clear h_x3 ht_x3 h_x4 ht_x4)
      | (go_at_call 20
         have mk7 := mk6
         clear mk6
         refine (Mul_c v u _ _ _ (h_v) (h_u)).mono ?_
         rintro e w7 ⟨x5, rfl, ht_x5, hb⟩
         replace HB := HB.trans (hb.mono HB.size)
         replace k_v := k_v.below hb
         replace k_u := k_u.below hb
         replace k_q1 := k_q1.below hb
         replace k_q2 := k_q2.below hb
         replace h_v := h_v.below hb
         replace h_u := h_u.below hb
         replace g_v := g_v.below hb
         replace g_u := g_u.below hb
         replace ht_q1 := ht_q1.below hb
         replace ht_q2 := ht_q2.below hb
         have h_x5 := (ht_x5.rw p_vu).more (show _ ≤ 2000 by omega)
         clear hb
         clear v_0 v_1 v_2 v_3 v_4 v_5 u_0 u_1 u_2 u_3 u_4 u_5 q1_0 q1_1 q1_2 q1_3 q1_4 q1_5 q2_0 q2_1 q2_2 q2_3 q2_4 q2_5
         obtain ⟨v_0, v_1, v_2, v_3, v_4, v_5⟩ := k_v.facts
         obtain ⟨u_0, u_1, u_2, u_3, u_4, u_5⟩ := k_u.facts
         obtain ⟨q1_0, q1_1, q1_2, q1_3, q1_4, q1_5⟩ := k_q1.facts
         obtain ⟨q2_0, q2_1, q2_2, q2_3, q2_4, q2_5⟩ := k_q2.facts)
      | (go_at_call 21
         have mk8 := mk7
         clear mk7
         refine (rMul_c v u _ _ _ (g_v) (g_u)).mono ?_
         rintro e w8 ⟨x6, rfl, ht_x6, hb⟩
         replace HB := HB.trans (hb.mono HB.size)
         replace k_v := k_v.below hb
         replace k_u := k_u.below hb
         replace k_q1 := k_q1.below hb
         replace k_q2 := k_q2.below hb
         replace h_v := h_v.below hb
         replace h_u := h_u.below hb
         replace g_v := g_v.below hb
         replace g_u := g_u.below hb
         replace ht_q1 := ht_q1.below hb
         replace ht_q2 := ht_q2.below hb
         replace h_x5 := h_x5.below hb
         replace ht_x5 := ht_x5.below hb
         have h_x6 := (ht_x6.rw p_vu).more (show _ ≤ 2000 by omega)
         clear hb
         clear v_0 v_1 v_2 v_3 v_4 v_5 u_0 u_1 u_2 u_3 u_4 u_5 q1_0 q1_1 q1_2 q1_3 q1_4 q1_5 q2_0 q2_1 q2_2 q2_3 q2_4 q2_5
         obtain ⟨v_0, v_1, v_2, v_3, v_4, v_5⟩ := k_v.facts
         obtain ⟨u_0, u_1, u_2, u_3, u_4, u_5⟩ := k_u.facts
         obtain ⟨q1_0, q1_1, q1_2, q1_3, q1_4, q1_5⟩ := k_q1.facts
         obtain ⟨q2_0, q2_1, q2_2, q2_3, q2_4, q2_5⟩ := k_q2.facts)
      | (go_at_call 15
         have mk9 := mk8
         clear mk8
         refine (one_yes x5 x6 _ _ _ _ _ ht_x5 ht_x6 rfl (ht_x5.len p_vu (by omega)).1 (ht_x5.len p_vu (by omega)).2).mono ?_
         rintro e w9 ⟨rfl, hb⟩
         replace HB := HB.trans (hb.mono HB.size)
         replace k_v := k_v.below hb
         replace k_u := k_u.below hb
         replace k_q1 := k_q1.below hb
         replace k_q2 := k_q2.below hb
         replace h_v := h_v.below hb
         replace h_u := h_u.below hb
         replace g_v := g_v.below hb
         replace g_u := g_u.below hb
         replace ht_q1 := ht_q1.below hb
         replace ht_q2 := ht_q2.below hb
         replace h_x5 := h_x5.below hb
         replace ht_x5 := ht_x5.below hb
         replace h_x6 := h_x6.below hb
         replace ht_x6 := ht_x6.below hb
         clear hb
         clear v_0 v_1 v_2 v_3 v_4 v_5 u_0 u_1 u_2 u_3 u_4 u_5 q1_0 q1_1 q1_2 q1_3 q1_4 q1_5 q2_0 q2_1 q2_2 q2_3 q2_4 q2_5
         obtain ⟨v_0, v_1, v_2, v_3, v_4, v_5⟩ := k_v.facts
         obtain ⟨u_0, u_1, u_2, u_3, u_4, u_5⟩ := k_u.facts
         obtain ⟨q1_0, q1_1, q1_2, q1_3, q1_4, q1_5⟩ := k_q1.facts
         obtain ⟨q2_0, q2_1, q2_2, q2_3, q2_4, q2_5⟩ := k_q2.facts
         clear h_x5 ht_x5 h_x6 ht_x6)
      | (go_at_call 15
         have mk10 := mk9
         clear mk9
         refine (one_yes q1 q2 _ _ _ _ _ ht_q1 ht_q2 rfl (ht_q1.len q_vu (by omega)).1 (ht_q1.len q_vu (by omega)).2).mono ?_
         rintro e w10 ⟨rfl, hb⟩
         replace HB := HB.trans (hb.mono HB.size)
         replace k_v := k_v.below hb
         replace k_u := k_u.below hb
         replace k_q1 := k_q1.below hb
         replace k_q2 := k_q2.below hb
         replace h_v := h_v.below hb
         replace h_u := h_u.below hb
         replace g_v := g_v.below hb
         replace g_u := g_u.below hb
         replace ht_q1 := ht_q1.below hb
         replace ht_q2 := ht_q2.below hb
         clear hb
         clear v_0 v_1 v_2 v_3 v_4 v_5 u_0 u_1 u_2 u_3 u_4 u_5 q1_0 q1_1 q1_2 q1_3 q1_4 q1_5 q2_0 q2_1 q2_2 q2_3 q2_4 q2_5
         obtain ⟨v_0, v_1, v_2, v_3, v_4, v_5⟩ := k_v.facts
         obtain ⟨u_0, u_1, u_2, u_3, u_4, u_5⟩ := k_u.facts
         obtain ⟨q1_0, q1_1, q1_2, q1_3, q1_4, q1_5⟩ := k_q1.facts
         obtain ⟨q2_0, q2_1, q2_2, q2_3, q2_4, q2_5⟩ := k_q2.facts)
      | (go_at_call 22
         have mk11 := mk10
         clear mk10
         refine (Cmp_v v u _ _ k _ h_v h_u e_k.out).mono ?_
         rintro e w11 ⟨rfl, hb⟩
         replace HB := HB.trans (hb.mono HB.size)
         replace k_v := k_v.below hb
         replace k_u := k_u.below hb
         replace k_q1 := k_q1.below hb
         replace k_q2 := k_q2.below hb
         replace h_v := h_v.below hb
         replace h_u := h_u.below hb
         replace g_v := g_v.below hb
         replace g_u := g_u.below hb
         replace ht_q1 := ht_q1.below hb
         replace ht_q2 := ht_q2.below hb
         clear hb
         clear v_0 v_1 v_2 v_3 v_4 v_5 u_0 u_1 u_2 u_3 u_4 u_5 q1_0 q1_1 q1_2 q1_3 q1_4 q1_5 q2_0 q2_1 q2_2 q2_3 q2_4 q2_5
         obtain ⟨v_0, v_1, v_2, v_3, v_4, v_5⟩ := k_v.facts
         obtain ⟨u_0, u_1, u_2, u_3, u_4, u_5⟩ := k_u.facts
         obtain ⟨q1_0, q1_1, q1_2, q1_3, q1_4, q1_5⟩ := k_q1.facts
         obtain ⟨q2_0, q2_1, q2_2, q2_3, q2_4, q2_5⟩ := k_q2.facts)
      | (go_at_call 23
         have mk12 := mk11
         clear mk11
         refine (rCmp2_v v u _ _ k _ g_v g_u e_k.out).mono ?_
         rintro e w12 ⟨rfl, hb⟩
         replace HB := HB.trans (hb.mono HB.size)
         replace k_v := k_v.below hb
         replace k_u := k_u.below hb
         replace k_q1 := k_q1.below hb
         replace k_q2 := k_q2.below hb
         replace h_v := h_v.below hb
         replace h_u := h_u.below hb
         replace g_v := g_v.below hb
         replace g_u := g_u.below hb
         replace ht_q1 := ht_q1.below hb
         replace ht_q2 := ht_q2.below hb
         clear hb
         clear v_0 v_1 v_2 v_3 v_4 v_5 u_0 u_1 u_2 u_3 u_4 u_5 q1_0 q1_1 q1_2 q1_3 q1_4 q1_5 q2_0 q2_1 q2_2 q2_3 q2_4 q2_5
         obtain ⟨v_0, v_1, v_2, v_3, v_4, v_5⟩ := k_v.facts
         obtain ⟨u_0, u_1, u_2, u_3, u_4, u_5⟩ := k_u.facts
         obtain ⟨q1_0, q1_1, q1_2, q1_3, q1_4, q1_5⟩ := k_q1.facts
         obtain ⟨q2_0, q2_1, q2_2, q2_3, q2_4, q2_5⟩ := k_q2.facts)
      | (go_at_call 24
         have mk13 := mk12
         clear mk12
         refine (Same_v v u _ _ b _ h_v h_u e_b.out).mono ?_
         rintro e w13 ⟨rfl, hb⟩
         replace HB := HB.trans (hb.mono HB.size)
         replace k_v := k_v.below hb
         replace k_u := k_u.below hb
         replace k_q1 := k_q1.below hb
         replace k_q2 := k_q2.below hb
         replace h_v := h_v.below hb
         replace h_u := h_u.below hb
         replace g_v := g_v.below hb
         replace g_u := g_u.below hb
         replace ht_q1 := ht_q1.below hb
         replace ht_q2 := ht_q2.below hb
         clear hb
         clear v_0 v_1 v_2 v_3 v_4 v_5 u_0 u_1 u_2 u_3 u_4 u_5 q1_0 q1_1 q1_2 q1_3 q1_4 q1_5 q2_0 q2_1 q2_2 q2_3 q2_4 q2_5
         obtain ⟨v_0, v_1, v_2, v_3, v_4, v_5⟩ := k_v.facts
         obtain ⟨u_0, u_1, u_2, u_3, u_4, u_5⟩ := k_u.facts
         obtain ⟨q1_0, q1_1, q1_2, q1_3, q1_4, q1_5⟩ := k_q1.facts
         obtain ⟨q2_0, q2_1, q2_2, q2_3, q2_4, q2_5⟩ := k_q2.facts)
      | (go_at_call 25
         have mk14 := mk13
         clear mk13
         refine (rSame_v v u _ _ b _ g_v g_u e_b.out).mono ?_
         rintro e w14 ⟨rfl, hb⟩
         replace HB := HB.trans (hb.mono HB.size)
         replace k_v := k_v.below hb
         replace k_u := k_u.below hb
         replace k_q1 := k_q1.below hb
         replace k_q2 := k_q2.below hb
         replace h_v := h_v.below hb
         replace h_u := h_u.below hb
         replace g_v := g_v.below hb
         replace g_u := g_u.below hb
         replace ht_q1 := ht_q1.below hb
         replace ht_q2 := ht_q2.below hb
         clear hb
         clear v_0 v_1 v_2 v_3 v_4 v_5 u_0 u_1 u_2 u_3 u_4 u_5 q1_0 q1_1 q1_2 q1_3 q1_4 q1_5 q2_0 q2_1 q2_2 q2_3 q2_4 q2_5
         obtain ⟨v_0, v_1, v_2, v_3, v_4, v_5⟩ := k_v.facts
         obtain ⟨u_0, u_1, u_2, u_3, u_4, u_5⟩ := k_u.facts
         obtain ⟨q1_0, q1_1, q1_2, q1_3, q1_4, q1_5⟩ := k_q1.facts
         obtain ⟨q2_0, q2_1, q2_2, q2_3, q2_4, q2_5⟩ := k_q2.facts)
      | (go_at_call 26
         have mk15 := mk14
         clear mk14
         refine (known_any _).mono ?_
         rintro e w15 ⟨rfl, hb⟩
         replace HB := HB.trans (hb.mono HB.size)
         replace k_v := k_v.below hb
         replace k_u := k_u.below hb
         replace k_q1 := k_q1.below hb
         replace k_q2 := k_q2.below hb
         replace h_v := h_v.below hb
         replace h_u := h_u.below hb
         replace g_v := g_v.below hb
         replace g_u := g_u.below hb
         replace ht_q1 := ht_q1.below hb
         replace ht_q2 := ht_q2.below hb
         clear hb
         clear v_0 v_1 v_2 v_3 v_4 v_5 u_0 u_1 u_2 u_3 u_4 u_5 q1_0 q1_1 q1_2 q1_3 q1_4 q1_5 q2_0 q2_1 q2_2 q2_3 q2_4 q2_5
         obtain ⟨v_0, v_1, v_2, v_3, v_4, v_5⟩ := k_v.facts
         obtain ⟨u_0, u_1, u_2, u_3, u_4, u_5⟩ := k_u.facts
         obtain ⟨q1_0, q1_1, q1_2, q1_3, q1_4, q1_5⟩ := k_q1.facts
         obtain ⟨q2_0, q2_1, q2_2, q2_3, q2_4, q2_5⟩ := k_q2.facts))
  go_wp2
  go_ret
  exact ⟨rfl, HB⟩

theorem RatReckons_small (v u : Rv) (r s : Rat) (w : World) (hlen : v.n + v.m + u.n + u.m ≤ 16) (h_v : Rw w v r 16) (h_u : Rw w u s 16) :
    Calls Try.prog 3 #[.agg #[.bool v.s, .slice v.A v.n v.c, .slice v.B v.m v.d], .agg #[.bool u.s, .slice u.A u.n u.c, .slice u.B u.m u.d]] w fun e w' => e = .returned (.bool true) ∧ Below w.heap.size w w' := by
  by_cases h : s = 0
  · exact RatReckons_zero v u r s _ _ w h rfl rfl hlen h_v h_u
  · exact RatReckons_pos v u r s _ _ w h rfl rfl hlen h_v h_u
end Go.Proofs.Ytadopepoicbahaa

namespace Go.Proofs.Ytadopepoicbahaa
open Go.Joins Go.ChangeShapes Go.WideShapes Go.ChangeAt Go.RowKit

set_option maxHeartbeats 800000 in
theorem RatReckons_big (v u : Rv) (w : World) (l_v : v.n ≤ 100000000000000 ∧ v.m ≤ 100000000000000) (l_u : u.n ≤ 100000000000000 ∧ u.m ≤ 100000000000000) (ht : Hid (16 < tot (pick v u u) 2)) :
    Calls Try.prog 3 #[.agg #[.bool v.s, .slice v.A v.n v.c, .slice v.B v.m v.d], .agg #[.bool u.s, .slice u.A u.n u.c, .slice u.B u.m u.d]] w fun e w' => e = .returned (.bool true) ∧ Below w.heap.size w w' := by
  go_enter Try.func3, Try.ntmps3
  go_wp2_with fail
  generalize hW : ((w.alloc (.cells #[.bool v.s, .slice v.A v.n v.c, .slice v.B v.m v.d] 24)).alloc (.cells #[.bool u.s, .slice u.A u.n u.c, .slice u.B u.m u.d] 24)).alloc (.cells #[.bool v.s, .slice v.A v.n v.c, .slice v.B v.m v.d, .bool u.s, .slice u.A u.n u.c, .slice u.B u.m u.d] 24) = W
  obtain ⟨k_v, k_u, HB, hsW, hbig⟩ := open2b w v u W hW
  clear hW
  refine (big_any (pick v u u) (w.heap.size + 1 + 1) 2 _ (by omega) ?_ hbig).mono ?_
  · intro i hi
    have : i = 0 ∨ i = 1 := by omega
    rcases this with rfl | rfl <;> simp only [pick] <;> omega
  rintro e w0 ⟨rfl, hb⟩
  replace HB := HB.trans (hb.mono (by omega))
  clear hb hbig hsW
  rw [decide_eq_true ht.out]
  go_wp2
  go_ret
  exact ⟨rfl, HB⟩
theorem RatReckons_any (v u : Rv) (w : World) (l_v : v.n ≤ 100000000000000 ∧ v.m ≤ 100000000000000) (l_u : u.n ≤ 100000000000000 ∧ u.m ≤ 100000000000000) (c_v : v.n ≤ v.c ∧ v.m ≤ v.d) (c_u : u.n ≤ u.c ∧ u.m ≤ u.d) (r_v : ∃ a b, Row w 0 v.A v.n a ∧ Row w 0 v.B v.m b) (r_u : ∃ a b, Row w 0 u.A u.n a ∧ Row w 0 u.B u.m b) :
    Calls Try.prog 3 #[.agg #[.bool v.s, .slice v.A v.n v.c, .slice v.B v.m v.d], .agg #[.bool u.s, .slice u.A u.n u.c, .slice u.B u.m u.d]] w fun e w' => e = .returned (.bool true) ∧ Below w.heap.size w w' := by
  by_cases h1 : 16 < tot (pick v u u) 2
  · exact RatReckons_big v u w l_v l_u h1
  · simp only [tot, pick] at h1
    obtain ⟨a_v, b_v, ra_v, rb_v⟩ := r_v
    obtain ⟨a_u, b_u, ra_u, rb_u⟩ := r_u
    exact RatReckons_small v u _ _ w (by omega) ⟨c_v.1, c_v.2, by omega, by omega, a_v, b_v, ra_v, rb_v, rfl⟩ ⟨c_u.1, c_u.2, by omega, by omega, a_u, b_u, ra_u, rb_u, rfl⟩

set_option maxRecDepth 100000 in
theorem ratReckons_lifted (os : Os) (started : os.Started) (H : Type) (enc : TypeId × Value → H) :
    ReturnsInHanded {} Try.checked os 3 .any (Rows.ratReckonsSpec.pre6 enc Try.prog Try.f3 Rows.ratReckonsRow.domain false) (Rows.ratReckonsSpec.post enc Try.prog Try.f3 false true false false) := by
  refine returnsInHanded_of_change_sized (C := Try.checked) Try.own started (by kernel_rfl) Try.func3
    (ChangeSpec.witness6 (enc := enc) (C := Try.checked) false ⟨#[], #[.agg #[.bool false, .slice none 0 0, .slice none 0 0], .agg #[.bool false, .slice none 0 0, .slice none 0 0]], []⟩ 8 (by kernel_rfl) (by kernel_rfl) (by kernel_rfl) (by kernel_rfl)) ?_
  intro W base args ds gs before hval0 hW hcnd hsz _
  have hval : ∀ (j : Nat) t v, Try.f3.params[j]? = some t → args[j]? = some v → Value.okWide Try.prog W .any base t v := hval0
  have hW' := hW
  obtain ⟨p, q, hA0, hV, rfl, hfz, hnd⟩ := hW
  have hA : DataW.TrodAll enc Try.prog W 0 (fun _ => true) true Try.f3.params.toList args.toList ds p := hA0
  rw [Try.params3] at hA hval
  obtain ⟨v0, v1, d0, d1, p0, p1, rfl, rfl, rfl, h0, h1⟩ := trodAll_two hA
  obtain ⟨rfl, rfl⟩ := trodVars_none hV
  clear hA0 hval0
  simp only [List.append_nil] at hW'
  have hlt0 : ∀ x ∈ p0, x.block < W.heap.size := fun x hx => hW'.lt x (by simp [hx])
  have hlt1 : ∀ x ∈ p1, x.block < W.heap.size := fun x hx => hW'.lt x (by simp [hx])
  obtain ⟨v, rfl, e_v, g_v, l_v, m_v, a_v, b_v, ra_v, rb_v⟩ := open_rat h0 (hval 0 _ v0 rfl rfl) hlt0 (fun n hn => by simpa using List.all_eq_true.1 hsz _ (DataW.weights_mem_each (j := 0) rfl rfl n hn))
  obtain ⟨u, rfl, e_u, g_u, l_u, m_u, a_u, b_u, ra_u, rb_u⟩ := open_rat h1 (hval 1 _ v1 rfl rfl) hlt1 (fun n hn => by simpa using List.all_eq_true.1 hsz _ (DataW.weights_mem_each (j := 1) rfl rfl n hn))
  have hargs : ∀ (W' : World) (v : Value) (d : DataW H) (ps : List MemPlace), DataW.Trod enc Try.prog W 0 (fun _ => true) true 24 v d ps → (∀ x ∈ ps, x.block < W.heap.size) → Below W.heap.size W W' → DataW.Trod enc Try.prog W' 0 (fun b => decide (b < W.heap.size)) true 24 v d ps :=
    fun W' v d ps h hl hn => Below.trod Try.laidOut (by kernel_rfl) (of_decide_eq_true (by kernel_rfl)) h hn hl
  refine (RatReckons_any v u W ⟨l_v, m_v⟩ ⟨l_u, m_u⟩ ⟨e_v, g_v⟩ ⟨e_u, g_u⟩ ⟨a_v, b_v, ra_v, rb_v⟩ ⟨a_u, b_u, ra_u, rb_u⟩).mono fun e W' ⟨he, hnx⟩ => ?_
  subst he
  refine ⟨_, rfl, _, _, _, [], _, [], hW', ?_, (trodAll_mk2 (hargs _ _ _ _ h0 hlt0 hnx) (hargs _ _ _ _ h1 hlt1 hnx)), rfl, hnx.frame _, fun h => by cases h⟩
  exact trodAll_mk1 (shut_bool Try.underlying4 true)

theorem ratReckons_holds : Rows.RatReckonsSaid :=
  OpenClaim.holds_of_wide 3 Try.f3 rfl rfl rfl rfl rfl rfl rfl ⟨rfl, rfl, rfl, rfl, rfl⟩ rfl rfl rfl rfl rfl (by kernel_rfl) Try.func3 (by kernel_rfl)
    (of_decide_eq_true (by kernel_rfl)) (by unfold Func.isWrapper; first | (rw [if_pos (by decide +kernel)]; kernel_rfl) | (rw [if_neg (by decide +kernel)]; exact ⟨rfl, rfl⟩))
    (fun os started H enc _ => ratReckons_lifted os started H enc)
end Go.Proofs.Ytadopepoicbahaa
