/-
  RatOwn: the walk of the law over small rationals: what is handed in is copied, called with, overwritten; what was answered stands.
-/
import Derived.Test.YtgfajmnmeggaeaaStepNew
import Derived.Test.YtgfajmnmeggaeaaRegInv
import Derived.Test.YtgfajmnmeggaeaaRef1
import Derived.Test.YtgfajmnmeggaeaaRefF
import Derived.Deep.DeepCutAuto
namespace Go.Proofs.Ytgfajmnmeggaeaa
set_option maxRecDepth 20000
open Go.RowKit

theorem NewR.putC {w : World} {lo b : Nat} {X : Option Addr} {c m : Nat} {k : List Nat} (h : NewR lo w X c m k) {z : Rv} (kz : C3 w b (.bool z.s) (.slice z.A z.n z.c) (.slice z.B z.m z.d)) (x y t : Value) : NewR lo (put3 w b x y t) X c m k :=
  ⟨h.row.putC kz x y t, h.cap, fun hm => (h.own hm).grown (grown_set (grown_set (grown_set (World.grownBy.refl w _)))) fun ad e => by
    obtain ⟨b', off, e2, hne⟩ := h.row.apart kz hm
    rw [e2] at e
    injection e with e
    subst e
    intro hq
    injection hq with hq
    exact hne hq⟩
theorem NewR.blk {w : World} {lo : Nat} {X : Option Addr} {c m : Nat} {k : List Nat} (h : NewR lo w X c m k) : ∃ g, 0 < m → X = some ⟨g, 0, none⟩ ∧ lo ≤ g ∧ g < w.heap.size := by
  by_cases hm : 0 < m
  · obtain ⟨g, e, h1, h2⟩ := (h.own hm).form hm
    exact ⟨g, fun _ => ⟨e, h1, h2⟩⟩
  · exact ⟨0, fun h => absurd h hm⟩
/-- Nothing but one row of the call's own, if any, has been written. -/
theorem C3.grown {w w' : World} {b : Nat} {x y z : Value} {row : Option Nat} (h : C3 w b x y z) (hg : w.grownBy w' row) (hne : ∀ g, row = some g → g ≠ b) : C3 w' b x y z :=
  (hg.block b h.lt (fun e => hne b e.symm rfl)).trans h
theorem NewR.set {w : World} {lo g c m j x : Nat} {k : List Nat} (h : NewR lo w (some ⟨g, 0, none⟩) c m k) (h0 : 0 < m) (hx : x < 4294967296) : NewR lo (w.setCell ⟨g, j, none⟩ (.int .u32 (x : Int))) (some ⟨g, 0, none⟩) c m (k.set j x) :=
  have o := (h.own h0).set (j := j) hx
  ⟨o.row, o.capLe, fun _ => o⟩
theorem NewR.grown {w w' : World} {lo c m : Nat} {X : Option Addr} {k : List Nat} {row : Option Nat} (h : NewR lo w X c m k) (hg : w.grownBy w' row) (hne : 0 < m → ∀ ad, X = some ad → some ad.block ≠ row) : NewR lo w' X c m k := by
  by_cases h0 : 0 < m
  · have o := (h.own h0).grown hg (hne h0)
    exact ⟨o.row, o.capLe, fun _ => o⟩
  · exact ⟨⟨h.row.len, h.row.l32, fun hn => absurd hn h0⟩, h.cap, fun hn => absurd hn h0⟩
theorem Row.keepRow {w w' : World} {lo n : Nat} {A : Option Addr} {l : List Nat} {row : Option Nat} (h : Row w lo A n l) (hg : w.grownBy w' row) (hX : ∀ g, row = some g → g < lo) : Row w' lo A n l :=
  ⟨h.len, h.l32, fun hn => by
    obtain ⟨b, off, e, h1, h2, hc⟩ := h.mem hn
    refine ⟨b, off, e, h1, by have := hg.size; omega, fun j hj => hg.cell (hc j hj) ?_⟩
    intro e
    have := hX b e.symm
    omega⟩
theorem Rt.keepRow {w w' : World} {lo : Nat} {v : Rv} {r : Rat} {row : Option Nat} (h : Rt w lo v r) (hg : w.grownBy w' row) (hX : ∀ g, row = some g → g < lo) : Rt w' lo v r :=
  ⟨h.1, h.2, h.3, h.4.keepRow hg hX, h.5, h.6, h.7.keepRow hg hX⟩
theorem below_row {B : Nat} {w w' w2 : World} {row : Option Nat} (h : Below B w w') (hg : w'.grownBy w2 row) (hX : ∀ g, row = some g → B ≤ g) (hB : B ≤ w.heap.size) : Below B w w2 :=
  h.trans ⟨hg.os, hg.tape, hg.output, hg.size, fun q hq => hg.block q (by have := h.size; omega) (fun e => by have := hX q e.symm; omega)⟩
theorem Div_drop (v u : Rv) (r s : Rat) (w : World) (hv : Rw w v r 2000) (hu : Rw w u s 2000) :
    Calls Try.prog 7 #[.agg #[.bool v.s, .slice v.A v.n v.c, .slice v.B v.m v.d], .agg #[.bool u.s, .slice u.A u.n u.c, .slice u.B u.m u.d]] w fun e w' => ∃ (q : Rv) (ok : Bool), e = .returned (.tuple #[.agg #[.bool q.s, .slice q.A q.n q.c, .slice q.B q.m q.d], .bool ok]) ∧ Below w.heap.size w w' := by
  by_cases h0 : s = 0
  · refine (Div_zero_c v u s w hu h0).mono ?_
    rintro e w' ⟨q, rfl, _, hb⟩
    exact ⟨q, false, rfl, hb⟩
  · refine (Div_c v u r s w hv hu h0).mono ?_
    rintro e w' ⟨q, rfl, _, hb⟩
    exact ⟨q, true, rfl, hb⟩
set_option maxHeartbeats 800000 in
/-- Two numbers of one sign whose rows are one. -/
theorem one_rows (v u : Rv) (a b : List Nat) (w : World) (hss : v.s = u.s) (ha : Row w 0 v.A v.n a) (hb : Row w 0 v.B v.m b) (ha' : Row w 0 u.A u.n a) (hb' : Row w 0 u.B u.m b) (hn : v.n ≤ 100000) (hm : v.m ≤ 100000) :
    Calls Try.prog 8 #[.agg #[.bool v.s, .slice v.A v.n v.c, .slice v.B v.m v.d], .agg #[.bool u.s, .slice u.A u.n u.c, .slice u.B u.m u.d]] w fun e w' => e = .returned (.bool true) ∧ Below w.heap.size w w' := by
  have hsb : (v.s == u.s) = true := by rw [hss]; simp
  clear hss
  go_enter Try.func8, Try.ntmps8
  go_wp2_with fail
  generalize hW : ((w.alloc (.cells #[.bool v.s, .slice v.A v.n v.c, .slice v.B v.m v.d] 24)).alloc (.cells #[.bool u.s, .slice u.A u.n u.c, .slice u.B u.m u.d] 24)) = W
  obtain ⟨ka, kb, HW, hsW⟩ := open2 w v u W hW
  clear hW
  refine (limbs_eq v.A u.A v.n u.n v.c u.c _ _ _ (by omega) (ha.below HW) (ha'.below HW) rfl).mono ?_
  rintro e w1 ⟨rfl, hb1⟩
  replace ka := ka.below hb1
  replace kb := kb.below hb1
  replace HW := HW.trans (hb1.mono (by omega))
  obtain ⟨a0, a1, a2, a3, a4, a5⟩ := ka.facts
  obtain ⟨b0, b1, b2, b3, b4, b5⟩ := kb.facts
  have hs1 := hb1.size
  clear hb1
  go_wp2_with fail
  refine (limbs_eq v.B u.B v.m u.m v.d u.d _ _ _ (by omega) (hb.below HW) (hb'.below HW) rfl).mono ?_
  rintro e w2 ⟨rfl, hb2⟩
  replace HW := HW.trans (hb2.mono (by omega))
  clear hb2
  go_wp2
  go_ret
  exact ⟨rfl, HW⟩

structure RO3 (w0 : World) (bv : Nat) (v : Rv) (a : List Nat) (b : List Nat) (S : Nat → Prop) (t14 t15 t16 t17 t18 t19 t20 t21 t22 t23 t24 t5 : Value) (xb : Nat) (gX : Nat) (gY : Nat) (w : World) : Prop where
  hB : Below w0.heap.size w0 w
  h0 : S 0 → t14 = .pointer (some ⟨bv, 0, none⟩)
  h1 : S 1 → t15 = .bool v.s
  h2 : S 2 → ∃ A0, t16 = .slice A0 0 0
  h3 : S 3 → t17 = .pointer (some ⟨bv, 1, none⟩)
  h4 : S 4 → t18 = .slice v.A v.n v.c
  h5 : S 5 → ∃ X c, t19 = .slice X v.n c ∧ NewR w0.heap.size w X c v.n a ∧ (0 < v.n → X = some ⟨gX, 0, none⟩ ∧ gX < w.heap.size)
  h6 : S 6 → ∃ A0, t20 = .slice A0 0 0
  h7 : S 7 → t21 = .pointer (some ⟨bv, 2, none⟩)
  h8 : S 8 → t22 = .slice v.B v.m v.d
  h9 : S 9 → ∃ Y c, t23 = .slice Y v.m c ∧ NewR w0.heap.size w Y c v.m b ∧ (0 < v.m → Y = some ⟨gY, 0, none⟩ ∧ gY < w.heap.size)
  h10 : S 10 → t24 = .agg #[t15, t19, t23]
  h11 : S 11 → t5 = .pointer (some ⟨xb, 0, none⟩) ∧ w0.heap.size ≤ xb ∧ ∃ z : Rv, C3 w xb (.bool z.s) (.slice z.A z.n z.c) (.slice z.B z.m z.d)
  h12 : S 12 → C3 w xb t15 t19 t23
  hD : S 5 → S 9 → 0 < v.n → 0 < v.m → gX ≠ gY
structure RO4 (w1 : World) (x : Rv) (u : Rv) (r : Rat) (s : Rat) (S : Nat → Prop) (t25 t26 t27 t28 t29 t6 t7 : Value) (nb : Nat) (sb : Nat) (w : World) : Prop where
  hB : Below w1.heap.size w1 w
  h0 : S 0 → t25 = .agg #[.bool x.s, .slice x.A x.n x.c, .slice x.B x.m x.d]
  h1 : S 1 → ∃ p : Rv, t26 = .agg #[.bool p.s, .slice p.A p.n p.c, .slice p.B p.m p.d] ∧ Rt w w1.heap.size p r
  h2 : S 2 → t27 = .agg #[.bool x.s, .slice x.A x.n x.c, .slice x.B x.m x.d]
  h3 : S 3 → t28 = .agg #[.bool u.s, .slice u.A u.n u.c, .slice u.B u.m u.d]
  h4 : S 4 → ∃ q : Rv, t29 = .agg #[.bool q.s, .slice q.A q.n q.c, .slice q.B q.m q.d] ∧ Rt w w1.heap.size q (r + s)
  h5 : S 5 → t6 = .pointer (some ⟨nb, 0, none⟩) ∧ w1.heap.size ≤ nb ∧ ∃ z : Rv, C3 w nb (.bool z.s) (.slice z.A z.n z.c) (.slice z.B z.m z.d)
  h6 : S 6 → t7 = .pointer (some ⟨sb, 0, none⟩) ∧ w1.heap.size ≤ sb ∧ ∃ z : Rv, C3 w sb (.bool z.s) (.slice z.A z.n z.c) (.slice z.B z.m z.d)
  h7 : S 7 → ∃ p : Rv, t26 = .agg #[.bool p.s, .slice p.A p.n p.c, .slice p.B p.m p.d] ∧ C3 w nb (.bool p.s) (.slice p.A p.n p.c) (.slice p.B p.m p.d) ∧ Rt w w1.heap.size p r
  h8 : S 8 → ∃ q : Rv, t29 = .agg #[.bool q.s, .slice q.A q.n q.c, .slice q.B q.m q.d] ∧ C3 w sb (.bool q.s) (.slice q.A q.n q.c) (.slice q.B q.m q.d) ∧ Rt w w1.heap.size q (r + s)
  hD : S 5 → S 6 → nb ≠ sb

set_option maxRecDepth 100000 in
set_option maxHeartbeats 25600000 in
theorem RatOwn_small (v u : Rv) (r s : Rat) (w : World) (hlen : v.n + v.m + u.n + u.m ≤ 16) (h_v : Rw w v r 16) (h_u : Rw w u s 16) :
    Calls Try.prog 4 #[.agg #[.bool v.s, .slice v.A v.n v.c, .slice v.B v.m v.d], .agg #[.bool u.s, .slice u.A u.n u.c, .slice u.B u.m u.d]] w fun e w' => e = .returned (.bool true) ∧ Below w.heap.size w w' := by
  go_enter Try.func4, Try.ntmps4
  go_wp2_with fail
  generalize hW : ((w.alloc (.cells #[.bool v.s, .slice v.A v.n v.c, .slice v.B v.m v.d] 24)).alloc (.cells #[.bool u.s, .slice u.A u.n u.c, .slice u.B u.m u.d] 24)).alloc (.cells #[.bool v.s, .slice v.A v.n v.c, .slice v.B v.m v.d, .bool u.s, .slice u.A u.n u.c, .slice u.B u.m u.d] 24) = W
  obtain ⟨k_v, k_u, HB, hsW, hbig⟩ := open2b w v u W hW
  clear hW
  refine (big_any (pick v u u) (w.heap.size + 1 + 1) 2 _ (by omega) ?_ hbig).mono ?_
  · intro i hi
    have : i = 0 ∨ i = 1 := by omega
    rcases this with rfl | rfl <;> simp only [pick] <;> omega
  rintro e w0 ⟨rfl, hb⟩
  rw [decide_eq_false (show ¬ 16 < tot (pick v u u) 2 by simp only [tot, pick]; omega)]
  replace HB := HB.trans (hb.mono (by omega))
  replace k_v := k_v.below hb
  replace k_u := k_u.below hb
  have hzw : w.heap.size + 3 ≤ w0.heap.size := by have := hb.size; omega
  clear hb hbig hsW
  replace h_v := h_v.below HB
  replace h_u := h_u.below HB
  have kv0 := Lib.hid k_v
  have ku0 := Lib.hid k_u
  have hv0 := Lib.hid h_v
  have hu0 := Lib.hid h_u
  have HB0 := Lib.hid HB
  obtain ⟨q1, q2, q3, q4, a, b, ra, rb, hr⟩ := h_v
  go_upto_region 3 with fail
  refine region_inv (fun S a' w' => ∃ (t14 : Value) (t15 : Value) (t16 : Value) (t17 : Value) (t18 : Value) (t19 : Value) (t20 : Value) (t21 : Value) (t22 : Value) (t23 : Value) (t24 : Value) (t5 : Value) (xb : Nat) (gX : Nat) (gY : Nat), a' = { tmps := List.toArray (.agg #[.bool v.s, .slice v.A v.n v.c, .slice v.B v.m v.d] :: .agg #[.bool u.s, .slice u.A u.n u.c, .slice u.B u.m u.d] :: (.pointer (some ⟨w.heap.size, 0, none⟩)) :: (.pointer (some ⟨w.heap.size + 1, 0, none⟩)) :: (.bool false) :: t5 :: undef :: undef :: undef :: undef :: .agg #[.bool v.s, .slice v.A v.n v.c, .slice v.B v.m v.d] :: .agg #[.bool u.s, .slice u.A u.n u.c, .slice u.B u.m u.d] :: (.slice (some ⟨w.heap.size + 1 + 1, 0, none⟩) 2 2) :: (.bool false) :: t14 :: t15 :: t16 :: t17 :: t18 :: t19 :: t20 :: t21 :: t22 :: t23 :: t24 :: undef :: undef :: undef :: undef :: undef :: undef :: undef :: undef :: undef :: undef :: undef :: undef :: undef :: undef :: undef :: undef :: undef :: undef :: undef :: undef :: undef :: undef :: undef :: undef :: undef :: undef :: undef :: undef :: undef :: undef :: undef :: undef :: undef :: undef :: undef :: undef :: undef :: undef :: undef :: undef :: undef :: undef :: undef :: undef :: undef :: undef :: undef :: undef :: undef :: undef :: undef :: undef :: undef :: []), defers := [] } ∧ RO3 w0 w.heap.size v a b S t14 t15 t16 t17 t18 t19 t20 t21 t22 t23 t24 t5 xb gX gY w') (by kernel_rfl) (by kernel_rfl) ?_ ?_ ?_
  · exact ⟨undef, undef, undef, undef, undef, undef, undef, undef, undef, undef, undef, undef, 0, 0, 0, rfl, { hB := (Below.refl _ _).drew, h0 := fun h => h.elim, h1 := fun h => h.elim, h2 := fun h => h.elim, h3 := fun h => h.elim, h4 := fun h => h.elim, h5 := fun h => h.elim, h6 := fun h => h.elim, h7 := fun h => h.elim, h8 := fun h => h.elim, h9 := fun h => h.elim, h10 := fun h => h.elim, h11 := fun h => h.elim, h12 := fun h => h.elim, hD := fun h => h.elim }⟩
  · rintro i o S a' w1 ho ⟨t14, t15, t16, t17, t18, t19, t20, t21, t22, t23, t24, t5, xb, gX, gY, rfl, hJ⟩ hni hcl hd K hK
    have hi : i < 13 := (Array.getElem?_eq_some_iff.1 ho).1
    have hi2 : i = 0 ∨ i = 1 ∨ i = 2 ∨ i = 3 ∨ i = 4 ∨ i = 5 ∨ i = 6 ∨ i = 7 ∨ i = 8 ∨ i = 9 ∨ i = 10 ∨ i = 11 ∨ i = 12 := by omega
    replace hK := Go.Lib.hid hK
    clear hi
    rcases hi2 with rfl | rfl | rfl | rfl | rfl | rfl | rfl | rfl | rfl | rfl | rfl | rfl | rfl
    · have ho2 : some _ = some o := ho
      obtain rfl := Option.some.inj ho2
      clear ho ho2
      go_simp
      refine hK.out _ _ ⟨_, _, _, _, _, _, _, _, _, _, _, _, xb, gX, gY, rfl, ?_⟩
      exact ⟨hJ.hB,
          fun _ => rfl,
          fun h => (hJ.h1 (h.resolve_left (by decide))),
          fun h => (hJ.h2 (h.resolve_left (by decide))),
          fun h => (hJ.h3 (h.resolve_left (by decide))),
          fun h => (hJ.h4 (h.resolve_left (by decide))),
          fun h => (hJ.h5 (h.resolve_left (by decide))),
          fun h => (hJ.h6 (h.resolve_left (by decide))),
          fun h => (hJ.h7 (h.resolve_left (by decide))),
          fun h => (hJ.h8 (h.resolve_left (by decide))),
          fun h => (hJ.h9 (h.resolve_left (by decide))),
          fun h => (hJ.h10 (h.resolve_left (by decide))),
          fun h => (hJ.h11 (h.resolve_left (by decide))),
          fun h => (hJ.h12 (h.resolve_left (by decide))),
          fun h1 h2 => hJ.hD (h1.resolve_left (by decide)) (h2.resolve_left (by decide))⟩
    · have n10 : ¬ S 10 := fun h => by
        have h2 : S 1 ∧ S 5 ∧ S 9 ∧ True := hcl 10 _ rfl h
        exact hni h2.1
      have n12 : ¬ S 12 := fun h => by
        have h2 : S 11 ∧ S 10 ∧ S 9 ∧ S 0 ∧ S 1 ∧ S 2 ∧ S 3 ∧ S 4 ∧ S 5 ∧ S 6 ∧ S 7 ∧ S 8 ∧ S 9 ∧ S 10 ∧ S 11 ∧ True := hcl 12 _ rfl h
        exact hni h2.2.2.2.2.1
      have ho2 : some _ = some o := ho
      obtain rfl := Option.some.inj ho2
      clear ho ho2
      have hd2 : S 0 ∧ True := hd
      obtain ⟨d0, _⟩ := hd2
      have e0 := hJ.h0 d0
      subst e0
      obtain ⟨v_0, v_1, v_2, v_3, v_4, v_5⟩ := (k_v.below hJ.hB).facts
      go_simp
      refine hK.out _ _ ⟨_, _, _, _, _, _, _, _, _, _, _, _, xb, gX, gY, rfl, ?_⟩
      exact ⟨hJ.hB,
          fun h => (hJ.h0 (h.resolve_left (by decide))),
          fun _ => rfl,
          fun h => (hJ.h2 (h.resolve_left (by decide))),
          fun h => (hJ.h3 (h.resolve_left (by decide))),
          fun h => (hJ.h4 (h.resolve_left (by decide))),
          fun h => (hJ.h5 (h.resolve_left (by decide))),
          fun h => (hJ.h6 (h.resolve_left (by decide))),
          fun h => (hJ.h7 (h.resolve_left (by decide))),
          fun h => (hJ.h8 (h.resolve_left (by decide))),
          fun h => (hJ.h9 (h.resolve_left (by decide))),
          fun h => absurd (h.resolve_left (by decide)) n10,
          fun h => (hJ.h11 (h.resolve_left (by decide))),
          fun h => absurd (h.resolve_left (by decide)) n12,
          fun h1 h2 => hJ.hD (h1.resolve_left (by decide)) (h2.resolve_left (by decide))⟩
    · have ho2 : some _ = some o := ho
      obtain rfl := Option.some.inj ho2
      clear ho ho2
      go_simp
      refine hK.out _ _ ⟨_, _, _, _, _, _, _, _, _, _, _, _, xb, gX, gY, rfl, ?_⟩
      exact ⟨hJ.hB.trans ((below_alloc w1 _).mono hJ.hB.size),
          fun h => (hJ.h0 (h.resolve_left (by decide))),
          fun h => (hJ.h1 (h.resolve_left (by decide))),
          fun _ => ⟨_, rfl⟩,
          fun h => (hJ.h3 (h.resolve_left (by decide))),
          fun h => (hJ.h4 (h.resolve_left (by decide))),
          fun h => let ⟨X, c, e, n, f⟩ := (hJ.h5 (h.resolve_left (by decide))); ⟨X, c, e, n.below (below_alloc w1 _), fun h0 => ⟨(f h0).1, Nat.lt_of_lt_of_le (f h0).2 (below_alloc w1 _).size⟩⟩,
          fun h => (hJ.h6 (h.resolve_left (by decide))),
          fun h => (hJ.h7 (h.resolve_left (by decide))),
          fun h => (hJ.h8 (h.resolve_left (by decide))),
          fun h => let ⟨X, c, e, n, f⟩ := (hJ.h9 (h.resolve_left (by decide))); ⟨X, c, e, n.below (below_alloc w1 _), fun h0 => ⟨(f h0).1, Nat.lt_of_lt_of_le (f h0).2 (below_alloc w1 _).size⟩⟩,
          fun h => (hJ.h10 (h.resolve_left (by decide))),
          fun h => let ⟨e, l, z, k⟩ := (hJ.h11 (h.resolve_left (by decide))); ⟨e, l, z, k.below (below_alloc w1 _)⟩,
          fun h => (hJ.h12 (h.resolve_left (by decide))).below (below_alloc w1 _),
          fun h1 h2 => hJ.hD (h1.resolve_left (by decide)) (h2.resolve_left (by decide))⟩
    · have ho2 : some _ = some o := ho
      obtain rfl := Option.some.inj ho2
      clear ho ho2
      go_simp
      refine hK.out _ _ ⟨_, _, _, _, _, _, _, _, _, _, _, _, xb, gX, gY, rfl, ?_⟩
      exact ⟨hJ.hB,
          fun h => (hJ.h0 (h.resolve_left (by decide))),
          fun h => (hJ.h1 (h.resolve_left (by decide))),
          fun h => (hJ.h2 (h.resolve_left (by decide))),
          fun _ => rfl,
          fun h => (hJ.h4 (h.resolve_left (by decide))),
          fun h => (hJ.h5 (h.resolve_left (by decide))),
          fun h => (hJ.h6 (h.resolve_left (by decide))),
          fun h => (hJ.h7 (h.resolve_left (by decide))),
          fun h => (hJ.h8 (h.resolve_left (by decide))),
          fun h => (hJ.h9 (h.resolve_left (by decide))),
          fun h => (hJ.h10 (h.resolve_left (by decide))),
          fun h => (hJ.h11 (h.resolve_left (by decide))),
          fun h => (hJ.h12 (h.resolve_left (by decide))),
          fun h1 h2 => hJ.hD (h1.resolve_left (by decide)) (h2.resolve_left (by decide))⟩
    · have ho2 : some _ = some o := ho
      obtain rfl := Option.some.inj ho2
      clear ho ho2
      have hd2 : S 3 ∧ True := hd
      obtain ⟨d3, _⟩ := hd2
      have e3 := hJ.h3 d3
      subst e3
      obtain ⟨v_0, v_1, v_2, v_3, v_4, v_5⟩ := (k_v.below hJ.hB).facts
      go_simp
      refine hK.out _ _ ⟨_, _, _, _, _, _, _, _, _, _, _, _, xb, gX, gY, rfl, ?_⟩
      exact ⟨hJ.hB,
          fun h => (hJ.h0 (h.resolve_left (by decide))),
          fun h => (hJ.h1 (h.resolve_left (by decide))),
          fun h => (hJ.h2 (h.resolve_left (by decide))),
          fun h => (hJ.h3 (h.resolve_left (by decide))),
          fun _ => rfl,
          fun h => (hJ.h5 (h.resolve_left (by decide))),
          fun h => (hJ.h6 (h.resolve_left (by decide))),
          fun h => (hJ.h7 (h.resolve_left (by decide))),
          fun h => (hJ.h8 (h.resolve_left (by decide))),
          fun h => (hJ.h9 (h.resolve_left (by decide))),
          fun h => (hJ.h10 (h.resolve_left (by decide))),
          fun h => (hJ.h11 (h.resolve_left (by decide))),
          fun h => (hJ.h12 (h.resolve_left (by decide))),
          fun h1 h2 => hJ.hD (h1.resolve_left (by decide)) (h2.resolve_left (by decide))⟩
    · have n10 : ¬ S 10 := fun h => by
        have h2 : S 1 ∧ S 5 ∧ S 9 ∧ True := hcl 10 _ rfl h
        exact hni h2.2.1
      have n12 : ¬ S 12 := fun h => by
        have h2 : S 11 ∧ S 10 ∧ S 9 ∧ S 0 ∧ S 1 ∧ S 2 ∧ S 3 ∧ S 4 ∧ S 5 ∧ S 6 ∧ S 7 ∧ S 8 ∧ S 9 ∧ S 10 ∧ S 11 ∧ True := hcl 12 _ rfl h
        exact hni h2.2.2.2.2.2.2.2.2.1
      have ho2 : some _ = some o := ho
      obtain rfl := Option.some.inj ho2
      clear ho ho2
      have hd2 : S 2 ∧ S 4 ∧ True := hd
      obtain ⟨d2, d4, _⟩ := hd2
      obtain ⟨A0, ez⟩ := hJ.h2 d2
      have es := hJ.h4 d4
      subst ez es
      refine step_app0 (A0 := A0) (A' := v.A) (m := v.n) (c' := v.c) (k := a) rfl _ _ rfl rfl rfl (ra.below hJ.hB) (by omega) ?_
      intro X cX w2 hX hb
      obtain ⟨g, hg⟩ := hX.blk
      refine hK.out _ _ ⟨_, _, _, _, _, _, _, _, _, _, _, _, xb, g, gY, rfl, ?_⟩
      exact ⟨hJ.hB.trans (hb.mono hJ.hB.size),
          fun h => (hJ.h0 (h.resolve_left (by decide))),
          fun h => (hJ.h1 (h.resolve_left (by decide))),
          fun h => (hJ.h2 (h.resolve_left (by decide))),
          fun h => (hJ.h3 (h.resolve_left (by decide))),
          fun h => (hJ.h4 (h.resolve_left (by decide))),
          fun _ => ⟨X, cX, rfl, hX.lower hJ.hB.size, fun h0 => ⟨(hg h0).1, (hg h0).2.2⟩⟩,
          fun h => (hJ.h6 (h.resolve_left (by decide))),
          fun h => (hJ.h7 (h.resolve_left (by decide))),
          fun h => (hJ.h8 (h.resolve_left (by decide))),
          fun h => let ⟨X, c, e, n, f⟩ := (hJ.h9 (h.resolve_left (by decide))); ⟨X, c, e, n.below hb, fun h0 => ⟨(f h0).1, Nat.lt_of_lt_of_le (f h0).2 hb.size⟩⟩,
          fun h => absurd (h.resolve_left (by decide)) n10,
          fun h => let ⟨e, l, z, k⟩ := (hJ.h11 (h.resolve_left (by decide))); ⟨e, l, z, k.below hb⟩,
          fun h => absurd (h.resolve_left (by decide)) n12,
          fun _ h2 hn hm => Nat.ne_of_gt (let ⟨_, _, _, _, f⟩ := hJ.h9 (h2.resolve_left (by decide)); Nat.lt_of_lt_of_le (f hm).2 (hg hn).2.1)⟩
    · have ho2 : some _ = some o := ho
      obtain rfl := Option.some.inj ho2
      clear ho ho2
      go_simp
      refine hK.out _ _ ⟨_, _, _, _, _, _, _, _, _, _, _, _, xb, gX, gY, rfl, ?_⟩
      exact ⟨hJ.hB.trans ((below_alloc w1 _).mono hJ.hB.size),
          fun h => (hJ.h0 (h.resolve_left (by decide))),
          fun h => (hJ.h1 (h.resolve_left (by decide))),
          fun h => (hJ.h2 (h.resolve_left (by decide))),
          fun h => (hJ.h3 (h.resolve_left (by decide))),
          fun h => (hJ.h4 (h.resolve_left (by decide))),
          fun h => let ⟨X, c, e, n, f⟩ := (hJ.h5 (h.resolve_left (by decide))); ⟨X, c, e, n.below (below_alloc w1 _), fun h0 => ⟨(f h0).1, Nat.lt_of_lt_of_le (f h0).2 (below_alloc w1 _).size⟩⟩,
          fun _ => ⟨_, rfl⟩,
          fun h => (hJ.h7 (h.resolve_left (by decide))),
          fun h => (hJ.h8 (h.resolve_left (by decide))),
          fun h => let ⟨X, c, e, n, f⟩ := (hJ.h9 (h.resolve_left (by decide))); ⟨X, c, e, n.below (below_alloc w1 _), fun h0 => ⟨(f h0).1, Nat.lt_of_lt_of_le (f h0).2 (below_alloc w1 _).size⟩⟩,
          fun h => (hJ.h10 (h.resolve_left (by decide))),
          fun h => let ⟨e, l, z, k⟩ := (hJ.h11 (h.resolve_left (by decide))); ⟨e, l, z, k.below (below_alloc w1 _)⟩,
          fun h => (hJ.h12 (h.resolve_left (by decide))).below (below_alloc w1 _),
          fun h1 h2 => hJ.hD (h1.resolve_left (by decide)) (h2.resolve_left (by decide))⟩
    · have ho2 : some _ = some o := ho
      obtain rfl := Option.some.inj ho2
      clear ho ho2
      go_simp
      refine hK.out _ _ ⟨_, _, _, _, _, _, _, _, _, _, _, _, xb, gX, gY, rfl, ?_⟩
      exact ⟨hJ.hB,
          fun h => (hJ.h0 (h.resolve_left (by decide))),
          fun h => (hJ.h1 (h.resolve_left (by decide))),
          fun h => (hJ.h2 (h.resolve_left (by decide))),
          fun h => (hJ.h3 (h.resolve_left (by decide))),
          fun h => (hJ.h4 (h.resolve_left (by decide))),
          fun h => (hJ.h5 (h.resolve_left (by decide))),
          fun h => (hJ.h6 (h.resolve_left (by decide))),
          fun _ => rfl,
          fun h => (hJ.h8 (h.resolve_left (by decide))),
          fun h => (hJ.h9 (h.resolve_left (by decide))),
          fun h => (hJ.h10 (h.resolve_left (by decide))),
          fun h => (hJ.h11 (h.resolve_left (by decide))),
          fun h => (hJ.h12 (h.resolve_left (by decide))),
          fun h1 h2 => hJ.hD (h1.resolve_left (by decide)) (h2.resolve_left (by decide))⟩
    · have ho2 : some _ = some o := ho
      obtain rfl := Option.some.inj ho2
      clear ho ho2
      have hd2 : S 7 ∧ True := hd
      obtain ⟨d7, _⟩ := hd2
      have e7 := hJ.h7 d7
      subst e7
      obtain ⟨v_0, v_1, v_2, v_3, v_4, v_5⟩ := (k_v.below hJ.hB).facts
      go_simp
      refine hK.out _ _ ⟨_, _, _, _, _, _, _, _, _, _, _, _, xb, gX, gY, rfl, ?_⟩
      exact ⟨hJ.hB,
          fun h => (hJ.h0 (h.resolve_left (by decide))),
          fun h => (hJ.h1 (h.resolve_left (by decide))),
          fun h => (hJ.h2 (h.resolve_left (by decide))),
          fun h => (hJ.h3 (h.resolve_left (by decide))),
          fun h => (hJ.h4 (h.resolve_left (by decide))),
          fun h => (hJ.h5 (h.resolve_left (by decide))),
          fun h => (hJ.h6 (h.resolve_left (by decide))),
          fun h => (hJ.h7 (h.resolve_left (by decide))),
          fun _ => rfl,
          fun h => (hJ.h9 (h.resolve_left (by decide))),
          fun h => (hJ.h10 (h.resolve_left (by decide))),
          fun h => (hJ.h11 (h.resolve_left (by decide))),
          fun h => (hJ.h12 (h.resolve_left (by decide))),
          fun h1 h2 => hJ.hD (h1.resolve_left (by decide)) (h2.resolve_left (by decide))⟩
    · have n10 : ¬ S 10 := fun h => by
        have h2 : S 1 ∧ S 5 ∧ S 9 ∧ True := hcl 10 _ rfl h
        exact hni h2.2.2.1
      have n12 : ¬ S 12 := fun h => by
        have h2 : S 11 ∧ S 10 ∧ S 9 ∧ S 0 ∧ S 1 ∧ S 2 ∧ S 3 ∧ S 4 ∧ S 5 ∧ S 6 ∧ S 7 ∧ S 8 ∧ S 9 ∧ S 10 ∧ S 11 ∧ True := hcl 12 _ rfl h
        exact hni h2.2.2.1
      have ho2 : some _ = some o := ho
      obtain rfl := Option.some.inj ho2
      clear ho ho2
      have hd2 : S 6 ∧ S 8 ∧ S 5 ∧ True := hd
      obtain ⟨d6, d8, d5, _⟩ := hd2
      obtain ⟨A0, ez⟩ := hJ.h6 d6
      have es := hJ.h8 d8
      subst ez es
      refine step_app0 (A0 := A0) (A' := v.B) (m := v.m) (c' := v.d) (k := b) rfl _ _ rfl rfl rfl (rb.below hJ.hB) (by omega) ?_
      intro X cX w2 hX hb
      obtain ⟨g, hg⟩ := hX.blk
      refine hK.out _ _ ⟨_, _, _, _, _, _, _, _, _, _, _, _, xb, gX, g, rfl, ?_⟩
      exact ⟨hJ.hB.trans (hb.mono hJ.hB.size),
          fun h => (hJ.h0 (h.resolve_left (by decide))),
          fun h => (hJ.h1 (h.resolve_left (by decide))),
          fun h => (hJ.h2 (h.resolve_left (by decide))),
          fun h => (hJ.h3 (h.resolve_left (by decide))),
          fun h => (hJ.h4 (h.resolve_left (by decide))),
          fun h => let ⟨X, c, e, n, f⟩ := (hJ.h5 (h.resolve_left (by decide))); ⟨X, c, e, n.below hb, fun h0 => ⟨(f h0).1, Nat.lt_of_lt_of_le (f h0).2 hb.size⟩⟩,
          fun h => (hJ.h6 (h.resolve_left (by decide))),
          fun h => (hJ.h7 (h.resolve_left (by decide))),
          fun h => (hJ.h8 (h.resolve_left (by decide))),
          fun _ => ⟨X, cX, rfl, hX.lower hJ.hB.size, fun h0 => ⟨(hg h0).1, (hg h0).2.2⟩⟩,
          fun h => absurd (h.resolve_left (by decide)) n10,
          fun h => let ⟨e, l, z, k⟩ := (hJ.h11 (h.resolve_left (by decide))); ⟨e, l, z, k.below hb⟩,
          fun h => absurd (h.resolve_left (by decide)) n12,
          fun h1 _ hn hm => Nat.ne_of_lt (let ⟨_, _, _, _, f⟩ := hJ.h5 (h1.resolve_left (by decide)); Nat.lt_of_lt_of_le (f hn).2 (hg hm).2.1)⟩
    · have ho2 : some _ = some o := ho
      obtain rfl := Option.some.inj ho2
      clear ho ho2
      have hd2 : S 1 ∧ S 5 ∧ S 9 ∧ True := hd
      obtain ⟨d1, d5, d9, _⟩ := hd2
      have e15 := hJ.h1 d1
      obtain ⟨X, cX, eX, _, _⟩ := hJ.h5 d5
      obtain ⟨Y, cY, eY, _, _⟩ := hJ.h9 d9
      subst e15 eX eY
      go_simp
      refine hK.out _ _ ⟨_, _, _, _, _, _, _, _, _, _, _, _, xb, gX, gY, rfl, ?_⟩
      exact ⟨hJ.hB,
          fun h => (hJ.h0 (h.resolve_left (by decide))),
          fun h => (hJ.h1 (h.resolve_left (by decide))),
          fun h => (hJ.h2 (h.resolve_left (by decide))),
          fun h => (hJ.h3 (h.resolve_left (by decide))),
          fun h => (hJ.h4 (h.resolve_left (by decide))),
          fun h => (hJ.h5 (h.resolve_left (by decide))),
          fun h => (hJ.h6 (h.resolve_left (by decide))),
          fun h => (hJ.h7 (h.resolve_left (by decide))),
          fun h => (hJ.h8 (h.resolve_left (by decide))),
          fun h => (hJ.h9 (h.resolve_left (by decide))),
          fun _ => rfl,
          fun h => (hJ.h11 (h.resolve_left (by decide))),
          fun h => (hJ.h12 (h.resolve_left (by decide))),
          fun h1 h2 => hJ.hD (h1.resolve_left (by decide)) (h2.resolve_left (by decide))⟩
    · have ho2 : some _ = some o := ho
      obtain rfl := Option.some.inj ho2
      clear ho ho2
      have n12b : ¬ S 12 := fun h => by
            have h2 : S 11 ∧ S 10 ∧ S 9 ∧ S 0 ∧ S 1 ∧ S 2 ∧ S 3 ∧ S 4 ∧ S 5 ∧ S 6 ∧ S 7 ∧ S 8 ∧ S 9 ∧ S 10 ∧ S 11 ∧ True := hcl 12 _ rfl h
            exact hni h2.1
      go_simp
      refine hK.out _ _ ⟨_, _, _, _, _, _, _, _, _, _, _, _, w1.heap.size, gX, gY, rfl, ?_⟩
      exact ⟨hJ.hB.trans ((below_alloc w1 _).mono hJ.hB.size),
          fun h => (hJ.h0 (h.resolve_left (by decide))),
          fun h => (hJ.h1 (h.resolve_left (by decide))),
          fun h => (hJ.h2 (h.resolve_left (by decide))),
          fun h => (hJ.h3 (h.resolve_left (by decide))),
          fun h => (hJ.h4 (h.resolve_left (by decide))),
          fun h => let ⟨X, c, e, n, f⟩ := (hJ.h5 (h.resolve_left (by decide))); ⟨X, c, e, n.below (below_alloc w1 _), fun h0 => ⟨(f h0).1, Nat.lt_of_lt_of_le (f h0).2 (below_alloc w1 _).size⟩⟩,
          fun h => (hJ.h6 (h.resolve_left (by decide))),
          fun h => (hJ.h7 (h.resolve_left (by decide))),
          fun h => (hJ.h8 (h.resolve_left (by decide))),
          fun h => let ⟨X, c, e, n, f⟩ := (hJ.h9 (h.resolve_left (by decide))); ⟨X, c, e, n.below (below_alloc w1 _), fun h0 => ⟨(f h0).1, Nat.lt_of_lt_of_le (f h0).2 (below_alloc w1 _).size⟩⟩,
          fun h => (hJ.h10 (h.resolve_left (by decide))),
          fun _ => ⟨rfl, hJ.hB.size, ⟨false, none, 0, 0, none, 0, 0⟩, C3.new w1 _ _ _⟩,
          fun h => absurd (h.resolve_left (by decide)) n12b,
          fun h1 h2 => hJ.hD (h1.resolve_left (by decide)) (h2.resolve_left (by decide))⟩
    · have ho2 : some _ = some o := ho
      obtain rfl := Option.some.inj ho2
      clear ho ho2
      have hd2 : S 11 ∧ S 10 ∧ S 9 ∧ S 0 ∧ S 1 ∧ S 2 ∧ S 3 ∧ S 4 ∧ S 5 ∧ S 6 ∧ S 7 ∧ S 8 ∧ S 9 ∧ S 10 ∧ S 11 ∧ True := hd
      obtain ⟨d11, d10, d9, d0, d1, d2, d3, d4, d5, d6, d7, d8, d9, d10, d11, _⟩ := hd2
      obtain ⟨e5, hl, z, kz⟩ := hJ.h11 d11
      have e24 := hJ.h10 d10
      have e15 := hJ.h1 d1
      obtain ⟨X, cX, eX, _, _⟩ := hJ.h5 d5
      obtain ⟨Y, cY, eY, _, _⟩ := hJ.h9 d9
      subst e15 eX eY
      subst e24 e5
      obtain ⟨z_0, z_1, z_2, z_3, z_4, z_5⟩ := kz.facts
      go_simp
      refine hK.out _ _ ⟨_, _, _, _, _, _, _, _, _, _, _, _, xb, gX, gY, rfl, ?_⟩
      exact ⟨hJ.hB.trans (put3_below hl _ _ _),
          fun h => (hJ.h0 (h.resolve_left (by decide))),
          fun h => (hJ.h1 (h.resolve_left (by decide))),
          fun h => (hJ.h2 (h.resolve_left (by decide))),
          fun h => (hJ.h3 (h.resolve_left (by decide))),
          fun h => (hJ.h4 (h.resolve_left (by decide))),
          fun h => let ⟨X, c, e, n, f⟩ := (hJ.h5 (h.resolve_left (by decide))); ⟨X, c, e, n.putC kz _ _ _, fun h0 => ⟨(f h0).1, by simpa using (f h0).2⟩⟩,
          fun h => (hJ.h6 (h.resolve_left (by decide))),
          fun h => (hJ.h7 (h.resolve_left (by decide))),
          fun h => (hJ.h8 (h.resolve_left (by decide))),
          fun h => let ⟨X, c, e, n, f⟩ := (hJ.h9 (h.resolve_left (by decide))); ⟨X, c, e, n.putC kz _ _ _, fun h0 => ⟨(f h0).1, by simpa using (f h0).2⟩⟩,
          fun h => (hJ.h10 (h.resolve_left (by decide))),
          fun h => ⟨rfl, hl, ⟨v.s, X, v.n, cX, Y, v.m, cY⟩, kz.put _ _ _⟩,
          fun _ => kz.put _ _ _,
          fun h1 h2 => hJ.hD (h1.resolve_left (by decide)) (h2.resolve_left (by decide))⟩
  · rintro S a' w1 ⟨t14, t15, t16, t17, t18, t19, t20, t21, t22, t23, t24, t5, xb, gX, gY, rfl, hJ⟩ hall
    have HB1 := hJ.hB
    obtain ⟨e5, hl, _⟩ := hJ.h11 (hall 11 (show 11 < 13 by decide))
    obtain ⟨X, cX, eX, h_X, hgX⟩ := hJ.h5 (hall 5 (show 5 < 13 by decide))
    obtain ⟨Y, cY, eY, h_Y, hgY⟩ := hJ.h9 (hall 9 (show 9 < 13 by decide))
    have e15 := hJ.h1 (hall 1 (show 1 < 13 by decide))
    have k_x := hJ.h12 (hall 12 (show 12 < 13 by decide))
    have hXY := hJ.hD (hall 5 (show 5 < 13 by decide)) (hall 9 (show 9 < 13 by decide))
    clear hJ hall
    subst e5 eX eY e15
    replace k_v := k_v.below HB1
    replace k_u := k_u.below HB1
    have hsz1 := HB1.size
    have h_x : Rw w1 ⟨v.s, X, v.n, cX, Y, v.m, cY⟩ r 16 := ⟨h_X.cap, h_Y.cap, q3, q4, a, b, h_X.row.lower (Nat.zero_le _), h_Y.row.lower (Nat.zero_le _), hr⟩
    replace h_u := h_u.below HB1
    obtain ⟨x, hx⟩ : ∃ x : Rv, x = ⟨v.s, X, v.n, cX, Y, v.m, cY⟩ := ⟨_, rfl⟩
    replace k_x : C3 w1 xb (.bool x.s) (.slice x.A x.n x.c) (.slice x.B x.m x.d) := by rw [hx]; exact k_x
    rw [← hx] at h_x
    replace hx := Lib.hid hx
    go_upto_region 4 with fail
    refine region_inv (fun S a' w' => ∃ (t25 : Value) (t26 : Value) (t27 : Value) (t28 : Value) (t29 : Value) (t6 : Value) (t7 : Value) (nb : Nat) (sb : Nat), a' = { tmps := List.toArray (.agg #[.bool v.s, .slice v.A v.n v.c, .slice v.B v.m v.d] :: .agg #[.bool u.s, .slice u.A u.n u.c, .slice u.B u.m u.d] :: (.pointer (some ⟨w.heap.size, 0, none⟩)) :: (.pointer (some ⟨w.heap.size + 1, 0, none⟩)) :: (.bool false) :: (.pointer (some ⟨xb, 0, none⟩)) :: t6 :: t7 :: undef :: undef :: .agg #[.bool v.s, .slice v.A v.n v.c, .slice v.B v.m v.d] :: .agg #[.bool u.s, .slice u.A u.n u.c, .slice u.B u.m u.d] :: (.slice (some ⟨w.heap.size + 1 + 1, 0, none⟩) 2 2) :: (.bool false) :: t14 :: (.bool v.s) :: t16 :: t17 :: t18 :: (.slice X v.n cX) :: t20 :: t21 :: t22 :: (.slice Y v.m cY) :: t24 :: t25 :: t26 :: t27 :: t28 :: t29 :: undef :: undef :: undef :: undef :: undef :: undef :: undef :: undef :: undef :: undef :: undef :: undef :: undef :: undef :: undef :: undef :: undef :: undef :: undef :: undef :: undef :: undef :: undef :: undef :: undef :: undef :: undef :: undef :: undef :: undef :: undef :: undef :: undef :: undef :: undef :: undef :: undef :: undef :: undef :: undef :: undef :: undef :: undef :: undef :: undef :: undef :: undef :: undef :: []), defers := [] } ∧ RO4 w1 x u r s S t25 t26 t27 t28 t29 t6 t7 nb sb w') (by kernel_rfl) (by kernel_rfl) ?_ ?_ ?_
    · exact ⟨undef, undef, undef, undef, undef, undef, undef, 0, 0, rfl, { hB := (Below.refl _ _).drew, h0 := fun h => h.elim, h1 := fun h => h.elim, h2 := fun h => h.elim, h3 := fun h => h.elim, h4 := fun h => h.elim, h5 := fun h => h.elim, h6 := fun h => h.elim, h7 := fun h => h.elim, h8 := fun h => h.elim, hD := fun h => h.elim }⟩
    · rintro i o S a' w2 ho ⟨t25, t26, t27, t28, t29, t6, t7, nb, sb, rfl, hJ⟩ hni hcl hd K hK
      have hi : i < 9 := (Array.getElem?_eq_some_iff.1 ho).1
      have hi2 : i = 0 ∨ i = 1 ∨ i = 2 ∨ i = 3 ∨ i = 4 ∨ i = 5 ∨ i = 6 ∨ i = 7 ∨ i = 8 := by omega
      replace hK := Go.Lib.hid hK
      clear hi
      rcases hi2 with rfl | rfl | rfl | rfl | rfl | rfl | rfl | rfl | rfl
      · have ho2 : some _ = some o := ho
        obtain rfl := Option.some.inj ho2
        clear ho ho2
        obtain ⟨x_0, x_1, x_2, x_3, x_4, x_5⟩ := (k_x.below hJ.hB).facts
        go_simp
        refine hK.out _ _ ⟨_, _, _, _, _, _, _, nb, sb, rfl, ?_⟩
        exact ⟨hJ.hB,
            fun _ => rfl,
            fun h => (hJ.h1 (h.resolve_left (by decide))),
            fun h => (hJ.h2 (h.resolve_left (by decide))),
            fun h => (hJ.h3 (h.resolve_left (by decide))),
            fun h => (hJ.h4 (h.resolve_left (by decide))),
            fun h => (hJ.h5 (h.resolve_left (by decide))),
            fun h => (hJ.h6 (h.resolve_left (by decide))),
            fun h => (hJ.h7 (h.resolve_left (by decide))),
            fun h => (hJ.h8 (h.resolve_left (by decide))),
            fun h1 h2 => hJ.hD (h1.resolve_left (by decide)) (h2.resolve_left (by decide))⟩
      · have n7 : ¬ S 7 := fun h => by
          have h2 : S 5 ∧ S 1 ∧ S 4 ∧ S 0 ∧ S 1 ∧ S 5 ∧ S 6 ∧ True := hcl 7 _ rfl h
          exact hni h2.2.1
        have ho2 : some _ = some o := ho
        obtain rfl := Option.some.inj ho2
        clear ho ho2
        have hd2 : S 0 ∧ True := hd
        obtain ⟨d0, _⟩ := hd2
        have e0 := hJ.h0 d0
        subst e0
        go_simp
        refine (Norm_any x r w2 ((h_x.below hJ.hB).more (show 16 ≤ 5000 by omega))).mono ?_
        rintro e w3 ⟨p, rfl, ht, hb⟩
        try go_wp2_with fail
        refine hK.out _ _ ⟨_, _, _, _, _, _, _, nb, sb, rfl, ?_⟩
        exact ⟨hJ.hB.trans (hb.mono hJ.hB.size),
            fun h => (hJ.h0 (h.resolve_left (by decide))),
            fun _ => ⟨p, rfl, ht.lower hJ.hB.size⟩,
            fun h => (hJ.h2 (h.resolve_left (by decide))),
            fun h => (hJ.h3 (h.resolve_left (by decide))),
            fun h => let ⟨p, e, t⟩ := (hJ.h4 (h.resolve_left (by decide))); ⟨p, e, t.below hb⟩,
            fun h => let ⟨e, l, z, k⟩ := (hJ.h5 (h.resolve_left (by decide))); ⟨e, l, z, k.below hb⟩,
            fun h => let ⟨e, l, z, k⟩ := (hJ.h6 (h.resolve_left (by decide))); ⟨e, l, z, k.below hb⟩,
            fun h => absurd (h.resolve_left (by decide)) n7,
            fun h => let ⟨p, e, k, t⟩ := (hJ.h8 (h.resolve_left (by decide))); ⟨p, e, k.below hb, t.below hb⟩,
            fun h1 h2 => hJ.hD (h1.resolve_left (by decide)) (h2.resolve_left (by decide))⟩
      · have ho2 : some _ = some o := ho
        obtain rfl := Option.some.inj ho2
        clear ho ho2
        obtain ⟨x_0, x_1, x_2, x_3, x_4, x_5⟩ := (k_x.below hJ.hB).facts
        go_simp
        refine hK.out _ _ ⟨_, _, _, _, _, _, _, nb, sb, rfl, ?_⟩
        exact ⟨hJ.hB,
            fun h => (hJ.h0 (h.resolve_left (by decide))),
            fun h => (hJ.h1 (h.resolve_left (by decide))),
            fun _ => rfl,
            fun h => (hJ.h3 (h.resolve_left (by decide))),
            fun h => (hJ.h4 (h.resolve_left (by decide))),
            fun h => (hJ.h5 (h.resolve_left (by decide))),
            fun h => (hJ.h6 (h.resolve_left (by decide))),
            fun h => (hJ.h7 (h.resolve_left (by decide))),
            fun h => (hJ.h8 (h.resolve_left (by decide))),
            fun h1 h2 => hJ.hD (h1.resolve_left (by decide)) (h2.resolve_left (by decide))⟩
      · have ho2 : some _ = some o := ho
        obtain rfl := Option.some.inj ho2
        clear ho ho2
        obtain ⟨u_0, u_1, u_2, u_3, u_4, u_5⟩ := (k_u.below hJ.hB).facts
        go_simp
        refine hK.out _ _ ⟨_, _, _, _, _, _, _, nb, sb, rfl, ?_⟩
        exact ⟨hJ.hB,
            fun h => (hJ.h0 (h.resolve_left (by decide))),
            fun h => (hJ.h1 (h.resolve_left (by decide))),
            fun h => (hJ.h2 (h.resolve_left (by decide))),
            fun _ => rfl,
            fun h => (hJ.h4 (h.resolve_left (by decide))),
            fun h => (hJ.h5 (h.resolve_left (by decide))),
            fun h => (hJ.h6 (h.resolve_left (by decide))),
            fun h => (hJ.h7 (h.resolve_left (by decide))),
            fun h => (hJ.h8 (h.resolve_left (by decide))),
            fun h1 h2 => hJ.hD (h1.resolve_left (by decide)) (h2.resolve_left (by decide))⟩
      · have n8 : ¬ S 8 := fun h => by
          have h2 : S 6 ∧ S 4 ∧ S 7 ∧ S 0 ∧ S 1 ∧ S 2 ∧ S 3 ∧ S 4 ∧ S 5 ∧ S 6 ∧ S 7 ∧ True := hcl 8 _ rfl h
          exact hni h2.2.1
        have ho2 : some _ = some o := ho
        obtain rfl := Option.some.inj ho2
        clear ho ho2
        have hd2 : S 2 ∧ S 3 ∧ S 1 ∧ True := hd
        obtain ⟨d2, d3, d1, _⟩ := hd2
        have e2 := hJ.h2 d2
        have e3 := hJ.h3 d3
        subst e2 e3
        go_simp
        refine (Add_c x u r s w2 ((h_x.below hJ.hB).more (show 16 ≤ 2000 by omega)) ((h_u.below hJ.hB).more (show 16 ≤ 2000 by omega))).mono ?_
        rintro e w3 ⟨q, rfl, ht, hb⟩
        try go_wp2_with fail
        refine hK.out _ _ ⟨_, _, _, _, _, _, _, nb, sb, rfl, ?_⟩
        exact ⟨hJ.hB.trans (hb.mono hJ.hB.size),
            fun h => (hJ.h0 (h.resolve_left (by decide))),
            fun h => let ⟨p, e, t⟩ := (hJ.h1 (h.resolve_left (by decide))); ⟨p, e, t.below hb⟩,
            fun h => (hJ.h2 (h.resolve_left (by decide))),
            fun h => (hJ.h3 (h.resolve_left (by decide))),
            fun _ => ⟨q, rfl, ht.lower hJ.hB.size⟩,
            fun h => let ⟨e, l, z, k⟩ := (hJ.h5 (h.resolve_left (by decide))); ⟨e, l, z, k.below hb⟩,
            fun h => let ⟨e, l, z, k⟩ := (hJ.h6 (h.resolve_left (by decide))); ⟨e, l, z, k.below hb⟩,
            fun h => let ⟨p, e, k, t⟩ := (hJ.h7 (h.resolve_left (by decide))); ⟨p, e, k.below hb, t.below hb⟩,
            fun h => absurd (h.resolve_left (by decide)) n8,
            fun h1 h2 => hJ.hD (h1.resolve_left (by decide)) (h2.resolve_left (by decide))⟩
      · have ho2 : some _ = some o := ho
        obtain rfl := Option.some.inj ho2
        clear ho ho2
        have n7b : ¬ S 7 := fun h => by
            have h2 : S 5 ∧ S 1 ∧ S 4 ∧ S 0 ∧ S 1 ∧ S 5 ∧ S 6 ∧ True := hcl 7 _ rfl h
            exact hni h2.1
        go_simp
        refine hK.out _ _ ⟨_, _, _, _, _, _, _, w2.heap.size, sb, rfl, ?_⟩
        exact ⟨hJ.hB.trans ((below_alloc w2 _).mono hJ.hB.size),
            fun h => (hJ.h0 (h.resolve_left (by decide))),
            fun h => let ⟨p, e, t⟩ := (hJ.h1 (h.resolve_left (by decide))); ⟨p, e, t.below (below_alloc w2 _)⟩,
            fun h => (hJ.h2 (h.resolve_left (by decide))),
            fun h => (hJ.h3 (h.resolve_left (by decide))),
            fun h => let ⟨p, e, t⟩ := (hJ.h4 (h.resolve_left (by decide))); ⟨p, e, t.below (below_alloc w2 _)⟩,
            fun _ => ⟨rfl, hJ.hB.size, ⟨false, none, 0, 0, none, 0, 0⟩, C3.new w2 _ _ _⟩,
            fun h => let ⟨e, l, z, k⟩ := (hJ.h6 (h.resolve_left (by decide))); ⟨e, l, z, k.below (below_alloc w2 _)⟩,
            fun h => absurd (h.resolve_left (by decide)) n7b,
            fun h => let ⟨p, e, k, t⟩ := (hJ.h8 (h.resolve_left (by decide))); ⟨p, e, k.below (below_alloc w2 _), t.below (below_alloc w2 _)⟩,
            fun _ h2 => Nat.ne_of_gt (let ⟨_, _, _, k⟩ := hJ.h6 (h2.resolve_left (by decide)); k.lt)⟩
      · have ho2 : some _ = some o := ho
        obtain rfl := Option.some.inj ho2
        clear ho ho2
        have n8b : ¬ S 8 := fun h => by
            have h2 : S 6 ∧ S 4 ∧ S 7 ∧ S 0 ∧ S 1 ∧ S 2 ∧ S 3 ∧ S 4 ∧ S 5 ∧ S 6 ∧ S 7 ∧ True := hcl 8 _ rfl h
            exact hni h2.1
        go_simp
        refine hK.out _ _ ⟨_, _, _, _, _, _, _, nb, w2.heap.size, rfl, ?_⟩
        exact ⟨hJ.hB.trans ((below_alloc w2 _).mono hJ.hB.size),
            fun h => (hJ.h0 (h.resolve_left (by decide))),
            fun h => let ⟨p, e, t⟩ := (hJ.h1 (h.resolve_left (by decide))); ⟨p, e, t.below (below_alloc w2 _)⟩,
            fun h => (hJ.h2 (h.resolve_left (by decide))),
            fun h => (hJ.h3 (h.resolve_left (by decide))),
            fun h => let ⟨p, e, t⟩ := (hJ.h4 (h.resolve_left (by decide))); ⟨p, e, t.below (below_alloc w2 _)⟩,
            fun h => let ⟨e, l, z, k⟩ := (hJ.h5 (h.resolve_left (by decide))); ⟨e, l, z, k.below (below_alloc w2 _)⟩,
            fun _ => ⟨rfl, hJ.hB.size, ⟨false, none, 0, 0, none, 0, 0⟩, C3.new w2 _ _ _⟩,
            fun h => let ⟨p, e, k, t⟩ := (hJ.h7 (h.resolve_left (by decide))); ⟨p, e, k.below (below_alloc w2 _), t.below (below_alloc w2 _)⟩,
            fun h => absurd (h.resolve_left (by decide)) n8b,
            fun h1 _ => Nat.ne_of_lt (let ⟨_, _, _, k⟩ := hJ.h5 (h1.resolve_left (by decide)); k.lt)⟩
      · have ho2 : some _ = some o := ho
        obtain rfl := Option.some.inj ho2
        clear ho ho2
        have hd2 : S 5 ∧ S 1 ∧ S 4 ∧ S 0 ∧ S 1 ∧ S 5 ∧ S 6 ∧ True := hd
        obtain ⟨d5, d1, d4, d0, d1, d5, d6, _⟩ := hd2
        obtain ⟨e6, hl, z, kz⟩ := hJ.h5 d5
        obtain ⟨p, ep, hp⟩ := hJ.h1 d1
        subst e6 ep
        have hne : sb ≠ nb := Ne.symm (hJ.hD d5 d6)
        obtain ⟨z_0, z_1, z_2, z_3, z_4, z_5⟩ := kz.facts
        go_simp
        refine hK.out _ _ ⟨_, _, _, _, _, _, _, nb, sb, rfl, ?_⟩
        exact ⟨hJ.hB.trans (put3_below hl _ _ _),
            fun h => (hJ.h0 (h.resolve_left (by decide))),
            fun h => let ⟨p, e, t⟩ := (hJ.h1 (h.resolve_left (by decide))); ⟨p, e, t.putC kz _ _ _⟩,
            fun h => (hJ.h2 (h.resolve_left (by decide))),
            fun h => (hJ.h3 (h.resolve_left (by decide))),
            fun h => let ⟨p, e, t⟩ := (hJ.h4 (h.resolve_left (by decide))); ⟨p, e, t.putC kz _ _ _⟩,
            fun h => ⟨rfl, hl, p, kz.put _ _ _⟩,
            fun h => let ⟨e, l, z, k⟩ := (hJ.h6 (h.resolve_left (by decide))); ⟨e, l, z, k.putOther hne _ _ _⟩,
            fun _ => ⟨p, rfl, kz.put _ _ _, hp.putC kz _ _ _⟩,
            fun h => let ⟨p, e, k, t⟩ := (hJ.h8 (h.resolve_left (by decide))); ⟨p, e, k.putOther hne _ _ _, t.putC kz _ _ _⟩,
            fun h1 h2 => hJ.hD (h1.resolve_left (by decide)) (h2.resolve_left (by decide))⟩
      · have ho2 : some _ = some o := ho
        obtain rfl := Option.some.inj ho2
        clear ho ho2
        have hd2 : S 6 ∧ S 4 ∧ S 7 ∧ S 0 ∧ S 1 ∧ S 2 ∧ S 3 ∧ S 4 ∧ S 5 ∧ S 6 ∧ S 7 ∧ True := hd
        obtain ⟨d6, d4, d7, d0, d1, d2, d3, d4, d5, d6, d7, _⟩ := hd2
        obtain ⟨e7, hl, z, kz⟩ := hJ.h6 d6
        obtain ⟨q, eq, hq⟩ := hJ.h4 d4
        subst e7 eq
        have hne : nb ≠ sb := hJ.hD d5 d6
        obtain ⟨z_0, z_1, z_2, z_3, z_4, z_5⟩ := kz.facts
        go_simp
        refine hK.out _ _ ⟨_, _, _, _, _, _, _, nb, sb, rfl, ?_⟩
        exact ⟨hJ.hB.trans (put3_below hl _ _ _),
            fun h => (hJ.h0 (h.resolve_left (by decide))),
            fun h => let ⟨p, e, t⟩ := (hJ.h1 (h.resolve_left (by decide))); ⟨p, e, t.putC kz _ _ _⟩,
            fun h => (hJ.h2 (h.resolve_left (by decide))),
            fun h => (hJ.h3 (h.resolve_left (by decide))),
            fun h => let ⟨p, e, t⟩ := (hJ.h4 (h.resolve_left (by decide))); ⟨p, e, t.putC kz _ _ _⟩,
            fun h => let ⟨e, l, z, k⟩ := (hJ.h5 (h.resolve_left (by decide))); ⟨e, l, z, k.putOther hne _ _ _⟩,
            fun h => ⟨rfl, hl, q, kz.put _ _ _⟩,
            fun h => let ⟨p, e, k, t⟩ := (hJ.h7 (h.resolve_left (by decide))); ⟨p, e, k.putOther hne _ _ _, t.putC kz _ _ _⟩,
            fun _ => ⟨q, rfl, kz.put _ _ _, hq.putC kz _ _ _⟩,
            fun h1 h2 => hJ.hD (h1.resolve_left (by decide)) (h2.resolve_left (by decide))⟩
    · rintro S a' w2 ⟨t25, t26, t27, t28, t29, t6, t7, nb, sb, rfl, hJ⟩ hall
      have HB2 := hJ.hB
      obtain ⟨e6, hnl, _⟩ := hJ.h5 (hall 5 (show 5 < 9 by decide))
      obtain ⟨e7, hsl, _⟩ := hJ.h6 (hall 6 (show 6 < 9 by decide))
      obtain ⟨p, ep, k_p, ht_p⟩ := hJ.h7 (hall 7 (show 7 < 9 by decide))
      obtain ⟨q, eq, k_q, ht_q⟩ := hJ.h8 (hall 8 (show 8 < 9 by decide))
      have hne := hJ.hD (hall 5 (show 5 < 9 by decide)) (hall 6 (show 6 < 9 by decide))
      clear hJ hall
      subst e6 e7 ep eq
      replace h_X : NewR w0.heap.size w1 x.A x.c x.n a := by rw [hx.out]; exact h_X
      replace h_Y : NewR w0.heap.size w1 x.B x.d x.m b := by rw [hx.out]; exact h_Y
      replace hgX : 0 < x.n → x.A = some ⟨gX, 0, none⟩ ∧ gX < w1.heap.size := by rw [hx.out]; exact hgX
      replace hgY : 0 < x.m → x.B = some ⟨gY, 0, none⟩ ∧ gY < w1.heap.size := by rw [hx.out]; exact hgY
      replace hXY : 0 < x.n → 0 < x.m → gX ≠ gY := by rw [hx.out]; exact hXY
      have hxs : Hid (x.s = v.s) := by rw [hx.out]; exact rfl
      have hxn : x.n ≤ 16 := h_x.numLe
      have hxm : x.m ≤ 16 := h_x.denLe
      clear hx
      have hgx : 0 < x.n → gX ≠ xb := fun h0 => by
          obtain ⟨b', off, e, hn⟩ := h_X.row.apart k_x h0
          rw [(hgX h0).1] at e
          injection e with e
          injection e with e1 _
          rw [e1]; exact hn
      have hgy : 0 < x.m → gY ≠ xb := fun h0 => by
          obtain ⟨b', off, e, hn⟩ := h_Y.row.apart k_x h0
          rw [(hgY h0).1] at e
          injection e with e
          injection e with e1 _
          rw [e1]; exact hn
      have hgX0 : 0 < x.n → w0.heap.size ≤ gX := fun h0 => by
          obtain ⟨g, e, h1, _⟩ := (h_X.own h0).form h0
          rw [(hgX h0).1] at e
          injection e with e
          injection e with e1 _
          omega
      have hgY0 : 0 < x.m → w0.heap.size ≤ gY := fun h0 => by
          obtain ⟨g, e, h1, _⟩ := (h_Y.own h0).form h0
          rw [(hgY h0).1] at e
          injection e with e
          injection e with e1 _
          omega
      replace ra := ra.below HB1
      replace rb := rb.below HB1
      have h_v : Rw w1 v r 16 := ⟨q1, q2, q3, q4, a, b, ra, rb, hr⟩
      replace HB := HB.trans (HB1.mono HB.size)
      have HO := HB1.trans (HB2.mono HB1.size)
      have hs01 := HB1.size
      have hs12 := HB2.size
      replace HB := HB.trans (HB2.mono HB.size)
      replace k_v := k_v.below HB2
      replace k_u := k_u.below HB2
      replace k_x := k_x.below HB2
      replace h_x := h_x.below HB2
      replace h_u := h_u.below HB2
      replace h_v := h_v.below HB2
      replace h_X := h_X.below HB2
      replace h_Y := h_Y.below HB2
      replace ra := ra.below HB2
      replace rb := rb.below HB2
      clear HB1 HB2
      obtain ⟨x_0, x_1, x_2, x_3, x_4, x_5⟩ := k_x.facts
      obtain ⟨u_0, u_1, u_2, u_3, u_4, u_5⟩ := k_u.facts
      obtain ⟨v_0, v_1, v_2, v_3, v_4, v_5⟩ := k_v.facts
      go_wp2_with fail
      refine (Mul_c x u r s _ (h_x.more (show 16 ≤ 2000 by omega)) (h_u.more (show 16 ≤ 2000 by omega))).mono ?_
      rintro e w3 ⟨_, rfl, _, hb⟩
      replace HO := HO.trans (hb.mono HO.size)
      replace HB := HB.trans (hb.mono HB.size)
      replace k_v := k_v.below hb
      replace k_u := k_u.below hb
      replace k_x := k_x.below hb
      replace h_x := h_x.below hb
      replace h_u := h_u.below hb
      replace h_v := h_v.below hb
      replace h_X := h_X.below hb
      replace h_Y := h_Y.below hb
      replace ra := ra.below hb
      replace rb := rb.below hb
      replace k_p := k_p.below hb
      replace k_q := k_q.below hb
      replace ht_p := ht_p.below hb
      replace ht_q := ht_q.below hb
      clear x_0 x_1 x_2 x_3 x_4 x_5
      clear u_0 u_1 u_2 u_3 u_4 u_5
      clear v_0 v_1 v_2 v_3 v_4 v_5
      obtain ⟨x_0, x_1, x_2, x_3, x_4, x_5⟩ := k_x.facts
      obtain ⟨u_0, u_1, u_2, u_3, u_4, u_5⟩ := k_u.facts
      obtain ⟨v_0, v_1, v_2, v_3, v_4, v_5⟩ := k_v.facts
      clear hb
      go_wp2_with fail
      refine (Div_drop x u r s _ (h_x.more (show 16 ≤ 2000 by omega)) (h_u.more (show 16 ≤ 2000 by omega))).mono ?_
      rintro e w4 ⟨_, _, rfl, hb⟩
      replace HO := HO.trans (hb.mono HO.size)
      replace HB := HB.trans (hb.mono HB.size)
      replace k_v := k_v.below hb
      replace k_u := k_u.below hb
      replace k_x := k_x.below hb
      replace h_x := h_x.below hb
      replace h_u := h_u.below hb
      replace h_v := h_v.below hb
      replace h_X := h_X.below hb
      replace h_Y := h_Y.below hb
      replace ra := ra.below hb
      replace rb := rb.below hb
      replace k_p := k_p.below hb
      replace k_q := k_q.below hb
      replace ht_p := ht_p.below hb
      replace ht_q := ht_q.below hb
      clear x_0 x_1 x_2 x_3 x_4 x_5
      clear u_0 u_1 u_2 u_3 u_4 u_5
      clear v_0 v_1 v_2 v_3 v_4 v_5
      obtain ⟨x_0, x_1, x_2, x_3, x_4, x_5⟩ := k_x.facts
      obtain ⟨u_0, u_1, u_2, u_3, u_4, u_5⟩ := k_u.facts
      obtain ⟨v_0, v_1, v_2, v_3, v_4, v_5⟩ := k_v.facts
      clear hb
      go_wp2_with fail
      refine (Floor_c x r _ (h_x.more (show 16 ≤ 2000 by omega))).mono ?_
      rintro e w5 ⟨_, rfl, _, hb⟩
      replace HO := HO.trans (hb.mono HO.size)
      replace HB := HB.trans (hb.mono HB.size)
      replace k_v := k_v.below hb
      replace k_u := k_u.below hb
      replace k_x := k_x.below hb
      replace h_x := h_x.below hb
      replace h_u := h_u.below hb
      replace h_v := h_v.below hb
      replace h_X := h_X.below hb
      replace h_Y := h_Y.below hb
      replace ra := ra.below hb
      replace rb := rb.below hb
      replace k_p := k_p.below hb
      replace k_q := k_q.below hb
      replace ht_p := ht_p.below hb
      replace ht_q := ht_q.below hb
      clear x_0 x_1 x_2 x_3 x_4 x_5
      clear u_0 u_1 u_2 u_3 u_4 u_5
      clear v_0 v_1 v_2 v_3 v_4 v_5
      obtain ⟨x_0, x_1, x_2, x_3, x_4, x_5⟩ := k_x.facts
      obtain ⟨u_0, u_1, u_2, u_3, u_4, u_5⟩ := k_u.facts
      obtain ⟨v_0, v_1, v_2, v_3, v_4, v_5⟩ := k_v.facts
      clear hb
      go_wp2_with fail
      refine (one_rows x v a b _ hxs.out (h_X.row.lower (Nat.zero_le _)) (h_Y.row.lower (Nat.zero_le _)) ra rb (by omega) (by omega)).mono ?_
      rintro e w6 ⟨rfl, hb⟩
      replace HO := HO.trans (hb.mono HO.size)
      replace HB := HB.trans (hb.mono HB.size)
      replace k_v := k_v.below hb
      replace k_u := k_u.below hb
      replace k_x := k_x.below hb
      replace h_x := h_x.below hb
      replace h_u := h_u.below hb
      replace h_v := h_v.below hb
      replace h_X := h_X.below hb
      replace h_Y := h_Y.below hb
      replace ra := ra.below hb
      replace rb := rb.below hb
      replace k_p := k_p.below hb
      replace k_q := k_q.below hb
      replace ht_p := ht_p.below hb
      replace ht_q := ht_q.below hb
      clear x_0 x_1 x_2 x_3 x_4 x_5
      clear u_0 u_1 u_2 u_3 u_4 u_5
      clear v_0 v_1 v_2 v_3 v_4 v_5
      obtain ⟨x_0, x_1, x_2, x_3, x_4, x_5⟩ := k_x.facts
      obtain ⟨u_0, u_1, u_2, u_3, u_4, u_5⟩ := k_u.facts
      obtain ⟨v_0, v_1, v_2, v_3, v_4, v_5⟩ := k_v.facts
      clear hb
      obtain ⟨rX, hr1, hr2⟩ : ∃ rX : Option Nat, (∀ g, rX = some g → g = gX ∧ 0 < x.n) ∧ (0 < x.n → rX = some gX) := by
          by_cases h0 : 0 < x.n
          · exact ⟨some gX, fun g e => (by injection e with e; exact ⟨e.symm, h0⟩), fun _ => rfl⟩
          · exact ⟨none, fun g e => (by cases e), fun h => absurd h h0⟩
      have kx0 := Lib.hid k_x
      have hn0 := Lib.hid h_X
      have hg0 : Hid (w6.grownBy w6 rX) := World.grownBy.refl _ _
      go_wp2
      go_loopw [8] (fun iv wr => ∃ (k : Nat) (Lk : List Nat), k ≤ x.n ∧ iv = .int .i64 k ∧ Hid (NewR w0.heap.size wr x.A x.c x.n Lk) ∧ Hid (w6.grownBy wr rX) ∧ Hid (C3 wr xb (.bool x.s) (.slice x.A x.n x.c) (.slice x.B x.m x.d))) (fun iv _ => x.n - (intOf iv).toNat)
      case atStart => exact ⟨0, a, by omega, rfl, hn0, hg0, kx0⟩
      case round =>
        obtain ⟨k, Lk, hk, rfl, HN, HG, HC⟩ := hrel
        obtain ⟨x_0, x_1, x_2, x_3, x_4, x_5⟩ := HC.out.facts
        by_cases hkn : k < x.n
        · have h0 : 0 < x.n := by omega
          have hA := (hgX h0).1
          obtain ⟨b2, off2, hA2, h7, h8, hc2⟩ := HN.out.row.mem h0
          rw [hA] at hA2
          injection hA2 with hA2
          injection hA2 with e1 e2
          subst e1 e2
          have hcs := hc2 k hkn
          rw [Nat.zero_add] at hcs
          have hO := HN.out.own h0
          rw [hA] at hO
          have hfs := hO.own.frozenAt k
          have HN2 := HN.out
          rw [hA] at HN2
          replace HN2 := Lib.hid (HN2.set (j := k) (x := 7) h0 (by omega))
          have HG2 := Lib.hid (show w6.grownBy (wr.setCell ⟨gX, k, none⟩ (.int .u32 ((7 : Nat) : Int))) rX by rw [hr2 h0]; exact grown_set (by rw [← hr2 h0]; exact HG.out))
          have HC2 := Lib.hid (HC.out.setOther (b := gX) (Ne.symm (hgx h0)) k (.int .u32 ((7 : Nat) : Int)))
          replace HN2 : Hid (NewR w0.heap.size (wr.setCell ⟨gX, k, none⟩ (.int .u32 ((7 : Nat) : Int))) x.A x.c x.n (Lk.set k 7)) := by rw [hA]; exact HN2
          rw [hA] at x_1
          clear hc2 HN HG HC hO
          go_wp2
          go_roundw
          case rel => exact ⟨k + 1, _, by omega, by go_num, HN2, HG2, HC2⟩
          case measure => simp [intOf]; omega
        · have hG := HG.out
          have HO6 := below_row HO hG (fun g e => by obtain ⟨rfl, h0⟩ := hr1 g e; exact hgX0 h0) (Nat.le_refl _)
          have hY7 := h_Y.grown hG (fun h0 ad e => by rw [(hgY h0).1] at e; injection e with e; subst e; intro e2; obtain ⟨e3, h1⟩ := hr1 _ e2.symm; exact hXY h1 h0 e3.symm)
          have k7_p := k_p.grown hG (fun g e => by obtain ⟨rfl, h0⟩ := hr1 g e; have := (hgX h0).2; omega)
          have k7_q := k_q.grown hG (fun g e => by obtain ⟨rfl, h0⟩ := hr1 g e; have := (hgX h0).2; omega)
          have ht7_p := ht_p.keepRow hG (fun g e => by obtain ⟨rfl, h0⟩ := hr1 g e; exact (hgX h0).2)
          have ht7_q := ht_q.keepRow hG (fun g e => by obtain ⟨rfl, h0⟩ := hr1 g e; exact (hgX h0).2)
          obtain ⟨rY, hs1, hs2⟩ : ∃ rX : Option Nat, (∀ g, rX = some g → g = gY ∧ 0 < x.m) ∧ (0 < x.m → rX = some gY) := by
            by_cases h0 : 0 < x.m
            · exact ⟨some gY, fun g e => (by injection e with e; exact ⟨e.symm, h0⟩), fun _ => rfl⟩
            · exact ⟨none, fun g e => (by cases e), fun h => absurd h h0⟩
          have kx1 := HC
          have hn1 := Lib.hid hY7
          have hg1 : Hid (wr.grownBy wr rY) := World.grownBy.refl _ _
          have hw7 : ∃ w7, w7 = wr := ⟨_, rfl⟩
          obtain ⟨w7, hw7⟩ := hw7
          subst hw7
          clear HN HC
          go_wp2
          go_loopw [9] (fun iv wr => ∃ (k : Nat) (Lk : List Nat), k ≤ x.m ∧ iv = .int .i64 k ∧ Hid (NewR w0.heap.size wr x.B x.d x.m Lk) ∧ Hid (w7.grownBy wr rY) ∧ Hid (C3 wr xb (.bool x.s) (.slice x.A x.n x.c) (.slice x.B x.m x.d))) (fun iv _ => x.m - (intOf iv).toNat)
          case atStart => exact ⟨0, b, by omega, rfl, hn1, hg1, kx1⟩
          case round =>
            obtain ⟨k, Lk, hk, rfl, HN, HG, HC⟩ := hrel
            obtain ⟨x_0, x_1, x_2, x_3, x_4, x_5⟩ := HC.out.facts
            by_cases hkn : k < x.m
            · have h0 : 0 < x.m := by omega
              have hA := (hgY h0).1
              obtain ⟨b2, off2, hA2, h7, h8, hc2⟩ := HN.out.row.mem h0
              rw [hA] at hA2
              injection hA2 with hA2
              injection hA2 with e1 e2
              subst e1 e2
              have hcs := hc2 k hkn
              rw [Nat.zero_add] at hcs
              have hO := HN.out.own h0
              rw [hA] at hO
              have hfs := hO.own.frozenAt k
              have HN2 := HN.out
              rw [hA] at HN2
              replace HN2 := Lib.hid (HN2.set (j := k) (x := 9) h0 (by omega))
              have HG2 := Lib.hid (show w7.grownBy (wr.setCell ⟨gY, k, none⟩ (.int .u32 ((9 : Nat) : Int))) rY by rw [hs2 h0]; exact grown_set (by rw [← hs2 h0]; exact HG.out))
              have HC2 := Lib.hid (HC.out.setOther (b := gY) (Ne.symm (hgy h0)) k (.int .u32 ((9 : Nat) : Int)))
              replace HN2 : Hid (NewR w0.heap.size (wr.setCell ⟨gY, k, none⟩ (.int .u32 ((9 : Nat) : Int))) x.B x.d x.m (Lk.set k 9)) := by rw [hA]; exact HN2
              rw [hA] at x_2
              clear hc2 HN HG HC hO
              go_wp2
              go_roundw
              case rel => exact ⟨k + 1, _, by omega, by go_num, HN2, HG2, HC2⟩
              case measure => simp [intOf]; omega
            · have hH := HG.out
              have HO7 := below_row HO6 hH (fun g e => by obtain ⟨rfl, h0⟩ := hs1 g e; exact hgY0 h0) (Nat.le_refl _)
              have k_p := k7_p.grown hH (fun g e => by obtain ⟨rfl, h0⟩ := hs1 g e; have := (hgY h0).2; omega)
              have k_q := k7_q.grown hH (fun g e => by obtain ⟨rfl, h0⟩ := hs1 g e; have := (hgY h0).2; omega)
              have ht_p := ht7_p.keepRow hH (fun g e => by obtain ⟨rfl, h0⟩ := hs1 g e; exact (hgY h0).2)
              have ht_q := ht7_q.keepRow hH (fun g e => by obtain ⟨rfl, h0⟩ := hs1 g e; exact (hgY h0).2)
              clear ra rb h_X h_Y h_x h_v h_u k_v k_u HB k_x
              have HB := HB0.out.trans (HO7.mono HB0.out.size)
              have k_v := kv0.out.below HO7
              have k_u := ku0.out.below HO7
              have h_v := hv0.out.below HO7
              have h_u := hu0.out.below HO7
              clear HG HN hn1 hg1 kx1 hr1 hr2 hs1 hs2 hY7 k7_p k7_q ht7_p ht7_q hG hH hn0 hg0 kx0 HO6 HO7 HO kv0 ku0 hv0 hu0 HB0
              go_wp2_with fail
              clear x_0 x_1 x_2 x_3 x_4 x_5 HC
              have z_r : Sz r 16 := h_v.sz (by omega)
              have z_s : Sz s 16 := h_u.sz (by omega)
              have z_rs := z_r.add z_s
              obtain ⟨v_0, v_1, v_2, v_3, v_4, v_5⟩ := k_v.facts
              obtain ⟨u_0, u_1, u_2, u_3, u_4, u_5⟩ := k_u.facts
              obtain ⟨p_0, p_1, p_2, p_3, p_4, p_5⟩ := k_p.facts
              obtain ⟨q_0, q_1, q_2, q_3, q_4, q_5⟩ := k_q.facts
              replace h_v := (h_v.below (Below.refl _ _).drew).more (show 16 ≤ 124 by omega)
              replace h_u := (h_u.below (Below.refl _ _).drew).more (show 16 ≤ 124 by omega)
              replace ht_p := ht_p.below (Below.refl _ _).drew
              replace ht_q := ht_q.below (Below.refl _ _).drew
              replace k_v := k_v.drew
              replace k_u := k_u.drew
              replace k_p := k_p.drew
              replace k_q := k_q.drew
              replace HB := HB.drew
              have mk0 : Hid True := trivial
              go_region_held3 (fun w' => w'.cell? ⟨w.heap.size, 0, none⟩ = some (.bool v.s) ∧ w'.cell? ⟨w.heap.size, 1, none⟩ = some (.slice v.A v.n v.c) ∧ w'.cell? ⟨w.heap.size, 2, none⟩ = some (.slice v.B v.m v.d) ∧ w'.cell? ⟨w.heap.size + 1, 0, none⟩ = some (.bool u.s) ∧ w'.cell? ⟨w.heap.size + 1, 1, none⟩ = some (.slice u.A u.n u.c) ∧ w'.cell? ⟨w.heap.size + 1, 2, none⟩ = some (.slice u.B u.m u.d) ∧ w'.cell? ⟨nb, 0, none⟩ = some (.bool p.s) ∧ w'.cell? ⟨nb, 1, none⟩ = some (.slice p.A p.n p.c) ∧ w'.cell? ⟨nb, 2, none⟩ = some (.slice p.B p.m p.d) ∧ w'.cell? ⟨sb, 0, none⟩ = some (.bool q.s) ∧ w'.cell? ⟨sb, 1, none⟩ = some (.slice q.A q.n q.c) ∧ w'.cell? ⟨sb, 2, none⟩ = some (.slice q.B q.m q.d)) (go_keep)
                  (first
                  | (go_at_call 9
                     have mk1 := mk0
                     clear mk0
                     refine (rNorm_c v _ _ (h_v.more (show 124 ≤ 250 by omega))).mono ?_
                     rintro e w1 ⟨z1, rfl, ht_z1, hb⟩
                     replace HB := HB.trans (hb.mono HB.size)
                     replace k_v := k_v.below hb
                     replace k_u := k_u.below hb
                     replace k_p := k_p.below hb
                     replace k_q := k_q.below hb
                     replace h_v := h_v.below hb
                     replace h_u := h_u.below hb
                     replace ht_p := ht_p.below hb
                     replace ht_q := ht_q.below hb
                     clear hb
                     clear v_0 v_1 v_2 v_3 v_4 v_5 u_0 u_1 u_2 u_3 u_4 u_5 p_0 p_1 p_2 p_3 p_4 p_5 q_0 q_1 q_2 q_3 q_4 q_5
                     obtain ⟨v_0, v_1, v_2, v_3, v_4, v_5⟩ := k_v.facts
                     obtain ⟨u_0, u_1, u_2, u_3, u_4, u_5⟩ := k_u.facts
                     obtain ⟨p_0, p_1, p_2, p_3, p_4, p_5⟩ := k_p.facts
                     obtain ⟨q_0, q_1, q_2, q_3, q_4, q_5⟩ := k_q.facts)
                  | (go_at_call 8
                     have mk2 := mk1
                     clear mk1
                     refine (one_yes p z1 _ _ _ _ _ ht_p ht_z1 rfl (ht_p.len z_r (by omega)).1 (ht_p.len z_r (by omega)).2).mono ?_
                     rintro e w2 ⟨rfl, hb⟩
                     replace HB := HB.trans (hb.mono HB.size)
                     replace k_v := k_v.below hb
                     replace k_u := k_u.below hb
                     replace k_p := k_p.below hb
                     replace k_q := k_q.below hb
                     replace h_v := h_v.below hb
                     replace h_u := h_u.below hb
                     replace ht_p := ht_p.below hb
                     replace ht_q := ht_q.below hb
                     replace ht_z1 := ht_z1.below hb
                     clear hb
                     clear v_0 v_1 v_2 v_3 v_4 v_5 u_0 u_1 u_2 u_3 u_4 u_5 p_0 p_1 p_2 p_3 p_4 p_5 q_0 q_1 q_2 q_3 q_4 q_5
                     obtain ⟨v_0, v_1, v_2, v_3, v_4, v_5⟩ := k_v.facts
                     obtain ⟨u_0, u_1, u_2, u_3, u_4, u_5⟩ := k_u.facts
                     obtain ⟨p_0, p_1, p_2, p_3, p_4, p_5⟩ := k_p.facts
                     obtain ⟨q_0, q_1, q_2, q_3, q_4, q_5⟩ := k_q.facts)
                  | (go_at_call 16
                     have mk3 := mk2
                     clear mk2
                     refine (rAdd_c v u _ _ _ h_v h_u).mono ?_
                     rintro e w3 ⟨z2, rfl, ht_z2, hb⟩
                     replace HB := HB.trans (hb.mono HB.size)
                     replace k_v := k_v.below hb
                     replace k_u := k_u.below hb
                     replace k_p := k_p.below hb
                     replace k_q := k_q.below hb
                     replace h_v := h_v.below hb
                     replace h_u := h_u.below hb
                     replace ht_p := ht_p.below hb
                     replace ht_q := ht_q.below hb
                     clear hb
                     clear v_0 v_1 v_2 v_3 v_4 v_5 u_0 u_1 u_2 u_3 u_4 u_5 p_0 p_1 p_2 p_3 p_4 p_5 q_0 q_1 q_2 q_3 q_4 q_5
                     obtain ⟨v_0, v_1, v_2, v_3, v_4, v_5⟩ := k_v.facts
                     obtain ⟨u_0, u_1, u_2, u_3, u_4, u_5⟩ := k_u.facts
                     obtain ⟨p_0, p_1, p_2, p_3, p_4, p_5⟩ := k_p.facts
                     obtain ⟨q_0, q_1, q_2, q_3, q_4, q_5⟩ := k_q.facts)
                  | (go_at_call 8
                     have mk4 := mk3
                     clear mk3
                     refine (one_yes q z2 _ _ _ _ _ ht_q ht_z2 rfl (ht_q.len z_rs (by omega)).1 (ht_q.len z_rs (by omega)).2).mono ?_
                     rintro e w4 ⟨rfl, hb⟩
                     replace HB := HB.trans (hb.mono HB.size)
                     replace k_v := k_v.below hb
                     replace k_u := k_u.below hb
                     replace k_p := k_p.below hb
                     replace k_q := k_q.below hb
                     replace h_v := h_v.below hb
                     replace h_u := h_u.below hb
                     replace ht_p := ht_p.below hb
                     replace ht_q := ht_q.below hb
                     replace ht_z2 := ht_z2.below hb
                     clear hb
                     clear v_0 v_1 v_2 v_3 v_4 v_5 u_0 u_1 u_2 u_3 u_4 u_5 p_0 p_1 p_2 p_3 p_4 p_5 q_0 q_1 q_2 q_3 q_4 q_5
                     obtain ⟨v_0, v_1, v_2, v_3, v_4, v_5⟩ := k_v.facts
                     obtain ⟨u_0, u_1, u_2, u_3, u_4, u_5⟩ := k_u.facts
                     obtain ⟨p_0, p_1, p_2, p_3, p_4, p_5⟩ := k_p.facts
                     obtain ⟨q_0, q_1, q_2, q_3, q_4, q_5⟩ := k_q.facts)
                  | (go_at_call 12
                     have mk5 := mk4
                     clear mk4
                     refine (known_any _).mono ?_
                     rintro e w5 ⟨rfl, hb⟩
                     replace HB := HB.trans (hb.mono HB.size)
                     replace k_v := k_v.below hb
                     replace k_u := k_u.below hb
                     replace k_p := k_p.below hb
                     replace k_q := k_q.below hb
                     replace h_v := h_v.below hb
                     replace h_u := h_u.below hb
                     replace ht_p := ht_p.below hb
                     replace ht_q := ht_q.below hb
                     replace ht_z2 := ht_z2.below hb
                     clear hb
                     clear v_0 v_1 v_2 v_3 v_4 v_5 u_0 u_1 u_2 u_3 u_4 u_5 p_0 p_1 p_2 p_3 p_4 p_5 q_0 q_1 q_2 q_3 q_4 q_5
                     obtain ⟨v_0, v_1, v_2, v_3, v_4, v_5⟩ := k_v.facts
                     obtain ⟨u_0, u_1, u_2, u_3, u_4, u_5⟩ := k_u.facts
                     obtain ⟨p_0, p_1, p_2, p_3, p_4, p_5⟩ := k_p.facts
                     obtain ⟨q_0, q_1, q_2, q_3, q_4, q_5⟩ := k_q.facts))
              go_wp2
              go_ret
              exact ⟨rfl, HB⟩
end Go.Proofs.Ytgfajmnmeggaeaa
