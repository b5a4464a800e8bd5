/-
  FltTos: the walk of the law over small rationals.
-/
import Derived.Test.YtmehlbdlllkcgaaFltShift
import Derived.Test.YtmehlbdlllkcgaaRefQ
namespace Go.Proofs.Ytmehlbdlllkcgaa
set_option maxRecDepth 20000
open Go.RowKit

theorem Bd.limbs {n p : Nat} (h : n < p) : Bd (4294967296 ^ n) p := Nat.pow_lt_pow_right (by omega) h

set_option maxRecDepth 100000 in
set_option maxHeartbeats 8000000 in
theorem FltTos_out (v : Rv) (r : Rat) (i : Int) (w : World) (ho : i < -40 ∨ 40 < i) (hlen : v.n + v.m ≤ 16) (h_v : Rw w v r 16) :
    Calls Try.prog 6 #[.agg #[.bool v.s, .slice v.A v.n v.c, .slice v.B v.m v.d], .int .i64 i] w fun e w' => e = .returned (.bool true) ∧ Below w.heap.size w w' := by
  have hb64 := fun b => bits64 b
  have hto := Lib.hid (fun (w : World) (z : Rv) (hv : Rw w z r 125) => To_c z r w hv)
  have hrto := Lib.hid (fun (w : World) (z : Rv) (hv : Rw w z r 60) => rTo_c z r w (hv.more (by omega)))
  have hself : (((tof r : Nat) : Int) == ((tof r : Nat) : Int)) = true := by simp
  rcases ho with ho | ho
  all_goals
    go_enter Try.func6, Try.ntmps6
    go_wp2_with fail
    generalize hW : (w.alloc (.cells #[.bool v.s, .slice v.A v.n v.c, .slice v.B v.m v.d] 24)).alloc (.cells #[.bool v.s, .slice v.A v.n v.c, .slice v.B v.m v.d] 24) = W
    obtain ⟨k_v, HB, hsW, hbig⟩ := open1b w v W hW
    clear hW
    refine (big4_any (pick v v v) (w.heap.size + 1) 1 _ (by omega) ?_ hbig).mono ?_
    · intro i hi
      have : i = 0 := by omega
      rcases this with rfl <;> simp only [pick] <;> omega
    rintro e w0 ⟨rfl, hb⟩
    rw [decide_eq_false (show ¬ 16 < tot (pick v v v) 1 by simp only [tot, pick]; omega)]
    replace HB := HB.trans (hb.mono (by omega))
    replace k_v := k_v.below hb
    clear hb hbig hsW
    have kz := C3.new w0 (.bool v.s) (.slice v.A v.n v.c) (.slice v.B v.m v.d)
    have hb0 := (Below.refl w0.heap.size w0).alloc (Nat.le_refl _) (.cells #[.bool v.s, .slice v.A v.n v.c, .slice v.B v.m v.d] 24)
    have hv := (h_v.below HB).below hb0
    have hsz0 := HB.size
    have ltv := k_v.lt
    obtain ⟨v_0, v_1, v_2, v_3, v_4, v_5⟩ := k_v.facts
    replace HB := HB.trans (hb0.mono HB.size)
    replace k_v := k_v.below hb0
    clear h_v hlen hb0
    have hz := hv.more (show 16 ≤ 60 by omega)
    clear hv k_v
    go_wp2_with fail
    clear v_0 v_1 v_2 v_3 v_4 v_5
    generalize w0.alloc (.cells #[.bool v.s, .slice v.A v.n v.c, .slice v.B v.m v.d] 24) = W1 at *
    generalize w0.heap.size = zb at *
    obtain ⟨q0, q1, q2, g0, g1, g2⟩ := kz.facts
    replace kz := kz.drew
    replace hz := hz.drew
    replace HB := HB.drew
    generalize tof r = U at *
    go_region_held3 (fun w' => w'.cell? ⟨zb, 0, none⟩ = some (.bool v.s) ∧ w'.cell? ⟨zb, 1, none⟩ = some (.slice v.A v.n v.c) ∧ w'.cell? ⟨zb, 2, none⟩ = some (.slice v.B v.m v.d)) (go_keep)
      (first
      | (go_at_call 40
         refine (hto.out _ v (hz.more (by omega))).mono ?_
         rintro e w5 ⟨rfl, hb⟩
         replace HB := HB.trans (hb.mono HB.size)
         replace kz := kz.below hb
         replace hz := hz.below hb
         clear hb q0 q1 q2 g0 g1 g2
         obtain ⟨q0, q1, q2, g0, g1, g2⟩ := kz.facts)
      | (go_at_call 41
         refine (hrto.out _ v hz).mono ?_
         rintro e w6 ⟨rfl, hb⟩
         replace HB := HB.trans (hb.mono HB.size)
         replace kz := kz.below hb
         clear hb q0 q1 q2 g0 g1 g2
         obtain ⟨q0, q1, q2, g0, g1, g2⟩ := kz.facts)
      | (go_at_call 35
         refine (known4_any _).mono ?_
         rintro e w7 ⟨rfl, hb⟩
         replace HB := HB.trans (hb.mono HB.size)
         replace kz := kz.below hb
         clear hb q0 q1 q2 g0 g1 g2
         obtain ⟨q0, q1, q2, g0, g1, g2⟩ := kz.facts))
    all_goals
      go_wp2
      go_ret
      exact ⟨rfl, HB⟩

set_option maxRecDepth 100000 in
set_option maxHeartbeats 8000000 in
theorem FltTos_in (v : Rv) (r : Rat) (i : Int) (w : World) (hi : -40 ≤ i ∧ i ≤ 40) (hlen : v.n + v.m ≤ 16) (h_v : Rw w v r 16) :
    Calls Try.prog 6 #[.agg #[.bool v.s, .slice v.A v.n v.c, .slice v.B v.m v.d], .int .i64 i] w fun e w' => e = .returned (.bool true) ∧ Below w.heap.size w w' := by
  have hb64 := fun b => bits64 b
  obtain ⟨Q, hQ⟩ : ∃ Q, rn false (4294967296 ^ i.toNat) (4294967296 ^ (-i).toNat) = Q := ⟨_, rfl⟩
  have HQ := Lib.hid hQ
  have zQ := Lib.hid (Sz.ofRn hQ (Bd.limbs (p := 41) (by omega)) (Bd.limbs (p := 41) (by omega)) (by omega))
  clear hQ
  have z_r := Lib.hid (h_v.sz (by omega))
  have hto := Lib.hid (fun (w : World) (z : Rv) (hv : Rw w z (r * Q) 125) => To_c z (r * Q) w hv)
  have hrto := Lib.hid (fun (w : World) (z : Rv) (hv : Rw w z (r * Q) 60) => rTo_c z (r * Q) w (hv.more (by omega)))
  have hself : (((tof (r * Q) : Nat) : Int) == ((tof (r * Q) : Nat) : Int)) = true := by simp
  have hwn : IntKind.i64.wrap (-i) = -i := wrap_id (by omega)
  have hs1 := Lib.hid (fun (w : World) => shifted_c i.toNat (max 0 i) (by omega) (by omega) w)
  have hs2 := Lib.hid (fun (w : World) => shifted_c (-i).toNat (max 0 (-i)) (by omega) (by omega) w)
  go_enter Try.func6, Try.ntmps6
  go_wp2_with fail
  generalize hW : (w.alloc (.cells #[.bool v.s, .slice v.A v.n v.c, .slice v.B v.m v.d] 24)).alloc (.cells #[.bool v.s, .slice v.A v.n v.c, .slice v.B v.m v.d] 24) = W
  obtain ⟨k_v, HB, hsW, hbig⟩ := open1b w v W hW
  clear hW
  refine (big4_any (pick v v v) (w.heap.size + 1) 1 _ (by omega) ?_ hbig).mono ?_
  · intro i hi
    have : i = 0 := by omega
    rcases this with rfl <;> simp only [pick] <;> omega
  rintro e w0 ⟨rfl, hb⟩
  rw [decide_eq_false (show ¬ 16 < tot (pick v v v) 1 by simp only [tot, pick]; omega)]
  replace HB := HB.trans (hb.mono (by omega))
  replace k_v := k_v.below hb
  clear hb hbig hsW
  have kz := C3.new w0 (.bool v.s) (.slice v.A v.n v.c) (.slice v.B v.m v.d)
  have hb0 := (Below.refl w0.heap.size w0).alloc (Nat.le_refl _) (.cells #[.bool v.s, .slice v.A v.n v.c, .slice v.B v.m v.d] 24)
  have hv := (h_v.below HB).below hb0
  have hsz0 := HB.size
  have ltv := k_v.lt
  obtain ⟨v_0, v_1, v_2, v_3, v_4, v_5⟩ := k_v.facts
  replace HB := HB.trans (hb0.mono HB.size)
  replace k_v := k_v.below hb0
  clear h_v hlen hb0
  go_wp2_with fail
  clear v_0 v_1 v_2 v_3 v_4 v_5
  generalize w0.alloc (.cells #[.bool v.s, .slice v.A v.n v.c, .slice v.B v.m v.d] 24) = W1 at *
  generalize w0.heap.size = zb at *
  go_cut [] (fun wx => ∃ z : Rv, Hid (C3 wx zb (.bool z.s) (.slice z.A z.n z.c) (.slice z.B z.m z.d) ∧ Rw wx z (r * Q) 60 ∧ Below w.heap.size w wx))
  case first =>
    obtain ⟨v_0, v_1, v_2, v_3, v_4, v_5⟩ := k_v.facts
    obtain ⟨q0, q1, q2, g0, g1, g2⟩ := kz.facts
    replace k_v := k_v.drew
    replace kz := kz.drew
    replace hv := hv.drew
    replace HB := HB.drew
    have nz : ¬ w.heap.size = zb := by omega
    have nz' : ¬ zb = w.heap.size := by omega
    have mk0 : Hid True := trivial
    go_region_held3 (fun w' => w'.cell? ⟨w.heap.size, 0, none⟩ = some (.bool v.s) ∧ w'.cell? ⟨w.heap.size, 1, none⟩ = some (.slice v.A v.n v.c) ∧ w'.cell? ⟨w.heap.size, 2, none⟩ = some (.slice v.B v.m v.d)) (go_keep)
      (first
      | (go_at_call 38
         have mk1 := mk0
         clear mk0
         refine (hs1.out _).mono ?_
         rintro e w1 ⟨A1, c1, l1, rfl, r1, v1, k1, hb⟩
         replace HB := HB.trans (hb.mono HB.size)
         replace k_v := k_v.below hb
         replace kz := kz.below hb
         replace hv := hv.below hb
         clear hb v_0 v_1 v_2 v_3 v_4 v_5 q0 q1 q2 g0 g1 g2
         obtain ⟨v_0, v_1, v_2, v_3, v_4, v_5⟩ := k_v.facts
         obtain ⟨q0, q1, q2, g0, g1, g2⟩ := kz.facts)
      | (go_at_call 38
         clear mk1
         refine (hs2.out _).mono ?_
         rintro e w2 ⟨A2, c2, l2, rfl, r2, v2, k2, hb⟩
         replace HB := HB.trans (hb.mono HB.size)
         replace k_v := k_v.below hb
         replace kz := kz.below hb
         replace hv := hv.below hb
         replace r1 := r1.below hb
         clear hb v_0 v_1 v_2 v_3 v_4 v_5 q0 q1 q2 g0 g1 g2
         obtain ⟨v_0, v_1, v_2, v_3, v_4, v_5⟩ := k_v.facts
         obtain ⟨q0, q1, q2, g0, g1, g2⟩ := kz.facts)
      | (go_at_call 37
         refine (rOf_n false A1 A2 _ _ c1 c2 _ _ l1 l2 _ _ v1 v2 (by omega) (by omega) k1 k2 r1 r2 HQ.out).mono ?_
         rintro e w3 ⟨y, rfl, hy, hb⟩
         replace HB := HB.trans (hb.mono HB.size)
         replace k_v := k_v.below hb
         replace kz := kz.below hb
         replace hv := hv.below hb
         have hy2 := (hy.rw zQ.out).more (show 41 ≤ 124 by omega)
         clear hb hy r1 r2 k1 k2 v1 v2 v_0 v_1 v_2 v_3 v_4 v_5 q0 q1 q2 g0 g1 g2
         obtain ⟨v_0, v_1, v_2, v_3, v_4, v_5⟩ := k_v.facts
         obtain ⟨q0, q1, q2, g0, g1, g2⟩ := kz.facts)
      | (go_at_call 14
         refine (rMul_c v y r Q _ (hv.more (by omega)) hy2).mono ?_
         rintro e w4 ⟨z, rfl, hz, hb⟩
         replace HB := HB.trans (hb.mono HB.size)
         replace k_v := k_v.below hb
         replace kz := kz.below hb
         have hz2 := (hz.rw (z_r.out.mul zQ.out)).more (show 16 + 41 ≤ 60 by omega)
         clear hb hz v_0 v_1 v_2 v_3 v_4 v_5 q0 q1 q2 g0 g1 g2
         obtain ⟨v_0, v_1, v_2, v_3, v_4, v_5⟩ := k_v.facts
         obtain ⟨q0, q1, q2, g0, g1, g2⟩ := kz.facts))
    all_goals (
      go_wp2_with fail
      go_meet
      exact ⟨z, Lib.hid ⟨kz.put _ _ _, hz2.putC kz _ _ _, HB.trans (put3_below hsz0 _ _ _)⟩⟩)
  obtain ⟨z, HC⟩ := hcut
  clear HB kz hv k_v
  obtain ⟨kz, hz, HB⟩ := HC.out
  clear HC hs1 hs2 HQ zQ z_r hwn
  obtain ⟨q0, q1, q2, g0, g1, g2⟩ := kz.facts
  go_wp2_with fail
  replace kz := kz.drew
  replace hz := hz.drew
  replace HB := HB.drew
  generalize tof (r * Q) = U at *
  go_region_held3 (fun w' => w'.cell? ⟨zb, 0, none⟩ = some (.bool z.s) ∧ w'.cell? ⟨zb, 1, none⟩ = some (.slice z.A z.n z.c) ∧ w'.cell? ⟨zb, 2, none⟩ = some (.slice z.B z.m z.d)) (go_keep)
    (first
    | (go_at_call 40
       refine (hto.out _ z (hz.more (by omega))).mono ?_
       rintro e w5 ⟨rfl, hb⟩
       replace HB := HB.trans (hb.mono HB.size)
       replace kz := kz.below hb
       replace hz := hz.below hb
       clear hb q0 q1 q2 g0 g1 g2
       obtain ⟨q0, q1, q2, g0, g1, g2⟩ := kz.facts)
    | (go_at_call 41
       refine (hrto.out _ z hz).mono ?_
       rintro e w6 ⟨rfl, hb⟩
       replace HB := HB.trans (hb.mono HB.size)
       replace kz := kz.below hb
       clear hb q0 q1 q2 g0 g1 g2
       obtain ⟨q0, q1, q2, g0, g1, g2⟩ := kz.facts)
    | (go_at_call 35
       refine (known4_any _).mono ?_
       rintro e w7 ⟨rfl, hb⟩
       replace HB := HB.trans (hb.mono HB.size)
       replace kz := kz.below hb
       clear hb q0 q1 q2 g0 g1 g2
       obtain ⟨q0, q1, q2, g0, g1, g2⟩ := kz.facts))
  all_goals
    go_wp2
    go_ret
    exact ⟨rfl, HB⟩

theorem FltTos_small (v : Rv) (r : Rat) (i : Int) (w : World) (hlen : v.n + v.m ≤ 16) (h_v : Rw w v r 16) :
    Calls Try.prog 6 #[.agg #[.bool v.s, .slice v.A v.n v.c, .slice v.B v.m v.d], .int .i64 i] w fun e w' => e = .returned (.bool true) ∧ Below w.heap.size w w' := by
  by_cases h : -40 ≤ i ∧ i ≤ 40
  · exact FltTos_in v r i w h hlen h_v
  · exact FltTos_out v r i w (by omega) hlen h_v
end Go.Proofs.Ytmehlbdlllkcgaa
