/-
  The program's rationals, sixth part: quotients, differences, the other sign, comparisons, floors.
-/
import Derived.Test.YtgfajmnmeggaeaaRatE
namespace Go.Proofs.Ytgfajmnmeggaeaa
set_option maxRecDepth 20000
open Go.RowKit

theorem ret3t {fn : Func} {t s : Tmp} {R : Ending → World → Prop} {a : Act} {w : World} {b : Nat} {x y z u : Value} (hres : fn.results = #[.cell t 24, .tmp s]) (ht : a.tmps.getD t undef = .pointer (some ⟨b, 0, none⟩)) (hu : a.tmps.getD s undef = u) (hd : a.defers = [])
    (hk : C3 w b x y z) (hR : R (.returned (.tuple #[.agg #[x, y, z], u])) w) : bodyPost Try.prog fn R .ret a w := by
  obtain ⟨q0, q1, q2, g0, g1, g2⟩ := hk.facts
  have ht' : (a.tmps[t]?.getD undef) = .pointer (some ⟨b, 0, none⟩) := by simpa using ht
  have hu' : (a.tmps[s]?.getD undef) = u := by simpa using hu
  refine bodyPost_ret (v := .tuple #[.agg #[x, y, z], u]) ?_ hd hR
  simp [results, hres, go_sem, ht', hu', q0, q1, q2]

set_option maxHeartbeats 1600000 in
theorem Div_c (v u : Rv) (r s : Rat) (w : World) (hv : Rw w v r 2000) (hu : Rw w u s 2000) (hs0 : s ≠ 0) :
    Calls Try.prog 7 #[.agg #[.bool v.s, .slice v.A v.n v.c, .slice v.B v.m v.d], .agg #[.bool u.s, .slice u.A u.n u.c, .slice u.B u.m u.d]] w fun e w' => ∃ v : Rv, e = .returned (.tuple #[.agg #[.bool v.s, .slice v.A v.n v.c, .slice v.B v.m v.d], .bool true]) ∧ Rt w' w.heap.size v (r / s) ∧ Below w.heap.size w w' := by
  go_enter Try.func7, Try.ntmps7
  go_wp2_with fail
  generalize hW : (((w.alloc (.cells #[.bool v.s, .slice v.A v.n v.c, .slice v.B v.m v.d] 24)).alloc (.cells #[.bool u.s, .slice u.A u.n u.c, .slice u.B u.m u.d] 24)).alloc (.cells #[.bool false, .slice none 0 0, .slice none 0 0] 24)) = W
  obtain ⟨ka, kb, kz, HW, hsW⟩ := open2z w v u W hW
  clear hW
  refine (Zero_any u s _ ((hu.below HW).more (by omega))).mono ?_
  rintro e w0 ⟨rfl, hb0⟩
  have hsW2 := hb0.size
  replace ka := ka.below hb0
  replace kb := kb.below hb0
  replace kz := kz.below hb0
  replace HW := HW.trans (hb0.mono (by omega))
  clear hb0
  rw [decide_eq_false hs0]
  obtain ⟨a0, a1, a2, a3, a4, a5⟩ := ka.facts
  obtain ⟨b0, b1, b2, b3, b4, b5⟩ := kb.facts
  obtain ⟨z0, z1, z2, z3, z4, z5⟩ := kz.facts
  go_wp2_with fail
  obtain ⟨h1, h2, h3, h4, a, b, ha, hb, hr⟩ := hv.below HW
  obtain ⟨g1, g2, g3, g4, c, d, hc, hd, hs⟩ := hu.below HW
  have hcd : val c ≠ 0 ∧ val d ≠ 0 := by
    refine ⟨fun h => hs0 (by rw [← hs]; exact rn_zero (.inl h)), fun h => hs0 (by rw [← hs]; exact rn_zero (.inr h))⟩
  have hrs : rn (v.s != u.s) (val a * val d) (val b * val c) = r / s := by rw [← hr, ← hs, rn_div _ _ hcd.1 hcd.2]
  have hl1 : (lim (val a * val d)).length ≤ 4000 := ((ha.bd h3).mul (hd.bd g4)).len
  have hl2 : (lim (val b * val c)).length ≤ 4000 := ((hb.bd h4).mul (hc.bd g3)).len
  obtain ⟨a0, a1, a2, a3, a4, a5⟩ := ka.facts
  obtain ⟨b0, b1, b2, b3, b4, b5⟩ := kb.facts
  obtain ⟨z0, z1, z2, z3, z4, z5⟩ := kz.facts
  have hn1 : ¬ w.heap.size = w.heap.size + 1 + 1 := by omega
  have hn2 : ¬ w.heap.size + 1 + 1 = w.heap.size := by omega
  go_region_held3 (fun w' => w'.cell? ⟨w.heap.size, 0, none⟩ = some (.bool v.s) ∧ w'.cell? ⟨w.heap.size, 1, none⟩ = some (.slice v.A v.n v.c) ∧ w'.cell? ⟨w.heap.size, 2, none⟩ = some (.slice v.B v.m v.d) ∧ w'.cell? ⟨w.heap.size + 1, 0, none⟩ = some (.bool u.s) ∧ w'.cell? ⟨w.heap.size + 1, 1, none⟩ = some (.slice u.A u.n u.c) ∧ w'.cell? ⟨w.heap.size + 1, 2, none⟩ = some (.slice u.B u.m u.d)) (go_keep)
      (first
      | (go_at_call_of 22 v.A
         refine (Mul_any v.A u.B v.n u.m v.c u.d a d _ (by omega) (by omega) h1 g2 ha.drew hd.drew).mono ?_
         rintro e w1 ⟨X1, cx1, rfl, ho1, hb1⟩
         obtain ⟨a0, a1, a2, a3, a4, a5⟩ := (ka.drew.below hb1).facts
         obtain ⟨b0, b1, b2, b3, b4, b5⟩ := (kb.drew.below hb1).facts
         obtain ⟨z0, z1, z2, z3, z4, z5⟩ := (kz.drew.below hb1).facts)
      | (go_at_call_of 22 v.B
         refine (Mul_any v.B u.A v.m u.n v.d u.c b c _ (by omega) (by omega) h2 g1 (hb.drew.below hb1) (hc.drew.below hb1)).mono ?_
         rintro e w2 ⟨X2, cx2, rfl, ho2, hb2⟩
         obtain ⟨a0, a1, a2, a3, a4, a5⟩ := ((ka.drew.below hb1).below hb2).facts
         obtain ⟨b0, b1, b2, b3, b4, b5⟩ := ((kb.drew.below hb1).below hb2).facts
         obtain ⟨z0, z1, z2, z3, z4, z5⟩ := ((kz.drew.below hb1).below hb2).facts)
      | (go_at_call_of 21 X1
         refine (Of_nums (v.s != u.s) X1 X2 _ _ cx1 cx2 (val a * val d) (val b * val c) _ _ (r / s) _ (val_lim _) (val_lim _) (by omega) (by omega) ho1.capLe ho2.capLe ((ho1.row.below hb2).lower (Nat.zero_le _)) (ho2.row.lower (Nat.zero_le _)) hrs).mono ?_
         rintro e w3 ⟨z, rfl, hz, hb3⟩
         obtain ⟨a0, a1, a2, a3, a4, a5⟩ := (((ka.drew.below hb1).below hb2).below hb3).facts
         obtain ⟨b0, b1, b2, b3, b4, b5⟩ := (((kb.drew.below hb1).below hb2).below hb3).facts
         obtain ⟨z0, z1, z2, z3, z4, z5⟩ := (((kz.drew.below hb1).below hb2).below hb3).facts))
  have hs1 : w0.heap.size ≤ w1.heap.size := hb1.size
  have hs2 := hb2.size
  have hs3 := hb3.size
  have kz3 := ((kz.drew.below hb1).below hb2).below hb3
  have HB3 : Below w.heap.size w w3 := HW.trans ((below_drewN' w.heap.size w0 1).trans ((hb1.mono (by show _ ≤ w0.heap.size; omega)).trans ((hb2.mono (by omega)).trans (hb3.mono (by omega)))))
  clear hb1 hb2 hb3 ka kb
  go_wp2
  refine ret3t (fn := Try.f7) Try.results7 rfl rfl rfl (kz3.put _ _ _) ?_
  exact ⟨z, rfl, (hz.put (by omega) _ _ _).lower (by omega), HB3.trans (put3_below (by omega) _ _ _)⟩
set_option maxHeartbeats 800000 in
theorem Div_zero_c (v u : Rv) (s : Rat) (w : World) (hu : Rw w u s 2000) (hs0 : s = 0) :
    Calls Try.prog 7 #[.agg #[.bool v.s, .slice v.A v.n v.c, .slice v.B v.m v.d], .agg #[.bool u.s, .slice u.A u.n u.c, .slice u.B u.m u.d]] w fun e w' => ∃ v : Rv, e = .returned (.tuple #[.agg #[.bool v.s, .slice v.A v.n v.c, .slice v.B v.m v.d], .bool false]) ∧ Rt w' w.heap.size v 0 ∧ Below w.heap.size w w' := by
  go_enter Try.func7, Try.ntmps7
  go_wp2_with fail
  generalize hW : (((w.alloc (.cells #[.bool v.s, .slice v.A v.n v.c, .slice v.B v.m v.d] 24)).alloc (.cells #[.bool u.s, .slice u.A u.n u.c, .slice u.B u.m u.d] 24)).alloc (.cells #[.bool false, .slice none 0 0, .slice none 0 0] 24)) = W
  obtain ⟨ka, kb, kz, HW, hsW⟩ := open2z w v u W hW
  clear hW
  refine (Zero_any u s _ ((hu.below HW).more (by omega))).mono ?_
  rintro e w0 ⟨rfl, hb0⟩
  have hsW2 := hb0.size
  replace kz := kz.below hb0
  replace HW := HW.trans (hb0.mono (by omega))
  clear hb0 ka kb
  rw [decide_eq_true hs0]
  go_wp2_with fail
  refine (nought_any _).mono ?_
  rintro e w1 ⟨z, rfl, hz, hb1⟩
  have hs1 := hb1.size
  replace kz := kz.below hb1
  replace HW := HW.trans (hb1.mono (by omega))
  obtain ⟨z0, z1, z2, z3, z4, z5⟩ := kz.facts
  clear hb1
  go_wp2
  refine ret3t (fn := Try.f7) Try.results7 rfl rfl rfl (kz.put _ _ _) ?_
  exact ⟨z, rfl, (hz.put (by omega) _ _ _).lower (by omega), HW.trans (put3_below (by omega) _ _ _)⟩

set_option maxHeartbeats 1600000 in
theorem Cmp_c (v u : Rv) (r s : Rat) (w : World) (hv : Rw w v r 2000) (hu : Rw w u s 2000) :
    Calls Try.prog 27 #[.agg #[.bool v.s, .slice v.A v.n v.c, .slice v.B v.m v.d], .agg #[.bool u.s, .slice u.A u.n u.c, .slice u.B u.m u.d]] w fun e w' => e = .returned (.int .i64 (sgn (r - s))) ∧ Below w.heap.size w w' := by
  go_enter Try.func27, Try.ntmps27
  go_wp2_with fail
  generalize hW : ((w.alloc (.cells #[.bool v.s, .slice v.A v.n v.c, .slice v.B v.m v.d] 24)).alloc (.cells #[.bool u.s, .slice u.A u.n u.c, .slice u.B u.m u.d] 24)) = W
  obtain ⟨ka, kb, HW, hsW⟩ := open2 w v u W hW
  clear hW
  obtain ⟨a0, a1, a2, a3, a4, a5⟩ := ka.facts
  obtain ⟨b0, b1, b2, b3, b4, b5⟩ := kb.facts
  replace hv := (hv.below HW).more (show 2000 ≤ 4000 by omega)
  replace hu := (hu.below HW).more (show 2000 ≤ 4000 by omega)
  go_region_held3 (fun w' => w'.cell? ⟨w.heap.size, 0, none⟩ = some (.bool v.s) ∧ w'.cell? ⟨w.heap.size, 1, none⟩ = some (.slice v.A v.n v.c) ∧ w'.cell? ⟨w.heap.size, 2, none⟩ = some (.slice v.B v.m v.d) ∧ w'.cell? ⟨w.heap.size + 1, 0, none⟩ = some (.bool u.s) ∧ w'.cell? ⟨w.heap.size + 1, 1, none⟩ = some (.slice u.A u.n u.c) ∧ w'.cell? ⟨w.heap.size + 1, 2, none⟩ = some (.slice u.B u.m u.d)) (go_keep)
      (first
      | (go_at_call_of 45 u
         refine (turned_any u s 4000 _ hu.drew).mono ?_
         rintro e w1 ⟨u1, rfl, hu1, hb1⟩
         obtain ⟨a0, a1, a2, a3, a4, a5⟩ := (ka.drew.below hb1).facts
         obtain ⟨b0, b1, b2, b3, b4, b5⟩ := (kb.drew.below hb1).facts)
      | (go_at_call_of 28 u1
         refine (crosswise_any v u1 r (-s) _ (hv.drew.below hb1) hu1).mono ?_
         rintro e w2 ⟨q, x, y, X, cx, Y, cy, rfl, hcx, hcy, hlx, hly, hy, hrx, hry, hq, hb2⟩
         obtain ⟨a0, a1, a2, a3, a4, a5⟩ := ((ka.drew.below hb1).below hb2).facts
         obtain ⟨b0, b1, b2, b3, b4, b5⟩ := ((kb.drew.below hb1).below hb2).facts))
  have hs1 : W.heap.size ≤ w1.heap.size := hb1.size
  have hs2 := hb2.size
  have HB : Below w.heap.size w w2 := HW.trans ((below_drewN' w.heap.size W 1).trans ((hb1.mono (by show _ ≤ W.heap.size; omega)).trans (hb2.mono (by omega))))
  rw [← Rat.sub_eq_add_neg] at hq
  clear hb1 hb2 ka kb hv hu
  have hsg : sgn (r - s) = if x = 0 then 0 else if q then -1 else 1 := by rw [← hq]; exact sgn_rn hy
  have hn1 : (lim x).length ≤ 9000 := by omega
  rename_i hHeld
  clear hq hy hry hlx hly hcy hs1 hs2 hHeld a0 a1 a2 a3 a4 a5 b0 b1 b2 b3 b4 b5 hu1
  by_cases hx : x = 0
  · rw [if_pos hx] at hsg
    have HS := Lib.hid hsg
    have HX := Lib.hid hx
    clear hsg hx
    go_wp2_with fail
    refine (isNought_yes X _ cx _ _ (by omega) hcx (hrx.lower (Nat.zero_le _)) (by rw [val_lim]; exact HX.out)).mono ?_
    rintro e w3 ⟨rfl, rfl⟩
    go_wp2
    go_ret
    exact ⟨by rw [HS.out]; rfl, HB⟩
  · rw [if_neg hx] at hsg
    have HS := Lib.hid hsg
    have HX := Lib.hid hx
    clear hsg hx
    go_wp2_with fail
    refine (isNought_no X _ cx _ _ (by omega) hcx (hrx.lower (Nat.zero_le _)) (by rw [val_lim]; exact HX.out)).mono ?_
    rintro e w3 ⟨rfl, rfl⟩
    cases q
    · go_wp2
      go_ret
      exact ⟨by rw [HS.out]; rfl, HB⟩
    · go_wp2
      go_ret
      exact ⟨by rw [HS.out]; rfl, HB⟩

theorem sgn_sub_zero {r s : Rat} : sgn (r - s) = 0 ↔ r = s := by
  have h0 : r - s = 0 ↔ r = s := by
    constructor
    · intro h
      have : r - s + s = 0 + s := by rw [h]
      rwa [Rat.sub_add_cancel, Rat.zero_add] at this
    · rintro rfl; exact Rat.sub_self
  rw [← h0]
  unfold sgn
  split
  · rename_i h; simp [h]
  · rename_i h; split <;> simp [h]

set_option maxHeartbeats 800000 in
theorem Same_c (v u : Rv) (r s : Rat) (w : World) (hv : Rw w v r 2000) (hu : Rw w u s 2000) :
    Calls Try.prog 10 #[.agg #[.bool v.s, .slice v.A v.n v.c, .slice v.B v.m v.d], .agg #[.bool u.s, .slice u.A u.n u.c, .slice u.B u.m u.d]] w fun e w' => e = .returned (.bool (decide (r = s))) ∧ Below w.heap.size w w' := by
  go_enter Try.func10, Try.ntmps10
  go_wp2_with fail
  generalize hW : ((w.alloc (.cells #[.bool v.s, .slice v.A v.n v.c, .slice v.B v.m v.d] 24)).alloc (.cells #[.bool u.s, .slice u.A u.n u.c, .slice u.B u.m u.d] 24)) = W
  obtain ⟨ka, kb, HW, hsW⟩ := open2 w v u W hW
  clear hW
  refine (Cmp_c v u r s _ (hv.below HW) (hu.below HW)).mono ?_
  rintro e w1 ⟨rfl, hb1⟩
  replace HW := HW.trans (hb1.mono (by omega))
  have hsg := sgn_sub_zero (r := r) (s := s)
  clear hb1 ka kb hv hu
  by_cases h : r = s
  · rw [hsg.2 h]
    go_wp2
    go_ret
    exact ⟨by rw [decide_eq_true h]; rfl, HW⟩
  · have h2 : (sgn (r - s) == 0) = false := by rw [beq_eq_false_iff_ne]; exact fun e => h (hsg.1 e)
    clear hsg
    generalize sgn (r - s) = k at *
    go_wp2
    go_ret
    exact ⟨by rw [decide_eq_false h]; rfl, HW⟩
end Go.Proofs.Ytgfajmnmeggaeaa
