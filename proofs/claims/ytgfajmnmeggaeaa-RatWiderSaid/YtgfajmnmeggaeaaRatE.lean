/-
  The program's rationals, fifth part: sums, differences, the other sign, comparisons.
-/
import Derived.Test.YtgfajmnmeggaeaaRatD
namespace Go.Proofs.Ytgfajmnmeggaeaa
set_option maxRecDepth 20000
open Go.RowKit

theorem Sz.ofRn {s : Bool} {x y p : Nat} {r : Rat} (h : rn s x y = r) (hx : Bd x p) (hy : Bd y p) (hp : 0 < p) : Sz r p := ⟨Bd.num h hx, Bd.den h hy hp⟩

/-- The world behind the blocks of two parameters and of the result. -/
theorem open2z (w : World) (v u : Rv) (W : World) (h : (((w.alloc (.cells #[.bool v.s, .slice v.A v.n v.c, .slice v.B v.m v.d] 24)).alloc (.cells #[.bool u.s, .slice u.A u.n u.c, .slice u.B u.m u.d] 24)).alloc (.cells #[.bool false, .slice none 0 0, .slice none 0 0] 24)) = W) :
    C3 W w.heap.size (.bool v.s) (.slice v.A v.n v.c) (.slice v.B v.m v.d) ∧ C3 W (w.heap.size + 1) (.bool u.s) (.slice u.A u.n u.c) (.slice u.B u.m u.d) ∧ C3 W (w.heap.size + 1 + 1) (.bool false) (.slice none 0 0) (.slice none 0 0) ∧ Below w.heap.size w W ∧ W.heap.size = w.heap.size + 3 := by
  subst h
  have e1 : (w.alloc (.cells #[.bool v.s, .slice v.A v.n v.c, .slice v.B v.m v.d] 24)).heap.size = w.heap.size + 1 := by simp
  have e2 : ((w.alloc (.cells #[.bool v.s, .slice v.A v.n v.c, .slice v.B v.m v.d] 24)).alloc (.cells #[.bool u.s, .slice u.A u.n u.c, .slice u.B u.m u.d] 24)).heap.size = w.heap.size + 1 + 1 := by simp
  refine ⟨((C3.new w (.bool v.s) (.slice v.A v.n v.c) (.slice v.B v.m v.d)).alloc _).alloc _, ?_, ?_, ?_, by simp⟩
  · have := C3.new (w.alloc (.cells #[.bool v.s, .slice v.A v.n v.c, .slice v.B v.m v.d] 24)) (.bool u.s) (.slice u.A u.n u.c) (.slice u.B u.m u.d)
    rw [e1] at this; exact this.alloc _
  · have := C3.new ((w.alloc (.cells #[.bool v.s, .slice v.A v.n v.c, .slice v.B v.m v.d] 24)).alloc (.cells #[.bool u.s, .slice u.A u.n u.c, .slice u.B u.m u.d] 24)) (.bool false) (.slice none 0 0) (.slice none 0 0)
    rw [e2] at this; exact this
  · exact (((Below.refl w.heap.size w).alloc (Nat.le_refl _) _).alloc (by simp) _).alloc (by simp; omega) _
theorem open2 (w : World) (v u : Rv) (W : World) (h : ((w.alloc (.cells #[.bool v.s, .slice v.A v.n v.c, .slice v.B v.m v.d] 24)).alloc (.cells #[.bool u.s, .slice u.A u.n u.c, .slice u.B u.m u.d] 24)) = W) :
    C3 W w.heap.size (.bool v.s) (.slice v.A v.n v.c) (.slice v.B v.m v.d) ∧ C3 W (w.heap.size + 1) (.bool u.s) (.slice u.A u.n u.c) (.slice u.B u.m u.d) ∧ Below w.heap.size w W ∧ W.heap.size = w.heap.size + 2 := by
  subst h
  have e1 : (w.alloc (.cells #[.bool v.s, .slice v.A v.n v.c, .slice v.B v.m v.d] 24)).heap.size = w.heap.size + 1 := by simp
  refine ⟨((C3.new w (.bool v.s) (.slice v.A v.n v.c) (.slice v.B v.m v.d)).alloc _), ?_, ?_, by simp⟩
  · have := C3.new (w.alloc (.cells #[.bool v.s, .slice v.A v.n v.c, .slice v.B v.m v.d] 24)) (.bool u.s) (.slice u.A u.n u.c) (.slice u.B u.m u.d)
    rw [e1] at this; exact this
  · exact ((Below.refl w.heap.size w).alloc (Nat.le_refl _) _).alloc (by simp) _
theorem open1z (w : World) (v : Rv) (W : World) (h : ((w.alloc (.cells #[.bool v.s, .slice v.A v.n v.c, .slice v.B v.m v.d] 24)).alloc (.cells #[.bool false, .slice none 0 0, .slice none 0 0] 24)) = W) :
    C3 W w.heap.size (.bool v.s) (.slice v.A v.n v.c) (.slice v.B v.m v.d) ∧ C3 W (w.heap.size + 1) (.bool false) (.slice none 0 0) (.slice none 0 0) ∧ Below w.heap.size w W ∧ W.heap.size = w.heap.size + 2 := by
  subst h
  have e1 : (w.alloc (.cells #[.bool v.s, .slice v.A v.n v.c, .slice v.B v.m v.d] 24)).heap.size = w.heap.size + 1 := by simp
  refine ⟨((C3.new w (.bool v.s) (.slice v.A v.n v.c) (.slice v.B v.m v.d)).alloc _), ?_, ?_, by simp⟩
  · have := C3.new (w.alloc (.cells #[.bool v.s, .slice v.A v.n v.c, .slice v.B v.m v.d] 24)) (.bool false) (.slice none 0 0) (.slice none 0 0)
    rw [e1] at this; exact this
  · exact ((Below.refl w.heap.size w).alloc (Nat.le_refl _) _).alloc (by simp) _
theorem open1 (w : World) (v : Rv) (W : World) (h : (w.alloc (.cells #[.bool v.s, .slice v.A v.n v.c, .slice v.B v.m v.d] 24)) = W) :
    C3 W w.heap.size (.bool v.s) (.slice v.A v.n v.c) (.slice v.B v.m v.d) ∧ Below w.heap.size w W ∧ W.heap.size = w.heap.size + 1 := by
  subst h
  exact ⟨C3.new w (.bool v.s) (.slice v.A v.n v.c) (.slice v.B v.m v.d), (Below.refl w.heap.size w).alloc (Nat.le_refl _) _, by simp⟩

set_option maxHeartbeats 800000 in
theorem Add_c (v u : Rv) (r s : Rat) (w : World) (hv : Rw w v r 2000) (hu : Rw w u s 2000) :
    Calls Try.prog 13 #[.agg #[.bool v.s, .slice v.A v.n v.c, .slice v.B v.m v.d], .agg #[.bool u.s, .slice u.A u.n u.c, .slice u.B u.m u.d]] w fun e w' => ∃ v : Rv, e = .returned (.agg #[.bool v.s, .slice v.A v.n v.c, .slice v.B v.m v.d]) ∧ Rt w' w.heap.size v (r + s) ∧ Below w.heap.size w w' := by
  go_enter Try.func13, Try.ntmps13
  go_wp2_with fail
  generalize hW : (((w.alloc (.cells #[.bool v.s, .slice v.A v.n v.c, .slice v.B v.m v.d] 24)).alloc (.cells #[.bool u.s, .slice u.A u.n u.c, .slice u.B u.m u.d] 24)).alloc (.cells #[.bool false, .slice none 0 0, .slice none 0 0] 24)) = W
  obtain ⟨ka, kb, kz, HW, hs⟩ := open2z w v u W hW
  clear hW
  refine (crosswise_any v u r s _ ((hv.below HW).more (by omega)) ((hu.below HW).more (by omega))).mono ?_
  rintro e w1 ⟨q, x, y, X, cx, Y, cy, rfl, hcx, hcy, hlx, hly, hy, hrx, hry, hq, hb1⟩
  replace kz := kz.below hb1
  have hs1 := hb1.size
  have HB := HW.trans (hb1.mono (by omega))
  clear hb1 ka kb
  go_wp2_with fail
  refine (Of_nums q X Y _ _ cx cy x y _ _ (r + s) _ (val_lim _) (val_lim _) (by omega) (by omega) hcx hcy (hrx.lower (Nat.zero_le _)) (hry.lower (Nat.zero_le _)) hq).mono ?_
  rintro e w2 ⟨z, rfl, hz, hb2⟩
  replace kz := kz.below hb2
  replace HB := HB.trans (hb2.mono (by omega))
  obtain ⟨q0, q1, q2, g0, g1, g2⟩ := kz.facts
  clear hb2 hrx hry
  go_wp2
  refine ret3 (fn := Try.f13) Try.results13 rfl rfl kz ?_
  exact ⟨z, rfl, (hz.put (by omega) _ _ _).lower (by omega), HB.trans (put3_below (by omega) _ _ _)⟩

set_option maxHeartbeats 1600000 in
theorem Mul_c (v u : Rv) (r s : Rat) (w : World) (hv : Rw w v r 2000) (hu : Rw w u s 2000) :
    Calls Try.prog 14 #[.agg #[.bool v.s, .slice v.A v.n v.c, .slice v.B v.m v.d], .agg #[.bool u.s, .slice u.A u.n u.c, .slice u.B u.m u.d]] w fun e w' => ∃ v : Rv, e = .returned (.agg #[.bool v.s, .slice v.A v.n v.c, .slice v.B v.m v.d]) ∧ Rt w' w.heap.size v (r * s) ∧ Below w.heap.size w w' := by
  go_enter Try.func14, Try.ntmps14
  go_wp2_with fail
  generalize hW : (((w.alloc (.cells #[.bool v.s, .slice v.A v.n v.c, .slice v.B v.m v.d] 24)).alloc (.cells #[.bool u.s, .slice u.A u.n u.c, .slice u.B u.m u.d] 24)).alloc (.cells #[.bool false, .slice none 0 0, .slice none 0 0] 24)) = W
  obtain ⟨ka, kb, kz, HW, hsW⟩ := open2z w v u W hW
  clear hW
  obtain ⟨h1, h2, h3, h4, a, b, ha, hb, hr⟩ := hv.below HW
  obtain ⟨g1, g2, g3, g4, c, d, hc, hd, hs⟩ := hu.below HW
  have hrs : rn (v.s != u.s) (val a * val c) (val b * val d) = r * s := by rw [← hr, ← hs, rn_mul]
  have hl1 : (lim (val a * val c)).length ≤ 4000 := ((ha.bd h3).mul (hc.bd g3)).len
  have hl2 : (lim (val b * val d)).length ≤ 4000 := ((hb.bd h4).mul (hd.bd g4)).len
  obtain ⟨a0, a1, a2, a3, a4, a5⟩ := ka.facts
  obtain ⟨b0, b1, b2, b3, b4, b5⟩ := kb.facts
  obtain ⟨z0, z1, z2, z3, z4, z5⟩ := kz.facts
  have hn1 : ¬ w.heap.size = w.heap.size + 1 + 1 := by omega
  have hn2 : ¬ w.heap.size + 1 + 1 = w.heap.size := by omega
  go_region_held3 (fun w' => w'.cell? ⟨w.heap.size, 0, none⟩ = some (.bool v.s) ∧ w'.cell? ⟨w.heap.size, 1, none⟩ = some (.slice v.A v.n v.c) ∧ w'.cell? ⟨w.heap.size, 2, none⟩ = some (.slice v.B v.m v.d) ∧ w'.cell? ⟨w.heap.size + 1, 0, none⟩ = some (.bool u.s) ∧ w'.cell? ⟨w.heap.size + 1, 1, none⟩ = some (.slice u.A u.n u.c) ∧ w'.cell? ⟨w.heap.size + 1, 2, none⟩ = some (.slice u.B u.m u.d)) (go_keep)
      (first
      | (go_at_call_of 22 v.A
         refine (Mul_any v.A u.A v.n u.n v.c u.c a c _ (by omega) (by omega) h1 g1 ha.drew hc.drew).mono ?_
         rintro e w1 ⟨X1, cx1, rfl, ho1, hb1⟩
         obtain ⟨a0, a1, a2, a3, a4, a5⟩ := (ka.drew.below hb1).facts
         obtain ⟨b0, b1, b2, b3, b4, b5⟩ := (kb.drew.below hb1).facts
         obtain ⟨z0, z1, z2, z3, z4, z5⟩ := (kz.drew.below hb1).facts)
      | (go_at_call_of 22 v.B
         refine (Mul_any v.B u.B v.m u.m v.d u.d b d _ (by omega) (by omega) h2 g2 (hb.drew.below hb1) (hd.drew.below hb1)).mono ?_
         rintro e w2 ⟨X2, cx2, rfl, ho2, hb2⟩
         obtain ⟨a0, a1, a2, a3, a4, a5⟩ := ((ka.drew.below hb1).below hb2).facts
         obtain ⟨b0, b1, b2, b3, b4, b5⟩ := ((kb.drew.below hb1).below hb2).facts
         obtain ⟨z0, z1, z2, z3, z4, z5⟩ := ((kz.drew.below hb1).below hb2).facts)
      | (go_at_call_of 21 X1
         refine (Of_nums (v.s != u.s) X1 X2 _ _ cx1 cx2 (val a * val c) (val b * val d) _ _ (r * s) _ (val_lim _) (val_lim _) (by omega) (by omega) ho1.capLe ho2.capLe ((ho1.row.below hb2).lower (Nat.zero_le _)) (ho2.row.lower (Nat.zero_le _)) hrs).mono ?_
         rintro e w3 ⟨z, rfl, hz, hb3⟩
         obtain ⟨a0, a1, a2, a3, a4, a5⟩ := (((ka.drew.below hb1).below hb2).below hb3).facts
         obtain ⟨b0, b1, b2, b3, b4, b5⟩ := (((kb.drew.below hb1).below hb2).below hb3).facts
         obtain ⟨z0, z1, z2, z3, z4, z5⟩ := (((kz.drew.below hb1).below hb2).below hb3).facts))
  have hs1 : W.heap.size ≤ w1.heap.size := hb1.size
  have hs2 := hb2.size
  have hs3 := hb3.size
  have kz3 := ((kz.drew.below hb1).below hb2).below hb3
  have HB3 : Below w.heap.size w w3 := HW.trans ((below_drewN' w.heap.size W 1).trans ((hb1.mono (by show _ ≤ W.heap.size; omega)).trans ((hb2.mono (by omega)).trans (hb3.mono (by omega)))))
  clear hb1 hb2 hb3 ka kb
  go_wp2
  refine ret3 (fn := Try.f14) Try.results14 rfl rfl kz3 ?_
  exact ⟨z, rfl, (hz.put (by omega) _ _ _).lower (by omega), HB3.trans (put3_below (by omega) _ _ _)⟩
end Go.Proofs.Ytgfajmnmeggaeaa
