/-
  The program's rationals, fifth part: sums, differences, the other sign, comparisons.
  The program's rationals, sixth part: quotients, differences, the other sign, comparisons, floors.
  The program's rationals, seventh part: the whole number below, whether one is too large, whether it is normal.
  The law's own helpers: whether two rationals are one, the known sum.
  big: are some rationals more limbs than is looked at?
  What a law's walk over rationals keeps: sizes of sums, products; the world behind the parameters' blocks and the row that 'big' is handed.
  The program's rationals, eighth part: whether one is too large, whether it is normal.
  The program's rationals, ninth part: whether one is normal.
-/
import Derived.Test.YtdpbceipiappjaaGreatDoorMRa
namespace Go.Proofs.YtdpbceipiappjaaGreatDoor
set_option maxRecDepth 20000
open Go.RowKit

theorem Sz.ofRn {s : Bool} {x y p : Nat} {r : Rat} (h : rn s x y = r) (hx : Bd x p) (hy : Bd y p) (hp : 0 < p) : Sz r p := ⟨Bd.num h hx, Bd.den h hy hp⟩

/-- The world behind the blocks of two parameters and of the result. -/
theorem open2z (w : World) (v u : Rv) (W : World) (h : (((w.alloc (.cells #[.bool v.s, .slice v.A v.n v.c, .slice v.B v.m v.d] 24)).alloc (.cells #[.bool u.s, .slice u.A u.n u.c, .slice u.B u.m u.d] 24)).alloc (.cells #[.bool false, .slice none 0 0, .slice none 0 0] 24)) = W) :
    C3 W w.heap.size (.bool v.s) (.slice v.A v.n v.c) (.slice v.B v.m v.d) ∧ C3 W (w.heap.size + 1) (.bool u.s) (.slice u.A u.n u.c) (.slice u.B u.m u.d) ∧ C3 W (w.heap.size + 1 + 1) (.bool false) (.slice none 0 0) (.slice none 0 0) ∧ Below w.heap.size w W ∧ W.heap.size = w.heap.size + 3 := by
  subst h
  have e1 : (w.alloc (.cells #[.bool v.s, .slice v.A v.n v.c, .slice v.B v.m v.d] 24)).heap.size = w.heap.size + 1 := by simp
  have e2 : ((w.alloc (.cells #[.bool v.s, .slice v.A v.n v.c, .slice v.B v.m v.d] 24)).alloc (.cells #[.bool u.s, .slice u.A u.n u.c, .slice u.B u.m u.d] 24)).heap.size = w.heap.size + 1 + 1 := by simp
  refine ⟨((C3.new w (.bool v.s) (.slice v.A v.n v.c) (.slice v.B v.m v.d)).alloc _).alloc _, ?_, ?_, ?_, by simp⟩
  · have := C3.new (w.alloc (.cells #[.bool v.s, .slice v.A v.n v.c, .slice v.B v.m v.d] 24)) (.bool u.s) (.slice u.A u.n u.c) (.slice u.B u.m u.d)
    rw [e1] at this; exact this.alloc _
  · have := C3.new ((w.alloc (.cells #[.bool v.s, .slice v.A v.n v.c, .slice v.B v.m v.d] 24)).alloc (.cells #[.bool u.s, .slice u.A u.n u.c, .slice u.B u.m u.d] 24)) (.bool false) (.slice none 0 0) (.slice none 0 0)
    rw [e2] at this; exact this
  · exact (((Below.refl w.heap.size w).alloc (Nat.le_refl _) _).alloc (by simp) _).alloc (by simp; omega) _
theorem open2 (w : World) (v u : Rv) (W : World) (h : ((w.alloc (.cells #[.bool v.s, .slice v.A v.n v.c, .slice v.B v.m v.d] 24)).alloc (.cells #[.bool u.s, .slice u.A u.n u.c, .slice u.B u.m u.d] 24)) = W) :
    C3 W w.heap.size (.bool v.s) (.slice v.A v.n v.c) (.slice v.B v.m v.d) ∧ C3 W (w.heap.size + 1) (.bool u.s) (.slice u.A u.n u.c) (.slice u.B u.m u.d) ∧ Below w.heap.size w W ∧ W.heap.size = w.heap.size + 2 := by
  subst h
  have e1 : (w.alloc (.cells #[.bool v.s, .slice v.A v.n v.c, .slice v.B v.m v.d] 24)).heap.size = w.heap.size + 1 := by simp
  refine ⟨((C3.new w (.bool v.s) (.slice v.A v.n v.c) (.slice v.B v.m v.d)).alloc _), ?_, ?_, by simp⟩
  · have := C3.new (w.alloc (.cells #[.bool v.s, .slice v.A v.n v.c, .slice v.B v.m v.d] 24)) (.bool u.s) (.slice u.A u.n u.c) (.slice u.B u.m u.d)
    rw [e1] at this; exact this
  · exact ((Below.refl w.heap.size w).alloc (Nat.le_refl _) _).alloc (by simp) _
theorem open1z (w : World) (v : Rv) (W : World) (h : ((w.alloc (.cells #[.bool v.s, .slice v.A v.n v.c, .slice v.B v.m v.d] 24)).alloc (.cells #[.bool false, .slice none 0 0, .slice none 0 0] 24)) = W) :
    C3 W w.heap.size (.bool v.s) (.slice v.A v.n v.c) (.slice v.B v.m v.d) ∧ C3 W (w.heap.size + 1) (.bool false) (.slice none 0 0) (.slice none 0 0) ∧ Below w.heap.size w W ∧ W.heap.size = w.heap.size + 2 := by
  subst h
  have e1 : (w.alloc (.cells #[.bool v.s, .slice v.A v.n v.c, .slice v.B v.m v.d] 24)).heap.size = w.heap.size + 1 := by simp
  refine ⟨((C3.new w (.bool v.s) (.slice v.A v.n v.c) (.slice v.B v.m v.d)).alloc _), ?_, ?_, by simp⟩
  · have := C3.new (w.alloc (.cells #[.bool v.s, .slice v.A v.n v.c, .slice v.B v.m v.d] 24)) (.bool false) (.slice none 0 0) (.slice none 0 0)
    rw [e1] at this; exact this
  · exact ((Below.refl w.heap.size w).alloc (Nat.le_refl _) _).alloc (by simp) _
theorem open1 (w : World) (v : Rv) (W : World) (h : (w.alloc (.cells #[.bool v.s, .slice v.A v.n v.c, .slice v.B v.m v.d] 24)) = W) :
    C3 W w.heap.size (.bool v.s) (.slice v.A v.n v.c) (.slice v.B v.m v.d) ∧ Below w.heap.size w W ∧ W.heap.size = w.heap.size + 1 := by
  subst h
  exact ⟨C3.new w (.bool v.s) (.slice v.A v.n v.c) (.slice v.B v.m v.d), (Below.refl w.heap.size w).alloc (Nat.le_refl _) _, by simp⟩

set_option maxHeartbeats 800000 in
theorem Add_c (v u : Rv) (r s : Rat) (w : World) (hv : Rw w v r 2000) (hu : Rw w u s 2000) :
    Calls Tryz.prog 84 #[.agg #[.bool v.s, .slice v.A v.n v.c, .slice v.B v.m v.d], .agg #[.bool u.s, .slice u.A u.n u.c, .slice u.B u.m u.d]] w fun e w' => ∃ v : Rv, e = .returned (.agg #[.bool v.s, .slice v.A v.n v.c, .slice v.B v.m v.d]) ∧ Rt w' w.heap.size v (r + s) ∧ Below w.heap.size w w' := by
  go_enter Tryz.func84, Tryz.ntmps84
  go_wp2_with fail
  generalize hW : (((w.alloc (.cells #[.bool v.s, .slice v.A v.n v.c, .slice v.B v.m v.d] 24)).alloc (.cells #[.bool u.s, .slice u.A u.n u.c, .slice u.B u.m u.d] 24)).alloc (.cells #[.bool false, .slice none 0 0, .slice none 0 0] 24)) = W
  obtain ⟨ka, kb, kz, HW, hs⟩ := open2z w v u W hW
  clear hW
  refine (crosswise_any v u r s _ ((hv.below HW).more (by omega)) ((hu.below HW).more (by omega))).mono ?_
  rintro e w1 ⟨q, x, y, X, cx, Y, cy, rfl, hcx, hcy, hlx, hly, hy, hrx, hry, hq, hb1⟩
  replace kz := kz.below hb1
  have hs1 := hb1.size
  have HB := HW.trans (hb1.mono (by omega))
  clear hb1 ka kb
  go_wp2_with fail
  refine (Of_nums q X Y _ _ cx cy x y _ _ (r + s) _ (val_lim _) (val_lim _) (by omega) (by omega) hcx hcy (hrx.lower (Nat.zero_le _)) (hry.lower (Nat.zero_le _)) hq).mono ?_
  rintro e w2 ⟨z, rfl, hz, hb2⟩
  replace kz := kz.below hb2
  replace HB := HB.trans (hb2.mono (by omega))
  obtain ⟨q0, q1, q2, g0, g1, g2⟩ := kz.facts
  clear hb2 hrx hry
  go_wp2
  refine ret3 (fn := Tryz.f84) Tryz.results84 rfl rfl kz ?_
  exact ⟨z, rfl, (hz.put (by omega) _ _ _).lower (by omega), HB.trans (put3_below (by omega) _ _ _)⟩

set_option maxHeartbeats 1600000 in
theorem Mul_c (v u : Rv) (r s : Rat) (w : World) (hv : Rw w v r 2000) (hu : Rw w u s 2000) :
    Calls Tryz.prog 82 #[.agg #[.bool v.s, .slice v.A v.n v.c, .slice v.B v.m v.d], .agg #[.bool u.s, .slice u.A u.n u.c, .slice u.B u.m u.d]] w fun e w' => ∃ v : Rv, e = .returned (.agg #[.bool v.s, .slice v.A v.n v.c, .slice v.B v.m v.d]) ∧ Rt w' w.heap.size v (r * s) ∧ Below w.heap.size w w' := by
  go_enter Tryz.func82, Tryz.ntmps82
  go_wp2_with fail
  generalize hW : (((w.alloc (.cells #[.bool v.s, .slice v.A v.n v.c, .slice v.B v.m v.d] 24)).alloc (.cells #[.bool u.s, .slice u.A u.n u.c, .slice u.B u.m u.d] 24)).alloc (.cells #[.bool false, .slice none 0 0, .slice none 0 0] 24)) = W
  obtain ⟨ka, kb, kz, HW, hsW⟩ := open2z w v u W hW
  clear hW
  obtain ⟨h1, h2, h3, h4, a, b, ha, hb, hr⟩ := hv.below HW
  obtain ⟨g1, g2, g3, g4, c, d, hc, hd, hs⟩ := hu.below HW
  have hrs : rn (v.s != u.s) (val a * val c) (val b * val d) = r * s := by rw [← hr, ← hs, rn_mul]
  have hl1 : (lim (val a * val c)).length ≤ 4000 := ((ha.bd h3).mul (hc.bd g3)).len
  have hl2 : (lim (val b * val d)).length ≤ 4000 := ((hb.bd h4).mul (hd.bd g4)).len
  obtain ⟨a0, a1, a2, a3, a4, a5⟩ := ka.facts
  obtain ⟨b0, b1, b2, b3, b4, b5⟩ := kb.facts
  obtain ⟨z0, z1, z2, z3, z4, z5⟩ := kz.facts
  have hn1 : ¬ w.heap.size = w.heap.size + 1 + 1 := by omega
  have hn2 : ¬ w.heap.size + 1 + 1 = w.heap.size := by omega
  go_region_held3 (fun w' => w'.cell? ⟨w.heap.size, 0, none⟩ = some (.bool v.s) ∧ w'.cell? ⟨w.heap.size, 1, none⟩ = some (.slice v.A v.n v.c) ∧ w'.cell? ⟨w.heap.size, 2, none⟩ = some (.slice v.B v.m v.d) ∧ w'.cell? ⟨w.heap.size + 1, 0, none⟩ = some (.bool u.s) ∧ w'.cell? ⟨w.heap.size + 1, 1, none⟩ = some (.slice u.A u.n u.c) ∧ w'.cell? ⟨w.heap.size + 1, 2, none⟩ = some (.slice u.B u.m u.d)) (go_keep)
      (first
      | (go_at_call_of 95 v.A
         refine (Mul_any v.A u.A v.n u.n v.c u.c a c _ (by omega) (by omega) h1 g1 ha.drew hc.drew).mono ?_
         rintro e w1 ⟨X1, cx1, rfl, ho1, hb1⟩
         obtain ⟨a0, a1, a2, a3, a4, a5⟩ := (ka.drew.below hb1).facts
         obtain ⟨b0, b1, b2, b3, b4, b5⟩ := (kb.drew.below hb1).facts
         obtain ⟨z0, z1, z2, z3, z4, z5⟩ := (kz.drew.below hb1).facts)
      | (go_at_call_of 95 v.B
         refine (Mul_any v.B u.B v.m u.m v.d u.d b d _ (by omega) (by omega) h2 g2 (hb.drew.below hb1) (hd.drew.below hb1)).mono ?_
         rintro e w2 ⟨X2, cx2, rfl, ho2, hb2⟩
         obtain ⟨a0, a1, a2, a3, a4, a5⟩ := ((ka.drew.below hb1).below hb2).facts
         obtain ⟨b0, b1, b2, b3, b4, b5⟩ := ((kb.drew.below hb1).below hb2).facts
         obtain ⟨z0, z1, z2, z3, z4, z5⟩ := ((kz.drew.below hb1).below hb2).facts)
      | (go_at_call_of 41 X1
         refine (Of_nums (v.s != u.s) X1 X2 _ _ cx1 cx2 (val a * val c) (val b * val d) _ _ (r * s) _ (val_lim _) (val_lim _) (by omega) (by omega) ho1.capLe ho2.capLe ((ho1.row.below hb2).lower (Nat.zero_le _)) (ho2.row.lower (Nat.zero_le _)) hrs).mono ?_
         rintro e w3 ⟨z, rfl, hz, hb3⟩
         obtain ⟨a0, a1, a2, a3, a4, a5⟩ := (((ka.drew.below hb1).below hb2).below hb3).facts
         obtain ⟨b0, b1, b2, b3, b4, b5⟩ := (((kb.drew.below hb1).below hb2).below hb3).facts
         obtain ⟨z0, z1, z2, z3, z4, z5⟩ := (((kz.drew.below hb1).below hb2).below hb3).facts))
  have hs1 : W.heap.size ≤ w1.heap.size := hb1.size
  have hs2 := hb2.size
  have hs3 := hb3.size
  have kz3 := ((kz.drew.below hb1).below hb2).below hb3
  have HB3 : Below w.heap.size w w3 := HW.trans ((below_drewN' w.heap.size W 1).trans ((hb1.mono (by show _ ≤ W.heap.size; omega)).trans ((hb2.mono (by omega)).trans (hb3.mono (by omega)))))
  clear hb1 hb2 hb3 ka kb
  go_wp2
  refine ret3 (fn := Tryz.f82) Tryz.results82 rfl rfl kz3 ?_
  exact ⟨z, rfl, (hz.put (by omega) _ _ _).lower (by omega), HB3.trans (put3_below (by omega) _ _ _)⟩
end Go.Proofs.YtdpbceipiappjaaGreatDoor

namespace Go.Proofs.YtdpbceipiappjaaGreatDoor
set_option maxRecDepth 20000
open Go.RowKit

theorem ret3t {fn : Func} {t s : Tmp} {R : Ending → World → Prop} {a : Act} {w : World} {b : Nat} {x y z u : Value} (hres : fn.results = #[.cell t 24, .tmp s]) (ht : a.tmps.getD t undef = .pointer (some ⟨b, 0, none⟩)) (hu : a.tmps.getD s undef = u) (hd : a.defers = [])
    (hk : C3 w b x y z) (hR : R (.returned (.tuple #[.agg #[x, y, z], u])) w) : bodyPost Tryz.prog fn R .ret a w := by
  obtain ⟨q0, q1, q2, g0, g1, g2⟩ := hk.facts
  have ht' : (a.tmps[t]?.getD undef) = .pointer (some ⟨b, 0, none⟩) := by simpa using ht
  have hu' : (a.tmps[s]?.getD undef) = u := by simpa using hu
  refine bodyPost_ret (v := .tuple #[.agg #[x, y, z], u]) ?_ hd hR
  simp [results, hres, go_sem, ht', hu', q0, q1, q2]

set_option maxHeartbeats 1600000 in
theorem Div_c (v u : Rv) (r s : Rat) (w : World) (hv : Rw w v r 2000) (hu : Rw w u s 2000) (hs0 : s ≠ 0) :
    Calls Tryz.prog 85 #[.agg #[.bool v.s, .slice v.A v.n v.c, .slice v.B v.m v.d], .agg #[.bool u.s, .slice u.A u.n u.c, .slice u.B u.m u.d]] w fun e w' => ∃ v : Rv, e = .returned (.tuple #[.agg #[.bool v.s, .slice v.A v.n v.c, .slice v.B v.m v.d], .bool true]) ∧ Rt w' w.heap.size v (r / s) ∧ Below w.heap.size w w' := by
  go_enter Tryz.func85, Tryz.ntmps85
  go_wp2_with fail
  generalize hW : (((w.alloc (.cells #[.bool v.s, .slice v.A v.n v.c, .slice v.B v.m v.d] 24)).alloc (.cells #[.bool u.s, .slice u.A u.n u.c, .slice u.B u.m u.d] 24)).alloc (.cells #[.bool false, .slice none 0 0, .slice none 0 0] 24)) = W
  obtain ⟨ka, kb, kz, HW, hsW⟩ := open2z w v u W hW
  clear hW
  refine (Zero_any u s _ ((hu.below HW).more (by omega))).mono ?_
  rintro e w0 ⟨rfl, hb0⟩
  have hsW2 := hb0.size
  replace ka := ka.below hb0
  replace kb := kb.below hb0
  replace kz := kz.below hb0
  replace HW := HW.trans (hb0.mono (by omega))
  clear hb0
  rw [decide_eq_false hs0]
  obtain ⟨a0, a1, a2, a3, a4, a5⟩ := ka.facts
  obtain ⟨b0, b1, b2, b3, b4, b5⟩ := kb.facts
  obtain ⟨z0, z1, z2, z3, z4, z5⟩ := kz.facts
  go_wp2_with fail
  obtain ⟨h1, h2, h3, h4, a, b, ha, hb, hr⟩ := hv.below HW
  obtain ⟨g1, g2, g3, g4, c, d, hc, hd, hs⟩ := hu.below HW
  have hcd : val c ≠ 0 ∧ val d ≠ 0 := by
    refine ⟨fun h => hs0 (by rw [← hs]; exact rn_zero (.inl h)), fun h => hs0 (by rw [← hs]; exact rn_zero (.inr h))⟩
  have hrs : rn (v.s != u.s) (val a * val d) (val b * val c) = r / s := by rw [← hr, ← hs, rn_div _ _ hcd.1 hcd.2]
  have hl1 : (lim (val a * val d)).length ≤ 4000 := ((ha.bd h3).mul (hd.bd g4)).len
  have hl2 : (lim (val b * val c)).length ≤ 4000 := ((hb.bd h4).mul (hc.bd g3)).len
  obtain ⟨a0, a1, a2, a3, a4, a5⟩ := ka.facts
  obtain ⟨b0, b1, b2, b3, b4, b5⟩ := kb.facts
  obtain ⟨z0, z1, z2, z3, z4, z5⟩ := kz.facts
  have hn1 : ¬ w.heap.size = w.heap.size + 1 + 1 := by omega
  have hn2 : ¬ w.heap.size + 1 + 1 = w.heap.size := by omega
  go_region_held3 (fun w' => w'.cell? ⟨w.heap.size, 0, none⟩ = some (.bool v.s) ∧ w'.cell? ⟨w.heap.size, 1, none⟩ = some (.slice v.A v.n v.c) ∧ w'.cell? ⟨w.heap.size, 2, none⟩ = some (.slice v.B v.m v.d) ∧ w'.cell? ⟨w.heap.size + 1, 0, none⟩ = some (.bool u.s) ∧ w'.cell? ⟨w.heap.size + 1, 1, none⟩ = some (.slice u.A u.n u.c) ∧ w'.cell? ⟨w.heap.size + 1, 2, none⟩ = some (.slice u.B u.m u.d)) (go_keep)
      (first
      | (go_at_call_of 95 v.A
         refine (Mul_any v.A u.B v.n u.m v.c u.d a d _ (by omega) (by omega) h1 g2 ha.drew hd.drew).mono ?_
         rintro e w1 ⟨X1, cx1, rfl, ho1, hb1⟩
         obtain ⟨a0, a1, a2, a3, a4, a5⟩ := (ka.drew.below hb1).facts
         obtain ⟨b0, b1, b2, b3, b4, b5⟩ := (kb.drew.below hb1).facts
         obtain ⟨z0, z1, z2, z3, z4, z5⟩ := (kz.drew.below hb1).facts)
      | (go_at_call_of 95 v.B
         refine (Mul_any v.B u.A v.m u.n v.d u.c b c _ (by omega) (by omega) h2 g1 (hb.drew.below hb1) (hc.drew.below hb1)).mono ?_
         rintro e w2 ⟨X2, cx2, rfl, ho2, hb2⟩
         obtain ⟨a0, a1, a2, a3, a4, a5⟩ := ((ka.drew.below hb1).below hb2).facts
         obtain ⟨b0, b1, b2, b3, b4, b5⟩ := ((kb.drew.below hb1).below hb2).facts
         obtain ⟨z0, z1, z2, z3, z4, z5⟩ := ((kz.drew.below hb1).below hb2).facts)
      | (go_at_call_of 41 X1
         refine (Of_nums (v.s != u.s) X1 X2 _ _ cx1 cx2 (val a * val d) (val b * val c) _ _ (r / s) _ (val_lim _) (val_lim _) (by omega) (by omega) ho1.capLe ho2.capLe ((ho1.row.below hb2).lower (Nat.zero_le _)) (ho2.row.lower (Nat.zero_le _)) hrs).mono ?_
         rintro e w3 ⟨z, rfl, hz, hb3⟩
         obtain ⟨a0, a1, a2, a3, a4, a5⟩ := (((ka.drew.below hb1).below hb2).below hb3).facts
         obtain ⟨b0, b1, b2, b3, b4, b5⟩ := (((kb.drew.below hb1).below hb2).below hb3).facts
         obtain ⟨z0, z1, z2, z3, z4, z5⟩ := (((kz.drew.below hb1).below hb2).below hb3).facts))
  have hs1 : w0.heap.size ≤ w1.heap.size := hb1.size
  have hs2 := hb2.size
  have hs3 := hb3.size
  have kz3 := ((kz.drew.below hb1).below hb2).below hb3
  have HB3 : Below w.heap.size w w3 := HW.trans ((below_drewN' w.heap.size w0 1).trans ((hb1.mono (by show _ ≤ w0.heap.size; omega)).trans ((hb2.mono (by omega)).trans (hb3.mono (by omega)))))
  clear hb1 hb2 hb3 ka kb
  go_wp2
  refine ret3t (fn := Tryz.f85) Tryz.results85 rfl rfl rfl (kz3.put _ _ _) ?_
  exact ⟨z, rfl, (hz.put (by omega) _ _ _).lower (by omega), HB3.trans (put3_below (by omega) _ _ _)⟩
set_option maxHeartbeats 800000 in
theorem Div_zero_c (v u : Rv) (s : Rat) (w : World) (hu : Rw w u s 2000) (hs0 : s = 0) :
    Calls Tryz.prog 85 #[.agg #[.bool v.s, .slice v.A v.n v.c, .slice v.B v.m v.d], .agg #[.bool u.s, .slice u.A u.n u.c, .slice u.B u.m u.d]] w fun e w' => ∃ v : Rv, e = .returned (.tuple #[.agg #[.bool v.s, .slice v.A v.n v.c, .slice v.B v.m v.d], .bool false]) ∧ Rt w' w.heap.size v 0 ∧ Below w.heap.size w w' := by
  go_enter Tryz.func85, Tryz.ntmps85
  go_wp2_with fail
  generalize hW : (((w.alloc (.cells #[.bool v.s, .slice v.A v.n v.c, .slice v.B v.m v.d] 24)).alloc (.cells #[.bool u.s, .slice u.A u.n u.c, .slice u.B u.m u.d] 24)).alloc (.cells #[.bool false, .slice none 0 0, .slice none 0 0] 24)) = W
  obtain ⟨ka, kb, kz, HW, hsW⟩ := open2z w v u W hW
  clear hW
  refine (Zero_any u s _ ((hu.below HW).more (by omega))).mono ?_
  rintro e w0 ⟨rfl, hb0⟩
  have hsW2 := hb0.size
  replace kz := kz.below hb0
  replace HW := HW.trans (hb0.mono (by omega))
  clear hb0 ka kb
  rw [decide_eq_true hs0]
  go_wp2_with fail
  refine (nought_any _).mono ?_
  rintro e w1 ⟨z, rfl, hz, hb1⟩
  have hs1 := hb1.size
  replace kz := kz.below hb1
  replace HW := HW.trans (hb1.mono (by omega))
  obtain ⟨z0, z1, z2, z3, z4, z5⟩ := kz.facts
  clear hb1
  go_wp2
  refine ret3t (fn := Tryz.f85) Tryz.results85 rfl rfl rfl (kz.put _ _ _) ?_
  exact ⟨z, rfl, (hz.put (by omega) _ _ _).lower (by omega), HW.trans (put3_below (by omega) _ _ _)⟩

theorem sgn_sub_zero {r s : Rat} : sgn (r - s) = 0 ↔ r = s := by
  have h0 : r - s = 0 ↔ r = s := by
    constructor
    · intro h
      have : r - s + s = 0 + s := by rw [h]
      rwa [Rat.sub_add_cancel, Rat.zero_add] at this
    · rintro rfl; exact Rat.sub_self
  rw [← h0]
  unfold sgn
  split
  · rename_i h; simp [h]
  · rename_i h; split <;> simp [h]

end Go.Proofs.YtdpbceipiappjaaGreatDoor

namespace Go.Proofs.YtdpbceipiappjaaGreatDoor
set_option maxRecDepth 20000
open Go.RowKit

end Go.Proofs.YtdpbceipiappjaaGreatDoor

namespace Go.Proofs.YtdpbceipiappjaaGreatDoor
set_option maxRecDepth 20000
open Go.RowKit

theorem lim_one_limb {x : Nat} (h0 : x ≠ 0) (h1 : x < 4294967296) : lim x = [x] := by
  rw [lim_pos h0, Nat.mod_eq_of_lt h1, Nat.div_eq_of_lt h1, lim_zero]
theorem Rt.lit {w : World} {A B : Option Addr} {c d x y : Nat} (hx0 : x ≠ 0) (hx : x < 4294967296) (hy0 : y ≠ 0) (hy : y < 4294967296) (hg : Nat.gcd x y = 1) (hc : 1 ≤ c) (hd : 1 ≤ d) (h1 : Row w 0 A 1 [x]) (h2 : Row w 0 B 1 [y]) :
    Rt w 0 ⟨false, A, 1, c, B, 1, d⟩ (rn false x y) := by
  refine Rt.parts hx0 hy0 rfl ?_ ?_ hc hd ?_ ?_
  · rw [hg, Nat.div_one, lim_one_limb hx0 hx]; rfl
  · rw [hg, Nat.div_one, lim_one_limb hy0 hy]; rfl
  · rw [hg, Nat.div_one, lim_one_limb hx0 hx]; exact h1
  · rw [hg, Nat.div_one, lim_one_limb hy0 hy]; exact h2
theorem Sz.lit {x y : Nat} {s : Bool} (hx : x < 4294967296) (hy : y < 4294967296) : Sz (Go.Proofs.YtdpbceipiappjaaGreatDoor.rn s x y) 1 :=
  Sz.ofRn rfl (show x < 4294967296 ^ 1 by omega) (show y < 4294967296 ^ 1 by omega) (by omega)
theorem known_sum : rn false 1 2 + rn false 1 3 = rn false 5 6 := rn_add false (by omega) (by omega)

/-- A row of one limb, of a literal of the call's own. -/
theorem Row.lit (w : World) (x : Nat) (v : Int) (hv : v = (x : Int)) (hx : x < 4294967296) : Row (w.alloc (.cells #[.int .u32 v] 69)) 0 (some ⟨w.heap.size, 0, none⟩) 1 [x] := Row.one hv hx (Nat.zero_le _)

end Go.Proofs.YtdpbceipiappjaaGreatDoor

namespace Go.Proofs.YtdpbceipiappjaaGreatDoor
set_option maxRecDepth 20000
open Go.RowKit

/-- How many limbs the first i rationals hold. -/
def tot (f : Nat → Rv) : Nat → Nat
  | 0 => 0
  | i + 1 => tot f i + (f i).n + (f i).m
theorem tot_succ (f : Nat → Rv) (i : Nat) : tot f (i + 1) = tot f i + (f i).n + (f i).m := rfl
theorem tot_mono (f : Nat → Rv) {i j : Nat} (h : i ≤ j) : tot f i ≤ tot f j := by
  induction j with
  | zero => have : i = 0 := by omega
            subst this; exact Nat.le_refl _
  | succ j ih =>
    by_cases e : i = j + 1
    · subst e; exact Nat.le_refl _
    · have := ih (by omega)
      rw [tot_succ]; omega

end Go.Proofs.YtdpbceipiappjaaGreatDoor

namespace Go.Proofs.YtdpbceipiappjaaGreatDoor
set_option maxRecDepth 20000
open Go.RowKit

theorem Sz.more {r : Rat} {p q : Nat} (h : Sz r p) (hq : p ≤ q) : Sz r q := ⟨h.num.more hq, h.den.more hq⟩
theorem Sz.pos {r : Rat} {p : Nat} (h : Sz r p) : 0 < p := by
  have h1 := h.den
  unfold Bd at h1
  have := r.den_pos
  rcases Nat.eq_zero_or_pos p with rfl | h2
  · simp at h1; omega
  · exact h2
theorem Sz.add {r s : Rat} {p q : Nat} (hr : Sz r p) (hs : Sz s q) : Sz (r + s) (p + q + 1) := by
  have er := rn_self r
  have es := rn_self s
  have hy := r.den_nz
  have hv := s.den_nz
  have bx := hr.num
  have bY := hr.den
  have bu := hs.num
  have bv := hs.den
  generalize decide (r.num < 0) = a at *
  generalize decide (s.num < 0) = b at *
  generalize r.num.natAbs = x at *
  generalize r.den = y at *
  generalize s.num.natAbs = u at *
  generalize s.den = v at *
  have hxv : Bd (x * v) (p + q) := bx.mul bv
  have huy : Bd (u * y) (q + p) := bu.mul bY
  have hd : Bd (y * v) (p + q + 1) := (bY.mul bv).more (by omega)
  have hsum : Bd (x * v + u * y) (p + q + 1) := (hxv.add huy).more (by omega)
  subst er es
  by_cases hab : b = a
  · subst hab
    exact Sz.ofRn (rn_add b hy hv).symm hsum hd (by omega)
  · have hab' : b = !a := by cases a <;> cases b <;> simp at hab ⊢
    rcases Nat.le_total (u * y) (x * v) with h | h
    · exact Sz.ofRn (rn_sub hab' hy hv h).symm (hsum.le (by omega)) hd (by omega)
    · exact Sz.ofRn (rn_sub' hab' hy hv h).symm (hsum.le (by omega)) hd (by omega)
theorem Sz.mul {r s : Rat} {p q : Nat} (hr : Sz r p) (hs : Sz s q) : Sz (r * s) (p + q) := by
  have e : r * s = Go.Proofs.YtdpbceipiappjaaGreatDoor.rn (decide (r.num < 0) != decide (s.num < 0)) (r.num.natAbs * s.num.natAbs) (r.den * s.den) := by
    rw [← rn_mul, rn_self, rn_self]
  exact Sz.ofRn e.symm (hr.num.mul hs.num) (hr.den.mul hs.den) (by have := hr.pos; omega)
theorem Sz.neg {r : Rat} {p : Nat} (hr : Sz r p) : Sz (-r) p := by
  refine ⟨?_, ?_⟩
  · rw [Rat.neg_num, Int.natAbs_neg]; exact hr.num
  · rw [Rat.neg_den]; exact hr.den
theorem Sz.sub {r s : Rat} {p q : Nat} (hr : Sz r p) (hs : Sz s q) : Sz (r - s) (p + q + 1) := by
  rw [Rat.sub_eq_add_neg]; exact hr.add hs.neg
theorem Sz.div {r s : Rat} {p q : Nat} (hr : Sz r p) (hs : Sz s q) (h0 : s ≠ 0) : Sz (r / s) (p + q) := by
  have hn : s.num.natAbs ≠ 0 := by have := num_ne h0; omega
  have e : r / s = Go.Proofs.YtdpbceipiappjaaGreatDoor.rn (decide (r.num < 0) != decide (s.num < 0)) (r.num.natAbs * s.den) (r.den * s.num.natAbs) := by
    rw [← rn_div _ _ hn s.den_nz, rn_self, rn_self]
  exact Sz.ofRn e.symm (hr.num.mul hs.den) (hr.den.mul hs.num) (by have := hr.pos; omega)

theorem Below.drew {B : Nat} {w w' : World} (h : Below B w w') : Below B w w'.drew := h.trans (below_drewN' B w' 1)
theorem Rt.len {w : World} {lo : Nat} {v : Rv} {r : Rat} {p : Nat} (h : Rt w lo v r) (hz : Sz r p) (hp : p ≤ 100000) : v.n ≤ 100000 ∧ v.m ≤ 100000 := by
  have := (h.rw hz).numLe
  have := (h.rw hz).denLe
  omega

def pick (v u t : Rv) : Nat → Rv
  | 0 => v
  | 1 => u
  | _ => t

/-- Three parameters' blocks, and the row that 'big' is handed. -/
theorem open3b (w : World) (v u t : Rv) (W : World)
    (h : (((w.alloc (.cells #[.bool v.s, .slice v.A v.n v.c, .slice v.B v.m v.d] 24)).alloc (.cells #[.bool u.s, .slice u.A u.n u.c, .slice u.B u.m u.d] 24)).alloc (.cells #[.bool t.s, .slice t.A t.n t.c, .slice t.B t.m t.d] 24)).alloc (.cells #[.bool v.s, .slice v.A v.n v.c, .slice v.B v.m v.d, .bool u.s, .slice u.A u.n u.c, .slice u.B u.m u.d, .bool t.s, .slice t.A t.n t.c, .slice t.B t.m t.d] 24) = W) :
    C3 W w.heap.size (.bool v.s) (.slice v.A v.n v.c) (.slice v.B v.m v.d) ∧ C3 W (w.heap.size + 1) (.bool u.s) (.slice u.A u.n u.c) (.slice u.B u.m u.d) ∧ C3 W (w.heap.size + 1 + 1) (.bool t.s) (.slice t.A t.n t.c) (.slice t.B t.m t.d) ∧ Below w.heap.size w W ∧ W.heap.size = w.heap.size + 4 ∧
      ∀ i, i < 3 → W.cell? ⟨w.heap.size + 1 + 1 + 1, i * 3 + 1, none⟩ = some (.slice (pick v u t i).A (pick v u t i).n (pick v u t i).c) ∧ W.cell? ⟨w.heap.size + 1 + 1 + 1, i * 3 + 2, none⟩ = some (.slice (pick v u t i).B (pick v u t i).m (pick v u t i).d) := by
  subst h
  have e1 : (w.alloc (.cells #[.bool v.s, .slice v.A v.n v.c, .slice v.B v.m v.d] 24)).heap.size = w.heap.size + 1 := by simp
  have e2 : ((w.alloc (.cells #[.bool v.s, .slice v.A v.n v.c, .slice v.B v.m v.d] 24)).alloc (.cells #[.bool u.s, .slice u.A u.n u.c, .slice u.B u.m u.d] 24)).heap.size = w.heap.size + 1 + 1 := by simp
  have e3 : (((w.alloc (.cells #[.bool v.s, .slice v.A v.n v.c, .slice v.B v.m v.d] 24)).alloc (.cells #[.bool u.s, .slice u.A u.n u.c, .slice u.B u.m u.d] 24)).alloc (.cells #[.bool t.s, .slice t.A t.n t.c, .slice t.B t.m t.d] 24)).heap.size = w.heap.size + 1 + 1 + 1 := by simp
  refine ⟨((C3.new w (.bool v.s) (.slice v.A v.n v.c) (.slice v.B v.m v.d)).alloc _).alloc _ |>.alloc _, ?_, ?_, ?_, by simp, fun i hi => ?_⟩
  · have := C3.new (w.alloc (.cells #[.bool v.s, .slice v.A v.n v.c, .slice v.B v.m v.d] 24)) (.bool u.s) (.slice u.A u.n u.c) (.slice u.B u.m u.d)
    rw [e1] at this; exact (this.alloc _).alloc _
  · have := C3.new ((w.alloc (.cells #[.bool v.s, .slice v.A v.n v.c, .slice v.B v.m v.d] 24)).alloc (.cells #[.bool u.s, .slice u.A u.n u.c, .slice u.B u.m u.d] 24)) (.bool t.s) (.slice t.A t.n t.c) (.slice t.B t.m t.d)
    rw [e2] at this; exact this.alloc _
  · exact ((((Below.refl w.heap.size w).alloc (Nat.le_refl _) _).alloc (by simp) _).alloc (by simp; omega) _).alloc (by simp; omega) _
  · rw [← e3]
    have : i = 0 ∨ i = 1 ∨ i = 2 := by omega
    rcases this with rfl | rfl | rfl <;> exact ⟨by rw [World.cell?_alloc_at _ _ _ _ rfl]; rfl, by rw [World.cell?_alloc_at _ _ _ _ rfl]; rfl⟩
theorem open2b (w : World) (v u : Rv) (W : World)
    (h : ((w.alloc (.cells #[.bool v.s, .slice v.A v.n v.c, .slice v.B v.m v.d] 24)).alloc (.cells #[.bool u.s, .slice u.A u.n u.c, .slice u.B u.m u.d] 24)).alloc (.cells #[.bool v.s, .slice v.A v.n v.c, .slice v.B v.m v.d, .bool u.s, .slice u.A u.n u.c, .slice u.B u.m u.d] 24) = W) :
    C3 W w.heap.size (.bool v.s) (.slice v.A v.n v.c) (.slice v.B v.m v.d) ∧ C3 W (w.heap.size + 1) (.bool u.s) (.slice u.A u.n u.c) (.slice u.B u.m u.d) ∧ Below w.heap.size w W ∧ W.heap.size = w.heap.size + 3 ∧
      ∀ i, i < 2 → W.cell? ⟨w.heap.size + 1 + 1, i * 3 + 1, none⟩ = some (.slice (pick v u u i).A (pick v u u i).n (pick v u u i).c) ∧ W.cell? ⟨w.heap.size + 1 + 1, i * 3 + 2, none⟩ = some (.slice (pick v u u i).B (pick v u u i).m (pick v u u i).d) := by
  subst h
  have e1 : (w.alloc (.cells #[.bool v.s, .slice v.A v.n v.c, .slice v.B v.m v.d] 24)).heap.size = w.heap.size + 1 := by simp
  have e2 : ((w.alloc (.cells #[.bool v.s, .slice v.A v.n v.c, .slice v.B v.m v.d] 24)).alloc (.cells #[.bool u.s, .slice u.A u.n u.c, .slice u.B u.m u.d] 24)).heap.size = w.heap.size + 1 + 1 := by simp
  refine ⟨((C3.new w (.bool v.s) (.slice v.A v.n v.c) (.slice v.B v.m v.d)).alloc _).alloc _, ?_, ?_, by simp, fun i hi => ?_⟩
  · have := C3.new (w.alloc (.cells #[.bool v.s, .slice v.A v.n v.c, .slice v.B v.m v.d] 24)) (.bool u.s) (.slice u.A u.n u.c) (.slice u.B u.m u.d)
    rw [e1] at this; exact this.alloc _
  · exact (((Below.refl w.heap.size w).alloc (Nat.le_refl _) _).alloc (by simp) _).alloc (by simp; omega) _
  · rw [← e2]
    have : i = 0 ∨ i = 1 := by omega
    rcases this with rfl | rfl <;> exact ⟨by rw [World.cell?_alloc_at _ _ _ _ rfl]; rfl, by rw [World.cell?_alloc_at _ _ _ _ rfl]; rfl⟩
theorem open1b (w : World) (v : Rv) (W : World)
    (h : (w.alloc (.cells #[.bool v.s, .slice v.A v.n v.c, .slice v.B v.m v.d] 24)).alloc (.cells #[.bool v.s, .slice v.A v.n v.c, .slice v.B v.m v.d] 24) = W) :
    C3 W w.heap.size (.bool v.s) (.slice v.A v.n v.c) (.slice v.B v.m v.d) ∧ Below w.heap.size w W ∧ W.heap.size = w.heap.size + 2 ∧
      ∀ i, i < 1 → W.cell? ⟨w.heap.size + 1, i * 3 + 1, none⟩ = some (.slice (pick v v v i).A (pick v v v i).n (pick v v v i).c) ∧ W.cell? ⟨w.heap.size + 1, i * 3 + 2, none⟩ = some (.slice (pick v v v i).B (pick v v v i).m (pick v v v i).d) := by
  subst h
  have e1 : (w.alloc (.cells #[.bool v.s, .slice v.A v.n v.c, .slice v.B v.m v.d] 24)).heap.size = w.heap.size + 1 := by simp
  refine ⟨(C3.new w (.bool v.s) (.slice v.A v.n v.c) (.slice v.B v.m v.d)).alloc _, ?_, by simp, fun i hi => ?_⟩
  · exact ((Below.refl w.heap.size w).alloc (Nat.le_refl _) _).alloc (by simp) _
  · rw [← e1]
    have : i = 0 := by omega
    subst this
    exact ⟨by rw [World.cell?_alloc_at _ _ _ _ rfl]; rfl, by rw [World.cell?_alloc_at _ _ _ _ rfl]; rfl⟩

end Go.Proofs.YtdpbceipiappjaaGreatDoor

namespace Go.Proofs.YtdpbceipiappjaaGreatDoor
set_option maxRecDepth 20000
open Go.RowKit

end Go.Proofs.YtdpbceipiappjaaGreatDoor

namespace Go.Proofs.YtdpbceipiappjaaGreatDoor
set_option maxRecDepth 20000
open Go.RowKit

set_option maxHeartbeats 1600000 in
theorem rIs1 (v : Rv) (a b : List Nat) (w : World) (h1 : v.n ≤ v.c) (h2 : v.m ≤ v.d) (h3 : v.n ≤ 2000) (h4 : v.m ≤ 2000) (ha : Row w 0 v.A v.n a) (hb : Row w 0 v.B v.m b) (tA : 0 < v.n ∧ dg a (v.n - 1) = 0) :
    Calls Tryz.prog 90 #[.agg #[.bool v.s, .slice v.A v.n v.c, .slice v.B v.m v.d]] w fun e w' => e = .returned (.bool false) ∧ Below w.heap.size w w' := by
  have u_ := And.intro h1 (And.intro h2 (And.intro h3 h4))
  clear u_
  go_enter Tryz.func90, Tryz.ntmps90
  go_wp2_with fail
  generalize hW : (w.alloc (.cells #[.bool v.s, .slice v.A v.n v.c, .slice v.B v.m v.d] 24)) = W
  obtain ⟨k, HB, hsW⟩ := open1 w v W hW
  clear hW hsW
  have ha1 := ha.below HB
  have hb1 := hb.below HB
  skip
  obtain ⟨c0, c1, c2, c3, c4, c5⟩ := k.facts
  refine (Is_no v.A v.n v.c a _ (by omega) ha1 tA.1 tA.2).mono ?_
  rintro e w1 ⟨rfl, rfl⟩
  go_wp2
  go_ret
  exact ⟨rfl, HB⟩

set_option maxHeartbeats 1600000 in
theorem rIs2 (v : Rv) (a b : List Nat) (w : World) (h1 : v.n ≤ v.c) (h2 : v.m ≤ v.d) (h3 : v.n ≤ 2000) (h4 : v.m ≤ 2000) (ha : Row w 0 v.A v.n a) (hb : Row w 0 v.B v.m b) (tA : v.n = 0 ∨ dg a (v.n - 1) ≠ 0) (tB : 0 < v.m ∧ dg b (v.m - 1) = 0) :
    Calls Tryz.prog 90 #[.agg #[.bool v.s, .slice v.A v.n v.c, .slice v.B v.m v.d]] w fun e w' => e = .returned (.bool false) ∧ Below w.heap.size w w' := by
  have u_ := And.intro h1 (And.intro h2 (And.intro h3 h4))
  clear u_
  go_enter Tryz.func90, Tryz.ntmps90
  go_wp2_with fail
  generalize hW : (w.alloc (.cells #[.bool v.s, .slice v.A v.n v.c, .slice v.B v.m v.d] 24)) = W
  obtain ⟨k, HB, hsW⟩ := open1 w v W hW
  clear hW hsW
  have ha1 := ha.below HB
  have hb1 := hb.below HB
  skip
  obtain ⟨c0, c1, c2, c3, c4, c5⟩ := k.facts
  refine (Is_yes v.A v.n v.c a _ (by omega) ha1 tA).mono ?_
  rintro e w1 ⟨rfl, rfl⟩
  clear tA
  go_wp2_with fail
  refine (Is_no v.B v.m v.d b _ (by omega) hb1 tB.1 tB.2).mono ?_
  rintro e w1 ⟨rfl, rfl⟩
  go_wp2
  go_ret
  exact ⟨rfl, HB⟩

set_option maxHeartbeats 1600000 in
theorem rIs3 (v : Rv) (a b : List Nat) (w : World) (h1 : v.n ≤ v.c) (h2 : v.m ≤ v.d) (h3 : v.n ≤ 2000) (h4 : v.m ≤ 2000) (ha : Row w 0 v.A v.n a) (hb : Row w 0 v.B v.m b) (tA : v.n = 0 ∨ dg a (v.n - 1) ≠ 0) (tB : v.m = 0 ∨ dg b (v.m - 1) ≠ 0) (nB : Hid (val b = 0)) :
    Calls Tryz.prog 90 #[.agg #[.bool v.s, .slice v.A v.n v.c, .slice v.B v.m v.d]] w fun e w' => e = .returned (.bool false) ∧ Below w.heap.size w w' := by
  have u_ := And.intro h1 (And.intro h2 (And.intro h3 h4))
  clear u_
  go_enter Tryz.func90, Tryz.ntmps90
  go_wp2_with fail
  generalize hW : (w.alloc (.cells #[.bool v.s, .slice v.A v.n v.c, .slice v.B v.m v.d] 24)) = W
  obtain ⟨k, HB, hsW⟩ := open1 w v W hW
  clear hW hsW
  have ha1 := ha.below HB
  have hb1 := hb.below HB
  skip
  obtain ⟨c0, c1, c2, c3, c4, c5⟩ := k.facts
  refine (Is_yes v.A v.n v.c a _ (by omega) ha1 tA).mono ?_
  rintro e w1 ⟨rfl, rfl⟩
  clear tA
  go_wp2_with fail
  refine (Is_yes v.B v.m v.d b _ (by omega) hb1 tB).mono ?_
  rintro e w1 ⟨rfl, rfl⟩
  clear tB
  go_wp2_with fail
  refine (isNought_yes v.B v.m v.d b _ (by omega) h2 hb1 nB.out).mono ?_
  rintro e w1 ⟨rfl, rfl⟩
  go_wp2
  go_ret
  exact ⟨rfl, HB⟩

set_option maxHeartbeats 1600000 in
theorem rIs4 (v : Rv) (a b : List Nat) (w : World) (h1 : v.n ≤ v.c) (h2 : v.m ≤ v.d) (h3 : v.n ≤ 2000) (h4 : v.m ≤ 2000) (ha : Row w 0 v.A v.n a) (hb : Row w 0 v.B v.m b) (tA : v.n = 0 ∨ dg a (v.n - 1) ≠ 0) (tB : v.m = 0 ∨ dg b (v.m - 1) ≠ 0) (nB : Hid (val b ≠ 0)) (nA : Hid (val a = 0)) (hs : Hid (v.s = true)) :
    Calls Tryz.prog 90 #[.agg #[.bool v.s, .slice v.A v.n v.c, .slice v.B v.m v.d]] w fun e w' => e = .returned (.bool false) ∧ Below w.heap.size w w' := by
  have u_ := And.intro h1 (And.intro h2 (And.intro h3 h4))
  clear u_
  go_enter Tryz.func90, Tryz.ntmps90
  go_wp2_with fail
  generalize hW : (w.alloc (.cells #[.bool v.s, .slice v.A v.n v.c, .slice v.B v.m v.d] 24)) = W
  obtain ⟨k, HB, hsW⟩ := open1 w v W hW
  clear hW hsW
  have ha1 := ha.below HB
  have hb1 := hb.below HB
  rw [hs.out] at k
  obtain ⟨c0, c1, c2, c3, c4, c5⟩ := k.facts
  refine (Is_yes v.A v.n v.c a _ (by omega) ha1 tA).mono ?_
  rintro e w1 ⟨rfl, rfl⟩
  clear tA
  go_wp2_with fail
  refine (Is_yes v.B v.m v.d b _ (by omega) hb1 tB).mono ?_
  rintro e w1 ⟨rfl, rfl⟩
  clear tB
  go_wp2_with fail
  refine (isNought_no v.B v.m v.d b _ (by omega) h2 hb1 nB.out).mono ?_
  rintro e w1 ⟨rfl, rfl⟩
  go_wp2_with fail
  refine (isNought_yes v.A v.n v.c a _ (by omega) h1 ha1 nA.out).mono ?_
  rintro e w1 ⟨rfl, rfl⟩
  go_wp2
  go_ret
  exact ⟨rfl, HB⟩

set_option maxHeartbeats 1600000 in
theorem rIs5 (v : Rv) (a b : List Nat) (w : World) (h1 : v.n ≤ v.c) (h2 : v.m ≤ v.d) (h3 : v.n ≤ 2000) (h4 : v.m ≤ 2000) (ha : Row w 0 v.A v.n a) (hb : Row w 0 v.B v.m b) (tA : v.n = 0 ∨ dg a (v.n - 1) ≠ 0) (tB : v.m = 0 ∨ dg b (v.m - 1) ≠ 0) (nB : Hid (val b ≠ 0)) (hs : Hid (v.s = false)) (bb : Bool) (hbb : Hid (decide (Nat.gcd (val a) (val b) = 1) = bb)) :
    Calls Tryz.prog 90 #[.agg #[.bool v.s, .slice v.A v.n v.c, .slice v.B v.m v.d]] w fun e w' => e = .returned (.bool bb) ∧ Below w.heap.size w w' := by
  have u_ := And.intro h1 (And.intro h2 (And.intro h3 h4))
  clear u_
  go_enter Tryz.func90, Tryz.ntmps90
  go_wp2_with fail
  generalize hW : (w.alloc (.cells #[.bool v.s, .slice v.A v.n v.c, .slice v.B v.m v.d] 24)) = W
  obtain ⟨k, HB, hsW⟩ := open1 w v W hW
  clear hW hsW
  have ha1 := ha.below HB
  have hb1 := hb.below HB
  rw [hs.out] at k
  obtain ⟨c0, c1, c2, c3, c4, c5⟩ := k.facts
  refine (Is_yes v.A v.n v.c a _ (by omega) ha1 tA).mono ?_
  rintro e w1 ⟨rfl, rfl⟩
  clear tA
  go_wp2_with fail
  refine (Is_yes v.B v.m v.d b _ (by omega) hb1 tB).mono ?_
  rintro e w1 ⟨rfl, rfl⟩
  clear tB
  go_wp2_with fail
  refine (isNought_no v.B v.m v.d b _ (by omega) h2 hb1 nB.out).mono ?_
  rintro e w1 ⟨rfl, rfl⟩
  go_wp2_with fail
  have hgl : (lim (Nat.gcd (val a) (val b))).length ≤ 2000 := ((hb.bd h4).le (Nat.gcd_le_right _ (Nat.pos_of_ne_zero nB.out))).len
  refine (Gcd_any v.A v.B v.n v.m v.c v.d (val a) (val b) a b _ (by omega) (by omega) h1 h2 ha1 hb1 rfl rfl).mono ?_
  rintro e w2 ⟨G, cg, rfl, hcg, hrg, hb2⟩
  have HB2 := HB.trans (hb2.mono HB.size)
  replace k := k.below hb2
  clear hb2 ha1 hb1
  go_wp2_with fail
  refine (one_any _).mono ?_
  rintro e w3 ⟨I, ci, rfl, hoi, hb3⟩
  have HB3 := HB2.trans (hb3.mono HB2.size)
  have hrg3 := hrg.below hb3
  have hri := hoi.row.lower (Nat.zero_le _)
  have hci := hoi.capLe
  have hli : (lim 1).length ≤ 2 := lim_len_lt (by omega)
  have hcmp := Cmp_any G I _ _ cg ci _ _ w3 (by omega) (by omega) hcg hci hrg3 hri
  rw [val_lim, val_lim] at hcmp
  have HC := Lib.hid hcmp
  have hkk : ∃ k : Int, cmpI (Nat.gcd (val a) (val b)) 1 = k ∧ (k == 0) = bb := by
    refine ⟨_, rfl, ?_⟩
    rw [← hbb.out]
    rcases Nat.lt_trichotomy (Nat.gcd (val a) (val b)) 1 with h | h | h
    · rw [cmpI_lt h, decide_eq_false (by omega)]; rfl
    · rw [cmpI_eq h, decide_eq_true h]; rfl
    · rw [cmpI_gt h, decide_eq_false (by omega)]; rfl
  obtain ⟨k, hk1, hk2⟩ := hkk
  have HK := Lib.hid hk1
  clear hb3 hrg hrg3 hoi hcmp hk1
  go_wp2_with fail
  refine HC.out.mono ?_
  rintro e w4 ⟨rfl, q, rfl⟩
  rw [HK.out]
  go_wp2
  go_ret
  exact ⟨rfl, HB3.trans (below_drewN' _ _ q)⟩

set_option maxHeartbeats 1600000 in
theorem rIs6 (v : Rv) (a b : List Nat) (w : World) (h1 : v.n ≤ v.c) (h2 : v.m ≤ v.d) (h3 : v.n ≤ 2000) (h4 : v.m ≤ 2000) (ha : Row w 0 v.A v.n a) (hb : Row w 0 v.B v.m b) (tA : v.n = 0 ∨ dg a (v.n - 1) ≠ 0) (tB : v.m = 0 ∨ dg b (v.m - 1) ≠ 0) (nB : Hid (val b ≠ 0)) (nA : Hid (val a ≠ 0)) (hs : Hid (v.s = true)) (bb : Bool) (hbb : Hid (decide (Nat.gcd (val a) (val b) = 1) = bb)) :
    Calls Tryz.prog 90 #[.agg #[.bool v.s, .slice v.A v.n v.c, .slice v.B v.m v.d]] w fun e w' => e = .returned (.bool bb) ∧ Below w.heap.size w w' := by
  have u_ := And.intro h1 (And.intro h2 (And.intro h3 h4))
  clear u_
  go_enter Tryz.func90, Tryz.ntmps90
  go_wp2_with fail
  generalize hW : (w.alloc (.cells #[.bool v.s, .slice v.A v.n v.c, .slice v.B v.m v.d] 24)) = W
  obtain ⟨k, HB, hsW⟩ := open1 w v W hW
  clear hW hsW
  have ha1 := ha.below HB
  have hb1 := hb.below HB
  rw [hs.out] at k
  obtain ⟨c0, c1, c2, c3, c4, c5⟩ := k.facts
  refine (Is_yes v.A v.n v.c a _ (by omega) ha1 tA).mono ?_
  rintro e w1 ⟨rfl, rfl⟩
  clear tA
  go_wp2_with fail
  refine (Is_yes v.B v.m v.d b _ (by omega) hb1 tB).mono ?_
  rintro e w1 ⟨rfl, rfl⟩
  clear tB
  go_wp2_with fail
  refine (isNought_no v.B v.m v.d b _ (by omega) h2 hb1 nB.out).mono ?_
  rintro e w1 ⟨rfl, rfl⟩
  go_wp2_with fail
  refine (isNought_no v.A v.n v.c a _ (by omega) h1 ha1 nA.out).mono ?_
  rintro e w1 ⟨rfl, rfl⟩
  go_wp2_with fail
  have hgl : (lim (Nat.gcd (val a) (val b))).length ≤ 2000 := ((hb.bd h4).le (Nat.gcd_le_right _ (Nat.pos_of_ne_zero nB.out))).len
  refine (Gcd_any v.A v.B v.n v.m v.c v.d (val a) (val b) a b _ (by omega) (by omega) h1 h2 ha1 hb1 rfl rfl).mono ?_
  rintro e w2 ⟨G, cg, rfl, hcg, hrg, hb2⟩
  have HB2 := HB.trans (hb2.mono HB.size)
  replace k := k.below hb2
  clear hb2 ha1 hb1
  go_wp2_with fail
  refine (one_any _).mono ?_
  rintro e w3 ⟨I, ci, rfl, hoi, hb3⟩
  have HB3 := HB2.trans (hb3.mono HB2.size)
  have hrg3 := hrg.below hb3
  have hri := hoi.row.lower (Nat.zero_le _)
  have hci := hoi.capLe
  have hli : (lim 1).length ≤ 2 := lim_len_lt (by omega)
  have hcmp := Cmp_any G I _ _ cg ci _ _ w3 (by omega) (by omega) hcg hci hrg3 hri
  rw [val_lim, val_lim] at hcmp
  have HC := Lib.hid hcmp
  have hkk : ∃ k : Int, cmpI (Nat.gcd (val a) (val b)) 1 = k ∧ (k == 0) = bb := by
    refine ⟨_, rfl, ?_⟩
    rw [← hbb.out]
    rcases Nat.lt_trichotomy (Nat.gcd (val a) (val b)) 1 with h | h | h
    · rw [cmpI_lt h, decide_eq_false (by omega)]; rfl
    · rw [cmpI_eq h, decide_eq_true h]; rfl
    · rw [cmpI_gt h, decide_eq_false (by omega)]; rfl
  obtain ⟨k, hk1, hk2⟩ := hkk
  have HK := Lib.hid hk1
  clear hb3 hrg hrg3 hoi hcmp hk1
  go_wp2_with fail
  refine HC.out.mono ?_
  rintro e w4 ⟨rfl, q, rfl⟩
  rw [HK.out]
  go_wp2
  go_ret
  exact ⟨rfl, HB3.trans (below_drewN' _ _ q)⟩

/-- What a normal rational's rows are. -/
def IsN (s : Bool) (a b : List Nat) : Prop := Tr a ∧ Tr b ∧ val b ≠ 0 ∧ (s = true → val a ≠ 0) ∧ Nat.gcd (val a) (val b) = 1
theorem tr_cases (l : List Nat) : Tr l ∨ (0 < l.length ∧ dg l (l.length - 1) = 0) := by
  unfold Tr
  by_cases h : l.length = 0
  · exact .inl (.inl h)
  · by_cases h2 : dg l (l.length - 1) = 0
    · exact .inr ⟨by omega, h2⟩
    · exact .inl (.inr h2)
theorem Is_c (v : Rv) (a b : List Nat) (bb : Bool) (w : World) (h1 : v.n ≤ v.c) (h2 : v.m ≤ v.d) (h3 : v.n ≤ 2000) (h4 : v.m ≤ 2000) (ha : Row w 0 v.A v.n a) (hb : Row w 0 v.B v.m b) (hbb : bb = true ↔ IsN v.s a b) :
    Calls Tryz.prog 90 #[.agg #[.bool v.s, .slice v.A v.n v.c, .slice v.B v.m v.d]] w fun e w' => e = .returned (.bool bb) ∧ Below w.heap.size w w' := by
  have hla := ha.len
  have hlb := hb.len
  have no : ¬ IsN v.s a b → bb = false := fun h => by
    cases hq : bb
    · rfl
    · exact absurd (hbb.1 hq) h
  rcases tr_cases a with ta | ta
  · have tA : v.n = 0 ∨ dg a (v.n - 1) ≠ 0 := by unfold Tr at ta; rw [hla] at ta; exact ta
    rcases tr_cases b with tb | tb
    · have tB : v.m = 0 ∨ dg b (v.m - 1) ≠ 0 := by unfold Tr at tb; rw [hlb] at tb; exact tb
      by_cases hz : val b = 0
      · rw [no (fun h => h.2.2.1 hz)]; exact rIs3 v a b w h1 h2 h3 h4 ha hb tA tB hz
      · rcases Bool.eq_false_or_eq_true v.s with hs | hs
        · by_cases hx : val a = 0
          · rw [no (fun h => h.2.2.2.1 hs hx)]; exact rIs4 v a b w h1 h2 h3 h4 ha hb tA tB hz hx hs
          · refine rIs6 v a b w h1 h2 h3 h4 ha hb tA tB hz hx hs bb ?_
            show _ = _
            by_cases hg : Nat.gcd (val a) (val b) = 1
            · rw [decide_eq_true hg, hbb.2 ⟨ta, tb, hz, fun _ => hx, hg⟩]
            · rw [decide_eq_false hg, no (fun h => hg h.2.2.2.2)]
        · refine rIs5 v a b w h1 h2 h3 h4 ha hb tA tB hz hs bb ?_
          show _ = _
          by_cases hg : Nat.gcd (val a) (val b) = 1
          · rw [decide_eq_true hg, hbb.2 ⟨ta, tb, hz, fun h => absurd (hs.symm.trans h) (by decide), hg⟩]
          · rw [decide_eq_false hg, no (fun h => hg h.2.2.2.2)]
    · rw [no (fun h => by have := h.2.1; unfold Tr at this; omega)]
      exact rIs2 v a b w h1 h2 h3 h4 ha hb tA ⟨by omega, by rw [← hlb]; exact tb.2⟩
  · rw [no (fun h => by have := h.1; unfold Tr at this; omega)]
    exact rIs1 v a b w h1 h2 h3 h4 ha hb ⟨by omega, by rw [← hla]; exact ta.2⟩
theorem IsN_iff (s : Bool) (a b : List Nat) (la : L32 a) (lb : L32 b) (r : Rat) (hr : rn s (val a) (val b) = r) :
    IsN s a b ↔ (s = decide (r.num < 0) ∧ a = lim r.num.natAbs ∧ b = lim r.den) := by
  subst hr
  constructor
  · rintro ⟨ta, tb, hz, hs, hg⟩
    have e1 : (rn s (val a) (val b)).num.natAbs = val a := by rw [rn_abs hz, hg, Nat.div_one]
    have e2 : (rn s (val a) (val b)).den = val b := by rw [rn_den hz, hg, Nat.div_one]
    refine ⟨?_, by rw [e1, lim_val la ta], by rw [e2, lim_val lb tb]⟩
    by_cases hx : val a = 0
    · rw [rn_zero (.inl hx)]
      cases s
      · rfl
      · exact absurd hx (hs rfl)
    · exact (rn_sign hx hz).symm
  · rintro ⟨h1, h2, h3⟩
    generalize hq : rn s (val a) (val b) = q at *
    have va : val a = q.num.natAbs := by rw [h2, val_lim]
    have vb : val b = q.den := by rw [h3, val_lim]
    refine ⟨by rw [h2]; exact lim_tr _, by rw [h3]; exact lim_tr _, by rw [vb]; exact q.den_nz, ?_, by rw [va, vb]; exact q.reduced⟩
    intro hs
    rw [va]
    rw [hs] at h1
    have := of_decide_eq_true h1.symm
    omega
end Go.Proofs.YtdpbceipiappjaaGreatDoor
