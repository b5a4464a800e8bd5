/-
  The document's rationals, fourth part: products, quotients, sums.
  The document's rationals, fifth part: quotients.
  The document's rationals, sixth part: sums.
-/
import Derived.Test.YtgffkaconhonlaaGreatWMRf
namespace Go.Proofs.YtgffkaconhonlaaGreat
set_option maxRecDepth 20000
open Go.RowKit
set_option maxHeartbeats 8000000 in
theorem rMul_c (v u : Rv) (r s : Rat) (w : World) (hv : Rw w v r 28500000000) (hu : Rw w u s 28500000000) :
  Calls Tryz.prog 57 #[.agg #[.bool v.s, .slice v.A v.n v.c, .slice v.B v.m v.d], .agg #[.bool u.s, .slice u.A u.n u.c, .slice u.B u.m u.d]] w fun e w' => ∃ z : Rv, e = .returned (.agg #[.bool z.s, .slice z.A z.n z.c, .slice z.B z.m z.d]) ∧ Rt w' w.heap.size z (r * s) ∧ Below w.heap.size w w' := by
 have z_r : Sz r 28500000000 := hv.sz (by omega)
 have z_s : Sz s 28500000000 := hu.sz (by omega)
 go_enter Tryz.func57, Tryz.ntmps57
 go_wp2_with fail
 generalize hW : (((w.alloc (.cells #[.bool v.s, .slice v.A v.n v.c, .slice v.B v.m v.d] 26)).alloc (.cells #[.bool u.s, .slice u.A u.n u.c, .slice u.B u.m u.d] 26)).alloc (.cells #[.bool false, .slice none 0 0, .slice none 0 0] 26)) = W
 obtain ⟨k_v, k_u, k_z, HB, hsW⟩ := open2z w v u W hW
 clear hW
 replace hv := hv.below HB
 replace hu := hu.below HB
 have hlw : W.heap.size ≥ w.heap.size + 3 := by omega
 clear hsW
 go_cut [5, 6] from 5 to 10 (fun vx vy wx => ∃ (bx bY : Nat) (x y : Rv), vx = .pointer (some ⟨bx, 0, none⟩) ∧ vy = .pointer (some ⟨bY, 0, none⟩) ∧ Hid (PairAt w wx (w.heap.size + 1 + 1) (.bool false) (.slice none 0 0) (.slice none 0 0) bx bY x y r s ∧ bx ≠ w.heap.size + 1 + 1 ∧ bY ≠ w.heap.size + 1 + 1))
 case first =>
  obtain ⟨v_0, v_1, v_2, v_3, v_4, v_5⟩ := k_v.facts
  obtain ⟨u_0, u_1, u_2, u_3, u_4, u_5⟩ := k_u.facts
  have nW00 : ¬ w.heap.size = W.heap.size := by omega
  have nW00' : ¬ W.heap.size = w.heap.size := by omega
  have nW01 : ¬ w.heap.size + 1 = W.heap.size := by omega
  have nW01' : ¬ W.heap.size = w.heap.size + 1 := by omega
  have nW02 : ¬ w.heap.size + 1 + 1 = W.heap.size := by omega
  have nW02' : ¬ W.heap.size = w.heap.size + 1 + 1 := by omega
  have nW40 : ¬ w.heap.size = W.heap.size + 1 := by omega
  have nW40' : ¬ W.heap.size + 1 = w.heap.size := by omega
  have nW41 : ¬ w.heap.size + 1 = W.heap.size + 1 := by omega
  have nW41' : ¬ W.heap.size + 1 = w.heap.size + 1 := by omega
  have nW42 : ¬ w.heap.size + 1 + 1 = W.heap.size + 1 := by omega
  have nW42' : ¬ W.heap.size + 1 = w.heap.size + 1 + 1 := by omega
  replace hv := hv.more (show 28500000000 ≤ 60000000000 by omega)
  replace hu := hu.more (show 28500000000 ≤ 60000000000 by omega)
  go_region_held3 (fun w' => w'.cell? ⟨w.heap.size, 0, none⟩ = some (.bool v.s) ∧ w'.cell? ⟨w.heap.size, 1, none⟩ = some (.slice v.A v.n v.c) ∧ w'.cell? ⟨w.heap.size, 2, none⟩ = some (.slice v.B v.m v.d) ∧ w'.cell? ⟨w.heap.size + 1, 0, none⟩ = some (.bool u.s) ∧ w'.cell? ⟨w.heap.size + 1, 1, none⟩ = some (.slice u.A u.n u.c) ∧ w'.cell? ⟨w.heap.size + 1, 2, none⟩ = some (.slice u.B u.m u.d)) (go_keep)
    (first
    | (
      go_at_call_of 54 v
      refine (rNorm_c v r _ ?_).mono ?_
      ·
       first
       | exact hv.drew
       | exact (hv.alloc _).drew
       | exact ((hv.alloc _).alloc _).drew
      rintro e w1 ⟨x, rfl, hx, hb⟩
      replace hb := Below.undrew hb
      have hbW : Below W.heap.size W w1 := by
       first
       | exact hb
       | exact ((Below.refl _ _).alloc (Nat.le_refl _) _).trans (hb.mono (by simp))
       | exact (((Below.refl _ _).alloc (Nat.le_refl _) _).alloc (by simp) _).trans (hb.mono (by simp; omega))
      first
      | (
       have p2 : C3 w1 (W.heap.size + 1) (.bool false) (.slice none 0 0) (.slice none 0 0) := by
        have := (C3.new (W.alloc (.cells #[.bool false, .slice none 0 0, .slice none 0 0] 26)) (.bool false) (.slice none 0 0) (.slice none 0 0)).below hb
        simpa using this
       have p1 := ((C3.new W (.bool false) (.slice none 0 0) (.slice none 0 0)).alloc (.cells #[.bool false, .slice none 0 0, .slice none 0 0] 26)).below hb
       have lt2 := p2.lt)
      | have p1 := (C3.new W (.bool false) (.slice none 0 0) (.slice none 0 0)).below hb
      | skip
      try have lt1 := p1.lt
      replace HB := HB.trans (hbW.mono HB.size)
      replace k_v := k_v.below hbW
      replace k_u := k_u.below hbW
      replace k_z := k_z.below hbW
      replace hu := hu.below hbW
      have hs1 := hbW.size
      replace hx := hx.lower (lo' := w.heap.size + 2) (by first | (simp; omega) | omega)
      clear hb hbW v_0 v_1 v_2 v_3 v_4 v_5 u_0 u_1 u_2 u_3 u_4 u_5
      obtain ⟨v_0, v_1, v_2, v_3, v_4, v_5⟩ := k_v.facts
      obtain ⟨u_0, u_1, u_2, u_3, u_4, u_5⟩ := k_u.facts
      try obtain ⟨p_0, p_1, p_2, p_3, p_4, p_5⟩ := p1.facts
      try obtain ⟨q_0, q_1, q_2, q_3, q_4, q_5⟩ := p2.facts
      have nw100 : ¬ w.heap.size = w1.heap.size := by omega
      have nw100' : ¬ w1.heap.size = w.heap.size := by omega
      have nw101 : ¬ w.heap.size + 1 = w1.heap.size := by omega
      have nw101' : ¬ w1.heap.size = w.heap.size + 1 := by omega
      have nw102 : ¬ w.heap.size + 1 + 1 = w1.heap.size := by omega
      have nw102' : ¬ w1.heap.size = w.heap.size + 1 + 1 := by omega
      have nw140 : ¬ w.heap.size = w1.heap.size + 1 := by omega
      have nw140' : ¬ w1.heap.size + 1 = w.heap.size := by omega
      have nw141 : ¬ w.heap.size + 1 = w1.heap.size + 1 := by omega
      have nw141' : ¬ w1.heap.size + 1 = w.heap.size + 1 := by omega
      have nw142 : ¬ w.heap.size + 1 + 1 = w1.heap.size + 1 := by omega
      have nw142' : ¬ w1.heap.size + 1 = w.heap.size + 1 + 1 := by omega)
    | (
      go_at_call_of 54 u
      refine (rNorm_c u s _ ?_).mono ?_
      ·
       first
       | exact hu
       | exact hu.alloc _
       | exact (hu.alloc _).alloc _
      rintro e w2 ⟨y, rfl, hy, hb⟩
      have hbW : Below w1.heap.size w1 w2 := by
       first
       | exact hb
       | exact ((Below.refl _ _).alloc (Nat.le_refl _) _).trans (hb.mono (by simp))
       | exact (((Below.refl _ _).alloc (Nat.le_refl _) _).alloc (by simp) _).trans (hb.mono (by simp; omega))
      first
      | (
       have p2 : C3 w2 (w1.heap.size + 1) (.bool false) (.slice none 0 0) (.slice none 0 0) := by
        have := (C3.new (w1.alloc (.cells #[.bool false, .slice none 0 0, .slice none 0 0] 26)) (.bool false) (.slice none 0 0) (.slice none 0 0)).below hb
        simpa using this
       have p1 := ((C3.new w1 (.bool false) (.slice none 0 0) (.slice none 0 0)).alloc (.cells #[.bool false, .slice none 0 0, .slice none 0 0] 26)).below hb
       have lt1 := p1.lt)
      | (
       replace p1 := p1.below hbW
       have p2 := (C3.new w1 (.bool false) (.slice none 0 0) (.slice none 0 0)).below hb)
      | (
       replace p1 := p1.below hbW
       replace p2 := p2.below hbW)
      | replace p1 := p1.below hbW
      | have p1 := (C3.new w1 (.bool false) (.slice none 0 0) (.slice none 0 0)).below hb
      | skip
      try have lt1 := p1.lt
      try have lt2 := p2.lt
      replace HB := HB.trans (hbW.mono HB.size)
      replace k_v := k_v.below hbW
      replace k_u := k_u.below hbW
      replace k_z := k_z.below hbW
      replace hx := hx.below hbW
      have hs2 := hbW.size
      replace hy := hy.lower (lo' := w.heap.size + 2) (by first | (simp; omega) | omega)
      clear hb hbW v_0 v_1 v_2 v_3 v_4 v_5 u_0 u_1 u_2 u_3 u_4 u_5
      obtain ⟨v_0, v_1, v_2, v_3, v_4, v_5⟩ := k_v.facts
      obtain ⟨u_0, u_1, u_2, u_3, u_4, u_5⟩ := k_u.facts
      try clear p_0 p_1 p_2 p_3 p_4 p_5
      try clear q_0 q_1 q_2 q_3 q_4 q_5
      try obtain ⟨p_0, p_1, p_2, p_3, p_4, p_5⟩ := p1.facts
      try obtain ⟨q_0, q_1, q_2, q_3, q_4, q_5⟩ := p2.facts
      have nw200 : ¬ w.heap.size = w2.heap.size := by omega
      have nw200' : ¬ w2.heap.size = w.heap.size := by omega
      have nw201 : ¬ w.heap.size + 1 = w2.heap.size := by omega
      have nw201' : ¬ w2.heap.size = w.heap.size + 1 := by omega
      have nw202 : ¬ w.heap.size + 1 + 1 = w2.heap.size := by omega
      have nw202' : ¬ w2.heap.size = w.heap.size + 1 + 1 := by omega
      have nw240 : ¬ w.heap.size = w2.heap.size + 1 := by omega
      have nw240' : ¬ w2.heap.size + 1 = w.heap.size := by omega
      have nw241 : ¬ w.heap.size + 1 = w2.heap.size + 1 := by omega
      have nw241' : ¬ w2.heap.size + 1 = w.heap.size + 1 := by omega
      have nw242 : ¬ w.heap.size + 1 + 1 = w2.heap.size + 1 := by omega
      have nw242' : ¬ w2.heap.size + 1 = w.heap.size + 1 + 1 := by omega))
  all_goals (
   go_wp2_with fail
   go_meet
   have ltz := k_z.lt
   refine ⟨_, _, x, y, rfl, rfl, Lib.hid ⟨?_, ?_, ?_⟩⟩
   rotate_left
   · omega
   · omega
   first
   | (with_reducible refine pair_new hx hy k_z HB)
   | (with_reducible refine pair_swap hx hy k_z HB)
   | ((with_reducible refine pair_put p1 ?_ ?_ hx hy k_z HB) <;> omega)
   | ((with_reducible refine pair_put' p1 ?_ ?_ hx hy k_z HB) <;> omega)
   | ((with_reducible refine pair_both p1 p2 ?_ ?_ ?_ ?_ ?_ hx hy k_z HB) <;> omega)
   | ((with_reducible refine pair_both p2 p1 ?_ ?_ ?_ ?_ ?_ hx hy k_z HB) <;> omega))
 case rest =>
  obtain ⟨bx, bY, x, y, rfl, rfl, HC⟩ := hcut
  obtain ⟨⟨k_x, k_y, hx, hy, k_z, HB⟩, nex, ney⟩ := HC.out
  have nex' := Ne.symm nex
  have ney' := Ne.symm ney
  clear HC hv hu k_v k_u
  have hxn := hx.num.lower (Nat.zero_le _)
  have hxd := hx.den.lower (Nat.zero_le _)
  have hyn := hy.num.lower (Nat.zero_le _)
  have hyd := hy.den.lower (Nat.zero_le _)
  have cxn := hx.numCap
  have cxd := hx.denCap
  have cyn := hy.numCap
  have cyd := hy.denCap
  have lxn : x.n ≤ 28500000000 := by rw [hx.numLen]; exact z_r.num.len
  have lxd : x.m ≤ 28500000000 := by rw [hx.denLen]; exact z_r.den.len
  have lyn : y.n ≤ 28500000000 := by rw [hy.numLen]; exact z_s.num.len
  have lyd : y.m ≤ 28500000000 := by rw [hy.denLen]; exact z_s.den.len
  have sgx : x.s = decide (r.num < 0) := hx.sign
  have sgy : y.s = decide (s.num < 0) := hy.sign
  go_wp2_with fail
  have hl1 : (lim (r.num.natAbs * s.num.natAbs)).length ≤ 57000000000 := (z_r.num.mul z_s.num).len
  have hl2 : (lim (r.den * s.den)).length ≤ 57000000000 := (z_r.den.mul z_s.den).len
  have hval : rn (x.s != y.s) (r.num.natAbs * s.num.natAbs) (r.den * s.den) = r * s := by
   rw [sgx, sgy, ← rn_mul, rn_self, rn_self]
  clear sgx sgy hx hy
  obtain ⟨x_0, x_1, x_2, x_3, x_4, x_5⟩ := k_x.facts
  obtain ⟨y_0, y_1, y_2, y_3, y_4, y_5⟩ := k_y.facts
  obtain ⟨z_0, z_1, z_2, z_3, z_4, z_5⟩ := k_z.facts
  replace k_x := k_x.drew
  replace k_y := k_y.drew
  replace k_z := k_z.drew
  replace hxn := hxn.drew
  replace hxd := hxd.drew
  replace hyn := hyn.drew
  replace hyd := hyd.drew
  replace HB := HB.drew
  go_region_held3 (fun w' => w'.cell? ⟨bx, 0, none⟩ = some (.bool x.s) ∧ w'.cell? ⟨bx, 1, none⟩ = some (.slice x.A x.n x.c) ∧ w'.cell? ⟨bx, 2, none⟩ = some (.slice x.B x.m x.d) ∧ w'.cell? ⟨bY, 0, none⟩ = some (.bool y.s) ∧ w'.cell? ⟨bY, 1, none⟩ = some (.slice y.A y.n y.c) ∧ w'.cell? ⟨bY, 2, none⟩ = some (.slice y.B y.m y.d)) (go_keep)
    (first
    | (
      go_at_call_of 61 x.A
      refine (rMul_v r.num.natAbs s.num.natAbs x.A y.A x.n y.n x.c y.c _ _ _ (val_lim _) (val_lim _) (by omega) (by omega) hxn hyn).mono ?_
      rintro e w1 ⟨X1, cx1, rfl, ho1, hb⟩
      replace HB := HB.trans (hb.mono HB.size)
      replace k_x := k_x.below hb
      replace k_y := k_y.below hb
      replace k_z := k_z.below hb
      replace hxn := hxn.below hb
      replace hxd := hxd.below hb
      replace hyn := hyn.below hb
      replace hyd := hyd.below hb
      have hr1 := ho1.row.lower (Nat.zero_le _)
      have hc1 := ho1.capLe
      clear hb x_0 x_1 x_2 x_3 x_4 x_5 y_0 y_1 y_2 y_3 y_4 y_5 z_0 z_1 z_2 z_3 z_4 z_5
      obtain ⟨x_0, x_1, x_2, x_3, x_4, x_5⟩ := k_x.facts
      obtain ⟨y_0, y_1, y_2, y_3, y_4, y_5⟩ := k_y.facts
      obtain ⟨z_0, z_1, z_2, z_3, z_4, z_5⟩ := k_z.facts)
    | (
      go_at_call_of 61 x.B
      refine (rMul_v r.den s.den x.B y.B x.m y.m x.d y.d _ _ _ (val_lim _) (val_lim _) (by omega) (by omega) hxd hyd).mono ?_
      rintro e w2 ⟨X2, cx2, rfl, ho2, hb⟩
      replace HB := HB.trans (hb.mono HB.size)
      replace k_x := k_x.below hb
      replace k_y := k_y.below hb
      replace k_z := k_z.below hb
      replace hxn := hxn.below hb
      replace hxd := hxd.below hb
      replace hyn := hyn.below hb
      replace hyd := hyd.below hb
      replace hr1 := hr1.below hb
      have hr2 := ho2.row.lower (Nat.zero_le _)
      have hc2 := ho2.capLe
      have ltz := k_z.lt
      clear hb x_0 x_1 x_2 x_3 x_4 x_5 y_0 y_1 y_2 y_3 y_4 y_5 z_0 z_1 z_2 z_3 z_4 z_5
      obtain ⟨x_0, x_1, x_2, x_3, x_4, x_5⟩ := k_x.facts
      obtain ⟨y_0, y_1, y_2, y_3, y_4, y_5⟩ := k_y.facts
      obtain ⟨z_0, z_1, z_2, z_3, z_4, z_5⟩ := k_z.facts)
    | (
      go_at_call_of 59 X1
      refine (rOf_n (x.s != y.s) X1 X2 _ _ cx1 cx2 (r.num.natAbs * s.num.natAbs) (r.den * s.den) _ _ (r * s) _ (val_lim _) (val_lim _) (by omega) (by omega) hc1 hc2 hr1 hr2 hval).mono ?_
      rintro e w3 ⟨z, rfl, hz, hb⟩
      replace HB := HB.trans (hb.mono HB.size)
      replace k_x := k_x.below hb
      replace k_y := k_y.below hb
      replace k_z := k_z.below hb
      clear hb x_0 x_1 x_2 x_3 x_4 x_5 y_0 y_1 y_2 y_3 y_4 y_5 z_0 z_1 z_2 z_3 z_4 z_5
      obtain ⟨x_0, x_1, x_2, x_3, x_4, x_5⟩ := k_x.facts
      obtain ⟨y_0, y_1, y_2, y_3, y_4, y_5⟩ := k_y.facts
      obtain ⟨z_0, z_1, z_2, z_3, z_4, z_5⟩ := k_z.facts))
  go_wp2
  refine ret3 (fn := Tryz.f57) Tryz.results57 rfl rfl k_z ?_
  exact ⟨z, rfl, (hz.put (by omega) _ _ _).lower (by omega), HB.trans (put3_below (by omega) _ _ _)⟩
end Go.Proofs.YtgffkaconhonlaaGreat
namespace Go.Proofs.YtgffkaconhonlaaGreat
set_option maxRecDepth 20000
open Go.RowKit
set_option maxHeartbeats 8000000 in
theorem rDiv_c (v u : Rv) (r s : Rat) (w : World) (hv : Rw w v r 28500000000) (hu : Rw w u s 28500000000) (hs0 : Hid (s ≠ 0)) :
  Calls Tryz.prog 83 #[.agg #[.bool v.s, .slice v.A v.n v.c, .slice v.B v.m v.d], .agg #[.bool u.s, .slice u.A u.n u.c, .slice u.B u.m u.d]] w fun e w' => ∃ z : Rv, e = .returned (.tuple #[.agg #[.bool z.s, .slice z.A z.n z.c, .slice z.B z.m z.d], .bool true]) ∧ Rt w' w.heap.size z (r / s) ∧ Below w.heap.size w w' := by
 have z_r : Sz r 28500000000 := hv.sz (by omega)
 have z_s : Sz s 28500000000 := hu.sz (by omega)
 go_enter Tryz.func83, Tryz.ntmps83
 go_wp2_with fail
 generalize hW : (((w.alloc (.cells #[.bool v.s, .slice v.A v.n v.c, .slice v.B v.m v.d] 26)).alloc (.cells #[.bool u.s, .slice u.A u.n u.c, .slice u.B u.m u.d] 26)).alloc (.cells #[.bool false, .slice none 0 0, .slice none 0 0] 26)) = W
 obtain ⟨k_v, k_u, k_z, HB, hsW⟩ := open2z w v u W hW
 clear hW
 replace hv := hv.below HB
 replace hu := hu.below HB
 have hlw : W.heap.size ≥ w.heap.size + 3 := by omega
 clear hsW
 go_cut [6, 7] from 6 to 11 (fun vx vy wx => ∃ (bx bY : Nat) (x y : Rv), vx = .pointer (some ⟨bx, 0, none⟩) ∧ vy = .pointer (some ⟨bY, 0, none⟩) ∧ Hid (PairAt w wx (w.heap.size + 1 + 1) (.bool false) (.slice none 0 0) (.slice none 0 0) bx bY x y r s ∧ bx ≠ w.heap.size + 1 + 1 ∧ bY ≠ w.heap.size + 1 + 1))
 case first =>
  obtain ⟨v_0, v_1, v_2, v_3, v_4, v_5⟩ := k_v.facts
  obtain ⟨u_0, u_1, u_2, u_3, u_4, u_5⟩ := k_u.facts
  have nW00 : ¬ w.heap.size = W.heap.size := by omega
  have nW00' : ¬ W.heap.size = w.heap.size := by omega
  have nW01 : ¬ w.heap.size + 1 = W.heap.size := by omega
  have nW01' : ¬ W.heap.size = w.heap.size + 1 := by omega
  have nW02 : ¬ w.heap.size + 1 + 1 = W.heap.size := by omega
  have nW02' : ¬ W.heap.size = w.heap.size + 1 + 1 := by omega
  have nW40 : ¬ w.heap.size = W.heap.size + 1 := by omega
  have nW40' : ¬ W.heap.size + 1 = w.heap.size := by omega
  have nW41 : ¬ w.heap.size + 1 = W.heap.size + 1 := by omega
  have nW41' : ¬ W.heap.size + 1 = w.heap.size + 1 := by omega
  have nW42 : ¬ w.heap.size + 1 + 1 = W.heap.size + 1 := by omega
  have nW42' : ¬ W.heap.size + 1 = w.heap.size + 1 + 1 := by omega
  replace hv := hv.more (show 28500000000 ≤ 60000000000 by omega)
  replace hu := hu.more (show 28500000000 ≤ 60000000000 by omega)
  go_region_held3 (fun w' => w'.cell? ⟨w.heap.size, 0, none⟩ = some (.bool v.s) ∧ w'.cell? ⟨w.heap.size, 1, none⟩ = some (.slice v.A v.n v.c) ∧ w'.cell? ⟨w.heap.size, 2, none⟩ = some (.slice v.B v.m v.d) ∧ w'.cell? ⟨w.heap.size + 1, 0, none⟩ = some (.bool u.s) ∧ w'.cell? ⟨w.heap.size + 1, 1, none⟩ = some (.slice u.A u.n u.c) ∧ w'.cell? ⟨w.heap.size + 1, 2, none⟩ = some (.slice u.B u.m u.d)) (go_keep)
    (first
    | (
      go_at_call_of 54 v
      refine (rNorm_c v r _ ?_).mono ?_
      ·
       first
       | exact hv.drew
       | exact (hv.alloc _).drew
       | exact ((hv.alloc _).alloc _).drew
      rintro e w1 ⟨x, rfl, hx, hb⟩
      replace hb := Below.undrew hb
      have hbW : Below W.heap.size W w1 := by
       first
       | exact hb
       | exact ((Below.refl _ _).alloc (Nat.le_refl _) _).trans (hb.mono (by simp))
       | exact (((Below.refl _ _).alloc (Nat.le_refl _) _).alloc (by simp) _).trans (hb.mono (by simp; omega))
      first
      | (
       have p2 : C3 w1 (W.heap.size + 1) (.bool false) (.slice none 0 0) (.slice none 0 0) := by
        have := (C3.new (W.alloc (.cells #[.bool false, .slice none 0 0, .slice none 0 0] 26)) (.bool false) (.slice none 0 0) (.slice none 0 0)).below hb
        simpa using this
       have p1 := ((C3.new W (.bool false) (.slice none 0 0) (.slice none 0 0)).alloc (.cells #[.bool false, .slice none 0 0, .slice none 0 0] 26)).below hb
       have lt2 := p2.lt)
      | have p1 := (C3.new W (.bool false) (.slice none 0 0) (.slice none 0 0)).below hb
      | skip
      try have lt1 := p1.lt
      replace HB := HB.trans (hbW.mono HB.size)
      replace k_v := k_v.below hbW
      replace k_u := k_u.below hbW
      replace k_z := k_z.below hbW
      replace hu := hu.below hbW
      have hs1 := hbW.size
      replace hx := hx.lower (lo' := w.heap.size + 2) (by first | (simp; omega) | omega)
      clear hb hbW v_0 v_1 v_2 v_3 v_4 v_5 u_0 u_1 u_2 u_3 u_4 u_5
      obtain ⟨v_0, v_1, v_2, v_3, v_4, v_5⟩ := k_v.facts
      obtain ⟨u_0, u_1, u_2, u_3, u_4, u_5⟩ := k_u.facts
      try obtain ⟨p_0, p_1, p_2, p_3, p_4, p_5⟩ := p1.facts
      try obtain ⟨q_0, q_1, q_2, q_3, q_4, q_5⟩ := p2.facts
      have nw100 : ¬ w.heap.size = w1.heap.size := by omega
      have nw100' : ¬ w1.heap.size = w.heap.size := by omega
      have nw101 : ¬ w.heap.size + 1 = w1.heap.size := by omega
      have nw101' : ¬ w1.heap.size = w.heap.size + 1 := by omega
      have nw102 : ¬ w.heap.size + 1 + 1 = w1.heap.size := by omega
      have nw102' : ¬ w1.heap.size = w.heap.size + 1 + 1 := by omega
      have nw140 : ¬ w.heap.size = w1.heap.size + 1 := by omega
      have nw140' : ¬ w1.heap.size + 1 = w.heap.size := by omega
      have nw141 : ¬ w.heap.size + 1 = w1.heap.size + 1 := by omega
      have nw141' : ¬ w1.heap.size + 1 = w.heap.size + 1 := by omega
      have nw142 : ¬ w.heap.size + 1 + 1 = w1.heap.size + 1 := by omega
      have nw142' : ¬ w1.heap.size + 1 = w.heap.size + 1 + 1 := by omega)
    | (
      go_at_call_of 54 u
      refine (rNorm_c u s _ ?_).mono ?_
      ·
       first
       | exact hu
       | exact hu.alloc _
       | exact (hu.alloc _).alloc _
      rintro e w2 ⟨y, rfl, hy, hb⟩
      have hbW : Below w1.heap.size w1 w2 := by
       first
       | exact hb
       | exact ((Below.refl _ _).alloc (Nat.le_refl _) _).trans (hb.mono (by simp))
       | exact (((Below.refl _ _).alloc (Nat.le_refl _) _).alloc (by simp) _).trans (hb.mono (by simp; omega))
      first
      | (
       have p2 : C3 w2 (w1.heap.size + 1) (.bool false) (.slice none 0 0) (.slice none 0 0) := by
        have := (C3.new (w1.alloc (.cells #[.bool false, .slice none 0 0, .slice none 0 0] 26)) (.bool false) (.slice none 0 0) (.slice none 0 0)).below hb
        simpa using this
       have p1 := ((C3.new w1 (.bool false) (.slice none 0 0) (.slice none 0 0)).alloc (.cells #[.bool false, .slice none 0 0, .slice none 0 0] 26)).below hb
       have lt1 := p1.lt)
      | (
       replace p1 := p1.below hbW
       have p2 := (C3.new w1 (.bool false) (.slice none 0 0) (.slice none 0 0)).below hb)
      | (
       replace p1 := p1.below hbW
       replace p2 := p2.below hbW)
      | replace p1 := p1.below hbW
      | have p1 := (C3.new w1 (.bool false) (.slice none 0 0) (.slice none 0 0)).below hb
      | skip
      try have lt1 := p1.lt
      try have lt2 := p2.lt
      replace HB := HB.trans (hbW.mono HB.size)
      replace k_v := k_v.below hbW
      replace k_u := k_u.below hbW
      replace k_z := k_z.below hbW
      replace hx := hx.below hbW
      have hs2 := hbW.size
      replace hy := hy.lower (lo' := w.heap.size + 2) (by first | (simp; omega) | omega)
      clear hb hbW v_0 v_1 v_2 v_3 v_4 v_5 u_0 u_1 u_2 u_3 u_4 u_5
      obtain ⟨v_0, v_1, v_2, v_3, v_4, v_5⟩ := k_v.facts
      obtain ⟨u_0, u_1, u_2, u_3, u_4, u_5⟩ := k_u.facts
      try clear p_0 p_1 p_2 p_3 p_4 p_5
      try clear q_0 q_1 q_2 q_3 q_4 q_5
      try obtain ⟨p_0, p_1, p_2, p_3, p_4, p_5⟩ := p1.facts
      try obtain ⟨q_0, q_1, q_2, q_3, q_4, q_5⟩ := p2.facts
      have nw200 : ¬ w.heap.size = w2.heap.size := by omega
      have nw200' : ¬ w2.heap.size = w.heap.size := by omega
      have nw201 : ¬ w.heap.size + 1 = w2.heap.size := by omega
      have nw201' : ¬ w2.heap.size = w.heap.size + 1 := by omega
      have nw202 : ¬ w.heap.size + 1 + 1 = w2.heap.size := by omega
      have nw202' : ¬ w2.heap.size = w.heap.size + 1 + 1 := by omega
      have nw240 : ¬ w.heap.size = w2.heap.size + 1 := by omega
      have nw240' : ¬ w2.heap.size + 1 = w.heap.size := by omega
      have nw241 : ¬ w.heap.size + 1 = w2.heap.size + 1 := by omega
      have nw241' : ¬ w2.heap.size + 1 = w.heap.size + 1 := by omega
      have nw242 : ¬ w.heap.size + 1 + 1 = w2.heap.size + 1 := by omega
      have nw242' : ¬ w2.heap.size + 1 = w.heap.size + 1 + 1 := by omega))
  all_goals (
   go_wp2_with fail
   go_meet
   have ltz := k_z.lt
   refine ⟨_, _, x, y, rfl, rfl, Lib.hid ⟨?_, ?_, ?_⟩⟩
   rotate_left
   · omega
   · omega
   first
   | (with_reducible refine pair_new hx hy k_z HB)
   | (with_reducible refine pair_swap hx hy k_z HB)
   | ((with_reducible refine pair_put p1 ?_ ?_ hx hy k_z HB) <;> omega)
   | ((with_reducible refine pair_put' p1 ?_ ?_ hx hy k_z HB) <;> omega)
   | ((with_reducible refine pair_both p1 p2 ?_ ?_ ?_ ?_ ?_ hx hy k_z HB) <;> omega)
   | ((with_reducible refine pair_both p2 p1 ?_ ?_ ?_ ?_ ?_ hx hy k_z HB) <;> omega))
 case rest =>
  obtain ⟨bx, bY, x, y, rfl, rfl, HC⟩ := hcut
  obtain ⟨⟨k_x, k_y, hx, hy, k_z, HB⟩, nex, ney⟩ := HC.out
  have nex' := Ne.symm nex
  have ney' := Ne.symm ney
  clear HC hv hu k_v k_u
  have hxn := hx.num.lower (Nat.zero_le _)
  have hxd := hx.den.lower (Nat.zero_le _)
  have hyn := hy.num.lower (Nat.zero_le _)
  have hyd := hy.den.lower (Nat.zero_le _)
  have cxn := hx.numCap
  have cxd := hx.denCap
  have cyn := hy.numCap
  have cyd := hy.denCap
  have lxn : x.n ≤ 28500000000 := by rw [hx.numLen]; exact z_r.num.len
  have lxd : x.m ≤ 28500000000 := by rw [hx.denLen]; exact z_r.den.len
  have lyn : y.n ≤ 28500000000 := by rw [hy.numLen]; exact z_s.num.len
  have lyd : y.m ≤ 28500000000 := by rw [hy.denLen]; exact z_s.den.len
  have sgx : x.s = decide (r.num < 0) := hx.sign
  have sgy : y.s = decide (s.num < 0) := hy.sign
  have hsn : s.num.natAbs ≠ 0 := fun e => num_ne hs0.out (Int.natAbs_eq_zero.1 e)
  have hyp := hy.n_pos hs0.out
  have hbn : ((y.n : Int) == 0) = false := beq_eq_false_iff_ne.2 (by omega)
  obtain ⟨x_0, x_1, x_2, x_3, x_4, x_5⟩ := k_x.facts
  obtain ⟨y_0, y_1, y_2, y_3, y_4, y_5⟩ := k_y.facts
  obtain ⟨z_0, z_1, z_2, z_3, z_4, z_5⟩ := k_z.facts
  go_wp2_with fail
  clear x_0 x_1 x_2 x_3 x_4 x_5 y_0 y_1 y_2 y_3 y_4 y_5 z_0 z_1 z_2 z_3 z_4 z_5
  clear hbn
  have hl1 : (lim (r.num.natAbs * s.den)).length ≤ 57000000000 := (z_r.num.mul z_s.den).len
  have hl2 : (lim (r.den * s.num.natAbs)).length ≤ 57000000000 := (z_r.den.mul z_s.num).len
  have hval : rn (x.s != y.s) (r.num.natAbs * s.den) (r.den * s.num.natAbs) = r / s := by
   rw [sgx, sgy, ← rn_div _ _ hsn s.den_nz, rn_self, rn_self]
  clear sgx sgy hx hy
  obtain ⟨x_0, x_1, x_2, x_3, x_4, x_5⟩ := k_x.facts
  obtain ⟨y_0, y_1, y_2, y_3, y_4, y_5⟩ := k_y.facts
  obtain ⟨z_0, z_1, z_2, z_3, z_4, z_5⟩ := k_z.facts
  replace k_x := k_x.drew
  replace k_y := k_y.drew
  replace k_z := k_z.drew
  replace hxn := hxn.drew
  replace hxd := hxd.drew
  replace hyn := hyn.drew
  replace hyd := hyd.drew
  replace HB := HB.drew
  go_region_held3 (fun w' => w'.cell? ⟨bx, 0, none⟩ = some (.bool x.s) ∧ w'.cell? ⟨bx, 1, none⟩ = some (.slice x.A x.n x.c) ∧ w'.cell? ⟨bx, 2, none⟩ = some (.slice x.B x.m x.d) ∧ w'.cell? ⟨bY, 0, none⟩ = some (.bool y.s) ∧ w'.cell? ⟨bY, 1, none⟩ = some (.slice y.A y.n y.c) ∧ w'.cell? ⟨bY, 2, none⟩ = some (.slice y.B y.m y.d)) (go_keep)
    (first
    | (
      go_at_call_of 61 x.A
      refine (rMul_v r.num.natAbs s.den x.A y.B x.n y.m x.c y.d _ _ _ (val_lim _) (val_lim _) (by omega) (by omega) hxn hyd).mono ?_
      rintro e w1 ⟨X1, cx1, rfl, ho1, hb⟩
      replace HB := HB.trans (hb.mono HB.size)
      replace k_x := k_x.below hb
      replace k_y := k_y.below hb
      replace k_z := k_z.below hb
      replace hxn := hxn.below hb
      replace hxd := hxd.below hb
      replace hyn := hyn.below hb
      replace hyd := hyd.below hb
      have hr1 := ho1.row.lower (Nat.zero_le _)
      have hc1 := ho1.capLe
      clear hb x_0 x_1 x_2 x_3 x_4 x_5 y_0 y_1 y_2 y_3 y_4 y_5 z_0 z_1 z_2 z_3 z_4 z_5
      obtain ⟨x_0, x_1, x_2, x_3, x_4, x_5⟩ := k_x.facts
      obtain ⟨y_0, y_1, y_2, y_3, y_4, y_5⟩ := k_y.facts
      obtain ⟨z_0, z_1, z_2, z_3, z_4, z_5⟩ := k_z.facts)
    | (
      go_at_call_of 61 x.B
      refine (rMul_v r.den s.num.natAbs x.B y.A x.m y.n x.d y.c _ _ _ (val_lim _) (val_lim _) (by omega) (by omega) hxd hyn).mono ?_
      rintro e w2 ⟨X2, cx2, rfl, ho2, hb⟩
      replace HB := HB.trans (hb.mono HB.size)
      replace k_x := k_x.below hb
      replace k_y := k_y.below hb
      replace k_z := k_z.below hb
      replace hxn := hxn.below hb
      replace hxd := hxd.below hb
      replace hyn := hyn.below hb
      replace hyd := hyd.below hb
      replace hr1 := hr1.below hb
      have hr2 := ho2.row.lower (Nat.zero_le _)
      have hc2 := ho2.capLe
      have ltz := k_z.lt
      clear hb x_0 x_1 x_2 x_3 x_4 x_5 y_0 y_1 y_2 y_3 y_4 y_5 z_0 z_1 z_2 z_3 z_4 z_5
      obtain ⟨x_0, x_1, x_2, x_3, x_4, x_5⟩ := k_x.facts
      obtain ⟨y_0, y_1, y_2, y_3, y_4, y_5⟩ := k_y.facts
      obtain ⟨z_0, z_1, z_2, z_3, z_4, z_5⟩ := k_z.facts)
    | (
      go_at_call_of 59 X1
      refine (rOf_n (x.s != y.s) X1 X2 _ _ cx1 cx2 (r.num.natAbs * s.den) (r.den * s.num.natAbs) _ _ (r / s) _ (val_lim _) (val_lim _) (by omega) (by omega) hc1 hc2 hr1 hr2 hval).mono ?_
      rintro e w3 ⟨z, rfl, hz, hb⟩
      replace HB := HB.trans (hb.mono HB.size)
      replace k_x := k_x.below hb
      replace k_y := k_y.below hb
      replace k_z := k_z.below hb
      clear hb x_0 x_1 x_2 x_3 x_4 x_5 y_0 y_1 y_2 y_3 y_4 y_5 z_0 z_1 z_2 z_3 z_4 z_5
      obtain ⟨x_0, x_1, x_2, x_3, x_4, x_5⟩ := k_x.facts
      obtain ⟨y_0, y_1, y_2, y_3, y_4, y_5⟩ := k_y.facts
      obtain ⟨z_0, z_1, z_2, z_3, z_4, z_5⟩ := k_z.facts))
  go_wp2
  refine ret3t (fn := Tryz.f83) Tryz.results83 rfl rfl rfl (k_z.put _ _ _) ?_
  exact ⟨z, rfl, (hz.put (by omega) _ _ _).lower (by omega), HB.trans (put3_below (by omega) _ _ _)⟩
end Go.Proofs.YtgffkaconhonlaaGreat
namespace Go.Proofs.YtgffkaconhonlaaGreat
set_option maxRecDepth 20000
open Go.RowKit
set_option maxHeartbeats 8000000 in
theorem rAdd_same (v u : Rv) (r s : Rat) (w : World) (hv : Rw w v r 28500000000) (hu : Rw w u s 28500000000) (hss : Hid (decide (r.num < 0) = decide (s.num < 0))) :
  Calls Tryz.prog 30 #[.agg #[.bool v.s, .slice v.A v.n v.c, .slice v.B v.m v.d], .agg #[.bool u.s, .slice u.A u.n u.c, .slice u.B u.m u.d]] w fun e w' => ∃ z : Rv, e = .returned (.agg #[.bool z.s, .slice z.A z.n z.c, .slice z.B z.m z.d]) ∧ Rt w' w.heap.size z (r + s) ∧ Below w.heap.size w w' := by
 have z_r : Sz r 28500000000 := hv.sz (by omega)
 have z_s : Sz s 28500000000 := hu.sz (by omega)
 go_enter Tryz.func30, Tryz.ntmps30
 go_wp2_with fail
 generalize hW : (((w.alloc (.cells #[.bool v.s, .slice v.A v.n v.c, .slice v.B v.m v.d] 26)).alloc (.cells #[.bool u.s, .slice u.A u.n u.c, .slice u.B u.m u.d] 26)).alloc (.cells #[.bool false, .slice none 0 0, .slice none 0 0] 26)) = W
 obtain ⟨k_v, k_u, k_z, HB, hsW⟩ := open2z w v u W hW
 clear hW
 replace hv := hv.below HB
 replace hu := hu.below HB
 have hlw : W.heap.size ≥ w.heap.size + 3 := by omega
 clear hsW
 go_cut [5, 6] from 5 to 17 (fun vx vy wx => ∃ (bx bY : Nat) (x y : Rv), vx = .pointer (some ⟨bx, 0, none⟩) ∧ vy = .pointer (some ⟨bY, 0, none⟩) ∧ Hid (PairAt w wx (w.heap.size + 1 + 1) (.bool false) (.slice none 0 0) (.slice none 0 0) bx bY x y r s ∧ bx ≠ w.heap.size + 1 + 1 ∧ bY ≠ w.heap.size + 1 + 1))
 case first =>
  obtain ⟨v_0, v_1, v_2, v_3, v_4, v_5⟩ := k_v.facts
  obtain ⟨u_0, u_1, u_2, u_3, u_4, u_5⟩ := k_u.facts
  have nW00 : ¬ w.heap.size = W.heap.size := by omega
  have nW00' : ¬ W.heap.size = w.heap.size := by omega
  have nW01 : ¬ w.heap.size + 1 = W.heap.size := by omega
  have nW01' : ¬ W.heap.size = w.heap.size + 1 := by omega
  have nW02 : ¬ w.heap.size + 1 + 1 = W.heap.size := by omega
  have nW02' : ¬ W.heap.size = w.heap.size + 1 + 1 := by omega
  have nW40 : ¬ w.heap.size = W.heap.size + 1 := by omega
  have nW40' : ¬ W.heap.size + 1 = w.heap.size := by omega
  have nW41 : ¬ w.heap.size + 1 = W.heap.size + 1 := by omega
  have nW41' : ¬ W.heap.size + 1 = w.heap.size + 1 := by omega
  have nW42 : ¬ w.heap.size + 1 + 1 = W.heap.size + 1 := by omega
  have nW42' : ¬ W.heap.size + 1 = w.heap.size + 1 + 1 := by omega
  replace hv := hv.more (show 28500000000 ≤ 60000000000 by omega)
  replace hu := hu.more (show 28500000000 ≤ 60000000000 by omega)
  go_region_held3 (fun w' => w'.cell? ⟨w.heap.size, 0, none⟩ = some (.bool v.s) ∧ w'.cell? ⟨w.heap.size, 1, none⟩ = some (.slice v.A v.n v.c) ∧ w'.cell? ⟨w.heap.size, 2, none⟩ = some (.slice v.B v.m v.d) ∧ w'.cell? ⟨w.heap.size + 1, 0, none⟩ = some (.bool u.s) ∧ w'.cell? ⟨w.heap.size + 1, 1, none⟩ = some (.slice u.A u.n u.c) ∧ w'.cell? ⟨w.heap.size + 1, 2, none⟩ = some (.slice u.B u.m u.d)) (go_keep)
    (first
    | (
      go_at_call_of 54 v
      refine (rNorm_c v r _ ?_).mono ?_
      ·
       first
       | exact hv.drew
       | exact (hv.alloc _).drew
       | exact ((hv.alloc _).alloc _).drew
      rintro e w1 ⟨x, rfl, hx, hb⟩
      replace hb := Below.undrew hb
      have hbW : Below W.heap.size W w1 := by
       first
       | exact hb
       | exact ((Below.refl _ _).alloc (Nat.le_refl _) _).trans (hb.mono (by simp))
       | exact (((Below.refl _ _).alloc (Nat.le_refl _) _).alloc (by simp) _).trans (hb.mono (by simp; omega))
      first
      | (
       have p2 : C3 w1 (W.heap.size + 1) (.bool false) (.slice none 0 0) (.slice none 0 0) := by
        have := (C3.new (W.alloc (.cells #[.bool false, .slice none 0 0, .slice none 0 0] 26)) (.bool false) (.slice none 0 0) (.slice none 0 0)).below hb
        simpa using this
       have p1 := ((C3.new W (.bool false) (.slice none 0 0) (.slice none 0 0)).alloc (.cells #[.bool false, .slice none 0 0, .slice none 0 0] 26)).below hb
       have lt2 := p2.lt)
      | have p1 := (C3.new W (.bool false) (.slice none 0 0) (.slice none 0 0)).below hb
      | skip
      try have lt1 := p1.lt
      replace HB := HB.trans (hbW.mono HB.size)
      replace k_v := k_v.below hbW
      replace k_u := k_u.below hbW
      replace k_z := k_z.below hbW
      replace hu := hu.below hbW
      have hs1 := hbW.size
      replace hx := hx.lower (lo' := w.heap.size + 2) (by first | (simp; omega) | omega)
      clear hb hbW v_0 v_1 v_2 v_3 v_4 v_5 u_0 u_1 u_2 u_3 u_4 u_5
      obtain ⟨v_0, v_1, v_2, v_3, v_4, v_5⟩ := k_v.facts
      obtain ⟨u_0, u_1, u_2, u_3, u_4, u_5⟩ := k_u.facts
      try obtain ⟨p_0, p_1, p_2, p_3, p_4, p_5⟩ := p1.facts
      try obtain ⟨q_0, q_1, q_2, q_3, q_4, q_5⟩ := p2.facts
      have nw100 : ¬ w.heap.size = w1.heap.size := by omega
      have nw100' : ¬ w1.heap.size = w.heap.size := by omega
      have nw101 : ¬ w.heap.size + 1 = w1.heap.size := by omega
      have nw101' : ¬ w1.heap.size = w.heap.size + 1 := by omega
      have nw102 : ¬ w.heap.size + 1 + 1 = w1.heap.size := by omega
      have nw102' : ¬ w1.heap.size = w.heap.size + 1 + 1 := by omega
      have nw140 : ¬ w.heap.size = w1.heap.size + 1 := by omega
      have nw140' : ¬ w1.heap.size + 1 = w.heap.size := by omega
      have nw141 : ¬ w.heap.size + 1 = w1.heap.size + 1 := by omega
      have nw141' : ¬ w1.heap.size + 1 = w.heap.size + 1 := by omega
      have nw142 : ¬ w.heap.size + 1 + 1 = w1.heap.size + 1 := by omega
      have nw142' : ¬ w1.heap.size + 1 = w.heap.size + 1 + 1 := by omega)
    | (
      go_at_call_of 54 u
      refine (rNorm_c u s _ ?_).mono ?_
      ·
       first
       | exact hu
       | exact hu.alloc _
       | exact (hu.alloc _).alloc _
      rintro e w2 ⟨y, rfl, hy, hb⟩
      have hbW : Below w1.heap.size w1 w2 := by
       first
       | exact hb
       | exact ((Below.refl _ _).alloc (Nat.le_refl _) _).trans (hb.mono (by simp))
       | exact (((Below.refl _ _).alloc (Nat.le_refl _) _).alloc (by simp) _).trans (hb.mono (by simp; omega))
      first
      | (
       have p2 : C3 w2 (w1.heap.size + 1) (.bool false) (.slice none 0 0) (.slice none 0 0) := by
        have := (C3.new (w1.alloc (.cells #[.bool false, .slice none 0 0, .slice none 0 0] 26)) (.bool false) (.slice none 0 0) (.slice none 0 0)).below hb
        simpa using this
       have p1 := ((C3.new w1 (.bool false) (.slice none 0 0) (.slice none 0 0)).alloc (.cells #[.bool false, .slice none 0 0, .slice none 0 0] 26)).below hb
       have lt1 := p1.lt)
      | (
       replace p1 := p1.below hbW
       have p2 := (C3.new w1 (.bool false) (.slice none 0 0) (.slice none 0 0)).below hb)
      | (
       replace p1 := p1.below hbW
       replace p2 := p2.below hbW)
      | replace p1 := p1.below hbW
      | have p1 := (C3.new w1 (.bool false) (.slice none 0 0) (.slice none 0 0)).below hb
      | skip
      try have lt1 := p1.lt
      try have lt2 := p2.lt
      replace HB := HB.trans (hbW.mono HB.size)
      replace k_v := k_v.below hbW
      replace k_u := k_u.below hbW
      replace k_z := k_z.below hbW
      replace hx := hx.below hbW
      have hs2 := hbW.size
      replace hy := hy.lower (lo' := w.heap.size + 2) (by first | (simp; omega) | omega)
      clear hb hbW v_0 v_1 v_2 v_3 v_4 v_5 u_0 u_1 u_2 u_3 u_4 u_5
      obtain ⟨v_0, v_1, v_2, v_3, v_4, v_5⟩ := k_v.facts
      obtain ⟨u_0, u_1, u_2, u_3, u_4, u_5⟩ := k_u.facts
      try clear p_0 p_1 p_2 p_3 p_4 p_5
      try clear q_0 q_1 q_2 q_3 q_4 q_5
      try obtain ⟨p_0, p_1, p_2, p_3, p_4, p_5⟩ := p1.facts
      try obtain ⟨q_0, q_1, q_2, q_3, q_4, q_5⟩ := p2.facts
      have nw200 : ¬ w.heap.size = w2.heap.size := by omega
      have nw200' : ¬ w2.heap.size = w.heap.size := by omega
      have nw201 : ¬ w.heap.size + 1 = w2.heap.size := by omega
      have nw201' : ¬ w2.heap.size = w.heap.size + 1 := by omega
      have nw202 : ¬ w.heap.size + 1 + 1 = w2.heap.size := by omega
      have nw202' : ¬ w2.heap.size = w.heap.size + 1 + 1 := by omega
      have nw240 : ¬ w.heap.size = w2.heap.size + 1 := by omega
      have nw240' : ¬ w2.heap.size + 1 = w.heap.size := by omega
      have nw241 : ¬ w.heap.size + 1 = w2.heap.size + 1 := by omega
      have nw241' : ¬ w2.heap.size + 1 = w.heap.size + 1 := by omega
      have nw242 : ¬ w.heap.size + 1 + 1 = w2.heap.size + 1 := by omega
      have nw242' : ¬ w2.heap.size + 1 = w.heap.size + 1 + 1 := by omega))
  all_goals (
   go_wp2_with fail
   go_meet
   have ltz := k_z.lt
   refine ⟨_, _, x, y, rfl, rfl, Lib.hid ⟨?_, ?_, ?_⟩⟩
   rotate_left
   · omega
   · omega
   first
   | (with_reducible refine pair_new hx hy k_z HB)
   | (with_reducible refine pair_swap hx hy k_z HB)
   | ((with_reducible refine pair_put p1 ?_ ?_ hx hy k_z HB) <;> omega)
   | ((with_reducible refine pair_put' p1 ?_ ?_ hx hy k_z HB) <;> omega)
   | ((with_reducible refine pair_both p1 p2 ?_ ?_ ?_ ?_ ?_ hx hy k_z HB) <;> omega)
   | ((with_reducible refine pair_both p2 p1 ?_ ?_ ?_ ?_ ?_ hx hy k_z HB) <;> omega))
 case rest =>
  obtain ⟨bx, bY, x, y, rfl, rfl, HC⟩ := hcut
  obtain ⟨⟨k_x, k_y, hx, hy, k_z, HB⟩, nex, ney⟩ := HC.out
  have nex' := Ne.symm nex
  have ney' := Ne.symm ney
  clear HC hv hu k_v k_u
  have hxn := hx.num.lower (Nat.zero_le _)
  have hxd := hx.den.lower (Nat.zero_le _)
  have hyn := hy.num.lower (Nat.zero_le _)
  have hyd := hy.den.lower (Nat.zero_le _)
  have cxn := hx.numCap
  have cxd := hx.denCap
  have cyn := hy.numCap
  have cyd := hy.denCap
  have lxn : x.n ≤ 28500000000 := by rw [hx.numLen]; exact z_r.num.len
  have lxd : x.m ≤ 28500000000 := by rw [hx.denLen]; exact z_r.den.len
  have lyn : y.n ≤ 28500000000 := by rw [hy.numLen]; exact z_s.num.len
  have lyd : y.m ≤ 28500000000 := by rw [hy.denLen]; exact z_s.den.len
  have sgx : x.s = decide (r.num < 0) := hx.sign
  have sgy : y.s = decide (s.num < 0) := hy.sign
  have hse : (x.s == y.s) = true := by rw [sgx, sgy, hss.out]; simp
  have hval : rn x.s (r.num.natAbs * s.den + s.num.natAbs * r.den) (r.den * s.den) = r + s := by
   rw [sgx, ← rn_add _ r.den_nz s.den_nz, rn_self, hss.out, rn_self]
  clear sgx sgy
  have hl1 : (lim (r.num.natAbs * s.den)).length ≤ 57000000000 := (z_r.num.mul z_s.den).len
  have hl2 : (lim (s.num.natAbs * r.den)).length ≤ 57000000000 := (z_s.num.mul z_r.den).len
  have hl3 : (lim (r.den * s.den)).length ≤ 57000000000 := (z_r.den.mul z_s.den).len
  clear hx hy
  go_wp2_with fail
  obtain ⟨x_0, x_1, x_2, x_3, x_4, x_5⟩ := k_x.facts
  obtain ⟨y_0, y_1, y_2, y_3, y_4, y_5⟩ := k_y.facts
  obtain ⟨z_0, z_1, z_2, z_3, z_4, z_5⟩ := k_z.facts
  replace k_x := k_x.drew
  replace k_y := k_y.drew
  replace k_z := k_z.drew
  replace hxn := hxn.drew
  replace hxd := hxd.drew
  replace hyn := hyn.drew
  replace hyd := hyd.drew
  replace HB := HB.drew
  go_region_held3 (fun w' => w'.cell? ⟨bx, 0, none⟩ = some (.bool x.s) ∧ w'.cell? ⟨bx, 1, none⟩ = some (.slice x.A x.n x.c) ∧ w'.cell? ⟨bx, 2, none⟩ = some (.slice x.B x.m x.d) ∧ w'.cell? ⟨bY, 0, none⟩ = some (.bool y.s) ∧ w'.cell? ⟨bY, 1, none⟩ = some (.slice y.A y.n y.c) ∧ w'.cell? ⟨bY, 2, none⟩ = some (.slice y.B y.m y.d)) (go_keep)
    (first
    | (
      go_at_call_of 61 x.A
      refine (rMul_v r.num.natAbs s.den x.A y.B x.n y.m x.c y.d _ _ _ (val_lim _) (val_lim _) (by omega) (by omega) hxn hyd).mono ?_
      rintro e w1 ⟨X1, cx1, rfl, ho1, hb⟩
      replace HB := HB.trans (hb.mono HB.size)
      replace k_x := k_x.below hb
      replace k_y := k_y.below hb
      replace k_z := k_z.below hb
      replace hxn := hxn.below hb
      replace hxd := hxd.below hb
      replace hyn := hyn.below hb
      replace hyd := hyd.below hb
      have hr1 := ho1.row.lower (Nat.zero_le _)
      have hc1 := ho1.capLe
      clear hb x_0 x_1 x_2 x_3 x_4 x_5 y_0 y_1 y_2 y_3 y_4 y_5 z_0 z_1 z_2 z_3 z_4 z_5
      obtain ⟨x_0, x_1, x_2, x_3, x_4, x_5⟩ := k_x.facts
      obtain ⟨y_0, y_1, y_2, y_3, y_4, y_5⟩ := k_y.facts
      obtain ⟨z_0, z_1, z_2, z_3, z_4, z_5⟩ := k_z.facts)
    | (
      go_at_call_of 61 y.A
      refine (rMul_v s.num.natAbs r.den y.A x.B y.n x.m y.c x.d _ _ _ (val_lim _) (val_lim _) (by omega) (by omega) hyn hxd).mono ?_
      rintro e w2 ⟨X2, cx2, rfl, ho2, hb⟩
      replace HB := HB.trans (hb.mono HB.size)
      replace k_x := k_x.below hb
      replace k_y := k_y.below hb
      replace k_z := k_z.below hb
      replace hxn := hxn.below hb
      replace hxd := hxd.below hb
      replace hyn := hyn.below hb
      replace hyd := hyd.below hb
      replace hr1 := hr1.below hb
      have hr2 := ho2.row.lower (Nat.zero_le _)
      have hc2 := ho2.capLe
      clear hb x_0 x_1 x_2 x_3 x_4 x_5 y_0 y_1 y_2 y_3 y_4 y_5 z_0 z_1 z_2 z_3 z_4 z_5
      obtain ⟨x_0, x_1, x_2, x_3, x_4, x_5⟩ := k_x.facts
      obtain ⟨y_0, y_1, y_2, y_3, y_4, y_5⟩ := k_y.facts
      obtain ⟨z_0, z_1, z_2, z_3, z_4, z_5⟩ := k_z.facts))
  go_wp2_with fail
  refine (rMul_v r.den s.den x.B y.B x.m y.m x.d y.d _ _ _ (val_lim _) (val_lim _) (by omega) (by omega) hxd hyd).mono ?_
  rintro e w3 ⟨X3, cx3, rfl, ho3, hb⟩
  replace HB := HB.trans (hb.mono HB.size)
  replace k_x := k_x.below hb
  replace k_y := k_y.below hb
  replace k_z := k_z.below hb
  replace hr1 := hr1.below hb
  replace hr2 := hr2.below hb
  have hr3 := ho3.row.lower (Nat.zero_le _)
  have hc3 := ho3.capLe
  clear hb ho1 ho2 ho3 hxn hxd hyn hyd x_0 x_1 x_2 x_3 x_4 x_5 y_0 y_1 y_2 y_3 y_4 y_5 z_0 z_1 z_2 z_3 z_4 z_5
  obtain ⟨x_0, x_1, x_2, x_3, x_4, x_5⟩ := k_x.facts
  obtain ⟨y_0, y_1, y_2, y_3, y_4, y_5⟩ := k_y.facts
  obtain ⟨z_0, z_1, z_2, z_3, z_4, z_5⟩ := k_z.facts
  go_wp2_with fail
  clear x_0 x_1 x_2 x_3 x_4 x_5 y_0 y_1 y_2 y_3 y_4 y_5 z_0 z_1 z_2 z_3 z_4 z_5
  have hlS : (lim (r.num.natAbs * s.den + s.num.natAbs * r.den)).length ≤ 57000000001 := ((z_r.num.mul z_s.den).add (z_s.num.mul z_r.den)).len
  obtain ⟨x_0, x_1, x_2, x_3, x_4, x_5⟩ := k_x.facts
  obtain ⟨y_0, y_1, y_2, y_3, y_4, y_5⟩ := k_y.facts
  obtain ⟨z_0, z_1, z_2, z_3, z_4, z_5⟩ := k_z.facts
  replace k_x := k_x.drew
  replace k_y := k_y.drew
  replace k_z := k_z.drew
  replace hr1 := hr1.drew
  replace hr2 := hr2.drew
  replace hr3 := hr3.drew
  replace HB := HB.drew
  go_region_held3 (fun w' => w'.cell? ⟨bx, 0, none⟩ = some (.bool x.s) ∧ w'.cell? ⟨bx, 1, none⟩ = some (.slice x.A x.n x.c) ∧ w'.cell? ⟨bx, 2, none⟩ = some (.slice x.B x.m x.d) ∧ w'.cell? ⟨bY, 0, none⟩ = some (.bool y.s) ∧ w'.cell? ⟨bY, 1, none⟩ = some (.slice y.A y.n y.c) ∧ w'.cell? ⟨bY, 2, none⟩ = some (.slice y.B y.m y.d)) (go_keep)
    (first
    | (
      go_at_call 62
      refine (rAdd_v (r.num.natAbs * s.den) (s.num.natAbs * r.den) X1 X2 _ _ cx1 cx2 _ _ _ (val_lim _) (val_lim _) (by omega) (by omega) hr1 hr2).mono ?_
      rintro e w4 ⟨X4, cx4, rfl, ho4, hb⟩
      replace HB := HB.trans (hb.mono HB.size)
      replace k_x := k_x.below hb
      replace k_y := k_y.below hb
      replace k_z := k_z.below hb
      replace hr3 := hr3.below hb
      have hr4 := ho4.row.lower (Nat.zero_le _)
      have hc4 := ho4.capLe
      have ltz := k_z.lt
      clear hb x_0 x_1 x_2 x_3 x_4 x_5 y_0 y_1 y_2 y_3 y_4 y_5 z_0 z_1 z_2 z_3 z_4 z_5
      obtain ⟨x_0, x_1, x_2, x_3, x_4, x_5⟩ := k_x.facts
      obtain ⟨y_0, y_1, y_2, y_3, y_4, y_5⟩ := k_y.facts
      obtain ⟨z_0, z_1, z_2, z_3, z_4, z_5⟩ := k_z.facts)
    | (
      go_at_call 59
      refine (rOf_n x.s X4 X3 _ _ cx4 cx3 (r.num.natAbs * s.den + s.num.natAbs * r.den) (r.den * s.den) _ _ (r + s) _ (val_lim _) (val_lim _) (by omega) (by omega) hc4 hc3 hr4 hr3 hval).mono ?_
      rintro e w5 ⟨z, rfl, hz, hb⟩
      replace HB := HB.trans (hb.mono HB.size)
      replace k_x := k_x.below hb
      replace k_y := k_y.below hb
      replace k_z := k_z.below hb
      clear hb x_0 x_1 x_2 x_3 x_4 x_5 y_0 y_1 y_2 y_3 y_4 y_5 z_0 z_1 z_2 z_3 z_4 z_5
      obtain ⟨x_0, x_1, x_2, x_3, x_4, x_5⟩ := k_x.facts
      obtain ⟨y_0, y_1, y_2, y_3, y_4, y_5⟩ := k_y.facts
      obtain ⟨z_0, z_1, z_2, z_3, z_4, z_5⟩ := k_z.facts))
  go_wp2
  refine ret3 (fn := Tryz.f30) Tryz.results30 rfl rfl k_z ?_
  exact ⟨z, rfl, (hz.put (by omega) _ _ _).lower (by omega), HB.trans (put3_below (by omega) _ _ _)⟩
set_option maxHeartbeats 8000000 in
theorem rAdd_less (v u : Rv) (r s : Rat) (w : World) (hv : Rw w v r 28500000000) (hu : Rw w u s 28500000000) (hss : Hid (decide (s.num < 0) = !decide (r.num < 0))) (hle : Hid (s.num.natAbs * r.den ≤ r.num.natAbs * s.den)) :
  Calls Tryz.prog 30 #[.agg #[.bool v.s, .slice v.A v.n v.c, .slice v.B v.m v.d], .agg #[.bool u.s, .slice u.A u.n u.c, .slice u.B u.m u.d]] w fun e w' => ∃ z : Rv, e = .returned (.agg #[.bool z.s, .slice z.A z.n z.c, .slice z.B z.m z.d]) ∧ Rt w' w.heap.size z (r + s) ∧ Below w.heap.size w w' := by
 have z_r : Sz r 28500000000 := hv.sz (by omega)
 have z_s : Sz s 28500000000 := hu.sz (by omega)
 go_enter Tryz.func30, Tryz.ntmps30
 go_wp2_with fail
 generalize hW : (((w.alloc (.cells #[.bool v.s, .slice v.A v.n v.c, .slice v.B v.m v.d] 26)).alloc (.cells #[.bool u.s, .slice u.A u.n u.c, .slice u.B u.m u.d] 26)).alloc (.cells #[.bool false, .slice none 0 0, .slice none 0 0] 26)) = W
 obtain ⟨k_v, k_u, k_z, HB, hsW⟩ := open2z w v u W hW
 clear hW
 replace hv := hv.below HB
 replace hu := hu.below HB
 have hlw : W.heap.size ≥ w.heap.size + 3 := by omega
 clear hsW
 go_cut [5, 6] from 5 to 17 (fun vx vy wx => ∃ (bx bY : Nat) (x y : Rv), vx = .pointer (some ⟨bx, 0, none⟩) ∧ vy = .pointer (some ⟨bY, 0, none⟩) ∧ Hid (PairAt w wx (w.heap.size + 1 + 1) (.bool false) (.slice none 0 0) (.slice none 0 0) bx bY x y r s ∧ bx ≠ w.heap.size + 1 + 1 ∧ bY ≠ w.heap.size + 1 + 1))
 case first =>
  obtain ⟨v_0, v_1, v_2, v_3, v_4, v_5⟩ := k_v.facts
  obtain ⟨u_0, u_1, u_2, u_3, u_4, u_5⟩ := k_u.facts
  have nW00 : ¬ w.heap.size = W.heap.size := by omega
  have nW00' : ¬ W.heap.size = w.heap.size := by omega
  have nW01 : ¬ w.heap.size + 1 = W.heap.size := by omega
  have nW01' : ¬ W.heap.size = w.heap.size + 1 := by omega
  have nW02 : ¬ w.heap.size + 1 + 1 = W.heap.size := by omega
  have nW02' : ¬ W.heap.size = w.heap.size + 1 + 1 := by omega
  have nW40 : ¬ w.heap.size = W.heap.size + 1 := by omega
  have nW40' : ¬ W.heap.size + 1 = w.heap.size := by omega
  have nW41 : ¬ w.heap.size + 1 = W.heap.size + 1 := by omega
  have nW41' : ¬ W.heap.size + 1 = w.heap.size + 1 := by omega
  have nW42 : ¬ w.heap.size + 1 + 1 = W.heap.size + 1 := by omega
  have nW42' : ¬ W.heap.size + 1 = w.heap.size + 1 + 1 := by omega
  replace hv := hv.more (show 28500000000 ≤ 60000000000 by omega)
  replace hu := hu.more (show 28500000000 ≤ 60000000000 by omega)
  go_region_held3 (fun w' => w'.cell? ⟨w.heap.size, 0, none⟩ = some (.bool v.s) ∧ w'.cell? ⟨w.heap.size, 1, none⟩ = some (.slice v.A v.n v.c) ∧ w'.cell? ⟨w.heap.size, 2, none⟩ = some (.slice v.B v.m v.d) ∧ w'.cell? ⟨w.heap.size + 1, 0, none⟩ = some (.bool u.s) ∧ w'.cell? ⟨w.heap.size + 1, 1, none⟩ = some (.slice u.A u.n u.c) ∧ w'.cell? ⟨w.heap.size + 1, 2, none⟩ = some (.slice u.B u.m u.d)) (go_keep)
    (first
    | (
      go_at_call_of 54 v
      refine (rNorm_c v r _ ?_).mono ?_
      ·
       first
       | exact hv.drew
       | exact (hv.alloc _).drew
       | exact ((hv.alloc _).alloc _).drew
      rintro e w1 ⟨x, rfl, hx, hb⟩
      replace hb := Below.undrew hb
      have hbW : Below W.heap.size W w1 := by
       first
       | exact hb
       | exact ((Below.refl _ _).alloc (Nat.le_refl _) _).trans (hb.mono (by simp))
       | exact (((Below.refl _ _).alloc (Nat.le_refl _) _).alloc (by simp) _).trans (hb.mono (by simp; omega))
      first
      | (
       have p2 : C3 w1 (W.heap.size + 1) (.bool false) (.slice none 0 0) (.slice none 0 0) := by
        have := (C3.new (W.alloc (.cells #[.bool false, .slice none 0 0, .slice none 0 0] 26)) (.bool false) (.slice none 0 0) (.slice none 0 0)).below hb
        simpa using this
       have p1 := ((C3.new W (.bool false) (.slice none 0 0) (.slice none 0 0)).alloc (.cells #[.bool false, .slice none 0 0, .slice none 0 0] 26)).below hb
       have lt2 := p2.lt)
      | have p1 := (C3.new W (.bool false) (.slice none 0 0) (.slice none 0 0)).below hb
      | skip
      try have lt1 := p1.lt
      replace HB := HB.trans (hbW.mono HB.size)
      replace k_v := k_v.below hbW
      replace k_u := k_u.below hbW
      replace k_z := k_z.below hbW
      replace hu := hu.below hbW
      have hs1 := hbW.size
      replace hx := hx.lower (lo' := w.heap.size + 2) (by first | (simp; omega) | omega)
      clear hb hbW v_0 v_1 v_2 v_3 v_4 v_5 u_0 u_1 u_2 u_3 u_4 u_5
      obtain ⟨v_0, v_1, v_2, v_3, v_4, v_5⟩ := k_v.facts
      obtain ⟨u_0, u_1, u_2, u_3, u_4, u_5⟩ := k_u.facts
      try obtain ⟨p_0, p_1, p_2, p_3, p_4, p_5⟩ := p1.facts
      try obtain ⟨q_0, q_1, q_2, q_3, q_4, q_5⟩ := p2.facts
      have nw100 : ¬ w.heap.size = w1.heap.size := by omega
      have nw100' : ¬ w1.heap.size = w.heap.size := by omega
      have nw101 : ¬ w.heap.size + 1 = w1.heap.size := by omega
      have nw101' : ¬ w1.heap.size = w.heap.size + 1 := by omega
      have nw102 : ¬ w.heap.size + 1 + 1 = w1.heap.size := by omega
      have nw102' : ¬ w1.heap.size = w.heap.size + 1 + 1 := by omega
      have nw140 : ¬ w.heap.size = w1.heap.size + 1 := by omega
      have nw140' : ¬ w1.heap.size + 1 = w.heap.size := by omega
      have nw141 : ¬ w.heap.size + 1 = w1.heap.size + 1 := by omega
      have nw141' : ¬ w1.heap.size + 1 = w.heap.size + 1 := by omega
      have nw142 : ¬ w.heap.size + 1 + 1 = w1.heap.size + 1 := by omega
      have nw142' : ¬ w1.heap.size + 1 = w.heap.size + 1 + 1 := by omega)
    | (
      go_at_call_of 54 u
      refine (rNorm_c u s _ ?_).mono ?_
      ·
       first
       | exact hu
       | exact hu.alloc _
       | exact (hu.alloc _).alloc _
      rintro e w2 ⟨y, rfl, hy, hb⟩
      have hbW : Below w1.heap.size w1 w2 := by
       first
       | exact hb
       | exact ((Below.refl _ _).alloc (Nat.le_refl _) _).trans (hb.mono (by simp))
       | exact (((Below.refl _ _).alloc (Nat.le_refl _) _).alloc (by simp) _).trans (hb.mono (by simp; omega))
      first
      | (
       have p2 : C3 w2 (w1.heap.size + 1) (.bool false) (.slice none 0 0) (.slice none 0 0) := by
        have := (C3.new (w1.alloc (.cells #[.bool false, .slice none 0 0, .slice none 0 0] 26)) (.bool false) (.slice none 0 0) (.slice none 0 0)).below hb
        simpa using this
       have p1 := ((C3.new w1 (.bool false) (.slice none 0 0) (.slice none 0 0)).alloc (.cells #[.bool false, .slice none 0 0, .slice none 0 0] 26)).below hb
       have lt1 := p1.lt)
      | (
       replace p1 := p1.below hbW
       have p2 := (C3.new w1 (.bool false) (.slice none 0 0) (.slice none 0 0)).below hb)
      | (
       replace p1 := p1.below hbW
       replace p2 := p2.below hbW)
      | replace p1 := p1.below hbW
      | have p1 := (C3.new w1 (.bool false) (.slice none 0 0) (.slice none 0 0)).below hb
      | skip
      try have lt1 := p1.lt
      try have lt2 := p2.lt
      replace HB := HB.trans (hbW.mono HB.size)
      replace k_v := k_v.below hbW
      replace k_u := k_u.below hbW
      replace k_z := k_z.below hbW
      replace hx := hx.below hbW
      have hs2 := hbW.size
      replace hy := hy.lower (lo' := w.heap.size + 2) (by first | (simp; omega) | omega)
      clear hb hbW v_0 v_1 v_2 v_3 v_4 v_5 u_0 u_1 u_2 u_3 u_4 u_5
      obtain ⟨v_0, v_1, v_2, v_3, v_4, v_5⟩ := k_v.facts
      obtain ⟨u_0, u_1, u_2, u_3, u_4, u_5⟩ := k_u.facts
      try clear p_0 p_1 p_2 p_3 p_4 p_5
      try clear q_0 q_1 q_2 q_3 q_4 q_5
      try obtain ⟨p_0, p_1, p_2, p_3, p_4, p_5⟩ := p1.facts
      try obtain ⟨q_0, q_1, q_2, q_3, q_4, q_5⟩ := p2.facts
      have nw200 : ¬ w.heap.size = w2.heap.size := by omega
      have nw200' : ¬ w2.heap.size = w.heap.size := by omega
      have nw201 : ¬ w.heap.size + 1 = w2.heap.size := by omega
      have nw201' : ¬ w2.heap.size = w.heap.size + 1 := by omega
      have nw202 : ¬ w.heap.size + 1 + 1 = w2.heap.size := by omega
      have nw202' : ¬ w2.heap.size = w.heap.size + 1 + 1 := by omega
      have nw240 : ¬ w.heap.size = w2.heap.size + 1 := by omega
      have nw240' : ¬ w2.heap.size + 1 = w.heap.size := by omega
      have nw241 : ¬ w.heap.size + 1 = w2.heap.size + 1 := by omega
      have nw241' : ¬ w2.heap.size + 1 = w.heap.size + 1 := by omega
      have nw242 : ¬ w.heap.size + 1 + 1 = w2.heap.size + 1 := by omega
      have nw242' : ¬ w2.heap.size + 1 = w.heap.size + 1 + 1 := by omega))
  all_goals (
   go_wp2_with fail
   go_meet
   have ltz := k_z.lt
   refine ⟨_, _, x, y, rfl, rfl, Lib.hid ⟨?_, ?_, ?_⟩⟩
   rotate_left
   · omega
   · omega
   first
   | (with_reducible refine pair_new hx hy k_z HB)
   | (with_reducible refine pair_swap hx hy k_z HB)
   | ((with_reducible refine pair_put p1 ?_ ?_ hx hy k_z HB) <;> omega)
   | ((with_reducible refine pair_put' p1 ?_ ?_ hx hy k_z HB) <;> omega)
   | ((with_reducible refine pair_both p1 p2 ?_ ?_ ?_ ?_ ?_ hx hy k_z HB) <;> omega)
   | ((with_reducible refine pair_both p2 p1 ?_ ?_ ?_ ?_ ?_ hx hy k_z HB) <;> omega))
 case rest =>
  obtain ⟨bx, bY, x, y, rfl, rfl, HC⟩ := hcut
  obtain ⟨⟨k_x, k_y, hx, hy, k_z, HB⟩, nex, ney⟩ := HC.out
  have nex' := Ne.symm nex
  have ney' := Ne.symm ney
  clear HC hv hu k_v k_u
  have hxn := hx.num.lower (Nat.zero_le _)
  have hxd := hx.den.lower (Nat.zero_le _)
  have hyn := hy.num.lower (Nat.zero_le _)
  have hyd := hy.den.lower (Nat.zero_le _)
  have cxn := hx.numCap
  have cxd := hx.denCap
  have cyn := hy.numCap
  have cyd := hy.denCap
  have lxn : x.n ≤ 28500000000 := by rw [hx.numLen]; exact z_r.num.len
  have lxd : x.m ≤ 28500000000 := by rw [hx.denLen]; exact z_r.den.len
  have lyn : y.n ≤ 28500000000 := by rw [hy.numLen]; exact z_s.num.len
  have lyd : y.m ≤ 28500000000 := by rw [hy.denLen]; exact z_s.den.len
  have sgx : x.s = decide (r.num < 0) := hx.sign
  have sgy : y.s = decide (s.num < 0) := hy.sign
  have hse : (x.s == y.s) = false := by rw [sgx, sgy, hss.out]; cases decide (r.num < 0) <;> rfl
  have hval : rn x.s (r.num.natAbs * s.den - s.num.natAbs * r.den) (r.den * s.den) = r + s := by
   rw [sgx, ← rn_sub hss.out r.den_nz s.den_nz hle.out, rn_self, rn_self]
  obtain ⟨k, hk, hk0⟩ : ∃ k : Int, cmpI (r.num.natAbs * s.den) (s.num.natAbs * r.den) = k ∧ 0 ≤ k := by
   refine ⟨_, rfl, ?_⟩
   have hq := hle.out
   rcases Nat.lt_or_ge (s.num.natAbs * r.den) (r.num.natAbs * s.den) with h | h
   · rw [cmpI_gt h]; decide
   · rw [cmpI_eq (Nat.le_antisymm h hq)]; decide
  have HK := Lib.hid hk
  clear sgx sgy hk
  have hl1 : (lim (r.num.natAbs * s.den)).length ≤ 57000000000 := (z_r.num.mul z_s.den).len
  have hl2 : (lim (s.num.natAbs * r.den)).length ≤ 57000000000 := (z_s.num.mul z_r.den).len
  have hl3 : (lim (r.den * s.den)).length ≤ 57000000000 := (z_r.den.mul z_s.den).len
  clear hx hy
  go_wp2_with fail
  obtain ⟨x_0, x_1, x_2, x_3, x_4, x_5⟩ := k_x.facts
  obtain ⟨y_0, y_1, y_2, y_3, y_4, y_5⟩ := k_y.facts
  obtain ⟨z_0, z_1, z_2, z_3, z_4, z_5⟩ := k_z.facts
  replace k_x := k_x.drew
  replace k_y := k_y.drew
  replace k_z := k_z.drew
  replace hxn := hxn.drew
  replace hxd := hxd.drew
  replace hyn := hyn.drew
  replace hyd := hyd.drew
  replace HB := HB.drew
  go_region_held3 (fun w' => w'.cell? ⟨bx, 0, none⟩ = some (.bool x.s) ∧ w'.cell? ⟨bx, 1, none⟩ = some (.slice x.A x.n x.c) ∧ w'.cell? ⟨bx, 2, none⟩ = some (.slice x.B x.m x.d) ∧ w'.cell? ⟨bY, 0, none⟩ = some (.bool y.s) ∧ w'.cell? ⟨bY, 1, none⟩ = some (.slice y.A y.n y.c) ∧ w'.cell? ⟨bY, 2, none⟩ = some (.slice y.B y.m y.d)) (go_keep)
    (first
    | (
      go_at_call_of 61 x.A
      refine (rMul_v r.num.natAbs s.den x.A y.B x.n y.m x.c y.d _ _ _ (val_lim _) (val_lim _) (by omega) (by omega) hxn hyd).mono ?_
      rintro e w1 ⟨X1, cx1, rfl, ho1, hb⟩
      replace HB := HB.trans (hb.mono HB.size)
      replace k_x := k_x.below hb
      replace k_y := k_y.below hb
      replace k_z := k_z.below hb
      replace hxn := hxn.below hb
      replace hxd := hxd.below hb
      replace hyn := hyn.below hb
      replace hyd := hyd.below hb
      have hr1 := ho1.row.lower (Nat.zero_le _)
      have hc1 := ho1.capLe
      clear hb x_0 x_1 x_2 x_3 x_4 x_5 y_0 y_1 y_2 y_3 y_4 y_5 z_0 z_1 z_2 z_3 z_4 z_5
      obtain ⟨x_0, x_1, x_2, x_3, x_4, x_5⟩ := k_x.facts
      obtain ⟨y_0, y_1, y_2, y_3, y_4, y_5⟩ := k_y.facts
      obtain ⟨z_0, z_1, z_2, z_3, z_4, z_5⟩ := k_z.facts)
    | (
      go_at_call_of 61 y.A
      refine (rMul_v s.num.natAbs r.den y.A x.B y.n x.m y.c x.d _ _ _ (val_lim _) (val_lim _) (by omega) (by omega) hyn hxd).mono ?_
      rintro e w2 ⟨X2, cx2, rfl, ho2, hb⟩
      replace HB := HB.trans (hb.mono HB.size)
      replace k_x := k_x.below hb
      replace k_y := k_y.below hb
      replace k_z := k_z.below hb
      replace hxn := hxn.below hb
      replace hxd := hxd.below hb
      replace hyn := hyn.below hb
      replace hyd := hyd.below hb
      replace hr1 := hr1.below hb
      have hr2 := ho2.row.lower (Nat.zero_le _)
      have hc2 := ho2.capLe
      clear hb x_0 x_1 x_2 x_3 x_4 x_5 y_0 y_1 y_2 y_3 y_4 y_5 z_0 z_1 z_2 z_3 z_4 z_5
      obtain ⟨x_0, x_1, x_2, x_3, x_4, x_5⟩ := k_x.facts
      obtain ⟨y_0, y_1, y_2, y_3, y_4, y_5⟩ := k_y.facts
      obtain ⟨z_0, z_1, z_2, z_3, z_4, z_5⟩ := k_z.facts))
  go_wp2_with fail
  refine (rMul_v r.den s.den x.B y.B x.m y.m x.d y.d _ _ _ (val_lim _) (val_lim _) (by omega) (by omega) hxd hyd).mono ?_
  rintro e w3 ⟨X3, cx3, rfl, ho3, hb⟩
  replace HB := HB.trans (hb.mono HB.size)
  replace k_x := k_x.below hb
  replace k_y := k_y.below hb
  replace k_z := k_z.below hb
  replace hr1 := hr1.below hb
  replace hr2 := hr2.below hb
  have hr3 := ho3.row.lower (Nat.zero_le _)
  have hc3 := ho3.capLe
  clear hb ho1 ho2 ho3 hxn hxd hyn hyd x_0 x_1 x_2 x_3 x_4 x_5 y_0 y_1 y_2 y_3 y_4 y_5 z_0 z_1 z_2 z_3 z_4 z_5
  obtain ⟨x_0, x_1, x_2, x_3, x_4, x_5⟩ := k_x.facts
  obtain ⟨y_0, y_1, y_2, y_3, y_4, y_5⟩ := k_y.facts
  obtain ⟨z_0, z_1, z_2, z_3, z_4, z_5⟩ := k_z.facts
  go_wp2_with fail
  refine (rCmp_v (r.num.natAbs * s.den) (s.num.natAbs * r.den) k X1 X2 _ _ cx1 cx2 _ _ _ (val_lim _) (val_lim _) HK.out (by omega) (by omega) hc1 hc2 hr1 hr2).mono ?_
  rintro e w4 ⟨rfl, hb⟩
  replace HB := HB.trans (hb.mono HB.size)
  replace k_x := k_x.below hb
  replace k_y := k_y.below hb
  replace k_z := k_z.below hb
  replace hr1 := hr1.below hb
  replace hr2 := hr2.below hb
  replace hr3 := hr3.below hb
  clear hb x_0 x_1 x_2 x_3 x_4 x_5 y_0 y_1 y_2 y_3 y_4 y_5 z_0 z_1 z_2 z_3 z_4 z_5
  obtain ⟨x_0, x_1, x_2, x_3, x_4, x_5⟩ := k_x.facts
  obtain ⟨y_0, y_1, y_2, y_3, y_4, y_5⟩ := k_y.facts
  obtain ⟨z_0, z_1, z_2, z_3, z_4, z_5⟩ := k_z.facts
  go_wp2_with fail
  refine (rSub_v (r.num.natAbs * s.den) (s.num.natAbs * r.den) X1 X2 _ _ cx1 cx2 _ _ _ (val_lim _) (val_lim _) (by omega) (by omega) hc1 hc2 hr1 hr2 hle.out).mono ?_
  rintro e w5 ⟨X4, cx4, rfl, ho4, hb⟩
  replace HB := HB.trans (hb.mono HB.size)
  replace k_x := k_x.below hb
  replace k_y := k_y.below hb
  replace k_z := k_z.below hb
  replace hr3 := hr3.below hb
  have hr4 := ho4.row.lower (Nat.zero_le _)
  have hc4 := ho4.capLe
  have ltz := k_z.lt
  have hlS : (lim (r.num.natAbs * s.den - s.num.natAbs * r.den)).length ≤ 57000000000 := ((z_r.num.mul z_s.den).le (Nat.sub_le _ _)).len
  clear hb x_0 x_1 x_2 x_3 x_4 x_5 y_0 y_1 y_2 y_3 y_4 y_5 z_0 z_1 z_2 z_3 z_4 z_5
  obtain ⟨x_0, x_1, x_2, x_3, x_4, x_5⟩ := k_x.facts
  obtain ⟨y_0, y_1, y_2, y_3, y_4, y_5⟩ := k_y.facts
  obtain ⟨z_0, z_1, z_2, z_3, z_4, z_5⟩ := k_z.facts
  go_wp2_with fail
  refine (rOf_n x.s X4 X3 _ _ cx4 cx3 (r.num.natAbs * s.den - s.num.natAbs * r.den) (r.den * s.den) _ _ (r + s) _ (val_lim _) (val_lim _) (by omega) (by omega) hc4 hc3 hr4 hr3 hval).mono ?_
  rintro e w6 ⟨z, rfl, hz, hb⟩
  replace HB := HB.trans (hb.mono HB.size)
  replace k_x := k_x.below hb
  replace k_y := k_y.below hb
  replace k_z := k_z.below hb
  clear hb x_0 x_1 x_2 x_3 x_4 x_5 y_0 y_1 y_2 y_3 y_4 y_5 z_0 z_1 z_2 z_3 z_4 z_5
  obtain ⟨x_0, x_1, x_2, x_3, x_4, x_5⟩ := k_x.facts
  obtain ⟨y_0, y_1, y_2, y_3, y_4, y_5⟩ := k_y.facts
  obtain ⟨z_0, z_1, z_2, z_3, z_4, z_5⟩ := k_z.facts
  go_wp2
  refine ret3 (fn := Tryz.f30) Tryz.results30 rfl rfl k_z ?_
  exact ⟨z, rfl, (hz.put (by omega) _ _ _).lower (by omega), HB.trans (put3_below (by omega) _ _ _)⟩
set_option maxHeartbeats 8000000 in
theorem rAdd_more (v u : Rv) (r s : Rat) (w : World) (hv : Rw w v r 28500000000) (hu : Rw w u s 28500000000) (hss : Hid (decide (s.num < 0) = !decide (r.num < 0))) (hle : Hid (r.num.natAbs * s.den < s.num.natAbs * r.den)) :
  Calls Tryz.prog 30 #[.agg #[.bool v.s, .slice v.A v.n v.c, .slice v.B v.m v.d], .agg #[.bool u.s, .slice u.A u.n u.c, .slice u.B u.m u.d]] w fun e w' => ∃ z : Rv, e = .returned (.agg #[.bool z.s, .slice z.A z.n z.c, .slice z.B z.m z.d]) ∧ Rt w' w.heap.size z (r + s) ∧ Below w.heap.size w w' := by
 have z_r : Sz r 28500000000 := hv.sz (by omega)
 have z_s : Sz s 28500000000 := hu.sz (by omega)
 go_enter Tryz.func30, Tryz.ntmps30
 go_wp2_with fail
 generalize hW : (((w.alloc (.cells #[.bool v.s, .slice v.A v.n v.c, .slice v.B v.m v.d] 26)).alloc (.cells #[.bool u.s, .slice u.A u.n u.c, .slice u.B u.m u.d] 26)).alloc (.cells #[.bool false, .slice none 0 0, .slice none 0 0] 26)) = W
 obtain ⟨k_v, k_u, k_z, HB, hsW⟩ := open2z w v u W hW
 clear hW
 replace hv := hv.below HB
 replace hu := hu.below HB
 have hlw : W.heap.size ≥ w.heap.size + 3 := by omega
 clear hsW
 go_cut [5, 6] from 5 to 17 (fun vx vy wx => ∃ (bx bY : Nat) (x y : Rv), vx = .pointer (some ⟨bx, 0, none⟩) ∧ vy = .pointer (some ⟨bY, 0, none⟩) ∧ Hid (PairAt w wx (w.heap.size + 1 + 1) (.bool false) (.slice none 0 0) (.slice none 0 0) bx bY x y r s ∧ bx ≠ w.heap.size + 1 + 1 ∧ bY ≠ w.heap.size + 1 + 1))
 case first =>
  obtain ⟨v_0, v_1, v_2, v_3, v_4, v_5⟩ := k_v.facts
  obtain ⟨u_0, u_1, u_2, u_3, u_4, u_5⟩ := k_u.facts
  have nW00 : ¬ w.heap.size = W.heap.size := by omega
  have nW00' : ¬ W.heap.size = w.heap.size := by omega
  have nW01 : ¬ w.heap.size + 1 = W.heap.size := by omega
  have nW01' : ¬ W.heap.size = w.heap.size + 1 := by omega
  have nW02 : ¬ w.heap.size + 1 + 1 = W.heap.size := by omega
  have nW02' : ¬ W.heap.size = w.heap.size + 1 + 1 := by omega
  have nW40 : ¬ w.heap.size = W.heap.size + 1 := by omega
  have nW40' : ¬ W.heap.size + 1 = w.heap.size := by omega
  have nW41 : ¬ w.heap.size + 1 = W.heap.size + 1 := by omega
  have nW41' : ¬ W.heap.size + 1 = w.heap.size + 1 := by omega
  have nW42 : ¬ w.heap.size + 1 + 1 = W.heap.size + 1 := by omega
  have nW42' : ¬ W.heap.size + 1 = w.heap.size + 1 + 1 := by omega
  replace hv := hv.more (show 28500000000 ≤ 60000000000 by omega)
  replace hu := hu.more (show 28500000000 ≤ 60000000000 by omega)
  go_region_held3 (fun w' => w'.cell? ⟨w.heap.size, 0, none⟩ = some (.bool v.s) ∧ w'.cell? ⟨w.heap.size, 1, none⟩ = some (.slice v.A v.n v.c) ∧ w'.cell? ⟨w.heap.size, 2, none⟩ = some (.slice v.B v.m v.d) ∧ w'.cell? ⟨w.heap.size + 1, 0, none⟩ = some (.bool u.s) ∧ w'.cell? ⟨w.heap.size + 1, 1, none⟩ = some (.slice u.A u.n u.c) ∧ w'.cell? ⟨w.heap.size + 1, 2, none⟩ = some (.slice u.B u.m u.d)) (go_keep)
    (first
    | (
      go_at_call_of 54 v
      refine (rNorm_c v r _ ?_).mono ?_
      ·
       first
       | exact hv.drew
       | exact (hv.alloc _).drew
       | exact ((hv.alloc _).alloc _).drew
      rintro e w1 ⟨x, rfl, hx, hb⟩
      replace hb := Below.undrew hb
      have hbW : Below W.heap.size W w1 := by
       first
       | exact hb
       | exact ((Below.refl _ _).alloc (Nat.le_refl _) _).trans (hb.mono (by simp))
       | exact (((Below.refl _ _).alloc (Nat.le_refl _) _).alloc (by simp) _).trans (hb.mono (by simp; omega))
      first
      | (
       have p2 : C3 w1 (W.heap.size + 1) (.bool false) (.slice none 0 0) (.slice none 0 0) := by
        have := (C3.new (W.alloc (.cells #[.bool false, .slice none 0 0, .slice none 0 0] 26)) (.bool false) (.slice none 0 0) (.slice none 0 0)).below hb
        simpa using this
       have p1 := ((C3.new W (.bool false) (.slice none 0 0) (.slice none 0 0)).alloc (.cells #[.bool false, .slice none 0 0, .slice none 0 0] 26)).below hb
       have lt2 := p2.lt)
      | have p1 := (C3.new W (.bool false) (.slice none 0 0) (.slice none 0 0)).below hb
      | skip
      try have lt1 := p1.lt
      replace HB := HB.trans (hbW.mono HB.size)
      replace k_v := k_v.below hbW
      replace k_u := k_u.below hbW
      replace k_z := k_z.below hbW
      replace hu := hu.below hbW
      have hs1 := hbW.size
      replace hx := hx.lower (lo' := w.heap.size + 2) (by first | (simp; omega) | omega)
      clear hb hbW v_0 v_1 v_2 v_3 v_4 v_5 u_0 u_1 u_2 u_3 u_4 u_5
      obtain ⟨v_0, v_1, v_2, v_3, v_4, v_5⟩ := k_v.facts
      obtain ⟨u_0, u_1, u_2, u_3, u_4, u_5⟩ := k_u.facts
      try obtain ⟨p_0, p_1, p_2, p_3, p_4, p_5⟩ := p1.facts
      try obtain ⟨q_0, q_1, q_2, q_3, q_4, q_5⟩ := p2.facts
      have nw100 : ¬ w.heap.size = w1.heap.size := by omega
      have nw100' : ¬ w1.heap.size = w.heap.size := by omega
      have nw101 : ¬ w.heap.size + 1 = w1.heap.size := by omega
      have nw101' : ¬ w1.heap.size = w.heap.size + 1 := by omega
      have nw102 : ¬ w.heap.size + 1 + 1 = w1.heap.size := by omega
      have nw102' : ¬ w1.heap.size = w.heap.size + 1 + 1 := by omega
      have nw140 : ¬ w.heap.size = w1.heap.size + 1 := by omega
      have nw140' : ¬ w1.heap.size + 1 = w.heap.size := by omega
      have nw141 : ¬ w.heap.size + 1 = w1.heap.size + 1 := by omega
      have nw141' : ¬ w1.heap.size + 1 = w.heap.size + 1 := by omega
      have nw142 : ¬ w.heap.size + 1 + 1 = w1.heap.size + 1 := by omega
      have nw142' : ¬ w1.heap.size + 1 = w.heap.size + 1 + 1 := by omega)
    | (
      go_at_call_of 54 u
      refine (rNorm_c u s _ ?_).mono ?_
      ·
       first
       | exact hu
       | exact hu.alloc _
       | exact (hu.alloc _).alloc _
      rintro e w2 ⟨y, rfl, hy, hb⟩
      have hbW : Below w1.heap.size w1 w2 := by
       first
       | exact hb
       | exact ((Below.refl _ _).alloc (Nat.le_refl _) _).trans (hb.mono (by simp))
       | exact (((Below.refl _ _).alloc (Nat.le_refl _) _).alloc (by simp) _).trans (hb.mono (by simp; omega))
      first
      | (
       have p2 : C3 w2 (w1.heap.size + 1) (.bool false) (.slice none 0 0) (.slice none 0 0) := by
        have := (C3.new (w1.alloc (.cells #[.bool false, .slice none 0 0, .slice none 0 0] 26)) (.bool false) (.slice none 0 0) (.slice none 0 0)).below hb
        simpa using this
       have p1 := ((C3.new w1 (.bool false) (.slice none 0 0) (.slice none 0 0)).alloc (.cells #[.bool false, .slice none 0 0, .slice none 0 0] 26)).below hb
       have lt1 := p1.lt)
      | (
       replace p1 := p1.below hbW
       have p2 := (C3.new w1 (.bool false) (.slice none 0 0) (.slice none 0 0)).below hb)
      | (
       replace p1 := p1.below hbW
       replace p2 := p2.below hbW)
      | replace p1 := p1.below hbW
      | have p1 := (C3.new w1 (.bool false) (.slice none 0 0) (.slice none 0 0)).below hb
      | skip
      try have lt1 := p1.lt
      try have lt2 := p2.lt
      replace HB := HB.trans (hbW.mono HB.size)
      replace k_v := k_v.below hbW
      replace k_u := k_u.below hbW
      replace k_z := k_z.below hbW
      replace hx := hx.below hbW
      have hs2 := hbW.size
      replace hy := hy.lower (lo' := w.heap.size + 2) (by first | (simp; omega) | omega)
      clear hb hbW v_0 v_1 v_2 v_3 v_4 v_5 u_0 u_1 u_2 u_3 u_4 u_5
      obtain ⟨v_0, v_1, v_2, v_3, v_4, v_5⟩ := k_v.facts
      obtain ⟨u_0, u_1, u_2, u_3, u_4, u_5⟩ := k_u.facts
      try clear p_0 p_1 p_2 p_3 p_4 p_5
      try clear q_0 q_1 q_2 q_3 q_4 q_5
      try obtain ⟨p_0, p_1, p_2, p_3, p_4, p_5⟩ := p1.facts
      try obtain ⟨q_0, q_1, q_2, q_3, q_4, q_5⟩ := p2.facts
      have nw200 : ¬ w.heap.size = w2.heap.size := by omega
      have nw200' : ¬ w2.heap.size = w.heap.size := by omega
      have nw201 : ¬ w.heap.size + 1 = w2.heap.size := by omega
      have nw201' : ¬ w2.heap.size = w.heap.size + 1 := by omega
      have nw202 : ¬ w.heap.size + 1 + 1 = w2.heap.size := by omega
      have nw202' : ¬ w2.heap.size = w.heap.size + 1 + 1 := by omega
      have nw240 : ¬ w.heap.size = w2.heap.size + 1 := by omega
      have nw240' : ¬ w2.heap.size + 1 = w.heap.size := by omega
      have nw241 : ¬ w.heap.size + 1 = w2.heap.size + 1 := by omega
      have nw241' : ¬ w2.heap.size + 1 = w.heap.size + 1 := by omega
      have nw242 : ¬ w.heap.size + 1 + 1 = w2.heap.size + 1 := by omega
      have nw242' : ¬ w2.heap.size + 1 = w.heap.size + 1 + 1 := by omega))
  all_goals (
   go_wp2_with fail
   go_meet
   have ltz := k_z.lt
   refine ⟨_, _, x, y, rfl, rfl, Lib.hid ⟨?_, ?_, ?_⟩⟩
   rotate_left
   · omega
   · omega
   first
   | (with_reducible refine pair_new hx hy k_z HB)
   | (with_reducible refine pair_swap hx hy k_z HB)
   | ((with_reducible refine pair_put p1 ?_ ?_ hx hy k_z HB) <;> omega)
   | ((with_reducible refine pair_put' p1 ?_ ?_ hx hy k_z HB) <;> omega)
   | ((with_reducible refine pair_both p1 p2 ?_ ?_ ?_ ?_ ?_ hx hy k_z HB) <;> omega)
   | ((with_reducible refine pair_both p2 p1 ?_ ?_ ?_ ?_ ?_ hx hy k_z HB) <;> omega))
 case rest =>
  obtain ⟨bx, bY, x, y, rfl, rfl, HC⟩ := hcut
  obtain ⟨⟨k_x, k_y, hx, hy, k_z, HB⟩, nex, ney⟩ := HC.out
  have nex' := Ne.symm nex
  have ney' := Ne.symm ney
  clear HC hv hu k_v k_u
  have hxn := hx.num.lower (Nat.zero_le _)
  have hxd := hx.den.lower (Nat.zero_le _)
  have hyn := hy.num.lower (Nat.zero_le _)
  have hyd := hy.den.lower (Nat.zero_le _)
  have cxn := hx.numCap
  have cxd := hx.denCap
  have cyn := hy.numCap
  have cyd := hy.denCap
  have lxn : x.n ≤ 28500000000 := by rw [hx.numLen]; exact z_r.num.len
  have lxd : x.m ≤ 28500000000 := by rw [hx.denLen]; exact z_r.den.len
  have lyn : y.n ≤ 28500000000 := by rw [hy.numLen]; exact z_s.num.len
  have lyd : y.m ≤ 28500000000 := by rw [hy.denLen]; exact z_s.den.len
  have sgx : x.s = decide (r.num < 0) := hx.sign
  have sgy : y.s = decide (s.num < 0) := hy.sign
  have hse : (x.s == y.s) = false := by rw [sgx, sgy, hss.out]; cases decide (r.num < 0) <;> rfl
  have hval : rn y.s (s.num.natAbs * r.den - r.num.natAbs * s.den) (r.den * s.den) = r + s := by
   rw [sgy, ← rn_sub' hss.out r.den_nz s.den_nz (Nat.le_of_lt hle.out), rn_self, rn_self]
  obtain ⟨k, hk, hk0⟩ : ∃ k : Int, cmpI (r.num.natAbs * s.den) (s.num.natAbs * r.den) = k ∧ k < 0 := by
   refine ⟨_, rfl, ?_⟩
   have hq := hle.out
   rw [cmpI_lt hq]; decide
  have HK := Lib.hid hk
  clear sgx sgy hk
  have hl1 : (lim (r.num.natAbs * s.den)).length ≤ 57000000000 := (z_r.num.mul z_s.den).len
  have hl2 : (lim (s.num.natAbs * r.den)).length ≤ 57000000000 := (z_s.num.mul z_r.den).len
  have hl3 : (lim (r.den * s.den)).length ≤ 57000000000 := (z_r.den.mul z_s.den).len
  clear hx hy
  go_wp2_with fail
  obtain ⟨x_0, x_1, x_2, x_3, x_4, x_5⟩ := k_x.facts
  obtain ⟨y_0, y_1, y_2, y_3, y_4, y_5⟩ := k_y.facts
  obtain ⟨z_0, z_1, z_2, z_3, z_4, z_5⟩ := k_z.facts
  replace k_x := k_x.drew
  replace k_y := k_y.drew
  replace k_z := k_z.drew
  replace hxn := hxn.drew
  replace hxd := hxd.drew
  replace hyn := hyn.drew
  replace hyd := hyd.drew
  replace HB := HB.drew
  go_region_held3 (fun w' => w'.cell? ⟨bx, 0, none⟩ = some (.bool x.s) ∧ w'.cell? ⟨bx, 1, none⟩ = some (.slice x.A x.n x.c) ∧ w'.cell? ⟨bx, 2, none⟩ = some (.slice x.B x.m x.d) ∧ w'.cell? ⟨bY, 0, none⟩ = some (.bool y.s) ∧ w'.cell? ⟨bY, 1, none⟩ = some (.slice y.A y.n y.c) ∧ w'.cell? ⟨bY, 2, none⟩ = some (.slice y.B y.m y.d)) (go_keep)
    (first
    | (
      go_at_call_of 61 x.A
      refine (rMul_v r.num.natAbs s.den x.A y.B x.n y.m x.c y.d _ _ _ (val_lim _) (val_lim _) (by omega) (by omega) hxn hyd).mono ?_
      rintro e w1 ⟨X1, cx1, rfl, ho1, hb⟩
      replace HB := HB.trans (hb.mono HB.size)
      replace k_x := k_x.below hb
      replace k_y := k_y.below hb
      replace k_z := k_z.below hb
      replace hxn := hxn.below hb
      replace hxd := hxd.below hb
      replace hyn := hyn.below hb
      replace hyd := hyd.below hb
      have hr1 := ho1.row.lower (Nat.zero_le _)
      have hc1 := ho1.capLe
      clear hb x_0 x_1 x_2 x_3 x_4 x_5 y_0 y_1 y_2 y_3 y_4 y_5 z_0 z_1 z_2 z_3 z_4 z_5
      obtain ⟨x_0, x_1, x_2, x_3, x_4, x_5⟩ := k_x.facts
      obtain ⟨y_0, y_1, y_2, y_3, y_4, y_5⟩ := k_y.facts
      obtain ⟨z_0, z_1, z_2, z_3, z_4, z_5⟩ := k_z.facts)
    | (
      go_at_call_of 61 y.A
      refine (rMul_v s.num.natAbs r.den y.A x.B y.n x.m y.c x.d _ _ _ (val_lim _) (val_lim _) (by omega) (by omega) hyn hxd).mono ?_
      rintro e w2 ⟨X2, cx2, rfl, ho2, hb⟩
      replace HB := HB.trans (hb.mono HB.size)
      replace k_x := k_x.below hb
      replace k_y := k_y.below hb
      replace k_z := k_z.below hb
      replace hxn := hxn.below hb
      replace hxd := hxd.below hb
      replace hyn := hyn.below hb
      replace hyd := hyd.below hb
      replace hr1 := hr1.below hb
      have hr2 := ho2.row.lower (Nat.zero_le _)
      have hc2 := ho2.capLe
      clear hb x_0 x_1 x_2 x_3 x_4 x_5 y_0 y_1 y_2 y_3 y_4 y_5 z_0 z_1 z_2 z_3 z_4 z_5
      obtain ⟨x_0, x_1, x_2, x_3, x_4, x_5⟩ := k_x.facts
      obtain ⟨y_0, y_1, y_2, y_3, y_4, y_5⟩ := k_y.facts
      obtain ⟨z_0, z_1, z_2, z_3, z_4, z_5⟩ := k_z.facts))
  go_wp2_with fail
  refine (rMul_v r.den s.den x.B y.B x.m y.m x.d y.d _ _ _ (val_lim _) (val_lim _) (by omega) (by omega) hxd hyd).mono ?_
  rintro e w3 ⟨X3, cx3, rfl, ho3, hb⟩
  replace HB := HB.trans (hb.mono HB.size)
  replace k_x := k_x.below hb
  replace k_y := k_y.below hb
  replace k_z := k_z.below hb
  replace hr1 := hr1.below hb
  replace hr2 := hr2.below hb
  have hr3 := ho3.row.lower (Nat.zero_le _)
  have hc3 := ho3.capLe
  clear hb ho1 ho2 ho3 hxn hxd hyn hyd x_0 x_1 x_2 x_3 x_4 x_5 y_0 y_1 y_2 y_3 y_4 y_5 z_0 z_1 z_2 z_3 z_4 z_5
  obtain ⟨x_0, x_1, x_2, x_3, x_4, x_5⟩ := k_x.facts
  obtain ⟨y_0, y_1, y_2, y_3, y_4, y_5⟩ := k_y.facts
  obtain ⟨z_0, z_1, z_2, z_3, z_4, z_5⟩ := k_z.facts
  go_wp2_with fail
  refine (rCmp_v (r.num.natAbs * s.den) (s.num.natAbs * r.den) k X1 X2 _ _ cx1 cx2 _ _ _ (val_lim _) (val_lim _) HK.out (by omega) (by omega) hc1 hc2 hr1 hr2).mono ?_
  rintro e w4 ⟨rfl, hb⟩
  replace HB := HB.trans (hb.mono HB.size)
  replace k_x := k_x.below hb
  replace k_y := k_y.below hb
  replace k_z := k_z.below hb
  replace hr1 := hr1.below hb
  replace hr2 := hr2.below hb
  replace hr3 := hr3.below hb
  clear hb x_0 x_1 x_2 x_3 x_4 x_5 y_0 y_1 y_2 y_3 y_4 y_5 z_0 z_1 z_2 z_3 z_4 z_5
  obtain ⟨x_0, x_1, x_2, x_3, x_4, x_5⟩ := k_x.facts
  obtain ⟨y_0, y_1, y_2, y_3, y_4, y_5⟩ := k_y.facts
  obtain ⟨z_0, z_1, z_2, z_3, z_4, z_5⟩ := k_z.facts
  go_wp2_with fail
  refine (rSub_v (s.num.natAbs * r.den) (r.num.natAbs * s.den) X2 X1 _ _ cx2 cx1 _ _ _ (val_lim _) (val_lim _) (by omega) (by omega) hc2 hc1 hr2 hr1 (Nat.le_of_lt hle.out)).mono ?_
  rintro e w5 ⟨X4, cx4, rfl, ho4, hb⟩
  replace HB := HB.trans (hb.mono HB.size)
  replace k_x := k_x.below hb
  replace k_y := k_y.below hb
  replace k_z := k_z.below hb
  replace hr3 := hr3.below hb
  have hr4 := ho4.row.lower (Nat.zero_le _)
  have hc4 := ho4.capLe
  have ltz := k_z.lt
  have hlS : (lim (s.num.natAbs * r.den - r.num.natAbs * s.den)).length ≤ 57000000000 := ((z_s.num.mul z_r.den).le (Nat.sub_le _ _)).len
  clear hb x_0 x_1 x_2 x_3 x_4 x_5 y_0 y_1 y_2 y_3 y_4 y_5 z_0 z_1 z_2 z_3 z_4 z_5
  obtain ⟨x_0, x_1, x_2, x_3, x_4, x_5⟩ := k_x.facts
  obtain ⟨y_0, y_1, y_2, y_3, y_4, y_5⟩ := k_y.facts
  obtain ⟨z_0, z_1, z_2, z_3, z_4, z_5⟩ := k_z.facts
  go_wp2_with fail
  refine (rOf_n y.s X4 X3 _ _ cx4 cx3 (s.num.natAbs * r.den - r.num.natAbs * s.den) (r.den * s.den) _ _ (r + s) _ (val_lim _) (val_lim _) (by omega) (by omega) hc4 hc3 hr4 hr3 hval).mono ?_
  rintro e w6 ⟨z, rfl, hz, hb⟩
  replace HB := HB.trans (hb.mono HB.size)
  replace k_x := k_x.below hb
  replace k_y := k_y.below hb
  replace k_z := k_z.below hb
  clear hb x_0 x_1 x_2 x_3 x_4 x_5 y_0 y_1 y_2 y_3 y_4 y_5 z_0 z_1 z_2 z_3 z_4 z_5
  obtain ⟨x_0, x_1, x_2, x_3, x_4, x_5⟩ := k_x.facts
  obtain ⟨y_0, y_1, y_2, y_3, y_4, y_5⟩ := k_y.facts
  obtain ⟨z_0, z_1, z_2, z_3, z_4, z_5⟩ := k_z.facts
  go_wp2
  refine ret3 (fn := Tryz.f30) Tryz.results30 rfl rfl k_z ?_
  exact ⟨z, rfl, (hz.put (by omega) _ _ _).lower (by omega), HB.trans (put3_below (by omega) _ _ _)⟩
theorem rAdd_c (v u : Rv) (r s : Rat) (w : World) (hv : Rw w v r 28500000000) (hu : Rw w u s 28500000000) :
  Calls Tryz.prog 30 #[.agg #[.bool v.s, .slice v.A v.n v.c, .slice v.B v.m v.d], .agg #[.bool u.s, .slice u.A u.n u.c, .slice u.B u.m u.d]] w fun e w' => ∃ z : Rv, e = .returned (.agg #[.bool z.s, .slice z.A z.n z.c, .slice z.B z.m z.d]) ∧ Rt w' w.heap.size z (r + s) ∧ Below w.heap.size w w' := by
 by_cases h : decide (r.num < 0) = decide (s.num < 0)
 · exact rAdd_same v u r s w hv hu h
 ·
  have h' : decide (s.num < 0) = !decide (r.num < 0) := by
   generalize decide (r.num < 0) = a at *
   generalize decide (s.num < 0) = b at *
   cases a <;> cases b <;> simp at h ⊢
  by_cases hle : s.num.natAbs * r.den ≤ r.num.natAbs * s.den
  · exact rAdd_less v u r s w hv hu h' hle
  · exact rAdd_more v u r s w hv hu h' (Nat.lt_of_not_le hle)
end Go.Proofs.YtgffkaconhonlaaGreat
