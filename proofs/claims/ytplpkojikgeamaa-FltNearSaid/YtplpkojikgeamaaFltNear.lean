/-
  FltNear: the walk of the law.
-/
import Derived.Test.YtplpkojikgeamaaFltNearN
namespace Go.Proofs.Ytplpkojikgeamaa
set_option maxRecDepth 20000
open Go.RowKit

theorem Rt.ab {w : World} {lo p : Nat} {v : Rv} {r : Rat} (h : Rt w lo v r) (hz : Sz r p) : Rw w ⟨false, v.A, v.n, v.c, v.B, v.m, v.d⟩ (Go.Proofs.Ytplpkojikgeamaa.ab r) p := by
  refine ⟨h.3, h.6, by rw [h.2]; exact hz.num.len, by rw [h.5]; exact hz.den.len, _, _, h.4.lower (Nat.zero_le _), h.7.lower (Nat.zero_le _), ?_⟩
  rw [val_lim, val_lim]; rfl
theorem near_neg {x : Rat} (h : sgn x ≠ -1) : ¬ sgn x < 0 := by
  unfold sgn at *
  split
  · decide
  · rename_i h0
    rw [if_neg h0] at h
    split
    · rename_i h1; rw [if_pos h1] at h; exact absurd rfl h
    · decide
theorem near_cells (w : World) (a b : Value) : w.heap.size < (w.alloc (.cells #[.bool false, a, b] 24)).heap.size := by simp
set_option maxRecDepth 100000 in
set_option maxHeartbeats 16000000 in
theorem FltNear_small (v : Rv) (r : Rat) (w : World) (hlen : v.n + v.m ≤ 16) (h_v : Rw w v r 16) :
    Calls Try.prog 5 #[.agg #[.bool v.s, .slice v.A v.n v.c, .slice v.B v.m v.d]] w fun e w' => e = .returned (.bool true) ∧ Below w.heap.size w w' := by
  have hb64 := fun b => bits64 b
  have hfb := fun n => frombits64 n
  have hz := h_v.sz (by omega)
  have hul := tof_lt hz (by omega)
  obtain ⟨s1, e1, m1, P1⟩ := parts_of hul
  have hu := Lib.hid P1
  have hsm := Lib.hid (fun (w : World) => small4_c _ s1 e1 m1 w P1)
  have hkd := Lib.hid (fun (w : World) => Kind_c _ s1 e1 m1 w P1)
  clear P1
  go_enter Try.func5, Try.ntmps5
  go_wp2_with fail
  generalize hW : (w.alloc (.cells #[.bool v.s, .slice v.A v.n v.c, .slice v.B v.m v.d] 24)).alloc (.cells #[.bool v.s, .slice v.A v.n v.c, .slice v.B v.m v.d] 24) = W
  obtain ⟨k_v, HB, hsW, hbig⟩ := open1b w v W hW
  clear hW
  refine (big4_any (pick v v v) (w.heap.size + 1) 1 _ (by omega) ?_ hbig).mono ?_
  · intro i hi
    have : i = 0 := by omega
    rcases this with rfl <;> simp only [pick] <;> omega
  rintro e w0 ⟨rfl, hb⟩
  rw [decide_eq_false (show ¬ 16 < tot (pick v v v) 1 by simp only [tot, pick]; omega)]
  replace HB := HB.trans (hb.mono (by omega))
  replace k_v := k_v.below hb
  clear hb hbig hsW
  replace h_v := h_v.below HB
  clear hlen
  obtain ⟨v_0, v_1, v_2, v_3, v_4, v_5⟩ := k_v.facts
  go_wp2_with fail
  refine (To_c v r _ (h_v.more (by omega))).mono ?_
  rintro e w1 ⟨rfl, hb⟩
  replace HB := HB.trans (hb.mono HB.size)
  replace k_v := k_v.below hb
  replace h_v := h_v.below hb
  clear hb v_0 v_1 v_2 v_3 v_4 v_5
  have hnear := Lib.hid hu.out
  obtain ⟨U, hU⟩ : ∃ U, Hid (tof r = U) := ⟨_, rfl⟩
  rw [hU.out] at hsm hkd hul ⊢
  go_wp2_with fail
  refine (hsm.out _).mono ?_
  rintro e w' ⟨rfl, rfl⟩
  cases hse : sm e1 with
  | false =>
    clear hse
    go_wp2_with fail
    refine (known4_any _).mono ?_
    rintro r w9 ⟨rfl, hb9⟩
    replace HB := HB.trans (hb9.mono HB.size)
    clear hb9
    go_wp2
    go_ret
    exact ⟨rfl, HB⟩
  | true =>
    clear hse
    go_wp2_with fail
    refine (hkd.out _).mono ?_
    rintro e w' ⟨rfl, rfl⟩
    by_cases he : e1 = 2047
    · have hk := kd_err (s := s1) (m := m1) he
      have hk3 : 2 < ((kd s1 e1 m1 : Nat) : Int) := by rw [hk]; split <;> (try split) <;> omega
      clear hk he hu hnear
      generalize ((kd s1 e1 m1 : Nat) : Int) = K at *
      go_wp2_with fail
      refine (known4_any _).mono ?_
      rintro r w9 ⟨rfl, hb9⟩
      replace HB := HB.trans (hb9.mono HB.size)
      clear hb9
      go_wp2
      go_ret
      exact ⟨rfl, HB⟩
    · have hk := kd_num (s := s1) (m := m1) he
      have hk3 : ¬ 2 < ((kd s1 e1 m1 : Nat) : Int) := by omega
      clear hk
      generalize ((kd s1 e1 m1 : Nat) : Int) = K at *
      have HF1 := Lib.hid (fun (w : World) => rFrom_num (tof r) s1 e1 m1 w hu.out he)
      rw [hU.out] at HF1
      have hsx := frq_sz (s := s1) (show e1 < 2047 by have := hu.out.exp; omega) hu.out.frac
      obtain ⟨F, hFe⟩ : ∃ F, Hid (frq s1 e1 m1 = F) := ⟨_, rfl⟩
      rw [hFe.out] at HF1 hsx
      go_wp2_with fail
      refine (HF1.out _).mono ?_
      rintro e w2 ⟨x, rfl, hx, hb⟩
      have hbx := (Below.refl w2.heap.size w2).alloc (Nat.le_refl _) (.cells #[.bool x.s, .slice x.A x.n x.c, .slice x.B x.m x.d] 24)
      have k_x := C3.new w2 (.bool x.s) (.slice x.A x.n x.c) (.slice x.B x.m x.d)
      have h_x := (hx.below hbx).rw hsx
      replace hb := hb.trans (hbx.mono hb.size)
      replace HB := HB.trans (hb.mono HB.size)
      replace k_v := k_v.below hb
      replace h_v := h_v.below hb
      clear hb hbx hx HF1 hk3
      obtain ⟨v_0, v_1, v_2, v_3, v_4, v_5⟩ := k_v.facts
      obtain ⟨x_0, x_1, x_2, x_3, x_4, x_5⟩ := k_x.facts
      go_wp2_with fail
      refine (rSub_c x v F r _ (h_x.more (by omega)) (h_v.more (by omega))).mono ?_
      rintro e w3 ⟨zd, rfl, hzd, hb⟩
      have hbd := (Below.refl w3.heap.size w3).alloc (Nat.le_refl _) (.cells #[.bool false, .slice zd.A zd.n zd.c, .slice zd.B zd.m zd.d] 24)
      have k_d := C3.new w3 (.bool false) (.slice zd.A zd.n zd.c) (.slice zd.B zd.m zd.d)
      have h_d := (hzd.ab (hsx.sub hz)).below hbd
      replace hb := hb.trans (hbd.mono hb.size)
      replace k_v := k_v.below hb
      replace h_v := h_v.below hb
      replace HB := HB.trans (hb.mono HB.size)
      clear v_0 v_1 v_2 v_3 v_4 v_5 x_0 x_1 x_2 x_3 x_4 x_5 k_x h_x hb hbd hzd
      have u0 : (0 : Int) ≤ (U : Int) := by omega
      have hU1 : U + 1 < 18446744073709551616 := by
        have h1 := hu.out.eq
        have h2 := hu.out.exp
        have h3 := hu.out.frac
        rw [hU.out] at h1
        clear hu hnear hsm hkd hul
        cases s1
        · simp only [Bool.false_eq_true, if_false] at h1; omega
        · simp only [if_true] at h1; omega
      have u1 : (U : Int) + 1 < 18446744073709551616 := by omega
      have t1 : ((U : Int) + 1).toNat = U + 1 := by omega
      go_wp2
      generalize w3.alloc (.cells #[.bool false, .slice zd.A zd.n zd.c, .slice zd.B zd.m zd.d] 24) = wl at *
      generalize w3.heap.size = db at *
      go_loopw [8] (fun iv wr => ∃ i : Nat, i ≤ 2 ∧ iv = .int .i64 i ∧ C3 wr w.heap.size (.bool v.s) (.slice v.A v.n v.c) (.slice v.B v.m v.d) ∧ C3 wr db (.bool false) (.slice zd.A zd.n zd.c) (.slice zd.B zd.m zd.d) ∧ Rw wr v r 16 ∧ Rw wr ⟨false, zd.A, zd.n, zd.c, zd.B, zd.m, zd.d⟩ (Go.Proofs.Ytplpkojikgeamaa.ab (F - r)) 57 ∧ Below w.heap.size w wr) (fun iv _ => 2 - (intOf iv).toNat)
      case atStart => exact ⟨0, by omega, rfl, k_v, k_d, h_v, h_d.more (by omega), HB⟩
      case round =>
        clear k_v k_d h_v h_d HB
        obtain ⟨i, hi, rfl, k_v, k_d, h_v, h_d, HB⟩ := hrel
        obtain ⟨v_0, v_1, v_2, v_3, v_4, v_5⟩ := k_v.facts
        have hi3 : i = 0 ∨ i = 1 ∨ i = 2 := by omega
        rcases hi3 with rfl | rfl | rfl
        · go_wp2_with fail
          obtain ⟨s2, e2, m2, P2⟩ := parts_of (u := U + 1) (by omega)
          by_cases he2 : e2 = 2047
          · have HFE := Lib.hid (fun (w : World) => rFrom_err (U + 1) s2 e2 m2 w P2 he2)
            obtain ⟨cc, hcc⟩ : ∃ c : Int, c = (if m2 ≠ 0 then 16 else 17 : Int) := ⟨_, rfl⟩
            rw [← hcc] at HFE
            have hc1 : ¬ cc = 0 := by rw [hcc]; split <;> omega
            have hc2 : (cc == 0) = false := beq_eq_false_iff_ne.2 hc1
            clear hcc P2 he2
            try rw [t1]
            refine (HFE.out _).mono ?_
            rintro e w3 ⟨y, rfl, hy, hb3⟩
            have hsy2 := Sz.zero (p := 40) (by omega)
            have hby := (Below.refl w3.heap.size w3).alloc (Nat.le_refl _) (.cells #[.bool y.s, .slice y.A y.n y.c, .slice y.B y.m y.d] 24)
            have k_y := C3.new w3 (.bool y.s) (.slice y.A y.n y.c) (.slice y.B y.m y.d)
            have h_y := (hy.below hby).rw hsy2
            replace hb3 := hb3.trans (hby.mono hb3.size)
            replace k_v := k_v.below hb3
            replace k_d := k_d.below hb3
            replace h_v := h_v.below hb3
            replace h_d := h_d.below hb3
            replace HB := HB.trans (hb3.mono HB.size)
            clear hb3 hby hy v_0 v_1 v_2 v_3 v_4 v_5
            obtain ⟨v_0, v_1, v_2, v_3, v_4, v_5⟩ := k_v.facts
            obtain ⟨y_0, y_1, y_2, y_3, y_4, y_5⟩ := k_y.facts
            go_wp2_with fail
            refine (rSub_c y v 0 r _ (h_y.more (by omega)) (h_v.more (by omega))).mono ?_
            rintro e w4 ⟨zc, rfl, hzc, hb4⟩
            have hbc := (Below.refl w4.heap.size w4).alloc (Nat.le_refl _) (.cells #[.bool false, .slice zc.A zc.n zc.c, .slice zc.B zc.m zc.d] 24)
            have k_c := C3.new w4 (.bool false) (.slice zc.A zc.n zc.c) (.slice zc.B zc.m zc.d)
            have h_c := (hzc.ab (hsy2.sub hz)).below hbc
            replace hb4 := hb4.trans (hbc.mono hb4.size)
            replace k_v := k_v.below hb4
            replace k_d := k_d.below hb4
            replace h_v := h_v.below hb4
            replace h_d := h_d.below hb4
            replace HB := HB.trans (hb4.mono HB.size)
            clear v_0 v_1 v_2 v_3 v_4 v_5 y_0 y_1 y_2 y_3 y_4 y_5 k_y h_y hb4 hbc hzc
            have hC := near_cells w4 (.slice zc.A zc.n zc.c) (.slice zc.B zc.m zc.d)
            obtain ⟨c_0, c_1, c_2, c_3, c_4, c_5⟩ := k_c.facts
            obtain ⟨d_0, d_1, d_2, d_3, d_4, d_5⟩ := k_d.facts
            clear c_0 c_1 c_2 c_3 c_4 c_5 d_0 d_1 d_2 d_3 d_4 d_5 hc1
            go_wp2
            go_roundw
            case rel => exact ⟨0 + 1, by omega, rfl, k_v, k_d, h_v, h_d, HB⟩
            case measure => simp [intOf]
          · have HFE := Lib.hid (fun (w : World) => rFrom_num (U + 1) s2 e2 m2 w P2 he2)
            have hsy := frq_sz (s := s2) (show e2 < 2047 by have := P2.exp; omega) P2.frac
            have hK := Lib.hid (near_ok hz hu.out he P2 (.inl (by rw [hU.out])))
            clear P2 he2
            try rw [t1]
            refine (HFE.out _).mono ?_
            generalize frq s2 e2 m2 = G at *
            rw [hFe.out] at hK
            rintro e w3 ⟨y, rfl, hy, hb3⟩
            have hsy2 := hsy
            have hby := (Below.refl w3.heap.size w3).alloc (Nat.le_refl _) (.cells #[.bool y.s, .slice y.A y.n y.c, .slice y.B y.m y.d] 24)
            have k_y := C3.new w3 (.bool y.s) (.slice y.A y.n y.c) (.slice y.B y.m y.d)
            have h_y := (hy.below hby).rw hsy2
            replace hb3 := hb3.trans (hby.mono hb3.size)
            replace k_v := k_v.below hb3
            replace k_d := k_d.below hb3
            replace h_v := h_v.below hb3
            replace h_d := h_d.below hb3
            replace HB := HB.trans (hb3.mono HB.size)
            clear hb3 hby hy v_0 v_1 v_2 v_3 v_4 v_5
            obtain ⟨v_0, v_1, v_2, v_3, v_4, v_5⟩ := k_v.facts
            obtain ⟨y_0, y_1, y_2, y_3, y_4, y_5⟩ := k_y.facts
            go_wp2_with fail
            refine (rSub_c y v G r _ (h_y.more (by omega)) (h_v.more (by omega))).mono ?_
            rintro e w4 ⟨zc, rfl, hzc, hb4⟩
            have hbc := (Below.refl w4.heap.size w4).alloc (Nat.le_refl _) (.cells #[.bool false, .slice zc.A zc.n zc.c, .slice zc.B zc.m zc.d] 24)
            have k_c := C3.new w4 (.bool false) (.slice zc.A zc.n zc.c) (.slice zc.B zc.m zc.d)
            have h_c := (hzc.ab (hsy2.sub hz)).below hbc
            replace hb4 := hb4.trans (hbc.mono hb4.size)
            replace k_v := k_v.below hb4
            replace k_d := k_d.below hb4
            replace h_v := h_v.below hb4
            replace h_d := h_d.below hb4
            replace HB := HB.trans (hb4.mono HB.size)
            clear v_0 v_1 v_2 v_3 v_4 v_5 y_0 y_1 y_2 y_3 y_4 y_5 k_y h_y hb4 hbc hzc
            have hC := near_cells w4 (.slice zc.A zc.n zc.c) (.slice zc.B zc.m zc.d)
            obtain ⟨c_0, c_1, c_2, c_3, c_4, c_5⟩ := k_c.facts
            obtain ⟨d_0, d_1, d_2, d_3, d_4, d_5⟩ := k_d.facts
            go_wp2_with fail
            refine (rCmp2_c ⟨false, zc.A, zc.n, zc.c, zc.B, zc.m, zc.d⟩ ⟨false, zd.A, zd.n, zd.c, zd.B, zd.m, zd.d⟩ _ _ _ (h_c.more (by omega)) (h_d.more (by omega))).mono ?_
            rintro e w5 ⟨rfl, hb5⟩
            replace k_v := k_v.below hb5
            replace k_d := k_d.below hb5
            replace h_v := h_v.below hb5
            replace h_d := h_d.below hb5
            replace HB := HB.trans (hb5.mono HB.size)
            clear hb5 h_c k_c c_0 c_1 c_2 c_3 c_4 c_5 d_0 d_1 d_2 d_3 d_4 d_5
            have hKn := near_neg hK.out
            clear hK
            generalize sgn (Go.Proofs.Ytplpkojikgeamaa.ab (G - r) - Go.Proofs.Ytplpkojikgeamaa.ab (F - r)) = K at *
            clear  hfb hb64 hul hU1 u1 t1 u0 hsx hsy hsy2 hz hC HFE hkd hsm hu hnear hU hFe he
            go_wp2
            go_roundw
            case rel => exact ⟨0 + 1, by omega, rfl, k_v, k_d, h_v, h_d, HB⟩
            case measure => simp [intOf]
        · by_cases hb0 : U = 0 ∨ U = 9223372036854775808
          · have hsh : IntKind.u64.wrap ((U : Int) * 2) = 0 := by rcases hb0 with e | e <;> subst e <;> rfl
            clear hb0 v_0 v_1 v_2 v_3 v_4 v_5
            go_wp2_with fail
            refine (known4_any _).mono ?_
            rintro r w9 ⟨rfl, hb9⟩
            replace HB := HB.trans (hb9.mono HB.size)
            clear hb9
            go_wp2
            go_ret
            exact ⟨rfl, HB⟩
          · obtain ⟨X, hX⟩ : ∃ X : Int, X = IntKind.u64.wrap ((U : Int) * 2) := ⟨_, rfl⟩
            have sh0 : ¬ X = 0 := by
              intro h
              have h2 : IntKind.u64.wrap ((U : Int) * 2) = ((U : Int) * 2) % 18446744073709551616 := rfl
              rw [hX, h2] at h
              omega
            have sh1 : (X == 0) = false := beq_eq_false_iff_ne.2 sh0
            have hsh := hX.symm
            clear hX
            have hU0 : 1 ≤ U := by omega
            have t2 : ((U : Int) - 1).toNat = U - 1 := by omega
            have u2 : (0 : Int) ≤ (U : Int) - 1 := by omega
            have hb63 : U ≠ 9223372036854775808 := fun e => hb0 (.inr e)
            clear hb0
            go_wp2_with fail
            obtain ⟨s2, e2, m2, P2⟩ := parts_of (u := U - 1) (by omega)
            by_cases he2 : e2 = 2047
            · have HFE := Lib.hid (fun (w : World) => rFrom_err (U - 1) s2 e2 m2 w P2 he2)
              obtain ⟨cc, hcc⟩ : ∃ c : Int, c = (if m2 ≠ 0 then 16 else 17 : Int) := ⟨_, rfl⟩
              rw [← hcc] at HFE
              have hc1 : ¬ cc = 0 := by rw [hcc]; split <;> omega
              have hc2 : (cc == 0) = false := beq_eq_false_iff_ne.2 hc1
              clear hcc P2 he2
              try rw [t2]
              refine (HFE.out _).mono ?_
              rintro e w3 ⟨y, rfl, hy, hb3⟩
              have hsy2 := Sz.zero (p := 40) (by omega)
              have hby := (Below.refl w3.heap.size w3).alloc (Nat.le_refl _) (.cells #[.bool y.s, .slice y.A y.n y.c, .slice y.B y.m y.d] 24)
              have k_y := C3.new w3 (.bool y.s) (.slice y.A y.n y.c) (.slice y.B y.m y.d)
              have h_y := (hy.below hby).rw hsy2
              replace hb3 := hb3.trans (hby.mono hb3.size)
              replace k_v := k_v.below hb3
              replace k_d := k_d.below hb3
              replace h_v := h_v.below hb3
              replace h_d := h_d.below hb3
              replace HB := HB.trans (hb3.mono HB.size)
              clear hb3 hby hy v_0 v_1 v_2 v_3 v_4 v_5
              obtain ⟨v_0, v_1, v_2, v_3, v_4, v_5⟩ := k_v.facts
              obtain ⟨y_0, y_1, y_2, y_3, y_4, y_5⟩ := k_y.facts
              go_wp2_with fail
              refine (rSub_c y v 0 r _ (h_y.more (by omega)) (h_v.more (by omega))).mono ?_
              rintro e w4 ⟨zc, rfl, hzc, hb4⟩
              have hbc := (Below.refl w4.heap.size w4).alloc (Nat.le_refl _) (.cells #[.bool false, .slice zc.A zc.n zc.c, .slice zc.B zc.m zc.d] 24)
              have k_c := C3.new w4 (.bool false) (.slice zc.A zc.n zc.c) (.slice zc.B zc.m zc.d)
              have h_c := (hzc.ab (hsy2.sub hz)).below hbc
              replace hb4 := hb4.trans (hbc.mono hb4.size)
              replace k_v := k_v.below hb4
              replace k_d := k_d.below hb4
              replace h_v := h_v.below hb4
              replace h_d := h_d.below hb4
              replace HB := HB.trans (hb4.mono HB.size)
              clear v_0 v_1 v_2 v_3 v_4 v_5 y_0 y_1 y_2 y_3 y_4 y_5 k_y h_y hb4 hbc hzc
              have hC := near_cells w4 (.slice zc.A zc.n zc.c) (.slice zc.B zc.m zc.d)
              obtain ⟨c_0, c_1, c_2, c_3, c_4, c_5⟩ := k_c.facts
              obtain ⟨d_0, d_1, d_2, d_3, d_4, d_5⟩ := k_d.facts
              clear c_0 c_1 c_2 c_3 c_4 c_5 d_0 d_1 d_2 d_3 d_4 d_5 hc1
              go_wp2
              go_roundw
              case rel => exact ⟨1 + 1, by omega, rfl, k_v, k_d, h_v, h_d, HB⟩
              case measure => simp [intOf]
            · have HFE := Lib.hid (fun (w : World) => rFrom_num (U - 1) s2 e2 m2 w P2 he2)
              have hsy := frq_sz (s := s2) (show e2 < 2047 by have := P2.exp; omega) P2.frac
              have hK := Lib.hid (near_ok hz hu.out he P2 (.inr ⟨by rw [hU.out]; omega, by rw [hU.out]; exact hb63⟩))
              clear P2 he2
              try rw [t2]
              refine (HFE.out _).mono ?_
              generalize frq s2 e2 m2 = G at *
              rw [hFe.out] at hK
              rintro e w3 ⟨y, rfl, hy, hb3⟩
              have hsy2 := hsy
              have hby := (Below.refl w3.heap.size w3).alloc (Nat.le_refl _) (.cells #[.bool y.s, .slice y.A y.n y.c, .slice y.B y.m y.d] 24)
              have k_y := C3.new w3 (.bool y.s) (.slice y.A y.n y.c) (.slice y.B y.m y.d)
              have h_y := (hy.below hby).rw hsy2
              replace hb3 := hb3.trans (hby.mono hb3.size)
              replace k_v := k_v.below hb3
              replace k_d := k_d.below hb3
              replace h_v := h_v.below hb3
              replace h_d := h_d.below hb3
              replace HB := HB.trans (hb3.mono HB.size)
              clear hb3 hby hy v_0 v_1 v_2 v_3 v_4 v_5
              obtain ⟨v_0, v_1, v_2, v_3, v_4, v_5⟩ := k_v.facts
              obtain ⟨y_0, y_1, y_2, y_3, y_4, y_5⟩ := k_y.facts
              go_wp2_with fail
              refine (rSub_c y v G r _ (h_y.more (by omega)) (h_v.more (by omega))).mono ?_
              rintro e w4 ⟨zc, rfl, hzc, hb4⟩
              have hbc := (Below.refl w4.heap.size w4).alloc (Nat.le_refl _) (.cells #[.bool false, .slice zc.A zc.n zc.c, .slice zc.B zc.m zc.d] 24)
              have k_c := C3.new w4 (.bool false) (.slice zc.A zc.n zc.c) (.slice zc.B zc.m zc.d)
              have h_c := (hzc.ab (hsy2.sub hz)).below hbc
              replace hb4 := hb4.trans (hbc.mono hb4.size)
              replace k_v := k_v.below hb4
              replace k_d := k_d.below hb4
              replace h_v := h_v.below hb4
              replace h_d := h_d.below hb4
              replace HB := HB.trans (hb4.mono HB.size)
              clear v_0 v_1 v_2 v_3 v_4 v_5 y_0 y_1 y_2 y_3 y_4 y_5 k_y h_y hb4 hbc hzc
              have hC := near_cells w4 (.slice zc.A zc.n zc.c) (.slice zc.B zc.m zc.d)
              obtain ⟨c_0, c_1, c_2, c_3, c_4, c_5⟩ := k_c.facts
              obtain ⟨d_0, d_1, d_2, d_3, d_4, d_5⟩ := k_d.facts
              go_wp2_with fail
              refine (rCmp2_c ⟨false, zc.A, zc.n, zc.c, zc.B, zc.m, zc.d⟩ ⟨false, zd.A, zd.n, zd.c, zd.B, zd.m, zd.d⟩ _ _ _ (h_c.more (by omega)) (h_d.more (by omega))).mono ?_
              rintro e w5 ⟨rfl, hb5⟩
              replace k_v := k_v.below hb5
              replace k_d := k_d.below hb5
              replace h_v := h_v.below hb5
              replace h_d := h_d.below hb5
              replace HB := HB.trans (hb5.mono HB.size)
              clear hb5 h_c k_c c_0 c_1 c_2 c_3 c_4 c_5 d_0 d_1 d_2 d_3 d_4 d_5
              have hKn := near_neg hK.out
              clear hK
              generalize sgn (Go.Proofs.Ytplpkojikgeamaa.ab (G - r) - Go.Proofs.Ytplpkojikgeamaa.ab (F - r)) = K at *
              clear hU0 t2 u2 hb63 hsh sh0 sh1 hfb hb64 hul hU1 u1 t1 u0 hsx hsy hsy2 hz hC HFE hkd hsm hu hnear hU hFe he
              go_wp2
              go_roundw
              case rel => exact ⟨1 + 1, by omega, rfl, k_v, k_d, h_v, h_d, HB⟩
              case measure => simp [intOf]
        · clear v_0 v_1 v_2 v_3 v_4 v_5
          go_wp2_with fail
          refine (known4_any _).mono ?_
          rintro r w9 ⟨rfl, hb9⟩
          replace HB := HB.trans (hb9.mono HB.size)
          clear hb9
          go_wp2
          go_ret
          exact ⟨rfl, HB⟩
end Go.Proofs.Ytplpkojikgeamaa
