/-
  The document's rationals, seventh part: the other sign, differences, comparisons.
  The document's rationals, eighth part: whether two are one.
-/
import Derived.Test.YtgffkaconhonlaaGreatWMRr
import Derived.Test.YtgffkaconhonlaaGreatWMRf
namespace Go.Proofs.YtgffkaconhonlaaGreat
set_option maxRecDepth 20000
open Go.RowKit
theorem Rt.negOf {w : World} {lo : Nat} {z : Rv} {r : Rat} {b : Bool} (h : Rt w lo z r) (hb : b = decide ((-r).num < 0)) : Rt w lo ⟨b, z.A, z.n, z.c, z.B, z.m, z.d⟩ (-r) := by
 have e : (-r).num.natAbs = r.num.natAbs := by rw [Rat.neg_num, Int.natAbs_neg]
 refine ⟨hb, ?_, h.3, ?_, ?_, h.6, ?_⟩
 · show z.n = _; rw [e]; exact h.2
 · show Row w lo z.A z.n _; rw [e]; exact h.4
 · show z.m = _; rw [Rat.neg_den]; exact h.5
 · show Row w lo z.B z.m _; rw [Rat.neg_den]; exact h.7
theorem sign_neg {r : Rat} : decide ((-r).num < 0) = (!decide (r.num < 0) && decide (r ≠ 0)) := by
 rw [Rat.neg_num]
 by_cases h0 : r = 0
 · subst h0; rfl
 ·
  have := num_ne h0
  by_cases h : r.num < 0
  · rw [decide_eq_true h, decide_eq_false (by omega)]; rfl
  · rw [decide_eq_false h, decide_eq_true (by omega), decide_eq_true h0]; rfl
set_option maxHeartbeats 1600000 in
theorem rNeg_c (v : Rv) (r : Rat) (w : World) (hv : Rw w v r 60000000000) :
  Calls Tryz.prog 29 #[.agg #[.bool v.s, .slice v.A v.n v.c, .slice v.B v.m v.d]] w fun e w' => ∃ z : Rv, e = .returned (.agg #[.bool z.s, .slice z.A z.n z.c, .slice z.B z.m z.d]) ∧ Rt w' w.heap.size z (-r) ∧ Below w.heap.size w w' := by
 have z_r := hv.sz (by omega)
 go_enter Tryz.func29, Tryz.ntmps29
 go_wp2_with fail
 generalize hW : ((w.alloc (.cells #[.bool v.s, .slice v.A v.n v.c, .slice v.B v.m v.d] 26)).alloc (.cells #[.bool false, .slice none 0 0, .slice none 0 0] 26)) = W
 obtain ⟨k_v, k_z, HB, hsW⟩ := open1z w v W hW
 clear hW
 refine (rNorm_c v r _ (hv.below HB)).mono ?_
 rintro e w1 ⟨z, rfl, hz, hb⟩
 have ltz := k_z.lt
 have hs1 := hb.size
 replace HB := HB.trans (hb.mono (by omega))
 replace k_z := k_z.below hb
 have ltz1 := k_z.lt
 clear hb k_v hv
 obtain ⟨z0, z1, z2, z3, z4, z5⟩ := k_z.facts
 have hsg := hz.sign
 have hsn := sign_neg (r := r)
 rw [← hsg] at hsn
 have hzn : (r = 0 ∧ z.n = 0) ∨ (r ≠ 0 ∧ 0 < z.n) := by
  by_cases h0 : r = 0
  · exact .inl ⟨h0, hz.n_zero h0⟩
  · exact .inr ⟨h0, hz.n_pos h0⟩
 have key : ∀ b : Bool, b = (!z.s && decide (r ≠ 0)) → Rt ((put3 w1 (w.heap.size + 1) (.bool b) (.slice z.A z.n z.c) (.slice z.B z.m z.d)).alloc (.cells #[.bool b, .slice z.A z.n z.c, .slice z.B z.m z.d] 26)) w.heap.size ⟨b, z.A, z.n, z.c, z.B, z.m, z.d⟩ (-r) := by
  intro b hb
  have h1 := ((hz.negOf (b := b) (by rw [hb, hsn])).put (b := w.heap.size + 1) (by omega) (.bool b) (.slice z.A z.n z.c) (.slice z.B z.m z.d)).lower (lo' := w.heap.size) (by omega)
  exact h1.below ((Below.refl _ _).alloc (Nat.le_refl _) _)
 have HK := Lib.hid key
 clear key hsg hsn hz
 have fin : ∀ b : Bool, C3 ((put3 w1 (w.heap.size + 1) (.bool b) (.slice z.A z.n z.c) (.slice z.B z.m z.d)).alloc (.cells #[.bool b, .slice z.A z.n z.c, .slice z.B z.m z.d] 26)) (w.heap.size + 1) (.bool b) (.slice z.A z.n z.c) (.slice z.B z.m z.d) ∧
   Below w.heap.size w ((put3 w1 (w.heap.size + 1) (.bool b) (.slice z.A z.n z.c) (.slice z.B z.m z.d)).alloc (.cells #[.bool b, .slice z.A z.n z.c, .slice z.B z.m z.d] 26)) := by
  intro b
  have hp := put3_below (w := w1) (b := w.heap.size + 1) (B := w.heap.size) (by omega) (.bool b) (.slice z.A z.n z.c) (.slice z.B z.m z.d)
  exact ⟨(k_z.put _ _ _).alloc _, (HB.trans hp).alloc (by simp; omega) _⟩
 have HF := Lib.hid fin
 clear fin
 obtain ⟨zs, zA, zn, zc, zB, zm, zd⟩ := z
 simp only at hzn HK HF
 cases zs
 ·
  rcases hzn with ⟨h0, h1⟩ | ⟨h0, h1⟩
  ·
   have H0 := Lib.hid h0
   subst h1
   clear h0
   go_wp2
   refine ret3c (fn := Tryz.f29) Tryz.results29 rfl rfl (HF.out false).1 ?_
   exact ⟨_, rfl, HK.out false (by simp [H0.out]), (HF.out false).2⟩
  ·
   have H0 := Lib.hid h0
   clear h0
   go_wp2
   refine ret3c (fn := Tryz.f29) Tryz.results29 rfl rfl (HF.out true).1 ?_
   exact ⟨_, rfl, HK.out true (by simp [H0.out]), (HF.out true).2⟩
 ·
  clear hzn
  go_wp2
  refine ret3c (fn := Tryz.f29) Tryz.results29 rfl rfl (HF.out false).1 ?_
  exact ⟨_, rfl, HK.out false (by simp), (HF.out false).2⟩
set_option maxHeartbeats 1600000 in
theorem rSub_c (v u : Rv) (r s : Rat) (w : World) (hv : Rw w v r 28500000000) (hu : Rw w u s 28500000000) :
  Calls Tryz.prog 107 #[.agg #[.bool v.s, .slice v.A v.n v.c, .slice v.B v.m v.d], .agg #[.bool u.s, .slice u.A u.n u.c, .slice u.B u.m u.d]] w fun e w' => ∃ z : Rv, e = .returned (.agg #[.bool z.s, .slice z.A z.n z.c, .slice z.B z.m z.d]) ∧ Rt w' w.heap.size z (r - s) ∧ Below w.heap.size w w' := by
 have z_s := hu.sz (by omega)
 have n_s := z_s.neg
 go_enter Tryz.func107, Tryz.ntmps107
 go_wp2_with fail
 generalize hW : (((w.alloc (.cells #[.bool v.s, .slice v.A v.n v.c, .slice v.B v.m v.d] 26)).alloc (.cells #[.bool u.s, .slice u.A u.n u.c, .slice u.B u.m u.d] 26)).alloc (.cells #[.bool false, .slice none 0 0, .slice none 0 0] 26)) = W
 obtain ⟨ka, kb, kz, HW, hsW⟩ := open2z w v u W hW
 clear hW
 obtain ⟨a0, a1, a2, a3, a4, a5⟩ := ka.facts
 obtain ⟨b0, b1, b2, b3, b4, b5⟩ := kb.facts
 replace hv := (hv.below HW).drew
 replace hu := ((hu.below HW).more (show 28500000000 ≤ 60000000000 by omega)).drew
 replace ka := ka.drew
 replace kb := kb.drew
 replace kz := kz.drew
 have HB := HW.trans (below_drewN' w.heap.size W 1)
 have hn1 : ¬ w.heap.size = w.heap.size + 1 + 1 := by omega
 have hn2 : ¬ w.heap.size + 1 + 1 = w.heap.size := by omega
 go_region_held3 (fun w' => w'.cell? ⟨w.heap.size, 0, none⟩ = some (.bool v.s) ∧ w'.cell? ⟨w.heap.size, 1, none⟩ = some (.slice v.A v.n v.c) ∧ w'.cell? ⟨w.heap.size, 2, none⟩ = some (.slice v.B v.m v.d) ∧ w'.cell? ⟨w.heap.size + 1, 0, none⟩ = some (.bool u.s) ∧ w'.cell? ⟨w.heap.size + 1, 1, none⟩ = some (.slice u.A u.n u.c) ∧ w'.cell? ⟨w.heap.size + 1, 2, none⟩ = some (.slice u.B u.m u.d)) (go_keep)
   (first
   | (
     go_at_call 29
     refine (rNeg_c u s _ hu).mono ?_
     rintro e w1 ⟨x, rfl, hx, hb⟩
     replace HB := HB.trans (hb.mono HB.size)
     replace ka := ka.below hb
     replace kb := kb.below hb
     replace kz := kz.below hb
     replace hv := hv.below hb
     have hx2 := hx.rw n_s
     have ltz := kz.lt
     clear hb a0 a1 a2 a3 a4 a5 b0 b1 b2 b3 b4 b5
     obtain ⟨a0, a1, a2, a3, a4, a5⟩ := ka.facts
     obtain ⟨b0, b1, b2, b3, b4, b5⟩ := kb.facts
     obtain ⟨z0, z1, z2, z3, z4, z5⟩ := kz.facts)
   | (
     go_at_call 30
     refine (rAdd_c v x r (-s) _ hv hx2).mono ?_
     rintro e w2 ⟨z, rfl, hz, hb⟩
     replace HB := HB.trans (hb.mono HB.size)
     replace ka := ka.below hb
     replace kb := kb.below hb
     replace kz := kz.below hb
     clear hb a0 a1 a2 a3 a4 a5 b0 b1 b2 b3 b4 b5 z0 z1 z2 z3 z4 z5
     obtain ⟨a0, a1, a2, a3, a4, a5⟩ := ka.facts
     obtain ⟨b0, b1, b2, b3, b4, b5⟩ := kb.facts
     obtain ⟨z0, z1, z2, z3, z4, z5⟩ := kz.facts))
 rw [← Rat.sub_eq_add_neg] at hz
 go_wp2
 refine ret3 (fn := Tryz.f107) Tryz.results107 rfl rfl kz ?_
 exact ⟨z, rfl, (hz.put (by omega) _ _ _).lower (by omega), HB.trans (put3_below (by omega) _ _ _)⟩
end Go.Proofs.YtgffkaconhonlaaGreat
namespace Go.Proofs.YtgffkaconhonlaaGreat
set_option maxRecDepth 20000
open Go.RowKit
theorem dg_ext {l l' : List Nat} (hl : l.length = l'.length) (h : ∀ j, j < l.length → dg l j = dg l' j) : l = l' := by
 apply List.ext_getElem hl
 intro i h1 h2
 have := h i h1
 rw [dg_eq, dg_eq] at this
 simpa [h1, h2] using this
set_option maxHeartbeats 800000 in
theorem rlimbs_any (A A' : Option Addr) (n n' c c' : Nat) (l l' : List Nat) (w : World) (hn : n ≤ 15000000000000) (hn' : n' ≤ 15000000000000) (hr : Row w 0 A n l) (hr' : Row w 0 A' n' l') :
  Calls Tryz.prog 55 #[.slice A n c, .slice A' n' c'] w fun e w' => e = .returned (.bool (decide (l = l'))) ∧ Below w.heap.size w w' := by
 by_cases hnn : n = n'
 ·
  subst hnn
  have HL := Lib.hid (show l.length = n ∧ l'.length = n from ⟨hr.len, hr'.len⟩)
  go_enter Tryz.func55, Tryz.ntmps55
  go_wp2
  go_loopw [5] (fun i wr => ∃ k q : Nat, k ≤ n ∧ i = .int .i64 k ∧ wr = w.drewN q ∧ Hid (∀ j, j < k → dg l j = dg l' j)) (fun i _ => n - (intOf i).toNat)
  case atStart => exact ⟨0, 0, Nat.zero_le _, rfl, rfl, Lib.hid (fun j hj => absurd hj (by omega))⟩
  case round =>
   obtain ⟨k, q, hk, rfl, rfl, HJ⟩ := hrel
   by_cases h0 : k < n
   ·
    obtain ⟨b, off, rfl, h1, h2, hc⟩ := hr.mem (by omega)
    obtain ⟨b', off', rfl, h1', h2', hc'⟩ := hr'.mem (by omega)
    have hc0 := hc k h0
    have hc0' := hc' k h0
    by_cases he : dg l k = dg l' k
    ·
     have HJ2 : Hid (∀ j, j < k + 1 → dg l j = dg l' j) := by
      intro j hj
      by_cases hjk : j = k
      · subst hjk; exact he
      · exact HJ.out j (by omega)
     rw [← he] at hc0'
     clear hc hc' hr hr' he
     generalize dg l k = x at *
     go_wp2
     go_quiet (fail)
     go_wp2
     go_roundw
     case rel => exact ⟨k + 1, _, by omega, by go_num, rfl, HJ2⟩
     case measure => simp [intOf]; omega
    ·
     have HE := Lib.hid (show ¬ l = l' from fun e => he (by rw [e]))
     have hne : ((dg l k : Nat) : Int) ≠ ((dg l' k : Nat) : Int) := by omega
     have hbe : (((dg l k : Nat) : Int) == ((dg l' k : Nat) : Int)) = false := beq_eq_false_iff_ne.2 hne
     have hbn : (((dg l k : Nat) : Int) != ((dg l' k : Nat) : Int)) = true := bne_iff_ne.2 hne
     clear hc hc' hr hr' he
     generalize dg l k = x at *
     generalize dg l' k = y at *
     go_wp2
     go_quiet (fail)
     go_wp2
     go_ret
     exact ⟨by rw [decide_eq_false HE.out]; rfl, (below_drewN' _ _ _).trans (below_drewN' _ _ _)⟩
   ·
    have HE : Hid (l = l') := by
     have h3 := HL.out
     exact dg_ext (by omega) (fun j hj => HJ.out j (by omega))
    clear hr hr'
    go_wp2
    go_ret
    exact ⟨by rw [decide_eq_true HE.out]; rfl, below_drewN' _ _ _⟩
 ·
  have HE := Lib.hid (show ¬ l = l' from fun e => hnn (by rw [← hr.len, ← hr'.len, e]))
  clear hr hr'
  go_enter Tryz.func55, Tryz.ntmps55
  go_wp2
  go_ret
  exact ⟨by rw [decide_eq_false HE.out]; rfl, Below.refl _ _⟩
theorem rlimbs_v (A A' : Option Addr) (n n' c c' : Nat) (l l' : List Nat) (b : Bool) (w : World) (hn : n ≤ 15000000000000) (hn' : n' ≤ 15000000000000) (hr : Row w 0 A n l) (hr' : Row w 0 A' n' l') (hb : decide (l = l') = b) :
  Calls Tryz.prog 55 #[.slice A n c, .slice A' n' c'] w fun e w' => e = .returned (.bool b) ∧ Below w.heap.size w w' := by
 subst hb; exact rlimbs_any A A' n n' c c' l l' w hn hn' hr hr'
set_option maxHeartbeats 8000000 in
theorem rSame_sign (v u : Rv) (r s : Rat) (w : World) (hv : Rw w v r 28500000000) (hu : Rw w u s 28500000000) (hss : Hid (decide (r.num < 0) ≠ decide (s.num < 0))) :
  Calls Tryz.prog 23 #[.agg #[.bool v.s, .slice v.A v.n v.c, .slice v.B v.m v.d], .agg #[.bool u.s, .slice u.A u.n u.c, .slice u.B u.m u.d]] w fun e w' => e = .returned (.bool false) ∧ Below w.heap.size w w' := by
 have z_r : Sz r 28500000000 := hv.sz (by omega)
 have z_s : Sz s 28500000000 := hu.sz (by omega)
 go_enter Tryz.func23, Tryz.ntmps23
 go_wp2_with fail
 generalize hW : ((w.alloc (.cells #[.bool v.s, .slice v.A v.n v.c, .slice v.B v.m v.d] 26)).alloc (.cells #[.bool u.s, .slice u.A u.n u.c, .slice u.B u.m u.d] 26)) = W
 obtain ⟨k_v, k_u, HB, hsW⟩ := open2 w v u W hW
 clear hW
 replace hv := hv.below HB
 replace hu := hu.below HB
 have hlw : W.heap.size ≥ w.heap.size + 2 := by omega
 clear hsW
 go_cut [5, 6] from 5 to 10 (fun vx vy wx => ∃ (bx bY : Nat) (x y : Rv), vx = .pointer (some ⟨bx, 0, none⟩) ∧ vy = .pointer (some ⟨bY, 0, none⟩) ∧ Hid (PairAt w wx (w.heap.size) (.bool v.s) (.slice v.A v.n v.c) (.slice v.B v.m v.d) bx bY x y r s ∧ bx ≠ w.heap.size ∧ bY ≠ w.heap.size))
 case first =>
  obtain ⟨v_0, v_1, v_2, v_3, v_4, v_5⟩ := k_v.facts
  obtain ⟨u_0, u_1, u_2, u_3, u_4, u_5⟩ := k_u.facts
  have nW00 : ¬ w.heap.size = W.heap.size := by omega
  have nW00' : ¬ W.heap.size = w.heap.size := by omega
  have nW01 : ¬ w.heap.size + 1 = W.heap.size := by omega
  have nW01' : ¬ W.heap.size = w.heap.size + 1 := by omega
  have nW40 : ¬ w.heap.size = W.heap.size + 1 := by omega
  have nW40' : ¬ W.heap.size + 1 = w.heap.size := by omega
  have nW41 : ¬ w.heap.size + 1 = W.heap.size + 1 := by omega
  have nW41' : ¬ W.heap.size + 1 = w.heap.size + 1 := by omega
  replace hv := hv.more (show 28500000000 ≤ 60000000000 by omega)
  replace hu := hu.more (show 28500000000 ≤ 60000000000 by omega)
  go_region_held3 (fun w' => w'.cell? ⟨w.heap.size, 0, none⟩ = some (.bool v.s) ∧ w'.cell? ⟨w.heap.size, 1, none⟩ = some (.slice v.A v.n v.c) ∧ w'.cell? ⟨w.heap.size, 2, none⟩ = some (.slice v.B v.m v.d) ∧ w'.cell? ⟨w.heap.size + 1, 0, none⟩ = some (.bool u.s) ∧ w'.cell? ⟨w.heap.size + 1, 1, none⟩ = some (.slice u.A u.n u.c) ∧ w'.cell? ⟨w.heap.size + 1, 2, none⟩ = some (.slice u.B u.m u.d)) (go_keep)
    (first
    | (
      go_at_call_of 54 v
      refine (rNorm_c v r _ ?_).mono ?_
      ·
       first
       | exact hv.drew
       | exact (hv.alloc _).drew
       | exact ((hv.alloc _).alloc _).drew
      rintro e w1 ⟨x, rfl, hx, hb⟩
      replace hb := Below.undrew hb
      have hbW : Below W.heap.size W w1 := by
       first
       | exact hb
       | exact ((Below.refl _ _).alloc (Nat.le_refl _) _).trans (hb.mono (by simp))
       | exact (((Below.refl _ _).alloc (Nat.le_refl _) _).alloc (by simp) _).trans (hb.mono (by simp; omega))
      first
      | (
       have p2 : C3 w1 (W.heap.size + 1) (.bool false) (.slice none 0 0) (.slice none 0 0) := by
        have := (C3.new (W.alloc (.cells #[.bool false, .slice none 0 0, .slice none 0 0] 26)) (.bool false) (.slice none 0 0) (.slice none 0 0)).below hb
        simpa using this
       have p1 := ((C3.new W (.bool false) (.slice none 0 0) (.slice none 0 0)).alloc (.cells #[.bool false, .slice none 0 0, .slice none 0 0] 26)).below hb
       have lt2 := p2.lt)
      | have p1 := (C3.new W (.bool false) (.slice none 0 0) (.slice none 0 0)).below hb
      | skip
      try have lt1 := p1.lt
      replace HB := HB.trans (hbW.mono HB.size)
      replace k_v := k_v.below hbW
      replace k_u := k_u.below hbW
      replace hu := hu.below hbW
      have hs1 := hbW.size
      replace hx := hx.lower (lo' := w.heap.size + 2) (by first | (simp; omega) | omega)
      clear hb hbW v_0 v_1 v_2 v_3 v_4 v_5 u_0 u_1 u_2 u_3 u_4 u_5
      obtain ⟨v_0, v_1, v_2, v_3, v_4, v_5⟩ := k_v.facts
      obtain ⟨u_0, u_1, u_2, u_3, u_4, u_5⟩ := k_u.facts
      try obtain ⟨p_0, p_1, p_2, p_3, p_4, p_5⟩ := p1.facts
      try obtain ⟨q_0, q_1, q_2, q_3, q_4, q_5⟩ := p2.facts
      have nw100 : ¬ w.heap.size = w1.heap.size := by omega
      have nw100' : ¬ w1.heap.size = w.heap.size := by omega
      have nw101 : ¬ w.heap.size + 1 = w1.heap.size := by omega
      have nw101' : ¬ w1.heap.size = w.heap.size + 1 := by omega
      have nw140 : ¬ w.heap.size = w1.heap.size + 1 := by omega
      have nw140' : ¬ w1.heap.size + 1 = w.heap.size := by omega
      have nw141 : ¬ w.heap.size + 1 = w1.heap.size + 1 := by omega
      have nw141' : ¬ w1.heap.size + 1 = w.heap.size + 1 := by omega)
    | (
      go_at_call_of 54 u
      refine (rNorm_c u s _ ?_).mono ?_
      ·
       first
       | exact hu
       | exact hu.alloc _
       | exact (hu.alloc _).alloc _
      rintro e w2 ⟨y, rfl, hy, hb⟩
      have hbW : Below w1.heap.size w1 w2 := by
       first
       | exact hb
       | exact ((Below.refl _ _).alloc (Nat.le_refl _) _).trans (hb.mono (by simp))
       | exact (((Below.refl _ _).alloc (Nat.le_refl _) _).alloc (by simp) _).trans (hb.mono (by simp; omega))
      first
      | (
       have p2 : C3 w2 (w1.heap.size + 1) (.bool false) (.slice none 0 0) (.slice none 0 0) := by
        have := (C3.new (w1.alloc (.cells #[.bool false, .slice none 0 0, .slice none 0 0] 26)) (.bool false) (.slice none 0 0) (.slice none 0 0)).below hb
        simpa using this
       have p1 := ((C3.new w1 (.bool false) (.slice none 0 0) (.slice none 0 0)).alloc (.cells #[.bool false, .slice none 0 0, .slice none 0 0] 26)).below hb
       have lt1 := p1.lt)
      | (
       replace p1 := p1.below hbW
       have p2 := (C3.new w1 (.bool false) (.slice none 0 0) (.slice none 0 0)).below hb)
      | (
       replace p1 := p1.below hbW
       replace p2 := p2.below hbW)
      | replace p1 := p1.below hbW
      | have p1 := (C3.new w1 (.bool false) (.slice none 0 0) (.slice none 0 0)).below hb
      | skip
      try have lt1 := p1.lt
      try have lt2 := p2.lt
      replace HB := HB.trans (hbW.mono HB.size)
      replace k_v := k_v.below hbW
      replace k_u := k_u.below hbW
      replace hx := hx.below hbW
      have hs2 := hbW.size
      replace hy := hy.lower (lo' := w.heap.size + 2) (by first | (simp; omega) | omega)
      clear hb hbW v_0 v_1 v_2 v_3 v_4 v_5 u_0 u_1 u_2 u_3 u_4 u_5
      obtain ⟨v_0, v_1, v_2, v_3, v_4, v_5⟩ := k_v.facts
      obtain ⟨u_0, u_1, u_2, u_3, u_4, u_5⟩ := k_u.facts
      try clear p_0 p_1 p_2 p_3 p_4 p_5
      try clear q_0 q_1 q_2 q_3 q_4 q_5
      try obtain ⟨p_0, p_1, p_2, p_3, p_4, p_5⟩ := p1.facts
      try obtain ⟨q_0, q_1, q_2, q_3, q_4, q_5⟩ := p2.facts
      have nw200 : ¬ w.heap.size = w2.heap.size := by omega
      have nw200' : ¬ w2.heap.size = w.heap.size := by omega
      have nw201 : ¬ w.heap.size + 1 = w2.heap.size := by omega
      have nw201' : ¬ w2.heap.size = w.heap.size + 1 := by omega
      have nw240 : ¬ w.heap.size = w2.heap.size + 1 := by omega
      have nw240' : ¬ w2.heap.size + 1 = w.heap.size := by omega
      have nw241 : ¬ w.heap.size + 1 = w2.heap.size + 1 := by omega
      have nw241' : ¬ w2.heap.size + 1 = w.heap.size + 1 := by omega))
  all_goals (
   go_wp2_with fail
   go_meet
   have ltz := k_v.lt
   refine ⟨_, _, x, y, rfl, rfl, Lib.hid ⟨?_, ?_, ?_⟩⟩
   rotate_left
   · omega
   · omega
   first
   | (with_reducible refine pair_new hx hy k_v HB)
   | (with_reducible refine pair_swap hx hy k_v HB)
   | ((with_reducible refine pair_put p1 ?_ ?_ hx hy k_v HB) <;> omega)
   | ((with_reducible refine pair_put' p1 ?_ ?_ hx hy k_v HB) <;> omega)
   | ((with_reducible refine pair_both p1 p2 ?_ ?_ ?_ ?_ ?_ hx hy k_v HB) <;> omega)
   | ((with_reducible refine pair_both p2 p1 ?_ ?_ ?_ ?_ ?_ hx hy k_v HB) <;> omega))
 case rest =>
  obtain ⟨bx, bY, x, y, rfl, rfl, HC⟩ := hcut
  obtain ⟨⟨k_x, k_y, hx, hy, k_q, HB⟩, nex, ney⟩ := HC.out
  have nex' := Ne.symm nex
  have ney' := Ne.symm ney
  clear HC hv hu k_v k_u
  have hxn := hx.num.lower (Nat.zero_le _)
  have hxd := hx.den.lower (Nat.zero_le _)
  have hyn := hy.num.lower (Nat.zero_le _)
  have hyd := hy.den.lower (Nat.zero_le _)
  have cxn := hx.numCap
  have cxd := hx.denCap
  have cyn := hy.numCap
  have cyd := hy.denCap
  have lxn : x.n ≤ 28500000000 := by rw [hx.numLen]; exact z_r.num.len
  have lxd : x.m ≤ 28500000000 := by rw [hx.denLen]; exact z_r.den.len
  have lyn : y.n ≤ 28500000000 := by rw [hy.numLen]; exact z_s.num.len
  have lyd : y.m ≤ 28500000000 := by rw [hy.denLen]; exact z_s.den.len
  have sgx : x.s = decide (r.num < 0) := hx.sign
  have sgy : y.s = decide (s.num < 0) := hy.sign
  have hse : (x.s == y.s) = false := by rw [sgx, sgy]; exact beq_eq_false_iff_ne.2 hss.out
  clear sgx sgy
  clear hx hy nex ney nex' ney' k_q
  obtain ⟨x_0, x_1, x_2, x_3, x_4, x_5⟩ := k_x.facts
  obtain ⟨y_0, y_1, y_2, y_3, y_4, y_5⟩ := k_y.facts
  go_wp2_with fail
  go_ret
  exact ⟨rfl, HB⟩
set_option maxHeartbeats 8000000 in
theorem rSame_num (v u : Rv) (r s : Rat) (w : World) (hv : Rw w v r 28500000000) (hu : Rw w u s 28500000000) (hss : Hid (decide (r.num < 0) = decide (s.num < 0))) (Hn : Hid (decide (lim r.num.natAbs = lim s.num.natAbs) = false)) :
  Calls Tryz.prog 23 #[.agg #[.bool v.s, .slice v.A v.n v.c, .slice v.B v.m v.d], .agg #[.bool u.s, .slice u.A u.n u.c, .slice u.B u.m u.d]] w fun e w' => e = .returned (.bool false) ∧ Below w.heap.size w w' := by
 have z_r : Sz r 28500000000 := hv.sz (by omega)
 have z_s : Sz s 28500000000 := hu.sz (by omega)
 go_enter Tryz.func23, Tryz.ntmps23
 go_wp2_with fail
 generalize hW : ((w.alloc (.cells #[.bool v.s, .slice v.A v.n v.c, .slice v.B v.m v.d] 26)).alloc (.cells #[.bool u.s, .slice u.A u.n u.c, .slice u.B u.m u.d] 26)) = W
 obtain ⟨k_v, k_u, HB, hsW⟩ := open2 w v u W hW
 clear hW
 replace hv := hv.below HB
 replace hu := hu.below HB
 have hlw : W.heap.size ≥ w.heap.size + 2 := by omega
 clear hsW
 go_cut [5, 6] from 5 to 10 (fun vx vy wx => ∃ (bx bY : Nat) (x y : Rv), vx = .pointer (some ⟨bx, 0, none⟩) ∧ vy = .pointer (some ⟨bY, 0, none⟩) ∧ Hid (PairAt w wx (w.heap.size) (.bool v.s) (.slice v.A v.n v.c) (.slice v.B v.m v.d) bx bY x y r s ∧ bx ≠ w.heap.size ∧ bY ≠ w.heap.size))
 case first =>
  obtain ⟨v_0, v_1, v_2, v_3, v_4, v_5⟩ := k_v.facts
  obtain ⟨u_0, u_1, u_2, u_3, u_4, u_5⟩ := k_u.facts
  have nW00 : ¬ w.heap.size = W.heap.size := by omega
  have nW00' : ¬ W.heap.size = w.heap.size := by omega
  have nW01 : ¬ w.heap.size + 1 = W.heap.size := by omega
  have nW01' : ¬ W.heap.size = w.heap.size + 1 := by omega
  have nW40 : ¬ w.heap.size = W.heap.size + 1 := by omega
  have nW40' : ¬ W.heap.size + 1 = w.heap.size := by omega
  have nW41 : ¬ w.heap.size + 1 = W.heap.size + 1 := by omega
  have nW41' : ¬ W.heap.size + 1 = w.heap.size + 1 := by omega
  replace hv := hv.more (show 28500000000 ≤ 60000000000 by omega)
  replace hu := hu.more (show 28500000000 ≤ 60000000000 by omega)
  go_region_held3 (fun w' => w'.cell? ⟨w.heap.size, 0, none⟩ = some (.bool v.s) ∧ w'.cell? ⟨w.heap.size, 1, none⟩ = some (.slice v.A v.n v.c) ∧ w'.cell? ⟨w.heap.size, 2, none⟩ = some (.slice v.B v.m v.d) ∧ w'.cell? ⟨w.heap.size + 1, 0, none⟩ = some (.bool u.s) ∧ w'.cell? ⟨w.heap.size + 1, 1, none⟩ = some (.slice u.A u.n u.c) ∧ w'.cell? ⟨w.heap.size + 1, 2, none⟩ = some (.slice u.B u.m u.d)) (go_keep)
    (first
    | (
      go_at_call_of 54 v
      refine (rNorm_c v r _ ?_).mono ?_
      ·
       first
       | exact hv.drew
       | exact (hv.alloc _).drew
       | exact ((hv.alloc _).alloc _).drew
      rintro e w1 ⟨x, rfl, hx, hb⟩
      replace hb := Below.undrew hb
      have hbW : Below W.heap.size W w1 := by
       first
       | exact hb
       | exact ((Below.refl _ _).alloc (Nat.le_refl _) _).trans (hb.mono (by simp))
       | exact (((Below.refl _ _).alloc (Nat.le_refl _) _).alloc (by simp) _).trans (hb.mono (by simp; omega))
      first
      | (
       have p2 : C3 w1 (W.heap.size + 1) (.bool false) (.slice none 0 0) (.slice none 0 0) := by
        have := (C3.new (W.alloc (.cells #[.bool false, .slice none 0 0, .slice none 0 0] 26)) (.bool false) (.slice none 0 0) (.slice none 0 0)).below hb
        simpa using this
       have p1 := ((C3.new W (.bool false) (.slice none 0 0) (.slice none 0 0)).alloc (.cells #[.bool false, .slice none 0 0, .slice none 0 0] 26)).below hb
       have lt2 := p2.lt)
      | have p1 := (C3.new W (.bool false) (.slice none 0 0) (.slice none 0 0)).below hb
      | skip
      try have lt1 := p1.lt
      replace HB := HB.trans (hbW.mono HB.size)
      replace k_v := k_v.below hbW
      replace k_u := k_u.below hbW
      replace hu := hu.below hbW
      have hs1 := hbW.size
      replace hx := hx.lower (lo' := w.heap.size + 2) (by first | (simp; omega) | omega)
      clear hb hbW v_0 v_1 v_2 v_3 v_4 v_5 u_0 u_1 u_2 u_3 u_4 u_5
      obtain ⟨v_0, v_1, v_2, v_3, v_4, v_5⟩ := k_v.facts
      obtain ⟨u_0, u_1, u_2, u_3, u_4, u_5⟩ := k_u.facts
      try obtain ⟨p_0, p_1, p_2, p_3, p_4, p_5⟩ := p1.facts
      try obtain ⟨q_0, q_1, q_2, q_3, q_4, q_5⟩ := p2.facts
      have nw100 : ¬ w.heap.size = w1.heap.size := by omega
      have nw100' : ¬ w1.heap.size = w.heap.size := by omega
      have nw101 : ¬ w.heap.size + 1 = w1.heap.size := by omega
      have nw101' : ¬ w1.heap.size = w.heap.size + 1 := by omega
      have nw140 : ¬ w.heap.size = w1.heap.size + 1 := by omega
      have nw140' : ¬ w1.heap.size + 1 = w.heap.size := by omega
      have nw141 : ¬ w.heap.size + 1 = w1.heap.size + 1 := by omega
      have nw141' : ¬ w1.heap.size + 1 = w.heap.size + 1 := by omega)
    | (
      go_at_call_of 54 u
      refine (rNorm_c u s _ ?_).mono ?_
      ·
       first
       | exact hu
       | exact hu.alloc _
       | exact (hu.alloc _).alloc _
      rintro e w2 ⟨y, rfl, hy, hb⟩
      have hbW : Below w1.heap.size w1 w2 := by
       first
       | exact hb
       | exact ((Below.refl _ _).alloc (Nat.le_refl _) _).trans (hb.mono (by simp))
       | exact (((Below.refl _ _).alloc (Nat.le_refl _) _).alloc (by simp) _).trans (hb.mono (by simp; omega))
      first
      | (
       have p2 : C3 w2 (w1.heap.size + 1) (.bool false) (.slice none 0 0) (.slice none 0 0) := by
        have := (C3.new (w1.alloc (.cells #[.bool false, .slice none 0 0, .slice none 0 0] 26)) (.bool false) (.slice none 0 0) (.slice none 0 0)).below hb
        simpa using this
       have p1 := ((C3.new w1 (.bool false) (.slice none 0 0) (.slice none 0 0)).alloc (.cells #[.bool false, .slice none 0 0, .slice none 0 0] 26)).below hb
       have lt1 := p1.lt)
      | (
       replace p1 := p1.below hbW
       have p2 := (C3.new w1 (.bool false) (.slice none 0 0) (.slice none 0 0)).below hb)
      | (
       replace p1 := p1.below hbW
       replace p2 := p2.below hbW)
      | replace p1 := p1.below hbW
      | have p1 := (C3.new w1 (.bool false) (.slice none 0 0) (.slice none 0 0)).below hb
      | skip
      try have lt1 := p1.lt
      try have lt2 := p2.lt
      replace HB := HB.trans (hbW.mono HB.size)
      replace k_v := k_v.below hbW
      replace k_u := k_u.below hbW
      replace hx := hx.below hbW
      have hs2 := hbW.size
      replace hy := hy.lower (lo' := w.heap.size + 2) (by first | (simp; omega) | omega)
      clear hb hbW v_0 v_1 v_2 v_3 v_4 v_5 u_0 u_1 u_2 u_3 u_4 u_5
      obtain ⟨v_0, v_1, v_2, v_3, v_4, v_5⟩ := k_v.facts
      obtain ⟨u_0, u_1, u_2, u_3, u_4, u_5⟩ := k_u.facts
      try clear p_0 p_1 p_2 p_3 p_4 p_5
      try clear q_0 q_1 q_2 q_3 q_4 q_5
      try obtain ⟨p_0, p_1, p_2, p_3, p_4, p_5⟩ := p1.facts
      try obtain ⟨q_0, q_1, q_2, q_3, q_4, q_5⟩ := p2.facts
      have nw200 : ¬ w.heap.size = w2.heap.size := by omega
      have nw200' : ¬ w2.heap.size = w.heap.size := by omega
      have nw201 : ¬ w.heap.size + 1 = w2.heap.size := by omega
      have nw201' : ¬ w2.heap.size = w.heap.size + 1 := by omega
      have nw240 : ¬ w.heap.size = w2.heap.size + 1 := by omega
      have nw240' : ¬ w2.heap.size + 1 = w.heap.size := by omega
      have nw241 : ¬ w.heap.size + 1 = w2.heap.size + 1 := by omega
      have nw241' : ¬ w2.heap.size + 1 = w.heap.size + 1 := by omega))
  all_goals (
   go_wp2_with fail
   go_meet
   have ltz := k_v.lt
   refine ⟨_, _, x, y, rfl, rfl, Lib.hid ⟨?_, ?_, ?_⟩⟩
   rotate_left
   · omega
   · omega
   first
   | (with_reducible refine pair_new hx hy k_v HB)
   | (with_reducible refine pair_swap hx hy k_v HB)
   | ((with_reducible refine pair_put p1 ?_ ?_ hx hy k_v HB) <;> omega)
   | ((with_reducible refine pair_put' p1 ?_ ?_ hx hy k_v HB) <;> omega)
   | ((with_reducible refine pair_both p1 p2 ?_ ?_ ?_ ?_ ?_ hx hy k_v HB) <;> omega)
   | ((with_reducible refine pair_both p2 p1 ?_ ?_ ?_ ?_ ?_ hx hy k_v HB) <;> omega))
 case rest =>
  obtain ⟨bx, bY, x, y, rfl, rfl, HC⟩ := hcut
  obtain ⟨⟨k_x, k_y, hx, hy, k_q, HB⟩, nex, ney⟩ := HC.out
  have nex' := Ne.symm nex
  have ney' := Ne.symm ney
  clear HC hv hu k_v k_u
  have hxn := hx.num.lower (Nat.zero_le _)
  have hxd := hx.den.lower (Nat.zero_le _)
  have hyn := hy.num.lower (Nat.zero_le _)
  have hyd := hy.den.lower (Nat.zero_le _)
  have cxn := hx.numCap
  have cxd := hx.denCap
  have cyn := hy.numCap
  have cyd := hy.denCap
  have lxn : x.n ≤ 28500000000 := by rw [hx.numLen]; exact z_r.num.len
  have lxd : x.m ≤ 28500000000 := by rw [hx.denLen]; exact z_r.den.len
  have lyn : y.n ≤ 28500000000 := by rw [hy.numLen]; exact z_s.num.len
  have lyd : y.m ≤ 28500000000 := by rw [hy.denLen]; exact z_s.den.len
  have sgx : x.s = decide (r.num < 0) := hx.sign
  have sgy : y.s = decide (s.num < 0) := hy.sign
  have hse : (x.s == y.s) = true := by rw [sgx, sgy, hss.out]; simp
  clear sgx sgy
  clear hx hy nex ney nex' ney' k_q
  obtain ⟨x_0, x_1, x_2, x_3, x_4, x_5⟩ := k_x.facts
  obtain ⟨y_0, y_1, y_2, y_3, y_4, y_5⟩ := k_y.facts
  go_wp2_with fail
  refine (rlimbs_v x.A y.A x.n y.n x.c y.c _ _ false _ (by omega) (by omega) hxn hyn Hn.out).mono ?_
  rintro e w1 ⟨rfl, hb⟩
  replace HB := HB.trans (hb.mono HB.size)
  replace k_x := k_x.below hb
  replace k_y := k_y.below hb
  replace hxn := hxn.below hb
  replace hxd := hxd.below hb
  replace hyn := hyn.below hb
  replace hyd := hyd.below hb
  clear hb x_0 x_1 x_2 x_3 x_4 x_5 y_0 y_1 y_2 y_3 y_4 y_5
  obtain ⟨x_0, x_1, x_2, x_3, x_4, x_5⟩ := k_x.facts
  obtain ⟨y_0, y_1, y_2, y_3, y_4, y_5⟩ := k_y.facts
  go_wp2
  go_ret
  exact ⟨rfl, HB⟩
set_option maxHeartbeats 8000000 in
theorem rSame_den (v u : Rv) (r s : Rat) (w : World) (hv : Rw w v r 28500000000) (hu : Rw w u s 28500000000) (hss : Hid (decide (r.num < 0) = decide (s.num < 0))) (Hn : Hid (decide (lim r.num.natAbs = lim s.num.natAbs) = true)) (b : Bool) (Hd : Hid (decide (lim r.den = lim s.den) = b)) :
  Calls Tryz.prog 23 #[.agg #[.bool v.s, .slice v.A v.n v.c, .slice v.B v.m v.d], .agg #[.bool u.s, .slice u.A u.n u.c, .slice u.B u.m u.d]] w fun e w' => e = .returned (.bool b) ∧ Below w.heap.size w w' := by
 have z_r : Sz r 28500000000 := hv.sz (by omega)
 have z_s : Sz s 28500000000 := hu.sz (by omega)
 go_enter Tryz.func23, Tryz.ntmps23
 go_wp2_with fail
 generalize hW : ((w.alloc (.cells #[.bool v.s, .slice v.A v.n v.c, .slice v.B v.m v.d] 26)).alloc (.cells #[.bool u.s, .slice u.A u.n u.c, .slice u.B u.m u.d] 26)) = W
 obtain ⟨k_v, k_u, HB, hsW⟩ := open2 w v u W hW
 clear hW
 replace hv := hv.below HB
 replace hu := hu.below HB
 have hlw : W.heap.size ≥ w.heap.size + 2 := by omega
 clear hsW
 go_cut [5, 6] from 5 to 10 (fun vx vy wx => ∃ (bx bY : Nat) (x y : Rv), vx = .pointer (some ⟨bx, 0, none⟩) ∧ vy = .pointer (some ⟨bY, 0, none⟩) ∧ Hid (PairAt w wx (w.heap.size) (.bool v.s) (.slice v.A v.n v.c) (.slice v.B v.m v.d) bx bY x y r s ∧ bx ≠ w.heap.size ∧ bY ≠ w.heap.size))
 case first =>
  obtain ⟨v_0, v_1, v_2, v_3, v_4, v_5⟩ := k_v.facts
  obtain ⟨u_0, u_1, u_2, u_3, u_4, u_5⟩ := k_u.facts
  have nW00 : ¬ w.heap.size = W.heap.size := by omega
  have nW00' : ¬ W.heap.size = w.heap.size := by omega
  have nW01 : ¬ w.heap.size + 1 = W.heap.size := by omega
  have nW01' : ¬ W.heap.size = w.heap.size + 1 := by omega
  have nW40 : ¬ w.heap.size = W.heap.size + 1 := by omega
  have nW40' : ¬ W.heap.size + 1 = w.heap.size := by omega
  have nW41 : ¬ w.heap.size + 1 = W.heap.size + 1 := by omega
  have nW41' : ¬ W.heap.size + 1 = w.heap.size + 1 := by omega
  replace hv := hv.more (show 28500000000 ≤ 60000000000 by omega)
  replace hu := hu.more (show 28500000000 ≤ 60000000000 by omega)
  go_region_held3 (fun w' => w'.cell? ⟨w.heap.size, 0, none⟩ = some (.bool v.s) ∧ w'.cell? ⟨w.heap.size, 1, none⟩ = some (.slice v.A v.n v.c) ∧ w'.cell? ⟨w.heap.size, 2, none⟩ = some (.slice v.B v.m v.d) ∧ w'.cell? ⟨w.heap.size + 1, 0, none⟩ = some (.bool u.s) ∧ w'.cell? ⟨w.heap.size + 1, 1, none⟩ = some (.slice u.A u.n u.c) ∧ w'.cell? ⟨w.heap.size + 1, 2, none⟩ = some (.slice u.B u.m u.d)) (go_keep)
    (first
    | (
      go_at_call_of 54 v
      refine (rNorm_c v r _ ?_).mono ?_
      ·
       first
       | exact hv.drew
       | exact (hv.alloc _).drew
       | exact ((hv.alloc _).alloc _).drew
      rintro e w1 ⟨x, rfl, hx, hb⟩
      replace hb := Below.undrew hb
      have hbW : Below W.heap.size W w1 := by
       first
       | exact hb
       | exact ((Below.refl _ _).alloc (Nat.le_refl _) _).trans (hb.mono (by simp))
       | exact (((Below.refl _ _).alloc (Nat.le_refl _) _).alloc (by simp) _).trans (hb.mono (by simp; omega))
      first
      | (
       have p2 : C3 w1 (W.heap.size + 1) (.bool false) (.slice none 0 0) (.slice none 0 0) := by
        have := (C3.new (W.alloc (.cells #[.bool false, .slice none 0 0, .slice none 0 0] 26)) (.bool false) (.slice none 0 0) (.slice none 0 0)).below hb
        simpa using this
       have p1 := ((C3.new W (.bool false) (.slice none 0 0) (.slice none 0 0)).alloc (.cells #[.bool false, .slice none 0 0, .slice none 0 0] 26)).below hb
       have lt2 := p2.lt)
      | have p1 := (C3.new W (.bool false) (.slice none 0 0) (.slice none 0 0)).below hb
      | skip
      try have lt1 := p1.lt
      replace HB := HB.trans (hbW.mono HB.size)
      replace k_v := k_v.below hbW
      replace k_u := k_u.below hbW
      replace hu := hu.below hbW
      have hs1 := hbW.size
      replace hx := hx.lower (lo' := w.heap.size + 2) (by first | (simp; omega) | omega)
      clear hb hbW v_0 v_1 v_2 v_3 v_4 v_5 u_0 u_1 u_2 u_3 u_4 u_5
      obtain ⟨v_0, v_1, v_2, v_3, v_4, v_5⟩ := k_v.facts
      obtain ⟨u_0, u_1, u_2, u_3, u_4, u_5⟩ := k_u.facts
      try obtain ⟨p_0, p_1, p_2, p_3, p_4, p_5⟩ := p1.facts
      try obtain ⟨q_0, q_1, q_2, q_3, q_4, q_5⟩ := p2.facts
      have nw100 : ¬ w.heap.size = w1.heap.size := by omega
      have nw100' : ¬ w1.heap.size = w.heap.size := by omega
      have nw101 : ¬ w.heap.size + 1 = w1.heap.size := by omega
      have nw101' : ¬ w1.heap.size = w.heap.size + 1 := by omega
      have nw140 : ¬ w.heap.size = w1.heap.size + 1 := by omega
      have nw140' : ¬ w1.heap.size + 1 = w.heap.size := by omega
      have nw141 : ¬ w.heap.size + 1 = w1.heap.size + 1 := by omega
      have nw141' : ¬ w1.heap.size + 1 = w.heap.size + 1 := by omega)
    | (
      go_at_call_of 54 u
      refine (rNorm_c u s _ ?_).mono ?_
      ·
       first
       | exact hu
       | exact hu.alloc _
       | exact (hu.alloc _).alloc _
      rintro e w2 ⟨y, rfl, hy, hb⟩
      have hbW : Below w1.heap.size w1 w2 := by
       first
       | exact hb
       | exact ((Below.refl _ _).alloc (Nat.le_refl _) _).trans (hb.mono (by simp))
       | exact (((Below.refl _ _).alloc (Nat.le_refl _) _).alloc (by simp) _).trans (hb.mono (by simp; omega))
      first
      | (
       have p2 : C3 w2 (w1.heap.size + 1) (.bool false) (.slice none 0 0) (.slice none 0 0) := by
        have := (C3.new (w1.alloc (.cells #[.bool false, .slice none 0 0, .slice none 0 0] 26)) (.bool false) (.slice none 0 0) (.slice none 0 0)).below hb
        simpa using this
       have p1 := ((C3.new w1 (.bool false) (.slice none 0 0) (.slice none 0 0)).alloc (.cells #[.bool false, .slice none 0 0, .slice none 0 0] 26)).below hb
       have lt1 := p1.lt)
      | (
       replace p1 := p1.below hbW
       have p2 := (C3.new w1 (.bool false) (.slice none 0 0) (.slice none 0 0)).below hb)
      | (
       replace p1 := p1.below hbW
       replace p2 := p2.below hbW)
      | replace p1 := p1.below hbW
      | have p1 := (C3.new w1 (.bool false) (.slice none 0 0) (.slice none 0 0)).below hb
      | skip
      try have lt1 := p1.lt
      try have lt2 := p2.lt
      replace HB := HB.trans (hbW.mono HB.size)
      replace k_v := k_v.below hbW
      replace k_u := k_u.below hbW
      replace hx := hx.below hbW
      have hs2 := hbW.size
      replace hy := hy.lower (lo' := w.heap.size + 2) (by first | (simp; omega) | omega)
      clear hb hbW v_0 v_1 v_2 v_3 v_4 v_5 u_0 u_1 u_2 u_3 u_4 u_5
      obtain ⟨v_0, v_1, v_2, v_3, v_4, v_5⟩ := k_v.facts
      obtain ⟨u_0, u_1, u_2, u_3, u_4, u_5⟩ := k_u.facts
      try clear p_0 p_1 p_2 p_3 p_4 p_5
      try clear q_0 q_1 q_2 q_3 q_4 q_5
      try obtain ⟨p_0, p_1, p_2, p_3, p_4, p_5⟩ := p1.facts
      try obtain ⟨q_0, q_1, q_2, q_3, q_4, q_5⟩ := p2.facts
      have nw200 : ¬ w.heap.size = w2.heap.size := by omega
      have nw200' : ¬ w2.heap.size = w.heap.size := by omega
      have nw201 : ¬ w.heap.size + 1 = w2.heap.size := by omega
      have nw201' : ¬ w2.heap.size = w.heap.size + 1 := by omega
      have nw240 : ¬ w.heap.size = w2.heap.size + 1 := by omega
      have nw240' : ¬ w2.heap.size + 1 = w.heap.size := by omega
      have nw241 : ¬ w.heap.size + 1 = w2.heap.size + 1 := by omega
      have nw241' : ¬ w2.heap.size + 1 = w.heap.size + 1 := by omega))
  all_goals (
   go_wp2_with fail
   go_meet
   have ltz := k_v.lt
   refine ⟨_, _, x, y, rfl, rfl, Lib.hid ⟨?_, ?_, ?_⟩⟩
   rotate_left
   · omega
   · omega
   first
   | (with_reducible refine pair_new hx hy k_v HB)
   | (with_reducible refine pair_swap hx hy k_v HB)
   | ((with_reducible refine pair_put p1 ?_ ?_ hx hy k_v HB) <;> omega)
   | ((with_reducible refine pair_put' p1 ?_ ?_ hx hy k_v HB) <;> omega)
   | ((with_reducible refine pair_both p1 p2 ?_ ?_ ?_ ?_ ?_ hx hy k_v HB) <;> omega)
   | ((with_reducible refine pair_both p2 p1 ?_ ?_ ?_ ?_ ?_ hx hy k_v HB) <;> omega))
 case rest =>
  obtain ⟨bx, bY, x, y, rfl, rfl, HC⟩ := hcut
  obtain ⟨⟨k_x, k_y, hx, hy, k_q, HB⟩, nex, ney⟩ := HC.out
  have nex' := Ne.symm nex
  have ney' := Ne.symm ney
  clear HC hv hu k_v k_u
  have hxn := hx.num.lower (Nat.zero_le _)
  have hxd := hx.den.lower (Nat.zero_le _)
  have hyn := hy.num.lower (Nat.zero_le _)
  have hyd := hy.den.lower (Nat.zero_le _)
  have cxn := hx.numCap
  have cxd := hx.denCap
  have cyn := hy.numCap
  have cyd := hy.denCap
  have lxn : x.n ≤ 28500000000 := by rw [hx.numLen]; exact z_r.num.len
  have lxd : x.m ≤ 28500000000 := by rw [hx.denLen]; exact z_r.den.len
  have lyn : y.n ≤ 28500000000 := by rw [hy.numLen]; exact z_s.num.len
  have lyd : y.m ≤ 28500000000 := by rw [hy.denLen]; exact z_s.den.len
  have sgx : x.s = decide (r.num < 0) := hx.sign
  have sgy : y.s = decide (s.num < 0) := hy.sign
  have hse : (x.s == y.s) = true := by rw [sgx, sgy, hss.out]; simp
  clear sgx sgy
  clear hx hy nex ney nex' ney' k_q
  obtain ⟨x_0, x_1, x_2, x_3, x_4, x_5⟩ := k_x.facts
  obtain ⟨y_0, y_1, y_2, y_3, y_4, y_5⟩ := k_y.facts
  go_wp2_with fail
  refine (rlimbs_v x.A y.A x.n y.n x.c y.c _ _ true _ (by omega) (by omega) hxn hyn Hn.out).mono ?_
  rintro e w1 ⟨rfl, hb⟩
  replace HB := HB.trans (hb.mono HB.size)
  replace k_x := k_x.below hb
  replace k_y := k_y.below hb
  replace hxn := hxn.below hb
  replace hxd := hxd.below hb
  replace hyn := hyn.below hb
  replace hyd := hyd.below hb
  clear hb x_0 x_1 x_2 x_3 x_4 x_5 y_0 y_1 y_2 y_3 y_4 y_5
  obtain ⟨x_0, x_1, x_2, x_3, x_4, x_5⟩ := k_x.facts
  obtain ⟨y_0, y_1, y_2, y_3, y_4, y_5⟩ := k_y.facts
  go_wp2_with fail
  refine (rlimbs_v x.B y.B x.m y.m x.d y.d _ _ b _ (by omega) (by omega) hxd hyd Hd.out).mono ?_
  rintro e w2 ⟨rfl, hb⟩
  replace HB := HB.trans (hb.mono HB.size)
  replace k_x := k_x.below hb
  replace k_y := k_y.below hb
  replace hxn := hxn.below hb
  replace hxd := hxd.below hb
  replace hyn := hyn.below hb
  replace hyd := hyd.below hb
  clear hb x_0 x_1 x_2 x_3 x_4 x_5 y_0 y_1 y_2 y_3 y_4 y_5
  obtain ⟨x_0, x_1, x_2, x_3, x_4, x_5⟩ := k_x.facts
  obtain ⟨y_0, y_1, y_2, y_3, y_4, y_5⟩ := k_y.facts
  go_wp2
  go_ret
  exact ⟨rfl, HB⟩
theorem rSame_c (v u : Rv) (r s : Rat) (w : World) (hv : Rw w v r 28500000000) (hu : Rw w u s 28500000000) :
  Calls Tryz.prog 23 #[.agg #[.bool v.s, .slice v.A v.n v.c, .slice v.B v.m v.d], .agg #[.bool u.s, .slice u.A u.n u.c, .slice u.B u.m u.d]] w fun e w' => e = .returned (.bool (decide (r = s))) ∧ Below w.heap.size w w' := by
 by_cases h1 : decide (r.num < 0) = decide (s.num < 0)
 ·
  by_cases h2 : lim r.num.natAbs = lim s.num.natAbs
  ·
   have e : decide (lim r.den = lim s.den) = decide (r = s) := by
    by_cases h3 : lim r.den = lim s.den
    ·
     rw [decide_eq_true h3, decide_eq_true]
     have e1 := lim_inj h2
     have e2 := lim_inj h3
     rw [← rn_self r, ← rn_self s, h1, e1, e2]
    ·
     rw [decide_eq_false h3, decide_eq_false]
     intro e; exact h3 (by rw [e])
   exact rSame_den v u r s w hv hu h1 (decide_eq_true h2) _ e
  ·
   have e : decide (r = s) = false := decide_eq_false (fun e => h2 (by rw [e]))
   rw [e]; exact rSame_num v u r s w hv hu h1 (decide_eq_false h2)
 ·
  have e : decide (r = s) = false := decide_eq_false (fun e => h1 (by rw [e]))
  rw [e]; exact rSame_sign v u r s w hv hu h1
end Go.Proofs.YtgffkaconhonlaaGreat
