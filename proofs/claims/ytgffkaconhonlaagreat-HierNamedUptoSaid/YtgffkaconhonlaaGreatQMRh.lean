/-
  The document's rationals, seventh part: the other sign, differences, comparisons.
  The document's rationals, eighth part: whether two are one.
-/
import Derived.Test.YtgffkaconhonlaaGreatQMRr
import Derived.Test.YtgffkaconhonlaaGreatQMRf
namespace Go.Proofs.YtgffkaconhonlaaGreat
set_option maxRecDepth 20000
open Go.RowKit
theorem Rt.negOf {w : World} {lo : Nat} {z : Rv} {r : Rat} {b : Bool} (h : Rt w lo z r) (hb : b = decide ((-r).num < 0)) : Rt w lo ⟨b, z.A, z.n, z.c, z.B, z.m, z.d⟩ (-r) := by
 have e : (-r).num.natAbs = r.num.natAbs := by rw [Rat.neg_num, Int.natAbs_neg]
 refine ⟨hb, ?_, h.3, ?_, ?_, h.6, ?_⟩
 · show z.n = _; rw [e]; exact h.2
 · show Row w lo z.A z.n _; rw [e]; exact h.4
 · show z.m = _; rw [Rat.neg_den]; exact h.5
 · show Row w lo z.B z.m _; rw [Rat.neg_den]; exact h.7
theorem sign_neg {r : Rat} : decide ((-r).num < 0) = (!decide (r.num < 0) && decide (r ≠ 0)) := by
 rw [Rat.neg_num]
 by_cases h0 : r = 0
 · subst h0; rfl
 ·
  have := num_ne h0
  by_cases h : r.num < 0
  · rw [decide_eq_true h, decide_eq_false (by omega)]; rfl
  · rw [decide_eq_false h, decide_eq_true (by omega), decide_eq_true h0]; rfl
set_option maxHeartbeats 1600000 in
theorem rNeg_c (v : Rv) (r : Rat) (w : World) (hv : Rw w v r 60000000000) :
  Calls Tryz.prog 29 #[.agg #[.bool v.s, .slice v.A v.n v.c, .slice v.B v.m v.d]] w fun e w' => ∃ z : Rv, e = .returned (.agg #[.bool z.s, .slice z.A z.n z.c, .slice z.B z.m z.d]) ∧ Rt w' w.heap.size z (-r) ∧ Below w.heap.size w w' := by
 have z_r := hv.sz (by omega)
 go_enter Tryz.func29, Tryz.ntmps29
 go_wp2_with fail
 generalize hW : ((w.alloc (.cells #[.bool v.s, .slice v.A v.n v.c, .slice v.B v.m v.d] 26)).alloc (.cells #[.bool false, .slice none 0 0, .slice none 0 0] 26)) = W
 obtain ⟨k_v, k_z, HB, hsW⟩ := open1z w v W hW
 clear hW
 refine (rNorm_c v r _ (hv.below HB)).mono ?_
 rintro e w1 ⟨z, rfl, hz, hb⟩
 have ltz := k_z.lt
 have hs1 := hb.size
 replace HB := HB.trans (hb.mono (by omega))
 replace k_z := k_z.below hb
 have ltz1 := k_z.lt
 clear hb k_v hv
 obtain ⟨z0, z1, z2, z3, z4, z5⟩ := k_z.facts
 have hsg := hz.sign
 have hsn := sign_neg (r := r)
 rw [← hsg] at hsn
 have hzn : (r = 0 ∧ z.n = 0) ∨ (r ≠ 0 ∧ 0 < z.n) := by
  by_cases h0 : r = 0
  · exact .inl ⟨h0, hz.n_zero h0⟩
  · exact .inr ⟨h0, hz.n_pos h0⟩
 have key : ∀ b : Bool, b = (!z.s && decide (r ≠ 0)) → Rt ((put3 w1 (w.heap.size + 1) (.bool b) (.slice z.A z.n z.c) (.slice z.B z.m z.d)).alloc (.cells #[.bool b, .slice z.A z.n z.c, .slice z.B z.m z.d] 26)) w.heap.size ⟨b, z.A, z.n, z.c, z.B, z.m, z.d⟩ (-r) := by
  intro b hb
  have h1 := ((hz.negOf (b := b) (by rw [hb, hsn])).put (b := w.heap.size + 1) (by omega) (.bool b) (.slice z.A z.n z.c) (.slice z.B z.m z.d)).lower (lo' := w.heap.size) (by omega)
  exact h1.below ((Below.refl _ _).alloc (Nat.le_refl _) _)
 have HK := Lib.hid key
 clear key hsg hsn hz
 have fin : ∀ b : Bool, C3 ((put3 w1 (w.heap.size + 1) (.bool b) (.slice z.A z.n z.c) (.slice z.B z.m z.d)).alloc (.cells #[.bool b, .slice z.A z.n z.c, .slice z.B z.m z.d] 26)) (w.heap.size + 1) (.bool b) (.slice z.A z.n z.c) (.slice z.B z.m z.d) ∧
   Below w.heap.size w ((put3 w1 (w.heap.size + 1) (.bool b) (.slice z.A z.n z.c) (.slice z.B z.m z.d)).alloc (.cells #[.bool b, .slice z.A z.n z.c, .slice z.B z.m z.d] 26)) := by
  intro b
  have hp := put3_below (w := w1) (b := w.heap.size + 1) (B := w.heap.size) (by omega) (.bool b) (.slice z.A z.n z.c) (.slice z.B z.m z.d)
  exact ⟨(k_z.put _ _ _).alloc _, (HB.trans hp).alloc (by simp; omega) _⟩
 have HF := Lib.hid fin
 clear fin
 obtain ⟨zs, zA, zn, zc, zB, zm, zd⟩ := z
 simp only at hzn HK HF
 cases zs
 ·
  rcases hzn with ⟨h0, h1⟩ | ⟨h0, h1⟩
  ·
   have H0 := Lib.hid h0
   subst h1
   clear h0
   go_wp2
   refine ret3c (fn := Tryz.f29) Tryz.results29 rfl rfl (HF.out false).1 ?_
   exact ⟨_, rfl, HK.out false (by simp [H0.out]), (HF.out false).2⟩
  ·
   have H0 := Lib.hid h0
   clear h0
   go_wp2
   refine ret3c (fn := Tryz.f29) Tryz.results29 rfl rfl (HF.out true).1 ?_
   exact ⟨_, rfl, HK.out true (by simp [H0.out]), (HF.out true).2⟩
 ·
  clear hzn
  go_wp2
  refine ret3c (fn := Tryz.f29) Tryz.results29 rfl rfl (HF.out false).1 ?_
  exact ⟨_, rfl, HK.out false (by simp), (HF.out false).2⟩
set_option maxHeartbeats 1600000 in
theorem rSub_c (v u : Rv) (r s : Rat) (w : World) (hv : Rw w v r 28500000000) (hu : Rw w u s 28500000000) :
  Calls Tryz.prog 107 #[.agg #[.bool v.s, .slice v.A v.n v.c, .slice v.B v.m v.d], .agg #[.bool u.s, .slice u.A u.n u.c, .slice u.B u.m u.d]] w fun e w' => ∃ z : Rv, e = .returned (.agg #[.bool z.s, .slice z.A z.n z.c, .slice z.B z.m z.d]) ∧ Rt w' w.heap.size z (r - s) ∧ Below w.heap.size w w' := by
 have z_s := hu.sz (by omega)
 have n_s := z_s.neg
 go_enter Tryz.func107, Tryz.ntmps107
 go_wp2_with fail
 generalize hW : (((w.alloc (.cells #[.bool v.s, .slice v.A v.n v.c, .slice v.B v.m v.d] 26)).alloc (.cells #[.bool u.s, .slice u.A u.n u.c, .slice u.B u.m u.d] 26)).alloc (.cells #[.bool false, .slice none 0 0, .slice none 0 0] 26)) = W
 obtain ⟨ka, kb, kz, HW, hsW⟩ := open2z w v u W hW
 clear hW
 obtain ⟨a0, a1, a2, a3, a4, a5⟩ := ka.facts
 obtain ⟨b0, b1, b2, b3, b4, b5⟩ := kb.facts
 replace hv := (hv.below HW).drew
 replace hu := ((hu.below HW).more (show 28500000000 ≤ 60000000000 by omega)).drew
 replace ka := ka.drew
 replace kb := kb.drew
 replace kz := kz.drew
 have HB := HW.trans (below_drewN' w.heap.size W 1)
 have hn1 : ¬ w.heap.size = w.heap.size + 1 + 1 := by omega
 have hn2 : ¬ w.heap.size + 1 + 1 = w.heap.size := by omega
 go_region_held3 (fun w' => w'.cell? ⟨w.heap.size, 0, none⟩ = some (.bool v.s) ∧ w'.cell? ⟨w.heap.size, 1, none⟩ = some (.slice v.A v.n v.c) ∧ w'.cell? ⟨w.heap.size, 2, none⟩ = some (.slice v.B v.m v.d) ∧ w'.cell? ⟨w.heap.size + 1, 0, none⟩ = some (.bool u.s) ∧ w'.cell? ⟨w.heap.size + 1, 1, none⟩ = some (.slice u.A u.n u.c) ∧ w'.cell? ⟨w.heap.size + 1, 2, none⟩ = some (.slice u.B u.m u.d)) (go_keep)
   (first
   | (
     go_at_call 29
     refine (rNeg_c u s _ hu).mono ?_
     rintro e w1 ⟨x, rfl, hx, hb⟩
     replace HB := HB.trans (hb.mono HB.size)
     replace ka := ka.below hb
     replace kb := kb.below hb
     replace kz := kz.below hb
     replace hv := hv.below hb
     have hx2 := hx.rw n_s
     have ltz := kz.lt
     clear hb a0 a1 a2 a3 a4 a5 b0 b1 b2 b3 b4 b5
     obtain ⟨a0, a1, a2, a3, a4, a5⟩ := ka.facts
     obtain ⟨b0, b1, b2, b3, b4, b5⟩ := kb.facts
     obtain ⟨z0, z1, z2, z3, z4, z5⟩ := kz.facts)
   | (
     go_at_call 30
     refine (rAdd_c v x r (-s) _ hv hx2).mono ?_
     rintro e w2 ⟨z, rfl, hz, hb⟩
     replace HB := HB.trans (hb.mono HB.size)
     replace ka := ka.below hb
     replace kb := kb.below hb
     replace kz := kz.below hb
     clear hb a0 a1 a2 a3 a4 a5 b0 b1 b2 b3 b4 b5 z0 z1 z2 z3 z4 z5
     obtain ⟨a0, a1, a2, a3, a4, a5⟩ := ka.facts
     obtain ⟨b0, b1, b2, b3, b4, b5⟩ := kb.facts
     obtain ⟨z0, z1, z2, z3, z4, z5⟩ := kz.facts))
 rw [← Rat.sub_eq_add_neg] at hz
 go_wp2
 refine ret3 (fn := Tryz.f107) Tryz.results107 rfl rfl kz ?_
 exact ⟨z, rfl, (hz.put (by omega) _ _ _).lower (by omega), HB.trans (put3_below (by omega) _ _ _)⟩
end Go.Proofs.YtgffkaconhonlaaGreat
namespace Go.Proofs.YtgffkaconhonlaaGreat
set_option maxRecDepth 20000
open Go.RowKit
theorem dg_ext {l l' : List Nat} (hl : l.length = l'.length) (h : ∀ j, j < l.length → dg l j = dg l' j) : l = l' := by
 apply List.ext_getElem hl
 intro i h1 h2
 have := h i h1
 rw [dg_eq, dg_eq] at this
 simpa [h1, h2] using this
set_option maxHeartbeats 800000 in
theorem rlimbs_any (A A' : Option Addr) (n n' c c' : Nat) (l l' : List Nat) (w : World) (hn : n ≤ 15000000000000) (hn' : n' ≤ 15000000000000) (hr : Row w 0 A n l) (hr' : Row w 0 A' n' l') :
  Calls Tryz.prog 55 #[.slice A n c, .slice A' n' c'] w fun e w' => e = .returned (.bool (decide (l = l'))) ∧ Below w.heap.size w w' := by
 by_cases hnn : n = n'
 ·
  subst hnn
  have HL := Lib.hid (show l.length = n ∧ l'.length = n from ⟨hr.len, hr'.len⟩)
  go_enter Tryz.func55, Tryz.ntmps55
  go_wp2
  go_loopw [5] (fun i wr => ∃ k q : Nat, k ≤ n ∧ i = .int .i64 k ∧ wr = w.drewN q ∧ Hid (∀ j, j < k → dg l j = dg l' j)) (fun i _ => n - (intOf i).toNat)
  case atStart => exact ⟨0, 0, Nat.zero_le _, rfl, rfl, Lib.hid (fun j hj => absurd hj (by omega))⟩
  case round =>
   obtain ⟨k, q, hk, rfl, rfl, HJ⟩ := hrel
   by_cases h0 : k < n
   ·
    obtain ⟨b, off, rfl, h1, h2, hc⟩ := hr.mem (by omega)
    obtain ⟨b', off', rfl, h1', h2', hc'⟩ := hr'.mem (by omega)
    have hc0 := hc k h0
    have hc0' := hc' k h0
    by_cases he : dg l k = dg l' k
    ·
     have HJ2 : Hid (∀ j, j < k + 1 → dg l j = dg l' j) := by
      intro j hj
      by_cases hjk : j = k
      · subst hjk; exact he
      · exact HJ.out j (by omega)
     rw [← he] at hc0'
     clear hc hc' hr hr' he
     generalize dg l k = x at *
     go_wp2
     go_quiet (fail)
     go_wp2
     go_roundw
     case rel => exact ⟨k + 1, _, by omega, by go_num, rfl, HJ2⟩
     case measure => simp [intOf]; omega
    ·
     have HE := Lib.hid (show ¬ l = l' from fun e => he (by rw [e]))
     have hne : ((dg l k : Nat) : Int) ≠ ((dg l' k : Nat) : Int) := by omega
     have hbe : (((dg l k : Nat) : Int) == ((dg l' k : Nat) : Int)) = false := beq_eq_false_iff_ne.2 hne
     have hbn : (((dg l k : Nat) : Int) != ((dg l' k : Nat) : Int)) = true := bne_iff_ne.2 hne
     clear hc hc' hr hr' he
     generalize dg l k = x at *
     generalize dg l' k = y at *
     go_wp2
     go_quiet (fail)
     go_wp2
     go_ret
     exact ⟨by rw [decide_eq_false HE.out]; rfl, (below_drewN' _ _ _).trans (below_drewN' _ _ _)⟩
   ·
    have HE : Hid (l = l') := by
     have h3 := HL.out
     exact dg_ext (by omega) (fun j hj => HJ.out j (by omega))
    clear hr hr'
    go_wp2
    go_ret
    exact ⟨by rw [decide_eq_true HE.out]; rfl, below_drewN' _ _ _⟩
 ·
  have HE := Lib.hid (show ¬ l = l' from fun e => hnn (by rw [← hr.len, ← hr'.len, e]))
  clear hr hr'
  go_enter Tryz.func55, Tryz.ntmps55
  go_wp2
  go_ret
  exact ⟨by rw [decide_eq_false HE.out]; rfl, Below.refl _ _⟩
theorem rlimbs_v (A A' : Option Addr) (n n' c c' : Nat) (l l' : List Nat) (b : Bool) (w : World) (hn : n ≤ 15000000000000) (hn' : n' ≤ 15000000000000) (hr : Row w 0 A n l) (hr' : Row w 0 A' n' l') (hb : decide (l = l') = b) :
  Calls Tryz.prog 55 #[.slice A n c, .slice A' n' c'] w fun e w' => e = .returned (.bool b) ∧ Below w.heap.size w w' := by
 subst hb; exact rlimbs_any A A' n n' c c' l l' w hn hn' hr hr'
end Go.Proofs.YtgffkaconhonlaaGreat
