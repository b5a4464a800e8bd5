/-
  The program's rationals, eighth part: whether one is too large, whether it is normal.
  The program's rationals, ninth part: whether one is normal.
-/
import Derived.Test.YtjbhhccklfddaaaVMRb
namespace Go.Proofs.Ytjbhhccklfddaaa
set_option maxRecDepth 20000
open Go.RowKit
end Go.Proofs.Ytjbhhccklfddaaa
namespace Go.Proofs.Ytjbhhccklfddaaa
set_option maxRecDepth 20000
open Go.RowKit
set_option maxHeartbeats 1600000 in
theorem rIs1 (v : Rv) (a b : List Nat) (w : World) (h1 : v.n ≤ v.c) (h2 : v.m ≤ v.d) (h3 : v.n ≤ 20000000000) (h4 : v.m ≤ 20000000000) (ha : Row w 0 v.A v.n a) (hb : Row w 0 v.B v.m b) (tA : 0 < v.n ∧ dg a (v.n - 1) = 0) :
  Calls Try.prog 56 #[.agg #[.bool v.s, .slice v.A v.n v.c, .slice v.B v.m v.d]] w fun e w' => e = .returned (.bool false) ∧ Below w.heap.size w w' := by
 have u_ := And.intro h1 (And.intro h2 (And.intro h3 h4))
 clear u_
 go_enter Try.func56, Try.ntmps56
 go_wp2_with fail
 generalize hW : (w.alloc (.cells #[.bool v.s, .slice v.A v.n v.c, .slice v.B v.m v.d] 37)) = W
 obtain ⟨k, HB, hsW⟩ := open1 w v W hW
 clear hW hsW
 have ha1 := ha.below HB
 have hb1 := hb.below HB
 skip
 obtain ⟨c0, c1, c2, c3, c4, c5⟩ := k.facts
 refine (Is_no v.A v.n v.c a _ (by omega) ha1 tA.1 tA.2).mono ?_
 rintro e w1 ⟨rfl, rfl⟩
 go_wp2
 go_ret
 exact ⟨rfl, HB⟩
set_option maxHeartbeats 1600000 in
theorem rIs2 (v : Rv) (a b : List Nat) (w : World) (h1 : v.n ≤ v.c) (h2 : v.m ≤ v.d) (h3 : v.n ≤ 20000000000) (h4 : v.m ≤ 20000000000) (ha : Row w 0 v.A v.n a) (hb : Row w 0 v.B v.m b) (tA : v.n = 0 ∨ dg a (v.n - 1) ≠ 0) (tB : 0 < v.m ∧ dg b (v.m - 1) = 0) :
  Calls Try.prog 56 #[.agg #[.bool v.s, .slice v.A v.n v.c, .slice v.B v.m v.d]] w fun e w' => e = .returned (.bool false) ∧ Below w.heap.size w w' := by
 have u_ := And.intro h1 (And.intro h2 (And.intro h3 h4))
 clear u_
 go_enter Try.func56, Try.ntmps56
 go_wp2_with fail
 generalize hW : (w.alloc (.cells #[.bool v.s, .slice v.A v.n v.c, .slice v.B v.m v.d] 37)) = W
 obtain ⟨k, HB, hsW⟩ := open1 w v W hW
 clear hW hsW
 have ha1 := ha.below HB
 have hb1 := hb.below HB
 skip
 obtain ⟨c0, c1, c2, c3, c4, c5⟩ := k.facts
 refine (Is_yes v.A v.n v.c a _ (by omega) ha1 tA).mono ?_
 rintro e w1 ⟨rfl, rfl⟩
 clear tA
 go_wp2_with fail
 refine (Is_no v.B v.m v.d b _ (by omega) hb1 tB.1 tB.2).mono ?_
 rintro e w1 ⟨rfl, rfl⟩
 go_wp2
 go_ret
 exact ⟨rfl, HB⟩
set_option maxHeartbeats 1600000 in
theorem rIs3 (v : Rv) (a b : List Nat) (w : World) (h1 : v.n ≤ v.c) (h2 : v.m ≤ v.d) (h3 : v.n ≤ 20000000000) (h4 : v.m ≤ 20000000000) (ha : Row w 0 v.A v.n a) (hb : Row w 0 v.B v.m b) (tA : v.n = 0 ∨ dg a (v.n - 1) ≠ 0) (tB : v.m = 0 ∨ dg b (v.m - 1) ≠ 0) (nB : Hid (val b = 0)) :
  Calls Try.prog 56 #[.agg #[.bool v.s, .slice v.A v.n v.c, .slice v.B v.m v.d]] w fun e w' => e = .returned (.bool false) ∧ Below w.heap.size w w' := by
 have u_ := And.intro h1 (And.intro h2 (And.intro h3 h4))
 clear u_
 go_enter Try.func56, Try.ntmps56
 go_wp2_with fail
 generalize hW : (w.alloc (.cells #[.bool v.s, .slice v.A v.n v.c, .slice v.B v.m v.d] 37)) = W
 obtain ⟨k, HB, hsW⟩ := open1 w v W hW
 clear hW hsW
 have ha1 := ha.below HB
 have hb1 := hb.below HB
 skip
 obtain ⟨c0, c1, c2, c3, c4, c5⟩ := k.facts
 refine (Is_yes v.A v.n v.c a _ (by omega) ha1 tA).mono ?_
 rintro e w1 ⟨rfl, rfl⟩
 clear tA
 go_wp2_with fail
 refine (Is_yes v.B v.m v.d b _ (by omega) hb1 tB).mono ?_
 rintro e w1 ⟨rfl, rfl⟩
 clear tB
 go_wp2_with fail
 refine (isNought_yes v.B v.m v.d b _ (by omega) h2 hb1 nB.out).mono ?_
 rintro e w1 ⟨rfl, rfl⟩
 go_wp2
 go_ret
 exact ⟨rfl, HB⟩
set_option maxHeartbeats 1600000 in
theorem rIs4 (v : Rv) (a b : List Nat) (w : World) (h1 : v.n ≤ v.c) (h2 : v.m ≤ v.d) (h3 : v.n ≤ 20000000000) (h4 : v.m ≤ 20000000000) (ha : Row w 0 v.A v.n a) (hb : Row w 0 v.B v.m b) (tA : v.n = 0 ∨ dg a (v.n - 1) ≠ 0) (tB : v.m = 0 ∨ dg b (v.m - 1) ≠ 0) (nB : Hid (val b ≠ 0)) (nA : Hid (val a = 0)) (hs : Hid (v.s = true)) :
  Calls Try.prog 56 #[.agg #[.bool v.s, .slice v.A v.n v.c, .slice v.B v.m v.d]] w fun e w' => e = .returned (.bool false) ∧ Below w.heap.size w w' := by
 have u_ := And.intro h1 (And.intro h2 (And.intro h3 h4))
 clear u_
 go_enter Try.func56, Try.ntmps56
 go_wp2_with fail
 generalize hW : (w.alloc (.cells #[.bool v.s, .slice v.A v.n v.c, .slice v.B v.m v.d] 37)) = W
 obtain ⟨k, HB, hsW⟩ := open1 w v W hW
 clear hW hsW
 have ha1 := ha.below HB
 have hb1 := hb.below HB
 rw [hs.out] at k
 obtain ⟨c0, c1, c2, c3, c4, c5⟩ := k.facts
 refine (Is_yes v.A v.n v.c a _ (by omega) ha1 tA).mono ?_
 rintro e w1 ⟨rfl, rfl⟩
 clear tA
 go_wp2_with fail
 refine (Is_yes v.B v.m v.d b _ (by omega) hb1 tB).mono ?_
 rintro e w1 ⟨rfl, rfl⟩
 clear tB
 go_wp2_with fail
 refine (isNought_no v.B v.m v.d b _ (by omega) h2 hb1 nB.out).mono ?_
 rintro e w1 ⟨rfl, rfl⟩
 go_wp2_with fail
 refine (isNought_yes v.A v.n v.c a _ (by omega) h1 ha1 nA.out).mono ?_
 rintro e w1 ⟨rfl, rfl⟩
 go_wp2
 go_ret
 exact ⟨rfl, HB⟩
set_option maxHeartbeats 1600000 in
theorem rIs5 (v : Rv) (a b : List Nat) (w : World) (h1 : v.n ≤ v.c) (h2 : v.m ≤ v.d) (h3 : v.n ≤ 20000000000) (h4 : v.m ≤ 20000000000) (ha : Row w 0 v.A v.n a) (hb : Row w 0 v.B v.m b) (tA : v.n = 0 ∨ dg a (v.n - 1) ≠ 0) (tB : v.m = 0 ∨ dg b (v.m - 1) ≠ 0) (nB : Hid (val b ≠ 0)) (hs : Hid (v.s = false)) (bb : Bool) (hbb : Hid (decide (Nat.gcd (val a) (val b) = 1) = bb)) :
  Calls Try.prog 56 #[.agg #[.bool v.s, .slice v.A v.n v.c, .slice v.B v.m v.d]] w fun e w' => e = .returned (.bool bb) ∧ Below w.heap.size w w' := by
 have u_ := And.intro h1 (And.intro h2 (And.intro h3 h4))
 clear u_
 go_enter Try.func56, Try.ntmps56
 go_wp2_with fail
 generalize hW : (w.alloc (.cells #[.bool v.s, .slice v.A v.n v.c, .slice v.B v.m v.d] 37)) = W
 obtain ⟨k, HB, hsW⟩ := open1 w v W hW
 clear hW hsW
 have ha1 := ha.below HB
 have hb1 := hb.below HB
 rw [hs.out] at k
 obtain ⟨c0, c1, c2, c3, c4, c5⟩ := k.facts
 refine (Is_yes v.A v.n v.c a _ (by omega) ha1 tA).mono ?_
 rintro e w1 ⟨rfl, rfl⟩
 clear tA
 go_wp2_with fail
 refine (Is_yes v.B v.m v.d b _ (by omega) hb1 tB).mono ?_
 rintro e w1 ⟨rfl, rfl⟩
 clear tB
 go_wp2_with fail
 refine (isNought_no v.B v.m v.d b _ (by omega) h2 hb1 nB.out).mono ?_
 rintro e w1 ⟨rfl, rfl⟩
 go_wp2_with fail
 have hgl : (lim (Nat.gcd (val a) (val b))).length ≤ 20000000000 := ((hb.bd h4).le (Nat.gcd_le_right _ (Nat.pos_of_ne_zero nB.out))).len
 refine (Gcd_any v.A v.B v.n v.m v.c v.d (val a) (val b) a b _ (by omega) (by omega) h1 h2 ha1 hb1 rfl rfl).mono ?_
 rintro e w2 ⟨G, cg, rfl, hcg, hrg, hb2⟩
 have HB2 := HB.trans (hb2.mono HB.size)
 replace k := k.below hb2
 clear hb2 ha1 hb1
 go_wp2_with fail
 refine (one_any _).mono ?_
 rintro e w3 ⟨I, ci, rfl, hoi, hb3⟩
 have HB3 := HB2.trans (hb3.mono HB2.size)
 have hrg3 := hrg.below hb3
 have hri := hoi.row.lower (Nat.zero_le _)
 have hci := hoi.capLe
 have hli : (lim 1).length ≤ 2 := lim_len_lt (by omega)
 have hcmp := Cmp_any G I _ _ cg ci _ _ w3 (by omega) (by omega) hcg hci hrg3 hri
 rw [val_lim, val_lim] at hcmp
 have HC := Lib.hid hcmp
 have hkk : ∃ k : Int, cmpI (Nat.gcd (val a) (val b)) 1 = k ∧ (k == 0) = bb := by
  refine ⟨_, rfl, ?_⟩
  rw [← hbb.out]
  rcases Nat.lt_trichotomy (Nat.gcd (val a) (val b)) 1 with h | h | h
  · rw [cmpI_lt h, decide_eq_false (by omega)]; rfl
  · rw [cmpI_eq h, decide_eq_true h]; rfl
  · rw [cmpI_gt h, decide_eq_false (by omega)]; rfl
 obtain ⟨k, hk1, hk2⟩ := hkk
 have HK := Lib.hid hk1
 clear hb3 hrg hrg3 hoi hcmp hk1
 go_wp2_with fail
 refine HC.out.mono ?_
 rintro e w4 ⟨rfl, q, rfl⟩
 rw [HK.out]
 go_wp2
 go_ret
 exact ⟨rfl, HB3.trans (below_drewN' _ _ q)⟩
set_option maxHeartbeats 1600000 in
theorem rIs6 (v : Rv) (a b : List Nat) (w : World) (h1 : v.n ≤ v.c) (h2 : v.m ≤ v.d) (h3 : v.n ≤ 20000000000) (h4 : v.m ≤ 20000000000) (ha : Row w 0 v.A v.n a) (hb : Row w 0 v.B v.m b) (tA : v.n = 0 ∨ dg a (v.n - 1) ≠ 0) (tB : v.m = 0 ∨ dg b (v.m - 1) ≠ 0) (nB : Hid (val b ≠ 0)) (nA : Hid (val a ≠ 0)) (hs : Hid (v.s = true)) (bb : Bool) (hbb : Hid (decide (Nat.gcd (val a) (val b) = 1) = bb)) :
  Calls Try.prog 56 #[.agg #[.bool v.s, .slice v.A v.n v.c, .slice v.B v.m v.d]] w fun e w' => e = .returned (.bool bb) ∧ Below w.heap.size w w' := by
 have u_ := And.intro h1 (And.intro h2 (And.intro h3 h4))
 clear u_
 go_enter Try.func56, Try.ntmps56
 go_wp2_with fail
 generalize hW : (w.alloc (.cells #[.bool v.s, .slice v.A v.n v.c, .slice v.B v.m v.d] 37)) = W
 obtain ⟨k, HB, hsW⟩ := open1 w v W hW
 clear hW hsW
 have ha1 := ha.below HB
 have hb1 := hb.below HB
 rw [hs.out] at k
 obtain ⟨c0, c1, c2, c3, c4, c5⟩ := k.facts
 refine (Is_yes v.A v.n v.c a _ (by omega) ha1 tA).mono ?_
 rintro e w1 ⟨rfl, rfl⟩
 clear tA
 go_wp2_with fail
 refine (Is_yes v.B v.m v.d b _ (by omega) hb1 tB).mono ?_
 rintro e w1 ⟨rfl, rfl⟩
 clear tB
 go_wp2_with fail
 refine (isNought_no v.B v.m v.d b _ (by omega) h2 hb1 nB.out).mono ?_
 rintro e w1 ⟨rfl, rfl⟩
 go_wp2_with fail
 refine (isNought_no v.A v.n v.c a _ (by omega) h1 ha1 nA.out).mono ?_
 rintro e w1 ⟨rfl, rfl⟩
 go_wp2_with fail
 have hgl : (lim (Nat.gcd (val a) (val b))).length ≤ 20000000000 := ((hb.bd h4).le (Nat.gcd_le_right _ (Nat.pos_of_ne_zero nB.out))).len
 refine (Gcd_any v.A v.B v.n v.m v.c v.d (val a) (val b) a b _ (by omega) (by omega) h1 h2 ha1 hb1 rfl rfl).mono ?_
 rintro e w2 ⟨G, cg, rfl, hcg, hrg, hb2⟩
 have HB2 := HB.trans (hb2.mono HB.size)
 replace k := k.below hb2
 clear hb2 ha1 hb1
 go_wp2_with fail
 refine (one_any _).mono ?_
 rintro e w3 ⟨I, ci, rfl, hoi, hb3⟩
 have HB3 := HB2.trans (hb3.mono HB2.size)
 have hrg3 := hrg.below hb3
 have hri := hoi.row.lower (Nat.zero_le _)
 have hci := hoi.capLe
 have hli : (lim 1).length ≤ 2 := lim_len_lt (by omega)
 have hcmp := Cmp_any G I _ _ cg ci _ _ w3 (by omega) (by omega) hcg hci hrg3 hri
 rw [val_lim, val_lim] at hcmp
 have HC := Lib.hid hcmp
 have hkk : ∃ k : Int, cmpI (Nat.gcd (val a) (val b)) 1 = k ∧ (k == 0) = bb := by
  refine ⟨_, rfl, ?_⟩
  rw [← hbb.out]
  rcases Nat.lt_trichotomy (Nat.gcd (val a) (val b)) 1 with h | h | h
  · rw [cmpI_lt h, decide_eq_false (by omega)]; rfl
  · rw [cmpI_eq h, decide_eq_true h]; rfl
  · rw [cmpI_gt h, decide_eq_false (by omega)]; rfl
 obtain ⟨k, hk1, hk2⟩ := hkk
 have HK := Lib.hid hk1
 clear hb3 hrg hrg3 hoi hcmp hk1
 go_wp2_with fail
 refine HC.out.mono ?_
 rintro e w4 ⟨rfl, q, rfl⟩
 rw [HK.out]
 go_wp2
 go_ret
 exact ⟨rfl, HB3.trans (below_drewN' _ _ q)⟩
def IsN (s : Bool) (a b : List Nat) : Prop := Tr a ∧ Tr b ∧ val b ≠ 0 ∧ (s = true → val a ≠ 0) ∧ Nat.gcd (val a) (val b) = 1
theorem tr_cases (l : List Nat) : Tr l ∨ (0 < l.length ∧ dg l (l.length - 1) = 0) := by
 unfold Tr
 by_cases h : l.length = 0
 · exact .inl (.inl h)
 ·
  by_cases h2 : dg l (l.length - 1) = 0
  · exact .inr ⟨by omega, h2⟩
  · exact .inl (.inr h2)
theorem Is_c (v : Rv) (a b : List Nat) (bb : Bool) (w : World) (h1 : v.n ≤ v.c) (h2 : v.m ≤ v.d) (h3 : v.n ≤ 20000000000) (h4 : v.m ≤ 20000000000) (ha : Row w 0 v.A v.n a) (hb : Row w 0 v.B v.m b) (hbb : bb = true ↔ IsN v.s a b) :
  Calls Try.prog 56 #[.agg #[.bool v.s, .slice v.A v.n v.c, .slice v.B v.m v.d]] w fun e w' => e = .returned (.bool bb) ∧ Below w.heap.size w w' := by
 have hla := ha.len
 have hlb := hb.len
 have no : ¬ IsN v.s a b → bb = false := fun h => by
  cases hq : bb
  · rfl
  · exact absurd (hbb.1 hq) h
 rcases tr_cases a with ta | ta
 ·
  have tA : v.n = 0 ∨ dg a (v.n - 1) ≠ 0 := by unfold Tr at ta; rw [hla] at ta; exact ta
  rcases tr_cases b with tb | tb
  ·
   have tB : v.m = 0 ∨ dg b (v.m - 1) ≠ 0 := by unfold Tr at tb; rw [hlb] at tb; exact tb
   by_cases hz : val b = 0
   · rw [no (fun h => h.2.2.1 hz)]; exact rIs3 v a b w h1 h2 h3 h4 ha hb tA tB hz
   ·
    rcases Bool.eq_false_or_eq_true v.s with hs | hs
    ·
     by_cases hx : val a = 0
     · rw [no (fun h => h.2.2.2.1 hs hx)]; exact rIs4 v a b w h1 h2 h3 h4 ha hb tA tB hz hx hs
     ·
      refine rIs6 v a b w h1 h2 h3 h4 ha hb tA tB hz hx hs bb ?_
      show _ = _
      by_cases hg : Nat.gcd (val a) (val b) = 1
      · rw [decide_eq_true hg, hbb.2 ⟨ta, tb, hz, fun _ => hx, hg⟩]
      · rw [decide_eq_false hg, no (fun h => hg h.2.2.2.2)]
    ·
     refine rIs5 v a b w h1 h2 h3 h4 ha hb tA tB hz hs bb ?_
     show _ = _
     by_cases hg : Nat.gcd (val a) (val b) = 1
     · rw [decide_eq_true hg, hbb.2 ⟨ta, tb, hz, fun h => absurd (hs.symm.trans h) (by decide), hg⟩]
     · rw [decide_eq_false hg, no (fun h => hg h.2.2.2.2)]
  ·
   rw [no (fun h => by have := h.2.1; unfold Tr at this; omega)]
   exact rIs2 v a b w h1 h2 h3 h4 ha hb tA ⟨by omega, by rw [← hlb]; exact tb.2⟩
 ·
  rw [no (fun h => by have := h.1; unfold Tr at this; omega)]
  exact rIs1 v a b w h1 h2 h3 h4 ha hb ⟨by omega, by rw [← hla]; exact ta.2⟩
theorem IsN_iff (s : Bool) (a b : List Nat) (la : L32 a) (lb : L32 b) (r : Rat) (hr : rn s (val a) (val b) = r) :
  IsN s a b ↔ (s = decide (r.num < 0) ∧ a = lim r.num.natAbs ∧ b = lim r.den) := by
 subst hr
 constructor
 ·
  rintro ⟨ta, tb, hz, hs, hg⟩
  have e1 : (rn s (val a) (val b)).num.natAbs = val a := by rw [rn_abs hz, hg, Nat.div_one]
  have e2 : (rn s (val a) (val b)).den = val b := by rw [rn_den hz, hg, Nat.div_one]
  refine ⟨?_, by rw [e1, lim_val la ta], by rw [e2, lim_val lb tb]⟩
  by_cases hx : val a = 0
  ·
   rw [rn_zero (.inl hx)]
   cases s
   · rfl
   · exact absurd hx (hs rfl)
  · exact (rn_sign hx hz).symm
 ·
  rintro ⟨h1, h2, h3⟩
  generalize hq : rn s (val a) (val b) = q at *
  have va : val a = q.num.natAbs := by rw [h2, val_lim]
  have vb : val b = q.den := by rw [h3, val_lim]
  refine ⟨by rw [h2]; exact lim_tr _, by rw [h3]; exact lim_tr _, by rw [vb]; exact q.den_nz, ?_, by rw [va, vb]; exact q.reduced⟩
  intro hs
  rw [va]
  rw [hs] at h1
  have := of_decide_eq_true h1.symm
  omega
end Go.Proofs.Ytjbhhccklfddaaa
