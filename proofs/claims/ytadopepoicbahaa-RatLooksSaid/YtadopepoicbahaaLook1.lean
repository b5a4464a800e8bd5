/-
  The program's rationals, eighth part: whether one is too large, whether it is normal.
  The program's rationals, ninth part: whether one is normal.
  The document's rationals, ninth part: whether one is too large, whole numbers, the whole number below, whether one is normal.
-/
import Derived.Test.YtadopepoicbahaaRatKit
import Derived.Test.YtadopepoicbahaaRefG
import Derived.Test.YtadopepoicbahaaRefH
namespace Go.Proofs.Ytadopepoicbahaa
open Go.RowKit

set_option maxHeartbeats 800000 in
theorem Large_short (v : Rv) (w : World) (h1 : v.n ≤ 16) (h2 : v.m ≤ 16) :
    Calls Try.prog 33 #[.agg #[.bool v.s, .slice v.A v.n v.c, .slice v.B v.m v.d]] w fun e w' => e = .returned (.bool false) ∧ Below w.heap.size w w' := by
  have e1 : decide (16 < v.n) = false := decide_eq_false (by omega)
  have e2 : decide (16 < v.m) = false := decide_eq_false (by omega)
  have HB := ((Below.refl w.heap.size w).alloc (Nat.le_refl _) (.cells #[.bool v.s, .slice v.A v.n v.c, .slice v.B v.m v.d] 24))
  go_enter Try.func33, Try.ntmps33
  go_wp2_with fail
  refine (isLong_any v.A v.n v.c _ (by omega)).mono ?_
  rintro e w1 ⟨rfl, rfl⟩
  rw [e1]
  go_wp2_with fail
  refine (isLong_any v.B v.m v.d _ (by omega)).mono ?_
  rintro e w1 ⟨rfl, rfl⟩
  rw [e2]
  go_wp2
  go_ret
  exact ⟨rfl, HB⟩

set_option maxHeartbeats 1600000 in
theorem Large_long (v : Rv) (r : Rat) (b : Bool) (w : World) (hv : Rw w v r 2000) (h : 16 < v.n ∨ 16 < v.m) (hb : decide (16 < (lim r.num.natAbs).length ∨ 16 < (lim r.den).length) = b) :
    Calls Try.prog 33 #[.agg #[.bool v.s, .slice v.A v.n v.c, .slice v.B v.m v.d]] w fun e w' => e = .returned (.bool b) ∧ Below w.heap.size w w' := by
  have hn := hv.numLe
  have hm := hv.denLe
  have z_r := hv.sz (by omega)
  have tail : ∀ (z : Rv) (w1 : World), Rt w1 (w.heap.size + 1) z r → z.n ≤ 2000 ∧ z.m ≤ 2000 ∧ ((decide (16 < z.n) = true ∧ b = true) ∨ (decide (16 < z.n) = false ∧ decide (16 < z.m) = b)) := by
    intro z w1 hz
    refine ⟨(hz.rw z_r).numLe, (hz.rw z_r).denLe, ?_⟩
    rw [hz.numLen, hz.denLen, ← hb]
    by_cases h1 : 16 < (lim r.num.natAbs).length
    · exact .inl ⟨decide_eq_true h1, decide_eq_true (.inl h1)⟩
    · refine .inr ⟨decide_eq_false h1, ?_⟩
      by_cases h2 : 16 < (lim r.den).length
      · rw [decide_eq_true h2, decide_eq_true (.inr h2)]
      · rw [decide_eq_false h2, decide_eq_false (by rintro (h | h) <;> contradiction)]
  have HT := Lib.hid tail
  have HBb := Lib.hid hb
  clear tail hb
  have front : (decide (16 < v.n) = true) ∨ (decide (16 < v.n) = false ∧ decide (16 < v.m) = true) := by
    by_cases h1 : 16 < v.n
    · exact .inl (decide_eq_true h1)
    · exact .inr ⟨decide_eq_false h1, decide_eq_true (by omega)⟩
  clear h
  go_enter Try.func33, Try.ntmps33
  go_wp2_with fail
  refine (isLong_any v.A v.n v.c _ (by omega)).mono ?_
  rintro e w1 ⟨rfl, rfl⟩
  rcases front with f1 | ⟨f1, f2⟩
  all_goals rw [f1]
  · skip
    go_wp2_with fail
    generalize hW : (w.alloc (.cells #[.bool v.s, .slice v.A v.n v.c, .slice v.B v.m v.d] 24)) = W
    obtain ⟨ka, HB, hsW⟩ := open1 w v W hW
    clear hW f1
    refine (Norm_any v r _ ((hv.below HB).more (by omega))).mono ?_
    rintro e w2 ⟨z, rfl, hz, hb⟩
    have hs2 := hb.size
    replace HB := HB.trans (hb.mono (by omega))
    replace ka := ka.below hb
    obtain ⟨t1, t2, t3⟩ := HT.out z w2 (hz.lower (by omega))
    have k3 : C3 (((w2.setCell ⟨w.heap.size, 0, none⟩ (.bool z.s)).setCell ⟨w.heap.size, 1, none⟩ (.slice z.A z.n z.c)).setCell ⟨w.heap.size, 2, none⟩ (.slice z.B z.m z.d)) w.heap.size (.bool z.s) (.slice z.A z.n z.c) (.slice z.B z.m z.d) := ka.put (.bool z.s) (.slice z.A z.n z.c) (.slice z.B z.m z.d)
    have HB3 : Below w.heap.size w (((w2.setCell ⟨w.heap.size, 0, none⟩ (.bool z.s)).setCell ⟨w.heap.size, 1, none⟩ (.slice z.A z.n z.c)).setCell ⟨w.heap.size, 2, none⟩ (.slice z.B z.m z.d)) := HB.trans (put3_below (w := w2) (b := w.heap.size) (Nat.le_refl _) (.bool z.s) (.slice z.A z.n z.c) (.slice z.B z.m z.d))
    have HK := Lib.hid k3
    obtain ⟨a0, a1, a2, a3, a4, a5⟩ := ka.facts
    clear hb hz k3 ka hv z_r
    go_wp2_with fail
    generalize hX : ((w2.setCell ⟨w.heap.size, 0, none⟩ (.bool z.s)).setCell ⟨w.heap.size, 1, none⟩ (.slice z.A z.n z.c)).setCell ⟨w.heap.size, 2, none⟩ (.slice z.B z.m z.d) = X at *
    clear hX a0 a1 a2 a3 a4 a5
    obtain ⟨a0, a1, a2, a3, a4, a5⟩ := C3.facts HK.out
    refine (isLong_any z.A z.n z.c _ (by omega)).mono ?_
    rintro e w3 ⟨rfl, rfl⟩
    rcases t3 with ⟨t4, t5⟩ | ⟨t4, t5⟩
    · rw [t4]
      subst t5
      go_wp2
      go_ret
      exact ⟨rfl, HB3⟩
    · rw [t4]
      go_wp2_with fail
      refine (isLong_any z.B z.m z.d _ (by omega)).mono ?_
      rintro e w3 ⟨rfl, rfl⟩
      rw [t5]
      go_wp2
      go_ret
      exact ⟨rfl, HB3⟩
  · go_wp2_with fail
    refine (isLong_any v.B v.m v.d _ (by omega)).mono ?_
    rintro e w1 ⟨rfl, rfl⟩
    rw [f2]
    go_wp2_with fail
    generalize hW : (w.alloc (.cells #[.bool v.s, .slice v.A v.n v.c, .slice v.B v.m v.d] 24)) = W
    obtain ⟨ka, HB, hsW⟩ := open1 w v W hW
    clear hW f1 f2
    refine (Norm_any v r _ ((hv.below HB).more (by omega))).mono ?_
    rintro e w2 ⟨z, rfl, hz, hb⟩
    have hs2 := hb.size
    replace HB := HB.trans (hb.mono (by omega))
    replace ka := ka.below hb
    obtain ⟨t1, t2, t3⟩ := HT.out z w2 (hz.lower (by omega))
    have k3 : C3 (((w2.setCell ⟨w.heap.size, 0, none⟩ (.bool z.s)).setCell ⟨w.heap.size, 1, none⟩ (.slice z.A z.n z.c)).setCell ⟨w.heap.size, 2, none⟩ (.slice z.B z.m z.d)) w.heap.size (.bool z.s) (.slice z.A z.n z.c) (.slice z.B z.m z.d) := ka.put (.bool z.s) (.slice z.A z.n z.c) (.slice z.B z.m z.d)
    have HB3 : Below w.heap.size w (((w2.setCell ⟨w.heap.size, 0, none⟩ (.bool z.s)).setCell ⟨w.heap.size, 1, none⟩ (.slice z.A z.n z.c)).setCell ⟨w.heap.size, 2, none⟩ (.slice z.B z.m z.d)) := HB.trans (put3_below (w := w2) (b := w.heap.size) (Nat.le_refl _) (.bool z.s) (.slice z.A z.n z.c) (.slice z.B z.m z.d))
    have HK := Lib.hid k3
    obtain ⟨a0, a1, a2, a3, a4, a5⟩ := ka.facts
    clear hb hz k3 ka hv z_r
    go_wp2_with fail
    generalize hX : ((w2.setCell ⟨w.heap.size, 0, none⟩ (.bool z.s)).setCell ⟨w.heap.size, 1, none⟩ (.slice z.A z.n z.c)).setCell ⟨w.heap.size, 2, none⟩ (.slice z.B z.m z.d) = X at *
    clear hX a0 a1 a2 a3 a4 a5
    obtain ⟨a0, a1, a2, a3, a4, a5⟩ := C3.facts HK.out
    refine (isLong_any z.A z.n z.c _ (by omega)).mono ?_
    rintro e w3 ⟨rfl, rfl⟩
    rcases t3 with ⟨t4, t5⟩ | ⟨t4, t5⟩
    · rw [t4]
      subst t5
      go_wp2
      go_ret
      exact ⟨rfl, HB3⟩
    · rw [t4]
      go_wp2_with fail
      refine (isLong_any z.B z.m z.d _ (by omega)).mono ?_
      rintro e w3 ⟨rfl, rfl⟩
      rw [t5]
      go_wp2
      go_ret
      exact ⟨rfl, HB3⟩

theorem Large_c (v : Rv) (r : Rat) (w : World) (hv : Rw w v r 2000) :
    Calls Try.prog 33 #[.agg #[.bool v.s, .slice v.A v.n v.c, .slice v.B v.m v.d]] w fun e w' => e = .returned (.bool (decide (16 < (lim r.num.natAbs).length ∨ 16 < (lim r.den).length))) ∧ Below w.heap.size w w' := by
  by_cases h : 16 < v.n ∨ 16 < v.m
  · exact Large_long v r _ w hv h rfl
  · have hv16 : Rw w v r 16 := ⟨hv.1, hv.2, by omega, by omega, hv.rows⟩
    have z := hv16.sz (by omega)
    have h1 := z.num.len
    have h2 := z.den.len
    rw [decide_eq_false (by omega)]
    exact Large_short v w (by omega) (by omega)
end Go.Proofs.Ytadopepoicbahaa

namespace Go.Proofs.Ytadopepoicbahaa
open Go.RowKit

set_option maxHeartbeats 1600000 in
theorem rIs1 (v : Rv) (a b : List Nat) (w : World) (h1 : v.n ≤ v.c) (h2 : v.m ≤ v.d) (h3 : v.n ≤ 2000) (h4 : v.m ≤ 2000) (ha : Row w 0 v.A v.n a) (hb : Row w 0 v.B v.m b) (tA : 0 < v.n ∧ dg a (v.n - 1) = 0) :
    Calls Try.prog 29 #[.agg #[.bool v.s, .slice v.A v.n v.c, .slice v.B v.m v.d]] w fun e w' => e = .returned (.bool false) ∧ Below w.heap.size w w' := by
  have u_ := And.intro h1 (And.intro h2 (And.intro h3 h4))
  clear u_
  go_enter Try.func29, Try.ntmps29
  go_wp2_with fail
  generalize hW : (w.alloc (.cells #[.bool v.s, .slice v.A v.n v.c, .slice v.B v.m v.d] 24)) = W
  obtain ⟨k, HB, hsW⟩ := open1 w v W hW
  clear hW hsW
  have ha1 := ha.below HB
  have hb1 := hb.below HB
  skip
  obtain ⟨c0, c1, c2, c3, c4, c5⟩ := k.facts
  refine (Is_no v.A v.n v.c a _ (by omega) ha1 tA.1 tA.2).mono ?_
  rintro e w1 ⟨rfl, rfl⟩
  go_wp2
  go_ret
  exact ⟨rfl, HB⟩

set_option maxHeartbeats 1600000 in
theorem rIs2 (v : Rv) (a b : List Nat) (w : World) (h1 : v.n ≤ v.c) (h2 : v.m ≤ v.d) (h3 : v.n ≤ 2000) (h4 : v.m ≤ 2000) (ha : Row w 0 v.A v.n a) (hb : Row w 0 v.B v.m b) (tA : v.n = 0 ∨ dg a (v.n - 1) ≠ 0) (tB : 0 < v.m ∧ dg b (v.m - 1) = 0) :
    Calls Try.prog 29 #[.agg #[.bool v.s, .slice v.A v.n v.c, .slice v.B v.m v.d]] w fun e w' => e = .returned (.bool false) ∧ Below w.heap.size w w' := by
  have u_ := And.intro h1 (And.intro h2 (And.intro h3 h4))
  clear u_
  go_enter Try.func29, Try.ntmps29
  go_wp2_with fail
  generalize hW : (w.alloc (.cells #[.bool v.s, .slice v.A v.n v.c, .slice v.B v.m v.d] 24)) = W
  obtain ⟨k, HB, hsW⟩ := open1 w v W hW
  clear hW hsW
  have ha1 := ha.below HB
  have hb1 := hb.below HB
  skip
  obtain ⟨c0, c1, c2, c3, c4, c5⟩ := k.facts
  refine (Is_yes v.A v.n v.c a _ (by omega) ha1 tA).mono ?_
  rintro e w1 ⟨rfl, rfl⟩
  clear tA
  go_wp2_with fail
  refine (Is_no v.B v.m v.d b _ (by omega) hb1 tB.1 tB.2).mono ?_
  rintro e w1 ⟨rfl, rfl⟩
  go_wp2
  go_ret
  exact ⟨rfl, HB⟩

set_option maxHeartbeats 1600000 in
theorem rIs3 (v : Rv) (a b : List Nat) (w : World) (h1 : v.n ≤ v.c) (h2 : v.m ≤ v.d) (h3 : v.n ≤ 2000) (h4 : v.m ≤ 2000) (ha : Row w 0 v.A v.n a) (hb : Row w 0 v.B v.m b) (tA : v.n = 0 ∨ dg a (v.n - 1) ≠ 0) (tB : v.m = 0 ∨ dg b (v.m - 1) ≠ 0) (nB : Hid (val b = 0)) :
    Calls Try.prog 29 #[.agg #[.bool v.s, .slice v.A v.n v.c, .slice v.B v.m v.d]] w fun e w' => e = .returned (.bool false) ∧ Below w.heap.size w w' := by
  have u_ := And.intro h1 (And.intro h2 (And.intro h3 h4))
  clear u_
  go_enter Try.func29, Try.ntmps29
  go_wp2_with fail
  generalize hW : (w.alloc (.cells #[.bool v.s, .slice v.A v.n v.c, .slice v.B v.m v.d] 24)) = W
  obtain ⟨k, HB, hsW⟩ := open1 w v W hW
  clear hW hsW
  have ha1 := ha.below HB
  have hb1 := hb.below HB
  skip
  obtain ⟨c0, c1, c2, c3, c4, c5⟩ := k.facts
  refine (Is_yes v.A v.n v.c a _ (by omega) ha1 tA).mono ?_
  rintro e w1 ⟨rfl, rfl⟩
  clear tA
  go_wp2_with fail
  refine (Is_yes v.B v.m v.d b _ (by omega) hb1 tB).mono ?_
  rintro e w1 ⟨rfl, rfl⟩
  clear tB
  go_wp2_with fail
  refine (isNought_yes v.B v.m v.d b _ (by omega) h2 hb1 nB.out).mono ?_
  rintro e w1 ⟨rfl, rfl⟩
  go_wp2
  go_ret
  exact ⟨rfl, HB⟩

set_option maxHeartbeats 1600000 in
theorem rIs4 (v : Rv) (a b : List Nat) (w : World) (h1 : v.n ≤ v.c) (h2 : v.m ≤ v.d) (h3 : v.n ≤ 2000) (h4 : v.m ≤ 2000) (ha : Row w 0 v.A v.n a) (hb : Row w 0 v.B v.m b) (tA : v.n = 0 ∨ dg a (v.n - 1) ≠ 0) (tB : v.m = 0 ∨ dg b (v.m - 1) ≠ 0) (nB : Hid (val b ≠ 0)) (nA : Hid (val a = 0)) (hs : Hid (v.s = true)) :
    Calls Try.prog 29 #[.agg #[.bool v.s, .slice v.A v.n v.c, .slice v.B v.m v.d]] w fun e w' => e = .returned (.bool false) ∧ Below w.heap.size w w' := by
  have u_ := And.intro h1 (And.intro h2 (And.intro h3 h4))
  clear u_
  go_enter Try.func29, Try.ntmps29
  go_wp2_with fail
  generalize hW : (w.alloc (.cells #[.bool v.s, .slice v.A v.n v.c, .slice v.B v.m v.d] 24)) = W
  obtain ⟨k, HB, hsW⟩ := open1 w v W hW
  clear hW hsW
  have ha1 := ha.below HB
  have hb1 := hb.below HB
  rw [hs.out] at k
  obtain ⟨c0, c1, c2, c3, c4, c5⟩ := k.facts
  refine (Is_yes v.A v.n v.c a _ (by omega) ha1 tA).mono ?_
  rintro e w1 ⟨rfl, rfl⟩
  clear tA
  go_wp2_with fail
  refine (Is_yes v.B v.m v.d b _ (by omega) hb1 tB).mono ?_
  rintro e w1 ⟨rfl, rfl⟩
  clear tB
  go_wp2_with fail
  refine (isNought_no v.B v.m v.d b _ (by omega) h2 hb1 nB.out).mono ?_
  rintro e w1 ⟨rfl, rfl⟩
  go_wp2_with fail
  refine (isNought_yes v.A v.n v.c a _ (by omega) h1 ha1 nA.out).mono ?_
  rintro e w1 ⟨rfl, rfl⟩
  go_wp2
  go_ret
  exact ⟨rfl, HB⟩

set_option maxHeartbeats 1600000 in
theorem rIs5 (v : Rv) (a b : List Nat) (w : World) (h1 : v.n ≤ v.c) (h2 : v.m ≤ v.d) (h3 : v.n ≤ 2000) (h4 : v.m ≤ 2000) (ha : Row w 0 v.A v.n a) (hb : Row w 0 v.B v.m b) (tA : v.n = 0 ∨ dg a (v.n - 1) ≠ 0) (tB : v.m = 0 ∨ dg b (v.m - 1) ≠ 0) (nB : Hid (val b ≠ 0)) (hs : Hid (v.s = false)) (bb : Bool) (hbb : Hid (decide (Nat.gcd (val a) (val b) = 1) = bb)) :
    Calls Try.prog 29 #[.agg #[.bool v.s, .slice v.A v.n v.c, .slice v.B v.m v.d]] w fun e w' => e = .returned (.bool bb) ∧ Below w.heap.size w w' := by
  have u_ := And.intro h1 (And.intro h2 (And.intro h3 h4))
  clear u_
  go_enter Try.func29, Try.ntmps29
  go_wp2_with fail
  generalize hW : (w.alloc (.cells #[.bool v.s, .slice v.A v.n v.c, .slice v.B v.m v.d] 24)) = W
  obtain ⟨k, HB, hsW⟩ := open1 w v W hW
  clear hW hsW
  have ha1 := ha.below HB
  have hb1 := hb.below HB
  rw [hs.out] at k
  obtain ⟨c0, c1, c2, c3, c4, c5⟩ := k.facts
  refine (Is_yes v.A v.n v.c a _ (by omega) ha1 tA).mono ?_
  rintro e w1 ⟨rfl, rfl⟩
  clear tA
  go_wp2_with fail
  refine (Is_yes v.B v.m v.d b _ (by omega) hb1 tB).mono ?_
  rintro e w1 ⟨rfl, rfl⟩
  clear tB
  go_wp2_with fail
  refine (isNought_no v.B v.m v.d b _ (by omega) h2 hb1 nB.out).mono ?_
  rintro e w1 ⟨rfl, rfl⟩
  go_wp2_with fail
  have hgl : (lim (Nat.gcd (val a) (val b))).length ≤ 2000 := ((hb.bd h4).le (Nat.gcd_le_right _ (Nat.pos_of_ne_zero nB.out))).len
  refine (Gcd_any v.A v.B v.n v.m v.c v.d (val a) (val b) a b _ (by omega) (by omega) h1 h2 ha1 hb1 rfl rfl).mono ?_
  rintro e w2 ⟨G, cg, rfl, hcg, hrg, hb2⟩
  have HB2 := HB.trans (hb2.mono HB.size)
  replace k := k.below hb2
  clear hb2 ha1 hb1
  go_wp2_with fail
  refine (one_any _).mono ?_
  rintro e w3 ⟨I, ci, rfl, hoi, hb3⟩
  have HB3 := HB2.trans (hb3.mono HB2.size)
  have hrg3 := hrg.below hb3
  have hri := hoi.row.lower (Nat.zero_le _)
  have hci := hoi.capLe
  have hli : (lim 1).length ≤ 2 := lim_len_lt (by omega)
  have hcmp := Cmp_any G I _ _ cg ci _ _ w3 (by omega) (by omega) hcg hci hrg3 hri
  rw [val_lim, val_lim] at hcmp
  have HC := Lib.hid hcmp
  have hkk : ∃ k : Int, cmpI (Nat.gcd (val a) (val b)) 1 = k ∧ (k == 0) = bb := by
    refine ⟨_, rfl, ?_⟩
    rw [← hbb.out]
    rcases Nat.lt_trichotomy (Nat.gcd (val a) (val b)) 1 with h | h | h
    · rw [cmpI_lt h, decide_eq_false (by omega)]; rfl
    · rw [cmpI_eq h, decide_eq_true h]; rfl
    · rw [cmpI_gt h, decide_eq_false (by omega)]; rfl
  obtain ⟨k, hk1, hk2⟩ := hkk
  have HK := Lib.hid hk1
  clear hb3 hrg hrg3 hoi hcmp hk1
  go_wp2_with fail
  refine HC.out.mono ?_
  rintro e w4 ⟨rfl, q, rfl⟩
  rw [HK.out]
  go_wp2
  go_ret
  exact ⟨rfl, HB3.trans (below_drewN' _ _ q)⟩

set_option maxHeartbeats 1600000 in
theorem rIs6 (v : Rv) (a b : List Nat) (w : World) (h1 : v.n ≤ v.c) (h2 : v.m ≤ v.d) (h3 : v.n ≤ 2000) (h4 : v.m ≤ 2000) (ha : Row w 0 v.A v.n a) (hb : Row w 0 v.B v.m b) (tA : v.n = 0 ∨ dg a (v.n - 1) ≠ 0) (tB : v.m = 0 ∨ dg b (v.m - 1) ≠ 0) (nB : Hid (val b ≠ 0)) (nA : Hid (val a ≠ 0)) (hs : Hid (v.s = true)) (bb : Bool) (hbb : Hid (decide (Nat.gcd (val a) (val b) = 1) = bb)) :
    Calls Try.prog 29 #[.agg #[.bool v.s, .slice v.A v.n v.c, .slice v.B v.m v.d]] w fun e w' => e = .returned (.bool bb) ∧ Below w.heap.size w w' := by
  have u_ := And.intro h1 (And.intro h2 (And.intro h3 h4))
  clear u_
  go_enter Try.func29, Try.ntmps29
  go_wp2_with fail
  generalize hW : (w.alloc (.cells #[.bool v.s, .slice v.A v.n v.c, .slice v.B v.m v.d] 24)) = W
  obtain ⟨k, HB, hsW⟩ := open1 w v W hW
  clear hW hsW
  have ha1 := ha.below HB
  have hb1 := hb.below HB
  rw [hs.out] at k
  obtain ⟨c0, c1, c2, c3, c4, c5⟩ := k.facts
  refine (Is_yes v.A v.n v.c a _ (by omega) ha1 tA).mono ?_
  rintro e w1 ⟨rfl, rfl⟩
  clear tA
  go_wp2_with fail
  refine (Is_yes v.B v.m v.d b _ (by omega) hb1 tB).mono ?_
  rintro e w1 ⟨rfl, rfl⟩
  clear tB
  go_wp2_with fail
  refine (isNought_no v.B v.m v.d b _ (by omega) h2 hb1 nB.out).mono ?_
  rintro e w1 ⟨rfl, rfl⟩
  go_wp2_with fail
  refine (isNought_no v.A v.n v.c a _ (by omega) h1 ha1 nA.out).mono ?_
  rintro e w1 ⟨rfl, rfl⟩
  go_wp2_with fail
  have hgl : (lim (Nat.gcd (val a) (val b))).length ≤ 2000 := ((hb.bd h4).le (Nat.gcd_le_right _ (Nat.pos_of_ne_zero nB.out))).len
  refine (Gcd_any v.A v.B v.n v.m v.c v.d (val a) (val b) a b _ (by omega) (by omega) h1 h2 ha1 hb1 rfl rfl).mono ?_
  rintro e w2 ⟨G, cg, rfl, hcg, hrg, hb2⟩
  have HB2 := HB.trans (hb2.mono HB.size)
  replace k := k.below hb2
  clear hb2 ha1 hb1
  go_wp2_with fail
  refine (one_any _).mono ?_
  rintro e w3 ⟨I, ci, rfl, hoi, hb3⟩
  have HB3 := HB2.trans (hb3.mono HB2.size)
  have hrg3 := hrg.below hb3
  have hri := hoi.row.lower (Nat.zero_le _)
  have hci := hoi.capLe
  have hli : (lim 1).length ≤ 2 := lim_len_lt (by omega)
  have hcmp := Cmp_any G I _ _ cg ci _ _ w3 (by omega) (by omega) hcg hci hrg3 hri
  rw [val_lim, val_lim] at hcmp
  have HC := Lib.hid hcmp
  have hkk : ∃ k : Int, cmpI (Nat.gcd (val a) (val b)) 1 = k ∧ (k == 0) = bb := by
    refine ⟨_, rfl, ?_⟩
    rw [← hbb.out]
    rcases Nat.lt_trichotomy (Nat.gcd (val a) (val b)) 1 with h | h | h
    · rw [cmpI_lt h, decide_eq_false (by omega)]; rfl
    · rw [cmpI_eq h, decide_eq_true h]; rfl
    · rw [cmpI_gt h, decide_eq_false (by omega)]; rfl
  obtain ⟨k, hk1, hk2⟩ := hkk
  have HK := Lib.hid hk1
  clear hb3 hrg hrg3 hoi hcmp hk1
  go_wp2_with fail
  refine HC.out.mono ?_
  rintro e w4 ⟨rfl, q, rfl⟩
  rw [HK.out]
  go_wp2
  go_ret
  exact ⟨rfl, HB3.trans (below_drewN' _ _ q)⟩

/-- What a normal rational's rows are. -/
def IsN (s : Bool) (a b : List Nat) : Prop := Tr a ∧ Tr b ∧ val b ≠ 0 ∧ (s = true → val a ≠ 0) ∧ Nat.gcd (val a) (val b) = 1
theorem tr_cases (l : List Nat) : Tr l ∨ (0 < l.length ∧ dg l (l.length - 1) = 0) := by
  unfold Tr
  by_cases h : l.length = 0
  · exact .inl (.inl h)
  · by_cases h2 : dg l (l.length - 1) = 0
    · exact .inr ⟨by omega, h2⟩
    · exact .inl (.inr h2)
theorem Is_c (v : Rv) (a b : List Nat) (bb : Bool) (w : World) (h1 : v.n ≤ v.c) (h2 : v.m ≤ v.d) (h3 : v.n ≤ 2000) (h4 : v.m ≤ 2000) (ha : Row w 0 v.A v.n a) (hb : Row w 0 v.B v.m b) (hbb : bb = true ↔ IsN v.s a b) :
    Calls Try.prog 29 #[.agg #[.bool v.s, .slice v.A v.n v.c, .slice v.B v.m v.d]] w fun e w' => e = .returned (.bool bb) ∧ Below w.heap.size w w' := by
  have hla := ha.len
  have hlb := hb.len
  have no : ¬ IsN v.s a b → bb = false := fun h => by
    cases hq : bb
    · rfl
    · exact absurd (hbb.1 hq) h
  rcases tr_cases a with ta | ta
  · have tA : v.n = 0 ∨ dg a (v.n - 1) ≠ 0 := by unfold Tr at ta; rw [hla] at ta; exact ta
    rcases tr_cases b with tb | tb
    · have tB : v.m = 0 ∨ dg b (v.m - 1) ≠ 0 := by unfold Tr at tb; rw [hlb] at tb; exact tb
      by_cases hz : val b = 0
      · rw [no (fun h => h.2.2.1 hz)]; exact rIs3 v a b w h1 h2 h3 h4 ha hb tA tB hz
      · rcases Bool.eq_false_or_eq_true v.s with hs | hs
        · by_cases hx : val a = 0
          · rw [no (fun h => h.2.2.2.1 hs hx)]; exact rIs4 v a b w h1 h2 h3 h4 ha hb tA tB hz hx hs
          · refine rIs6 v a b w h1 h2 h3 h4 ha hb tA tB hz hx hs bb ?_
            show _ = _
            by_cases hg : Nat.gcd (val a) (val b) = 1
            · rw [decide_eq_true hg, hbb.2 ⟨ta, tb, hz, fun _ => hx, hg⟩]
            · rw [decide_eq_false hg, no (fun h => hg h.2.2.2.2)]
        · refine rIs5 v a b w h1 h2 h3 h4 ha hb tA tB hz hs bb ?_
          show _ = _
          by_cases hg : Nat.gcd (val a) (val b) = 1
          · rw [decide_eq_true hg, hbb.2 ⟨ta, tb, hz, fun h => absurd (hs.symm.trans h) (by decide), hg⟩]
          · rw [decide_eq_false hg, no (fun h => hg h.2.2.2.2)]
    · rw [no (fun h => by have := h.2.1; unfold Tr at this; omega)]
      exact rIs2 v a b w h1 h2 h3 h4 ha hb tA ⟨by omega, by rw [← hlb]; exact tb.2⟩
  · rw [no (fun h => by have := h.1; unfold Tr at this; omega)]
    exact rIs1 v a b w h1 h2 h3 h4 ha hb ⟨by omega, by rw [← hla]; exact ta.2⟩
theorem IsN_iff (s : Bool) (a b : List Nat) (la : L32 a) (lb : L32 b) (r : Rat) (hr : rn s (val a) (val b) = r) :
    IsN s a b ↔ (s = decide (r.num < 0) ∧ a = lim r.num.natAbs ∧ b = lim r.den) := by
  subst hr
  constructor
  · rintro ⟨ta, tb, hz, hs, hg⟩
    have e1 : (rn s (val a) (val b)).num.natAbs = val a := by rw [rn_abs hz, hg, Nat.div_one]
    have e2 : (rn s (val a) (val b)).den = val b := by rw [rn_den hz, hg, Nat.div_one]
    refine ⟨?_, by rw [e1, lim_val la ta], by rw [e2, lim_val lb tb]⟩
    by_cases hx : val a = 0
    · rw [rn_zero (.inl hx)]
      cases s
      · rfl
      · exact absurd hx (hs rfl)
    · exact (rn_sign hx hz).symm
  · rintro ⟨h1, h2, h3⟩
    generalize hq : rn s (val a) (val b) = q at *
    have va : val a = q.num.natAbs := by rw [h2, val_lim]
    have vb : val b = q.den := by rw [h3, val_lim]
    refine ⟨by rw [h2]; exact lim_tr _, by rw [h3]; exact lim_tr _, by rw [vb]; exact q.den_nz, ?_, by rw [va, vb]; exact q.reduced⟩
    intro hs
    rw [va]
    rw [hs] at h1
    have := of_decide_eq_true h1.symm
    omega
end Go.Proofs.Ytadopepoicbahaa

namespace Go.Proofs.Ytadopepoicbahaa
open Go.RowKit

set_option maxHeartbeats 1600000 in
theorem rLarge_c (v : Rv) (r : Rat) (b : Bool) (w : World) (hv : Rw w v r 60) (hb0 : Hid (decide (16 < (lim r.num.natAbs).length ∨ 16 < (lim r.den).length) = b)) :
    Calls Try.prog 34 #[.agg #[.bool v.s, .slice v.A v.n v.c, .slice v.B v.m v.d]] w fun e w' => e = .returned (.bool b) ∧ Below w.heap.size w w' := by
  have z_r := hv.sz (by omega)
  go_enter Try.func34, Try.ntmps34
  go_wp2_with fail
  generalize hW : (w.alloc (.cells #[.bool v.s, .slice v.A v.n v.c, .slice v.B v.m v.d] 24)) = W
  obtain ⟨k_v, HB, hsW⟩ := open1 w v W hW
  clear hW
  refine (rNorm_c v r _ (hv.below HB)).mono ?_
  rintro e w1 ⟨z, rfl, hz, hb⟩
  have HB2 := (HB.trans (hb.mono (by omega))).alloc (by have := hb.size; omega) (.cells #[.bool z.s, .slice z.A z.n z.c, .slice z.B z.m z.d] 24)
  have l1 : z.n ≤ 60 := (hz.rw z_r).numLe
  have l2 : z.m ≤ 60 := (hz.rw z_r).denLe
  have hd := hb0.out
  rw [← hz.numLen, ← hz.denLen] at hd
  clear hz hb k_v hv HB hsW
  by_cases h1 : 16 < z.n
  · rw [decide_eq_true (Or.inl h1)] at hd
    subst hd
    have g1 : (16 : Int) < z.n := by omega
    clear h1
    go_wp2
    go_ret
    exact ⟨rfl, HB2⟩
  · by_cases h2 : 16 < z.m
    · rw [decide_eq_true (Or.inr h2)] at hd
      subst hd
      have g1 : (z.n : Int) ≤ 16 := by omega
      have g2 : (16 : Int) < z.m := by omega
      clear h1 h2
      go_wp2
      go_ret
      exact ⟨rfl, HB2⟩
    · rw [decide_eq_false (by rintro (h | h) <;> contradiction)] at hd
      subst hd
      have g1 : (z.n : Int) ≤ 16 := by omega
      have g2 : (z.m : Int) ≤ 16 := by omega
      clear h1 h2
      go_wp2
      go_ret
      exact ⟨by simp; omega, HB2⟩

theorem one_row (w : World) (lo : Nat) (h : lo ≤ w.heap.size) : Row (w.alloc (.cells #[.int .u32 1] 38)) lo (some ⟨w.heap.size, 0, none⟩) 1 [1] := Row.one rfl (by omega) h

set_option maxHeartbeats 1600000 in
theorem rInt_true (x : Nat) (i : Int) (w : World) (hi : -9223372036854775808 ≤ i ∧ i ≤ 9223372036854775807) (hx : i = -(x : Int)) (h : i < 0) :
    Calls Try.prog 40 #[.int .i64 i] w fun e w' => ∃ z : Rv, e = .returned (.agg #[.bool z.s, .slice z.A z.n z.c, .slice z.B z.m z.d]) ∧ Rt w' w.heap.size z (i : Rat) ∧ Below w.heap.size w w' := by
  have hw : IntKind.u64.wrap (-IntKind.u64.wrap (-(x : Int))) = (x : Int) := by
    have e64 : ∀ n : Int, IntKind.u64.wrap n = n % 18446744073709551616 := fun _ => rfl
    rw [e64, e64]; omega
  have u_ := h
  clear u_
  have hri : rn true x 1 = (i : Rat) := rn_int_eq _ _ _ (by simp [hx])
  have HR := Lib.hid hri
  clear hri
  have hl1 : (lim x).length ≤ 2 := lim_len_lt (by omega)
  go_enter Try.func40, Try.ntmps40
  go_wp2_with fail
  refine (rOf_any x _ (by omega)).mono ?_
  rintro e w1 ⟨A, c, rfl, ho, hb1⟩
  have hr1 := ho.row.lower (Nat.zero_le _)
  have hc1 := ho.capLe
  have k := (C3.new w (.bool false) (.slice none 0 0) (.slice none 0 0)).at hb1 (by simp)
  have hk1 := k.lt
  have HB := (((Below.refl w.heap.size w).alloc (Nat.le_refl _) (.cells #[.bool false, .slice none 0 0, .slice none 0 0] 24)).trans (hb1.mono (by simp)))
  clear ho hb1
  go_wp2_with fail
  have hr2 := one_row w1 0 (Nat.zero_le _)
  have hbn := (Below.refl w1.heap.size w1).alloc (Nat.le_refl _) (.cells #[.int .u32 1] 38)
  replace hr1 := hr1.below hbn
  replace k := k.below hbn
  replace HB := HB.trans (hbn.mono HB.size)
  refine (rOf_n true A _ _ 1 c 1 x 1 _ [1] (i : Rat) _ (val_lim _) rfl (by omega) (by omega) hc1 (Nat.le_refl _) hr1 hr2 HR.out).mono ?_
  rintro e w3 ⟨u, rfl, hu, hb3⟩
  have hs3 : w1.heap.size + 1 ≤ w3.heap.size := by have := hb3.size; simpa using this
  have hsz : w.heap.size < (w1.alloc (.cells #[.int .u32 1] 38)).heap.size := k.lt
  replace k := k.below hb3
  replace HB := HB.trans (hb3.mono HB.size)
  obtain ⟨q0, q1, q2, g0, g1, g2⟩ := k.facts
  clear hb3 hr1 hr2 hbn
  go_wp2
  refine ret3 (fn := Try.f40) Try.results40 rfl rfl k ?_
  exact ⟨u, rfl, (hu.put hsz _ _ _).lower (Nat.le_of_lt hsz), HB.trans (put3_below (Nat.le_refl _) _ _ _)⟩

set_option maxHeartbeats 1600000 in
theorem rInt_false (x : Nat) (i : Int) (w : World) (hi : -9223372036854775808 ≤ i ∧ i ≤ 9223372036854775807) (hx : i = (x : Int)) (h : ¬ i < 0) :
    Calls Try.prog 40 #[.int .i64 i] w fun e w' => ∃ z : Rv, e = .returned (.agg #[.bool z.s, .slice z.A z.n z.c, .slice z.B z.m z.d]) ∧ Rt w' w.heap.size z (i : Rat) ∧ Below w.heap.size w w' := by
  have u_ := h
  clear u_
  have hri : rn false x 1 = (i : Rat) := rn_int_eq _ _ _ (by simp [hx])
  have HR := Lib.hid hri
  clear hri
  have hl1 : (lim x).length ≤ 2 := lim_len_lt (by omega)
  go_enter Try.func40, Try.ntmps40
  go_wp2_with fail
  refine (rOf_any x _ (by omega)).mono ?_
  rintro e w1 ⟨A, c, rfl, ho, hb1⟩
  have hr1 := ho.row.lower (Nat.zero_le _)
  have hc1 := ho.capLe
  have k := (C3.new w (.bool false) (.slice none 0 0) (.slice none 0 0)).at hb1 (by simp)
  have hk1 := k.lt
  have HB := (((Below.refl w.heap.size w).alloc (Nat.le_refl _) (.cells #[.bool false, .slice none 0 0, .slice none 0 0] 24)).trans (hb1.mono (by simp)))
  clear ho hb1
  go_wp2_with fail
  have hr2 := one_row w1 0 (Nat.zero_le _)
  have hbn := (Below.refl w1.heap.size w1).alloc (Nat.le_refl _) (.cells #[.int .u32 1] 38)
  replace hr1 := hr1.below hbn
  replace k := k.below hbn
  replace HB := HB.trans (hbn.mono HB.size)
  refine (rOf_n false A _ _ 1 c 1 x 1 _ [1] (i : Rat) _ (val_lim _) rfl (by omega) (by omega) hc1 (Nat.le_refl _) hr1 hr2 HR.out).mono ?_
  rintro e w3 ⟨u, rfl, hu, hb3⟩
  have hs3 : w1.heap.size + 1 ≤ w3.heap.size := by have := hb3.size; simpa using this
  have hsz : w.heap.size < (w1.alloc (.cells #[.int .u32 1] 38)).heap.size := k.lt
  replace k := k.below hb3
  replace HB := HB.trans (hb3.mono HB.size)
  obtain ⟨q0, q1, q2, g0, g1, g2⟩ := k.facts
  clear hb3 hr1 hr2 hbn
  go_wp2
  refine ret3 (fn := Try.f40) Try.results40 rfl rfl k ?_
  exact ⟨u, rfl, (hu.put hsz _ _ _).lower (Nat.le_of_lt hsz), HB.trans (put3_below (Nat.le_refl _) _ _ _)⟩

theorem rInt_c (i : Int) (w : World) (hi : -9223372036854775808 ≤ i ∧ i ≤ 9223372036854775807) :
    Calls Try.prog 40 #[.int .i64 i] w fun e w' => ∃ z : Rv, e = .returned (.agg #[.bool z.s, .slice z.A z.n z.c, .slice z.B z.m z.d]) ∧ Rt w' w.heap.size z (i : Rat) ∧ Below w.heap.size w w' := by
  by_cases h : i < 0
  · exact rInt_true i.natAbs i w hi (by omega) h
  · exact rInt_false i.natAbs i w hi (by omega) h

set_option maxHeartbeats 4000000 in
theorem rFloor_plus (v : Rv) (r : Rat) (w : World) (hv : Rw w v r 56) (hsg : Hid (decide (r.num < 0) = false)) (hm : Hid (True)) (hq : Hid (rn false (r.num.natAbs / r.den) 1 = ((r.floor : Int) : Rat))) :
    Calls Try.prog 38 #[.agg #[.bool v.s, .slice v.A v.n v.c, .slice v.B v.m v.d]] w fun e w' => ∃ z : Rv, e = .returned (.agg #[.bool z.s, .slice z.A z.n z.c, .slice z.B z.m z.d]) ∧ Rt w' w.heap.size z ((r.floor : Int) : Rat) ∧ Below w.heap.size w w' := by
  have z_r := hv.sz (by omega)
  go_enter Try.func38, Try.ntmps38
  go_wp2_with fail
  generalize hW : ((w.alloc (.cells #[.bool v.s, .slice v.A v.n v.c, .slice v.B v.m v.d] 24)).alloc (.cells #[.bool false, .slice none 0 0, .slice none 0 0] 24)) = W
  obtain ⟨k_v, k_z, HB, hsW⟩ := open1z w v W hW
  clear hW
  refine (rNorm_c v r _ ((hv.below HB).more (by omega))).mono ?_
  rintro e w1 ⟨z, rfl, hz, hb⟩
  replace HB := HB.trans (hb.mono (by omega))
  replace k_z := k_z.below hb
  have lt_z := k_z.lt
  have hxn := hz.num.lower (Nat.zero_le _)
  have hxd := hz.den.lower (Nat.zero_le _)
  have cxn := hz.numCap
  have cxd := hz.denCap
  have l1 : z.n ≤ 56 := (hz.rw z_r).numLe
  have l2 : z.m ≤ 56 := (hz.rw z_r).denLe
  have hsz := hz.sign
  rw [hsg.out] at hsz
  clear hz hb k_v hv hsW
  obtain ⟨zs, zA, zn, zc, zB, zm, zd⟩ := z
  simp only at hxn hxd cxn cxd l1 l2 hsz
  subst hsz
  obtain ⟨z_0, z_1, z_2, z_3, z_4, z_5⟩ := k_z.facts
  go_wp2_with fail
  have k_b := C3.new w1 (.bool false) (.slice zA zn zc) (.slice zB zm zd)
  have hbn := (Below.refl w1.heap.size w1).alloc (Nat.le_refl _) (.cells #[.bool false, .slice zA zn zc, .slice zB zm zd] 24)
  replace HB := HB.trans (hbn.mono HB.size)
  replace k_z := k_z.below hbn
  replace hxn := hxn.below hbn
  replace hxd := hxd.below hbn
  clear hbn z_0 z_1 z_2 z_3 z_4 z_5
  generalize w1.alloc (.cells #[.bool false, .slice zA zn zc, .slice zB zm zd] 24) = W2 at *
  refine (rDivMod_pos zA zB zn zm zc zd r.num.natAbs r.den _ _ _ (by omega) (by omega) cxn cxd hxn hxd (val_lim _) (val_lim _) r.den_pos).mono ?_
  rintro e w3 ⟨Q, cq, M, cm, rfl, hoq, hom, hb⟩
  replace HB := HB.trans (hb.mono HB.size)
  replace k_z := k_z.below hb
  replace k_b := k_b.below hb
  have hrq := hoq.row.lower (Nat.zero_le _)
  have hcq := hoq.capLe
  have bq : Bd (r.num.natAbs / r.den) 56 := z_r.num.le (Nat.div_le_self _ _)
  have lq := bq.len
  have lm : (lim (r.num.natAbs % r.den)).length ≤ 56 := (z_r.num.le (Nat.mod_le _ _)).len
  have lt_z := k_z.lt
  have lt_b := k_b.lt
  clear hb hoq hom hxn hxd cxn cxd
  obtain ⟨z_0, z_1, z_2, z_3, z_4, z_5⟩ := k_z.facts
  obtain ⟨b_0, b_1, b_2, b_3, b_4, b_5⟩ := k_b.facts
  go_wp2_with fail
  have hr9 := one_row w3 0 (Nat.zero_le _)
  have hbn9 := (Below.refl w3.heap.size w3).alloc (Nat.le_refl _) (.cells #[.int .u32 1] 38)
  replace hrq := hrq.below hbn9
  replace k_z := k_z.below hbn9
  replace HB := HB.trans (hbn9.mono HB.size)
  refine (rOf_n false Q _ _ 1 cq 1 (r.num.natAbs / r.den) 1 _ [1] ((r.floor : Int) : Rat) _ (val_lim _) rfl (by omega) (by omega) hcq (Nat.le_refl _) hrq hr9 hq.out).mono ?_
  rintro e w8 ⟨u, rfl, hu, hb⟩
  have hsz8 : w.heap.size + 1 < (w3.alloc (.cells #[.int .u32 1] 38)).heap.size := k_z.lt
  replace k_z := k_z.below hb
  replace HB := HB.trans (hb.mono HB.size)
  clear hb hr9 hbn9 hrq z_0 z_1 z_2 z_3 z_4 z_5
  obtain ⟨z_0, z_1, z_2, z_3, z_4, z_5⟩ := k_z.facts
  go_wp2
  refine ret3 (fn := Try.f38) Try.results38 rfl rfl k_z ?_
  exact ⟨u, rfl, (hu.put hsz8 _ _ _).lower (by omega), HB.trans (put3_below (by omega) _ _ _)⟩

set_option maxHeartbeats 4000000 in
theorem rFloor_even (v : Rv) (r : Rat) (w : World) (hv : Rw w v r 56) (hsg : Hid (decide (r.num < 0) = true)) (hm : Hid (r.num.natAbs % r.den = 0)) (hq : Hid (rn true (r.num.natAbs / r.den) 1 = ((r.floor : Int) : Rat))) :
    Calls Try.prog 38 #[.agg #[.bool v.s, .slice v.A v.n v.c, .slice v.B v.m v.d]] w fun e w' => ∃ z : Rv, e = .returned (.agg #[.bool z.s, .slice z.A z.n z.c, .slice z.B z.m z.d]) ∧ Rt w' w.heap.size z ((r.floor : Int) : Rat) ∧ Below w.heap.size w w' := by
  have z_r := hv.sz (by omega)
  go_enter Try.func38, Try.ntmps38
  go_wp2_with fail
  generalize hW : ((w.alloc (.cells #[.bool v.s, .slice v.A v.n v.c, .slice v.B v.m v.d] 24)).alloc (.cells #[.bool false, .slice none 0 0, .slice none 0 0] 24)) = W
  obtain ⟨k_v, k_z, HB, hsW⟩ := open1z w v W hW
  clear hW
  refine (rNorm_c v r _ ((hv.below HB).more (by omega))).mono ?_
  rintro e w1 ⟨z, rfl, hz, hb⟩
  replace HB := HB.trans (hb.mono (by omega))
  replace k_z := k_z.below hb
  have lt_z := k_z.lt
  have hxn := hz.num.lower (Nat.zero_le _)
  have hxd := hz.den.lower (Nat.zero_le _)
  have cxn := hz.numCap
  have cxd := hz.denCap
  have l1 : z.n ≤ 56 := (hz.rw z_r).numLe
  have l2 : z.m ≤ 56 := (hz.rw z_r).denLe
  have hsz := hz.sign
  rw [hsg.out] at hsz
  clear hz hb k_v hv hsW
  obtain ⟨zs, zA, zn, zc, zB, zm, zd⟩ := z
  simp only at hxn hxd cxn cxd l1 l2 hsz
  subst hsz
  obtain ⟨z_0, z_1, z_2, z_3, z_4, z_5⟩ := k_z.facts
  go_wp2_with fail
  have k_b := C3.new w1 (.bool true) (.slice zA zn zc) (.slice zB zm zd)
  have hbn := (Below.refl w1.heap.size w1).alloc (Nat.le_refl _) (.cells #[.bool true, .slice zA zn zc, .slice zB zm zd] 24)
  replace HB := HB.trans (hbn.mono HB.size)
  replace k_z := k_z.below hbn
  replace hxn := hxn.below hbn
  replace hxd := hxd.below hbn
  clear hbn z_0 z_1 z_2 z_3 z_4 z_5
  generalize w1.alloc (.cells #[.bool true, .slice zA zn zc, .slice zB zm zd] 24) = W2 at *
  refine (rDivMod_pos zA zB zn zm zc zd r.num.natAbs r.den _ _ _ (by omega) (by omega) cxn cxd hxn hxd (val_lim _) (val_lim _) r.den_pos).mono ?_
  rintro e w3 ⟨Q, cq, M, cm, rfl, hoq, hom, hb⟩
  replace HB := HB.trans (hb.mono HB.size)
  replace k_z := k_z.below hb
  replace k_b := k_b.below hb
  have hrq := hoq.row.lower (Nat.zero_le _)
  have hcq := hoq.capLe
  have bq : Bd (r.num.natAbs / r.den) 56 := z_r.num.le (Nat.div_le_self _ _)
  have lq := bq.len
  have lm : (lim (r.num.natAbs % r.den)).length ≤ 56 := (z_r.num.le (Nat.mod_le _ _)).len
  have lt_z := k_z.lt
  have lt_b := k_b.lt
  clear hb hoq hom hxn hxd cxn cxd
  obtain ⟨z_0, z_1, z_2, z_3, z_4, z_5⟩ := k_z.facts
  obtain ⟨b_0, b_1, b_2, b_3, b_4, b_5⟩ := k_b.facts
  have hlz := lim_len_zero hm.out
  generalize (lim (r.num.natAbs % r.den)).length = lml at *
  subst hlz
  go_wp2_with fail
  have hr9 := one_row w3 0 (Nat.zero_le _)
  have hbn9 := (Below.refl w3.heap.size w3).alloc (Nat.le_refl _) (.cells #[.int .u32 1] 38)
  replace hrq := hrq.below hbn9
  replace k_z := k_z.below hbn9
  replace HB := HB.trans (hbn9.mono HB.size)
  refine (rOf_n true Q _ _ 1 cq 1 (r.num.natAbs / r.den) 1 _ [1] ((r.floor : Int) : Rat) _ (val_lim _) rfl (by omega) (by omega) hcq (Nat.le_refl _) hrq hr9 hq.out).mono ?_
  rintro e w8 ⟨u, rfl, hu, hb⟩
  have hsz8 : w.heap.size + 1 < (w3.alloc (.cells #[.int .u32 1] 38)).heap.size := k_z.lt
  replace k_z := k_z.below hb
  replace HB := HB.trans (hb.mono HB.size)
  clear hb hr9 hbn9 hrq z_0 z_1 z_2 z_3 z_4 z_5
  obtain ⟨z_0, z_1, z_2, z_3, z_4, z_5⟩ := k_z.facts
  go_wp2
  refine ret3 (fn := Try.f38) Try.results38 rfl rfl k_z ?_
  exact ⟨u, rfl, (hu.put hsz8 _ _ _).lower (by omega), HB.trans (put3_below (by omega) _ _ _)⟩

set_option maxHeartbeats 4000000 in
theorem rFloor_more (v : Rv) (r : Rat) (w : World) (hv : Rw w v r 56) (hsg : Hid (decide (r.num < 0) = true)) (hm : Hid (r.num.natAbs % r.den ≠ 0)) (hq : Hid (rn true (r.num.natAbs / r.den + 1) 1 = ((r.floor : Int) : Rat))) :
    Calls Try.prog 38 #[.agg #[.bool v.s, .slice v.A v.n v.c, .slice v.B v.m v.d]] w fun e w' => ∃ z : Rv, e = .returned (.agg #[.bool z.s, .slice z.A z.n z.c, .slice z.B z.m z.d]) ∧ Rt w' w.heap.size z ((r.floor : Int) : Rat) ∧ Below w.heap.size w w' := by
  have z_r := hv.sz (by omega)
  go_enter Try.func38, Try.ntmps38
  go_wp2_with fail
  generalize hW : ((w.alloc (.cells #[.bool v.s, .slice v.A v.n v.c, .slice v.B v.m v.d] 24)).alloc (.cells #[.bool false, .slice none 0 0, .slice none 0 0] 24)) = W
  obtain ⟨k_v, k_z, HB, hsW⟩ := open1z w v W hW
  clear hW
  refine (rNorm_c v r _ ((hv.below HB).more (by omega))).mono ?_
  rintro e w1 ⟨z, rfl, hz, hb⟩
  replace HB := HB.trans (hb.mono (by omega))
  replace k_z := k_z.below hb
  have lt_z := k_z.lt
  have hxn := hz.num.lower (Nat.zero_le _)
  have hxd := hz.den.lower (Nat.zero_le _)
  have cxn := hz.numCap
  have cxd := hz.denCap
  have l1 : z.n ≤ 56 := (hz.rw z_r).numLe
  have l2 : z.m ≤ 56 := (hz.rw z_r).denLe
  have hsz := hz.sign
  rw [hsg.out] at hsz
  clear hz hb k_v hv hsW
  obtain ⟨zs, zA, zn, zc, zB, zm, zd⟩ := z
  simp only at hxn hxd cxn cxd l1 l2 hsz
  subst hsz
  obtain ⟨z_0, z_1, z_2, z_3, z_4, z_5⟩ := k_z.facts
  go_wp2_with fail
  have k_b := C3.new w1 (.bool true) (.slice zA zn zc) (.slice zB zm zd)
  have hbn := (Below.refl w1.heap.size w1).alloc (Nat.le_refl _) (.cells #[.bool true, .slice zA zn zc, .slice zB zm zd] 24)
  replace HB := HB.trans (hbn.mono HB.size)
  replace k_z := k_z.below hbn
  replace hxn := hxn.below hbn
  replace hxd := hxd.below hbn
  clear hbn z_0 z_1 z_2 z_3 z_4 z_5
  generalize w1.alloc (.cells #[.bool true, .slice zA zn zc, .slice zB zm zd] 24) = W2 at *
  refine (rDivMod_pos zA zB zn zm zc zd r.num.natAbs r.den _ _ _ (by omega) (by omega) cxn cxd hxn hxd (val_lim _) (val_lim _) r.den_pos).mono ?_
  rintro e w3 ⟨Q, cq, M, cm, rfl, hoq, hom, hb⟩
  replace HB := HB.trans (hb.mono HB.size)
  replace k_z := k_z.below hb
  replace k_b := k_b.below hb
  have hrq := hoq.row.lower (Nat.zero_le _)
  have hcq := hoq.capLe
  have bq : Bd (r.num.natAbs / r.den) 56 := z_r.num.le (Nat.div_le_self _ _)
  have lq := bq.len
  have lm : (lim (r.num.natAbs % r.den)).length ≤ 56 := (z_r.num.le (Nat.mod_le _ _)).len
  have lt_z := k_z.lt
  have lt_b := k_b.lt
  clear hb hoq hom hxn hxd cxn cxd
  obtain ⟨z_0, z_1, z_2, z_3, z_4, z_5⟩ := k_z.facts
  obtain ⟨b_0, b_1, b_2, b_3, b_4, b_5⟩ := k_b.facts
  have hlp := lim_len_pos hm.out
  generalize (lim (r.num.natAbs % r.den)).length = lml at *
  have hgt : (0 : Int) < lml := by omega
  go_wp2_with fail
  have hr1 := one_row w3 0 (Nat.zero_le _)
  have hbn := (Below.refl w3.heap.size w3).alloc (Nat.le_refl _) (.cells #[.int .u32 1] 38)
  replace hrq := hrq.below hbn
  replace k_z := k_z.below hbn
  replace k_b := k_b.below hbn
  replace HB := HB.trans (hbn.mono HB.size)
  refine (rAdd_v (r.num.natAbs / r.den) 1 Q _ _ 1 cq 1 _ [1] _ (val_lim _) rfl (by omega) (by omega) hrq hr1).mono ?_
  rintro e w4 ⟨Q4, cq4, rfl, hoq, hb⟩
  replace HB := HB.trans (hb.mono HB.size)
  replace k_z := k_z.below hb
  replace k_b := k_b.below hb
  replace hrq := hoq.row.lower (Nat.zero_le _)
  replace hcq := hoq.capLe
  have b1 : Bd 1 1 := by show (1 : Nat) < 4294967296 ^ 1; omega
  have lq4 := ((bq.add b1).more (show max 56 1 + 1 ≤ 58 by omega)).len
  have lt_z := k_z.lt
  have lt_b := k_b.lt
  clear hb hoq hr1 hbn z_0 z_1 z_2 z_3 z_4 z_5 b_0 b_1 b_2 b_3 b_4 b_5
  obtain ⟨z_0, z_1, z_2, z_3, z_4, z_5⟩ := k_z.facts
  obtain ⟨b_0, b_1, b_2, b_3, b_4, b_5⟩ := k_b.facts
  go_wp2_with fail
  have hr9 := one_row w4 0 (Nat.zero_le _)
  have hbn9 := (Below.refl w4.heap.size w4).alloc (Nat.le_refl _) (.cells #[.int .u32 1] 38)
  replace hrq := hrq.below hbn9
  replace k_z := k_z.below hbn9
  replace HB := HB.trans (hbn9.mono HB.size)
  refine (rOf_n true Q4 _ _ 1 cq4 1 (r.num.natAbs / r.den + 1) 1 _ [1] ((r.floor : Int) : Rat) _ (val_lim _) rfl (by omega) (by omega) hcq (Nat.le_refl _) hrq hr9 hq.out).mono ?_
  rintro e w8 ⟨u, rfl, hu, hb⟩
  have hsz8 : w.heap.size + 1 < (w4.alloc (.cells #[.int .u32 1] 38)).heap.size := k_z.lt
  replace k_z := k_z.below hb
  replace HB := HB.trans (hb.mono HB.size)
  clear hb hr9 hbn9 hrq z_0 z_1 z_2 z_3 z_4 z_5
  obtain ⟨z_0, z_1, z_2, z_3, z_4, z_5⟩ := k_z.facts
  go_wp2
  refine ret3 (fn := Try.f38) Try.results38 rfl rfl k_z ?_
  exact ⟨u, rfl, (hu.put hsz8 _ _ _).lower (by omega), HB.trans (put3_below (by omega) _ _ _)⟩

theorem rFloor_c (v : Rv) (r : Rat) (w : World) (hv : Rw w v r 56) :
    Calls Try.prog 38 #[.agg #[.bool v.s, .slice v.A v.n v.c, .slice v.B v.m v.d]] w fun e w' => ∃ z : Rv, e = .returned (.agg #[.bool z.s, .slice z.A z.n z.c, .slice z.B z.m z.d]) ∧ Rt w' w.heap.size z ((r.floor : Int) : Rat) ∧ Below w.heap.size w w' := by
  have hf := rn_floor (decide (r.num < 0)) (x := r.num.natAbs) r.den_nz
  rw [rn_self] at hf
  rcases Bool.eq_false_or_eq_true (decide (r.num < 0)) with hs | hs
  · rw [hs] at hf
    by_cases hm : r.num.natAbs % r.den = 0
    · rw [if_neg (by rintro ⟨_, h⟩; exact h hm), Nat.add_zero] at hf
      exact rFloor_even v r w hv hs hm hf.symm
    · rw [if_pos ⟨rfl, hm⟩] at hf
      exact rFloor_more v r w hv hs hm hf.symm
  · rw [hs, if_neg (by rintro ⟨h, _⟩; cases h), Nat.add_zero] at hf
    exact rFloor_plus v r w hv hs trivial hf.symm

set_option maxHeartbeats 1600000 in
theorem rIs_no (v : Rv) (r : Rat) (w : World) (hv : Rw w v r 60) (hs : Hid (v.s ≠ decide (r.num < 0))) :
    Calls Try.prog 30 #[.agg #[.bool v.s, .slice v.A v.n v.c, .slice v.B v.m v.d]] w fun e w' => e = .returned (.bool false) ∧ Below w.heap.size w w' := by
  go_enter Try.func30, Try.ntmps30
  go_wp2_with fail
  generalize hW : (w.alloc (.cells #[.bool v.s, .slice v.A v.n v.c, .slice v.B v.m v.d] 24)) = W
  obtain ⟨k_v, HB, hsW⟩ := open1 w v W hW
  clear hW
  refine (rNorm_c v r _ (hv.below HB)).mono ?_
  rintro e w1 ⟨z, rfl, hz, hb⟩
  have HB2 := (HB.trans (hb.mono (by omega))).alloc (by have := hb.size; omega) (.cells #[.bool z.s, .slice z.A z.n z.c, .slice z.B z.m z.d] 24)
  replace k_v := k_v.below hb
  have lt_v := k_v.lt
  have hne : v.s ≠ z.s := by rw [hz.sign]; exact hs.out
  have hbe : (v.s == z.s) = false := beq_eq_false_iff_ne.2 hne
  clear hb hz hv HB hsW hne
  obtain ⟨v_0, v_1, v_2, v_3, v_4, v_5⟩ := k_v.facts
  go_wp2
  go_ret
  exact ⟨rfl, HB2⟩
set_option maxHeartbeats 3200000 in
theorem rIs_rows (v : Rv) (a b : List Nat) (r : Rat) (b1 b2 : Bool) (w : World) (hv : Rw w v r 60) (ha : Row w 0 v.A v.n a) (hbr : Row w 0 v.B v.m b) (hs : Hid (v.s = decide (r.num < 0))) (h1 : Hid (decide (a = lim r.num.natAbs) = b1)) (h2 : Hid (decide (b = lim r.den) = b2)) :
    Calls Try.prog 30 #[.agg #[.bool v.s, .slice v.A v.n v.c, .slice v.B v.m v.d]] w fun e w' => e = .returned (.bool (b1 && b2)) ∧ Below w.heap.size w w' := by
  have z_r := hv.sz (by omega)
  have lv1 := hv.numLe
  have lv2 := hv.denLe
  go_enter Try.func30, Try.ntmps30
  go_wp2_with fail
  generalize hW : (w.alloc (.cells #[.bool v.s, .slice v.A v.n v.c, .slice v.B v.m v.d] 24)) = W
  obtain ⟨k_v, HB, hsW⟩ := open1 w v W hW
  clear hW
  replace ha := ha.below HB
  replace hbr := hbr.below HB
  refine (rNorm_c v r _ (hv.below HB)).mono ?_
  rintro e w1 ⟨z, rfl, hz, hb⟩
  have l1 : z.n ≤ 60 := (hz.rw z_r).numLe
  have l2 : z.m ≤ 60 := (hz.rw z_r).denLe
  have hxn := hz.num.lower (Nat.zero_le _)
  have hxd := hz.den.lower (Nat.zero_le _)
  have hsb : (v.s == z.s) = true := by rw [hz.sign, ← hs.out]; simp
  replace ha := ha.below hb
  replace hbr := hbr.below hb
  replace k_v := k_v.below hb
  have HB2 := HB.trans (hb.mono (by omega))
  have lt_v := k_v.lt
  clear hb hz hv HB hsW
  obtain ⟨v_0, v_1, v_2, v_3, v_4, v_5⟩ := k_v.facts
  go_wp2_with fail
  have k_z := C3.new w1 (.bool z.s) (.slice z.A z.n z.c) (.slice z.B z.m z.d)
  have hbn := (Below.refl w1.heap.size w1).alloc (Nat.le_refl _) (.cells #[.bool z.s, .slice z.A z.n z.c, .slice z.B z.m z.d] 24)
  replace k_v := k_v.below hbn
  replace ha := ha.below hbn
  replace hbr := hbr.below hbn
  replace hxn := hxn.below hbn
  replace hxd := hxd.below hbn
  replace HB2 := HB2.trans (hbn.mono HB2.size)
  clear hbn v_0 v_1 v_2 v_3 v_4 v_5 lt_v
  generalize w1.alloc (.cells #[.bool z.s, .slice z.A z.n z.c, .slice z.B z.m z.d] 24) = W2 at *
  refine (rlimbs_v v.A z.A v.n z.n v.c z.c a _ b1 _ (by omega) (by omega) ha hxn h1.out).mono ?_
  rintro e w3 ⟨rfl, hb⟩
  replace k_v := k_v.below hb
  replace k_z := k_z.below hb
  replace hbr := hbr.below hb
  replace hxd := hxd.below hb
  replace HB2 := HB2.trans (hb.mono HB2.size)
  clear hb ha hxn
  obtain ⟨v_0, v_1, v_2, v_3, v_4, v_5⟩ := k_v.facts
  obtain ⟨z_0, z_1, z_2, z_3, z_4, z_5⟩ := k_z.facts
  cases b1
  · go_wp2
    go_ret
    exact ⟨rfl, HB2⟩
  · go_wp2_with fail
    refine (rlimbs_v v.B z.B v.m z.m v.d z.d b _ b2 _ (by omega) (by omega) hbr hxd h2.out).mono ?_
    rintro e w4 ⟨rfl, hb⟩
    replace HB2 := HB2.trans (hb.mono HB2.size)
    clear hb
    go_wp2
    go_ret
    exact ⟨rfl, HB2⟩
theorem rIs_c (v : Rv) (a b : List Nat) (r : Rat) (bb : Bool) (w : World) (hv : Rw w v r 60) (ha : Row w 0 v.A v.n a) (hbr : Row w 0 v.B v.m b) (hr : rn v.s (val a) (val b) = r) (hbb : bb = true ↔ IsN v.s a b) :
    Calls Try.prog 30 #[.agg #[.bool v.s, .slice v.A v.n v.c, .slice v.B v.m v.d]] w fun e w' => e = .returned (.bool bb) ∧ Below w.heap.size w w' := by
  rw [IsN_iff v.s a b ha.l32 hbr.l32 r hr] at hbb
  by_cases hs : v.s = decide (r.num < 0)
  · have e : (decide (a = lim r.num.natAbs) && decide (b = lim r.den)) = bb := by
      by_cases h1 : a = lim r.num.natAbs
      · by_cases h2 : b = lim r.den
        · rw [decide_eq_true h1, decide_eq_true h2, hbb.2 ⟨hs, h1, h2⟩]; rfl
        · rw [decide_eq_false h2, Bool.and_false]
          cases bb
          · rfl
          · exact absurd (hbb.1 rfl).2.2 h2
      · rw [decide_eq_false h1, Bool.false_and]
        cases bb
        · rfl
        · exact absurd (hbb.1 rfl).2.1 h1
    rw [← e]
    exact rIs_rows v a b r _ _ w hv ha hbr hs rfl rfl
  · have e : bb = false := by
      cases bb
      · rfl
      · exact absurd (hbb.1 rfl).1 hs
    rw [e]; exact rIs_no v r w hv hs
end Go.Proofs.Ytadopepoicbahaa
