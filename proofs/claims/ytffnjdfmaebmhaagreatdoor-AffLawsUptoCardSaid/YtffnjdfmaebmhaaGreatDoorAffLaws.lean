/-
  AffLaws: sums may be turned round; a sum less itself is nothing; twice is itself and itself.
-/
import Derived.Test.YtffnjdfmaebmhaaGreatDoorMAb
import Derived.Test.YtffnjdfmaebmhaaGreatDoorMAc
namespace Go.Proofs.YtffnjdfmaebmhaaGreatDoor
set_option maxRecDepth 20000
open Go.RowKit

/-- A rational as it comes in: two rows. -/
def RdR (w : World) (v : Rv) : Prop := v.n ≤ v.c ∧ v.m ≤ v.d ∧ ∃ a b, Row w 0 v.A v.n a ∧ Row w 0 v.B v.m b
theorem RdR.rw {w : World} {v : Rv} {p : Nat} (h : RdR w v) (hn : v.n ≤ p) (hm : v.m ≤ p) : ∃ r, Rw w v r p := by
  obtain ⟨h1, h2, a, b, ha, hb⟩ := h
  exact ⟨_, h1, h2, hn, hm, a, b, ha, hb, rfl⟩
theorem rds_ex {w : World} {p : Nat} : ∀ (l : List Tv), (∀ x ∈ l, RdR w x.r ∧ x.r.n ≤ p ∧ x.r.m ≤ p) → ∃ L, Rds w p l L
  | [], _ => ⟨[], trivial⟩
  | x :: l, h => by
    obtain ⟨r, hr⟩ := (h x List.mem_cons_self).1.rw (h x List.mem_cons_self).2.1 (h x List.mem_cons_self).2.2
    obtain ⟨L, hL⟩ := rds_ex l fun y hy => h y (List.mem_cons_of_mem _ hy)
    exact ⟨(x.v, r) :: L, ⟨rfl, hr⟩, hL⟩
/-- A sum as it comes in. -/
structure Raw (w : World) (v : Cv) (l : List Tv) : Prop where
  fit : Fit w v l
  k : RdR w v.K
  t : ∀ x ∈ l, RdR w x.r
theorem Raw.cw {w : World} {v : Cv} {l : List Tv} (h : Raw w v l) (hc : cost v l ≤ 150) : ∃ L k, Cw w v L k 150 ∧ (Tms w 0 v.A v.n l ∧ Rds w 150 l L) ∧ v.n ≤ 150 := by
  have hl := h.fit.row.len
  obtain ⟨L, hL⟩ := rds_ex (p := 150) l fun x hx => by
    obtain ⟨i, hi, e⟩ := List.getElem_of_mem hx
    have := cost_get (v := v) hl (show l[i]? = some x by rw [List.getElem?_eq_getElem hi, e])
    exact ⟨h.t x hx, by omega, by omega⟩
  obtain ⟨k, hk⟩ := h.k.rw (p := 150) (by unfold cost at hc; omega) (by unfold cost at hc; omega)
  have hn : v.n ≤ 150 := by
    have := costK_len l v.n (by omega)
    unfold cost at hc; omega
  exact ⟨L, k, ⟨h.fit.cap, ⟨l, h.fit.row, hL⟩, hk⟩, ⟨h.fit.row, hL⟩, hn⟩
/-- A sum that is nothing, in a block of its own. -/
structure NAt (W wx : World) (nb : Nat) (z : Cv) : Prop where
  cell : C5 wx nb (.int .i64 z.s) (.slice z.A z.n z.c) (.bool z.K.s) (.slice z.K.A z.K.n z.K.c) (.slice z.K.B z.K.m z.K.d)
  below : Below W.heap.size W wx
  n0 : z.n = 0
  k0 : Rt wx 0 z.K 0
theorem NAt.new {W w3 : World} {z : Cv} {lo : Nat} (hb : Below W.heap.size W w3) (h0 : z.n = 0) (hz : Rt w3 lo z.K 0) : NAt W (w3.alloc (.cells #[.int .i64 z.s, .slice z.A z.n z.c, .bool z.K.s, .slice z.K.A z.K.n z.K.c, .slice z.K.B z.K.m z.K.d] 27)) w3.heap.size z :=
  ⟨C5.new w3 (.int .i64 z.s) (.slice z.A z.n z.c) (.bool z.K.s) (.slice z.K.A z.K.n z.K.c) (.slice z.K.B z.K.m z.K.d), hb.alloc hb.size _, h0, (hz.lower (Nat.zero_le _)).below ((Below.refl _ _).alloc (Nat.le_refl _) _)⟩
theorem NAt.put {W w3 : World} {z : Cv} {lo nb : Nat} (hk : C5 w3 nb (.int .i64 0) (.slice none 0 0) (.bool false) (.slice none 0 0) (.slice none 0 0)) (hnb : W.heap.size ≤ nb) (hlt : nb < lo) (hb : Below W.heap.size W w3) (h0 : z.n = 0) (hz : Rt w3 lo z.K 0) : NAt W (put5 w3 nb (.int .i64 z.s) (.slice z.A z.n z.c) (.bool z.K.s) (.slice z.K.A z.K.n z.K.c) (.slice z.K.B z.K.m z.K.d)) nb z :=
  ⟨hk.put _ _ _ _ _, hb.trans (put5_below hnb _ _ _ _ _), h0, (hz.but hlt (by rw [put5_size]; exact Nat.le_refl _) (put5_but _ _ _ _ _ _ _)).lower (Nat.zero_le _)⟩
theorem sz_neg1 : Sz ((-1 : Int) : Rat) 1 := by
  have := (sz_int 1 (by omega)).neg
  rw [show ((-1 : Int) : Rat) = -(((1 : Nat) : Int) : Rat) by rw [← Rat.intCast_neg]; rfl]
  exact this
theorem twice_k (k : Rat) : k * ((2 : Int) : Rat) = k + k := by
  rw [show ((2 : Int) : Rat) = ((1 : Int) : Rat) + ((1 : Int) : Rat) from by rw [← Rat.intCast_add]; rfl, show ((1 : Int) : Rat) = 1 from rfl, Rat.mul_add, Rat.mul_one]
theorem none_of {w : World} {lo : Nat} {z : Cv} {L : List (Int × Rat)} {k : Rat} (h : Ct w lo z (addL L (scaleL ((-1 : Int) : Rat) L)) (k + k * ((-1 : Int) : Rat))) (hn : NZ L) : z.n = 0 ∧ Rt w lo z.K 0 := by
  rw [addL_neg L hn, show k + k * ((-1 : Int) : Rat) = 0 by rw [Rat.intCast_neg, show ((1 : Int) : Rat) = 1 from rfl, Rat.mul_neg, Rat.mul_one, Rat.add_neg_cancel]] at h
  obtain ⟨_, ⟨l, h1, h2⟩, h3⟩ := h
  exact ⟨by rw [← h1.len, h2.len]; rfl, h3⟩
theorem C5.other {w : World} {b b' : Nat} {x0 x1 x2 x3 x4 : Value} (h : C5 w b' x0 x1 x2 x3 x4) (hne : b' ≠ b) (j : Nat) (x : Value) : C5 (w.setCell ⟨b, j, none⟩ x) b' x0 x1 x2 x3 x4 := by
  show (w.heap.modify b _)[b']? = _
  rw [Array.getElem?_modify, if_neg (fun e => hne e.symm)]
  exact h
set_option maxHeartbeats 25600000 in
theorem AffLaws_any (va vb : Cv) (la lb : List Tv) (w : World) (ha : Raw w va la) (hb : Raw w vb lb) :
    Calls Tryz.prog 4 #[.agg #[.int .i64 va.s, .slice va.A va.n va.c, .bool va.K.s, .slice va.K.A va.K.n va.K.c, .slice va.K.B va.K.m va.K.d], .agg #[.int .i64 vb.s, .slice vb.A vb.n vb.c, .bool vb.K.s, .slice vb.K.A vb.K.n vb.K.c, .slice vb.K.B vb.K.m vb.K.d]] w fun e w' => e = .returned (.bool true) ∧ Below w.heap.size w w' := by
  obtain ⟨ka, kb, HW, hsW⟩ := openK2 w va vb _ rfl
  have k2 : K2 (((w.alloc (.cells #[.int .i64 va.s, .slice va.A va.n va.c, .bool va.K.s, .slice va.K.A va.K.n va.K.c, .slice va.K.B va.K.m va.K.d] 27)).alloc (.cells #[.int .i64 vb.s, .slice vb.A vb.n vb.c, .bool vb.K.s, .slice vb.K.A vb.K.n vb.K.c, .slice vb.K.B vb.K.m vb.K.d] 27)).alloc (.cells #[.int .i64 va.s, .slice va.A va.n va.c, .bool va.K.s, .slice va.K.A va.K.n va.K.c, .slice va.K.B va.K.m va.K.d, .int .i64 vb.s, .slice vb.A vb.n vb.c, .bool vb.K.s, .slice vb.K.A vb.K.n vb.K.c, .slice vb.K.B vb.K.m vb.K.d] 27)) (w.heap.size + 1 + 1) va vb := by
    have := heap_alloc_new ((w.alloc (.cells #[.int .i64 va.s, .slice va.A va.n va.c, .bool va.K.s, .slice va.K.A va.K.n va.K.c, .slice va.K.B va.K.m va.K.d] 27)).alloc (.cells #[.int .i64 vb.s, .slice vb.A vb.n vb.c, .bool vb.K.s, .slice vb.K.A vb.K.n vb.K.c, .slice vb.K.B vb.K.m vb.K.d] 27)) (.cells #[.int .i64 va.s, .slice va.A va.n va.c, .bool va.K.s, .slice va.K.A va.K.n va.K.c, .slice va.K.B va.K.m va.K.d, .int .i64 vb.s, .slice vb.A vb.n vb.c, .bool vb.K.s, .slice vb.K.A vb.K.n vb.K.c, .slice vb.K.B vb.K.m vb.K.d] 27)
    rw [hsW] at this
    exact this
  have HW2 := HW.alloc HW.size (.cells #[.int .i64 va.s, .slice va.A va.n va.c, .bool va.K.s, .slice va.K.A va.K.n va.K.c, .slice va.K.B va.K.m va.K.d, .int .i64 vb.s, .slice vb.A vb.n vb.c, .bool vb.K.s, .slice vb.K.A vb.K.n vb.K.c, .slice vb.K.B vb.K.m vb.K.d] 27)
  have ka2 := ka.alloc (.cells #[.int .i64 va.s, .slice va.A va.n va.c, .bool va.K.s, .slice va.K.A va.K.n va.K.c, .slice va.K.B va.K.m va.K.d, .int .i64 vb.s, .slice vb.A vb.n vb.c, .bool vb.K.s, .slice vb.K.A vb.K.n vb.K.c, .slice vb.K.B vb.K.m vb.K.d] 27)
  have kb2 := kb.alloc (.cells #[.int .i64 va.s, .slice va.A va.n va.c, .bool va.K.s, .slice va.K.A va.K.n va.K.c, .slice va.K.B va.K.m va.K.d, .int .i64 vb.s, .slice vb.A vb.n vb.c, .bool vb.K.s, .slice vb.K.A vb.K.n vb.K.c, .slice vb.K.B vb.K.m vb.K.d] 27)
  have hsW2 : (((w.alloc (.cells #[.int .i64 va.s, .slice va.A va.n va.c, .bool va.K.s, .slice va.K.A va.K.n va.K.c, .slice va.K.B va.K.m va.K.d] 27)).alloc (.cells #[.int .i64 vb.s, .slice vb.A vb.n vb.c, .bool vb.K.s, .slice vb.K.A vb.K.n vb.K.c, .slice vb.K.B vb.K.m vb.K.d] 27)).alloc (.cells #[.int .i64 va.s, .slice va.A va.n va.c, .bool va.K.s, .slice va.K.A va.K.n va.K.c, .slice va.K.B va.K.m va.K.d, .int .i64 vb.s, .slice vb.A vb.n vb.c, .bool vb.K.s, .slice vb.K.A vb.K.n vb.K.c, .slice vb.K.B vb.K.m vb.K.d] 27)).heap.size = w.heap.size + 3 := by simp
  clear ka kb HW hsW
  go_enter Tryz.func4, Tryz.ntmps4
  go_wp2_with fail
  generalize ((w.alloc (.cells #[.int .i64 va.s, .slice va.A va.n va.c, .bool va.K.s, .slice va.K.A va.K.n va.K.c, .slice va.K.B va.K.m va.K.d] 27)).alloc (.cells #[.int .i64 vb.s, .slice vb.A vb.n vb.c, .bool vb.K.s, .slice vb.K.A vb.K.n vb.K.c, .slice vb.K.B vb.K.m vb.K.d] 27)).alloc (.cells #[.int .i64 va.s, .slice va.A va.n va.c, .bool va.K.s, .slice va.K.A va.K.n va.K.c, .slice va.K.B va.K.m va.K.d, .int .i64 vb.s, .slice vb.A vb.n vb.c, .bool vb.K.s, .slice vb.K.A vb.K.n vb.K.c, .slice vb.K.B vb.K.m vb.K.d] 27) = W at *
  have fA : Fit W va la := ⟨ha.fit.row.below HW2, ha.fit.n, ha.fit.kn, ha.fit.km, ha.fit.cap, ha.fit.each⟩
  have fB : Fit W vb lb := ⟨hb.fit.row.below HW2, hb.fit.n, hb.fit.kn, hb.fit.km, hb.fit.cap, hb.fit.each⟩
  refine (heavy_c (w.heap.size + 1 + 1) va vb la lb _ k2 fA fB).mono ?_
  rintro e w1 ⟨r, rfl, hr, hb1⟩
  have HB := Lib.hid (HW2.trans (hb1.mono (by omega)))
  have KA := Lib.hid (ka2.below hb1)
  have KB := Lib.hid (kb2.below hb1)
  have hs1 := hb1.size
  clear hb1 HW2 ka2 kb2 k2 fA fB
  obtain ⟨a0, a1, a2, a3, a4⟩ := KA.out.facts
  obtain ⟨b0, b1, b2, b3, b4⟩ := KB.out.facts
  have HRA := Lib.hid ha
  have HRB := Lib.hid hb
  clear ha hb
  cases r with
  | true =>
    go_wp2
    go_ret
    exact ⟨rfl, HB.out⟩
  | false =>
    have hcost := hr rfl
    clear hr
    obtain ⟨L, k, cA, tA, nA⟩ := HRA.out.cw (by omega)
    obtain ⟨M, q, cB, tB, nB⟩ := HRB.out.cw (by omega)
    have TA := Lib.hid (And.intro tA.1 (And.intro (tA.2.more (show 150 ≤ 1900 by omega)) cA.num))
    have TB := Lib.hid (And.intro tB.1 (And.intro (tB.2.more (show 150 ≤ 1900 by omega)) cB.num))
    have CA := Lib.hid cA
    have HRDS := Lib.hid tA.2
    have HRDT := Lib.hid tB.2
    have CB := Lib.hid cB
    clear cA tA cB tB hcost
    by_cases i1 : IsS w1 va la 64
    · go_wp2_with fail
      refine (rIsK_c va 64 la L k _ (by omega) CA.out.cap (TA.out.1.below HB.out) (Rds.below HB.out TA.out.2.1) ((TA.out.2.2.below HB.out).more (by omega)) (by omega) true ⟨fun _ => i1, fun _ => rfl⟩).mono ?_
      rintro e w2 ⟨rfl, hb2⟩
      have NZA := Lib.hid (i1.nz (Rds.below HB.out TA.out.2.1))
      have HB2 := Lib.hid (HB.out.trans (hb2.mono (by omega)))
      have KA2 := Lib.hid (KA.out.below hb2)
      have KB2 := Lib.hid (KB.out.below hb2)
      have hs2 := hb2.size
      clear hb2 i1 KA KB a0 a1 a2 a3 a4 b0 b1 b2 b3 b4
      obtain ⟨a0, a1, a2, a3, a4⟩ := KA2.out.facts
      obtain ⟨b0, b1, b2, b3, b4⟩ := KB2.out.facts
      by_cases i2 : IsS w2 vb lb 64
      · go_wp2_with fail
        refine (rIsK_c vb 64 lb M q _ (by omega) CB.out.cap (TB.out.1.below HB2.out) (Rds.below HB2.out TB.out.2.1) ((TB.out.2.2.below HB2.out).more (by omega)) (by omega) true ⟨fun _ => i2, fun _ => rfl⟩).mono ?_
        rintro e w3 ⟨rfl, hb3⟩
        have HB3 := Lib.hid (HB2.out.trans (hb3.mono (by omega)))
        have KA3 := Lib.hid (KA2.out.below hb3)
        have KB3 := Lib.hid (KB2.out.below hb3)
        have hs3 := hb3.size
        clear hb3 i2 KA2 KB2 a0 a1 a2 a3 a4 b0 b1 b2 b3 b4
        obtain ⟨a0, a1, a2, a3, a4⟩ := KA3.out.facts
        obtain ⟨b0, b1, b2, b3, b4⟩ := KB3.out.facts
        obtain ⟨f0, f1, f2, f3, f4⟩ := KB3.out.thaw
        go_wp2_with fail
        have SZ : Hid (SzL 150 L ∧ Sz k 150) := ⟨Rds.sz (by omega) HRDS.out, CA.out.num.sz (by omega)⟩
        have KA4 := Lib.hid (KA3.out.other (b := w.heap.size + 1) (by omega) 0 (.int .i64 va.s))
        have KB4 := Lib.hid (KB3.out.set0 (.int .i64 va.s))
        have HB4 := Lib.hid (HB3.out.trans (set_below (w := w3) (B := w.heap.size) (b := w.heap.size + 1) (by omega) 0 (.int .i64 va.s)))
        have hs4 : (w3.setCell ⟨w.heap.size + 1, 0, none⟩ (.int .i64 va.s)).heap.size = w3.heap.size := by simp [World.setCell]
        clear KA3 KB3 a0 a1 a2 a3 a4 b0 b1 b2 b3 b4 f0 f1 f2 f3 f4
        generalize w3.setCell ⟨w.heap.size + 1, 0, none⟩ (.int .i64 va.s) = W4 at *
        have hs5 : w.heap.size + 3 ≤ W4.heap.size := by omega
        clear hs4 hs3 hs2 hs1 hsW2
        have HAL : Hid (∀ w', Below W4.heap.size W4 w' → Cw w' va L k 1900 ∧ C5 w' w.heap.size (.int .i64 va.s) (.slice va.A va.n va.c) (.bool va.K.s) (.slice va.K.A va.K.n va.K.c) (.slice va.K.B va.K.m va.K.d) ∧ Below w.heap.size w w') := fun w' h => ⟨((CA.out.below HB4.out).below h).more (by omega), KA4.out.below h, HB4.out.trans (h.mono (by omega))⟩
        go_cut [5] from 23 to 27 (fun nv wx => ∃ (nb : Nat) (z : Cv), nv = .pointer (some ⟨nb, 0, none⟩) ∧ Hid (NAt W4 wx nb z))
        case first =>
          obtain ⟨a0, a1, a2, a3, a4⟩ := KA4.out.facts
          have m1 : ¬ w.heap.size = W4.heap.size := by omega
          have m2 : ¬ W4.heap.size = w.heap.size := by omega
          have hWA : Below W4.heap.size W4 (W4.alloc (.cells #[.int .i64 0, .slice none 0 0, .bool false, .slice none 0 0, .slice none 0 0] 27)).drew := ((Below.refl _ _).alloc (Nat.le_refl _) _).drew
          have kl0 : C5 (W4.alloc (.cells #[.int .i64 0, .slice none 0 0, .bool false, .slice none 0 0, .slice none 0 0] 27)).drew W4.heap.size (.int .i64 0) (.slice none 0 0) (.bool false) (.slice none 0 0) (.slice none 0 0) := C5.new W4 (.int .i64 0) (.slice none 0 0) (.bool false) (.slice none 0 0) (.slice none 0 0)
          have hzA : (W4.alloc (.cells #[.int .i64 0, .slice none 0 0, .bool false, .slice none 0 0, .slice none 0 0] 27)).drew.heap.size = W4.heap.size + 1 := by simp
          have HWA := Lib.hid (And.intro hWA (And.intro kl0 hzA))
          clear hWA kl0 hzA
          go_region_held3 (fun w' => w'.cell? ⟨w.heap.size, 0, none⟩ = some (.int .i64 va.s) ∧ w'.cell? ⟨w.heap.size, 1, none⟩ = some (.slice va.A va.n va.c) ∧ w'.cell? ⟨w.heap.size, 2, none⟩ = some (.bool va.K.s) ∧ w'.cell? ⟨w.heap.size, 3, none⟩ = some (.slice va.K.A va.K.n va.K.c) ∧ w'.cell? ⟨w.heap.size, 4, none⟩ = some (.slice va.K.B va.K.m va.K.d)) (go_keep)
            (first
            | (go_at_call 21
               refine (rInt_c (-1) _ (by omega)).mono ?_
               rintro e w5 ⟨y, rfl, hy, hb⟩
               have hbW : Below W4.heap.size W4 w5 := by
                 first
                 | (have hbq : Below W4.drew.heap.size W4.drew w5 := by with_reducible exact hb
                    exact (bel1 W4).trans hbq)
                 | (have hbq : Below (W4.alloc (.cells #[.int .i64 0, .slice none 0 0, .bool false, .slice none 0 0, .slice none 0 0] 27)).drew.heap.size (W4.alloc (.cells #[.int .i64 0, .slice none 0 0, .bool false, .slice none 0 0, .slice none 0 0] 27)).drew w5 := by with_reducible exact hb
                    exact HWA.out.1.trans (hbq.mono HWA.out.1.size))
               first
               | (have hbq : Below (W4.alloc (.cells #[.int .i64 0, .slice none 0 0, .bool false, .slice none 0 0, .slice none 0 0] 27)).drew.heap.size (W4.alloc (.cells #[.int .i64 0, .slice none 0 0, .bool false, .slice none 0 0, .slice none 0 0] 27)).drew w5 := by with_reducible exact hb
                  have KN := Lib.hid (And.intro (HWA.out.2.1.below hbq) (show W4.heap.size < w5.heap.size by have h1 := hbq.size; have h2 := HWA.out.2.2; omega))
                  obtain ⟨q0, q1, q2, q3, q4⟩ := KN.out.1.facts
                  obtain ⟨t0, t1, t2, t3, t4⟩ := KN.out.1.thaw
                  clear hbq)
               | skip
               obtain ⟨a0, a1, a2, a3, a4⟩ := (HAL.out _ hbW).2.1.facts
               have HY : Hid (Rw w5 y ((-1 : Int) : Rat) 1900) := (hy.rw sz_neg1).more (by omega)
               have HW5 := Lib.hid hbW
               have hz5 := hbW.size
               have m3 : ¬ w.heap.size = w5.heap.size := by omega
               have m4 : ¬ w5.heap.size = w.heap.size := by omega
               clear hy hb hbW)
            | (go_at_call 15
               refine (ScaleK_c va y L k ((-1 : Int) : Rat) _ ((HAL.out _ (HW5.out.trans (Below.mono (B := w5.heap.size) ?_ hz5))).1) (HY.out.below ?_) (by omega)).mono ?_
               · first
                 | (with_reducible exact Below.refl _ _)
                 | (with_reducible exact (Below.refl _ _).alloc (Nat.le_refl _) _)
               · first
                 | (with_reducible exact Below.refl _ _)
                 | (with_reducible exact (Below.refl _ _).alloc (Nat.le_refl _) _)
               rintro e w6 ⟨x, rfl, hxs, hxn, hxc, hb⟩
               have hb5 : Below w5.heap.size w5 w6 := by
                 first
                 | (with_reducible exact hb)
                 | (have hbq : Below (w5.alloc (.cells #[.int .i64 0, .slice none 0 0, .bool false, .slice none 0 0, .slice none 0 0] 27)).heap.size (w5.alloc (.cells #[.int .i64 0, .slice none 0 0, .bool false, .slice none 0 0, .slice none 0 0] 27)) w6 := by with_reducible exact hb
                    exact ((Below.refl _ _).alloc (Nat.le_refl _) _).trans (hbq.mono (by simp)))
               have hbW := HW5.out.trans (hb5.mono hz5)
               first
               | (have KN6 := Lib.hid (And.intro (KN.out.1.below hb5) (show W4.heap.size < w6.heap.size by have h1 := hb5.size; have h2 := KN.out.2; omega))
                  clear q0 q1 q2 q3 q4 t0 t1 t2 t3 t4
                  obtain ⟨q0, q1, q2, q3, q4⟩ := KN6.out.1.facts
                  obtain ⟨t0, t1, t2, t3, t4⟩ := KN6.out.1.thaw)
               | (have hbq : Below (w5.alloc (.cells #[.int .i64 0, .slice none 0 0, .bool false, .slice none 0 0, .slice none 0 0] 27)).heap.size (w5.alloc (.cells #[.int .i64 0, .slice none 0 0, .bool false, .slice none 0 0, .slice none 0 0] 27)) w6 := by with_reducible exact hb
                  have KM6 := Lib.hid (And.intro ((C5.new w5 (.int .i64 0) (.slice none 0 0) (.bool false) (.slice none 0 0) (.slice none 0 0)).below hbq) (show w5.heap.size < w6.heap.size by have h1 := hbq.size; simp at h1; omega))
                  obtain ⟨q0, q1, q2, q3, q4⟩ := KM6.out.1.facts
                  obtain ⟨t0, t1, t2, t3, t4⟩ := KM6.out.1.thaw
                  clear hbq)
               | skip
               obtain ⟨a0, a1, a2, a3, a4⟩ := (HAL.out _ hbW).2.1.facts
               have HX : Hid (Cw w6 x (scaleL ((-1 : Int) : Rat) L) (k * ((-1 : Int) : Rat)) 1900) := (hxc.cw (SzL.scale sz_neg1 L SZ.out.1) (SZ.out.2.mul sz_neg1)).more (by omega)
               have hx9 : x.n ≤ 1000 := by omega
               clear hxs hxn
               have HW6 := Lib.hid hbW
               have hz6 := hbW.size
               have m5 : ¬ w.heap.size = w6.heap.size := by omega
               have m6 : ¬ w6.heap.size = w.heap.size := by omega
               clear hxc hb hb5 hbW)
            | (go_at_call 13
               refine (AddK_c va x L (scaleL ((-1 : Int) : Rat) L) k (k * ((-1 : Int) : Rat)) _ ((HAL.out _ (HW6.out.trans (Below.mono (B := w6.heap.size) ?_ hz6))).1) (HX.out.below ?_) (by omega) hx9).mono ?_
               · first
                 | (with_reducible exact Below.refl _ _)
                 | (with_reducible exact (Below.refl _ _).alloc (Nat.le_refl _) _)
               · first
                 | (with_reducible exact Below.refl _ _)
                 | (with_reducible exact (Below.refl _ _).alloc (Nat.le_refl _) _)
               rintro e w7 ⟨z, rfl, hzs, hzn, hzc, hb⟩
               have hb6 : Below w6.heap.size w6 w7 := by
                 first
                 | (with_reducible exact hb)
                 | (have hbq : Below (w6.alloc (.cells #[.int .i64 0, .slice none 0 0, .bool false, .slice none 0 0, .slice none 0 0] 27)).heap.size (w6.alloc (.cells #[.int .i64 0, .slice none 0 0, .bool false, .slice none 0 0, .slice none 0 0] 27)) w7 := by with_reducible exact hb
                    exact ((Below.refl _ _).alloc (Nat.le_refl _) _).trans (hbq.mono (by simp)))
               have hbW := HW6.out.trans (hb6.mono hz6)
               first
               | (have KN7 := Lib.hid (KN6.out.1.below hb6)
                  clear q0 q1 q2 q3 q4 t0 t1 t2 t3 t4
                  obtain ⟨q0, q1, q2, q3, q4⟩ := KN7.out.facts
                  obtain ⟨t0, t1, t2, t3, t4⟩ := KN7.out.thaw)
               | (have KM7 := Lib.hid (KM6.out.1.below hb6)
                  clear q0 q1 q2 q3 q4 t0 t1 t2 t3 t4
                  obtain ⟨q0, q1, q2, q3, q4⟩ := KM7.out.facts
                  obtain ⟨t0, t1, t2, t3, t4⟩ := KM7.out.thaw)
               | (have hbq : Below (w6.alloc (.cells #[.int .i64 0, .slice none 0 0, .bool false, .slice none 0 0, .slice none 0 0] 27)).heap.size (w6.alloc (.cells #[.int .i64 0, .slice none 0 0, .bool false, .slice none 0 0, .slice none 0 0] 27)) w7 := by with_reducible exact hb
                  have KO7 := Lib.hid ((C5.new w6 (.int .i64 0) (.slice none 0 0) (.bool false) (.slice none 0 0) (.slice none 0 0)).below hbq)
                  obtain ⟨q0, q1, q2, q3, q4⟩ := KO7.out.facts
                  obtain ⟨t0, t1, t2, t3, t4⟩ := KO7.out.thaw
                  clear hbq)
               | skip
               obtain ⟨a0, a1, a2, a3, a4⟩ := (HAL.out _ hbW).2.1.facts
               have HZ := Lib.hid (none_of hzc NZA.out)
               clear hzs hzn
               have HW7 := Lib.hid hbW
               have hz7 := hbW.size
               have m7 : ¬ w.heap.size = w7.heap.size := by omega
               have m8 : ¬ w7.heap.size = w.heap.size := by omega
               clear hzc hb hb6 hbW))
          all_goals
            go_wp2_with fail
            go_meet
            first
            | exact ⟨_, z, rfl, Lib.hid (NAt.put KN7.out (Nat.le_refl _) KN6.out.2 HW7.out HZ.out.1 HZ.out.2)⟩
            | exact ⟨_, z, rfl, Lib.hid (NAt.put KM7.out hz5 KM6.out.2 HW7.out HZ.out.1 HZ.out.2)⟩
            | exact ⟨_, z, rfl, Lib.hid (NAt.put KO7.out hz6 (by simp) HW7.out HZ.out.1 HZ.out.2)⟩
            | exact ⟨_, z, rfl, Lib.hid (NAt.new HW7.out HZ.out.1 HZ.out.2)⟩
        case rest =>
          obtain ⟨nb, z, rfl, HN⟩ := hcut
          have hnb : W4.heap.size ≤ wc.heap.size := HN.out.below.size
          have HALL : Hid (∀ w', Below wc.heap.size wc w' → Cw w' va L k 1900 ∧ Cw w' (⟨va.s, vb.A, vb.n, vb.c, vb.K⟩ : Cv) M q 1900 ∧ C5 w' w.heap.size (.int .i64 va.s) (.slice va.A va.n va.c) (.bool va.K.s) (.slice va.K.A va.K.n va.K.c) (.slice va.K.B va.K.m va.K.d) ∧ C5 w' (w.heap.size + 1) (.int .i64 va.s) (.slice vb.A vb.n vb.c) (.bool vb.K.s) (.slice vb.K.A vb.K.n vb.K.c) (.slice vb.K.B vb.K.m vb.K.d) ∧ C5 w' nb (.int .i64 z.s) (.slice z.A 0 z.c) (.bool z.K.s) (.slice z.K.A z.K.n z.K.c) (.slice z.K.B z.K.m z.K.d) ∧ Rw w' z.K 0 1900 ∧ Below w.heap.size w w') := fun w' h => by
            have h1 := HAL.out _ (HN.out.below.trans (h.mono hnb))
            have cB := (((CB.out.below HB4.out).below (HN.out.below.trans (h.mono hnb))).more (show 150 ≤ 1900 by omega))
            have cN := HN.out.cell.below h
            rw [HN.out.n0] at cN
            exact ⟨h1.1, ⟨cB.cap, cB.rows, cB.num⟩, h1.2.1, (KB4.out.below HN.out.below).below h, cN, ((HN.out.k0.below h).rw (sz_int 0 (by omega))).more (by omega), h1.2.2⟩
          have SZB : Hid (SzL 150 M ∧ Sz q 150) := ⟨Rds.sz (by omega) HRDT.out, CB.out.num.sz (by omega)⟩
          have HW := Lib.hid (bel1 wc)
          obtain ⟨a0, a1, a2, a3, a4⟩ := (HALL.out _ HW.out).2.2.1.facts
          obtain ⟨b0, b1, b2, b3, b4⟩ := (HALL.out _ HW.out).2.2.2.1.facts
          obtain ⟨n0, n1, n2, n3, n4⟩ := (HALL.out _ HW.out).2.2.2.2.1.facts
          have mk0 : Hid True := trivial
          go_wp2_with fail
          go_region_held3 (fun w' => w'.cell? ⟨w.heap.size, 0, none⟩ = some (.int .i64 va.s) ∧ w'.cell? ⟨w.heap.size, 1, none⟩ = some (.slice va.A va.n va.c) ∧ w'.cell? ⟨w.heap.size, 2, none⟩ = some (.bool va.K.s) ∧ w'.cell? ⟨w.heap.size, 3, none⟩ = some (.slice va.K.A va.K.n va.K.c) ∧ w'.cell? ⟨w.heap.size, 4, none⟩ = some (.slice va.K.B va.K.m va.K.d) ∧ w'.cell? ⟨w.heap.size + 1, 0, none⟩ = some (.int .i64 va.s) ∧ w'.cell? ⟨w.heap.size + 1, 1, none⟩ = some (.slice vb.A vb.n vb.c) ∧ w'.cell? ⟨w.heap.size + 1, 2, none⟩ = some (.bool vb.K.s) ∧ w'.cell? ⟨w.heap.size + 1, 3, none⟩ = some (.slice vb.K.A vb.K.n vb.K.c) ∧ w'.cell? ⟨w.heap.size + 1, 4, none⟩ = some (.slice vb.K.B vb.K.m vb.K.d) ∧ w'.cell? ⟨nb, 1, none⟩ = some (.slice z.A 0 z.c) ∧ w'.cell? ⟨nb, 2, none⟩ = some (.bool z.K.s) ∧ w'.cell? ⟨nb, 3, none⟩ = some (.slice z.K.A z.K.n z.K.c) ∧ w'.cell? ⟨nb, 4, none⟩ = some (.slice z.K.B z.K.m z.K.d)) (go_keep)
            (first
            | (go_at_call 13
               have mk1 := mk0
               clear mk0
               refine (AddK_c va (⟨va.s, vb.A, vb.n, vb.c, vb.K⟩ : Cv) L M k q _ (HALL.out _ HW.out).1 (HALL.out _ HW.out).2.1 (by omega) (by show vb.n ≤ 1000; omega)).mono ?_
               rintro e wz0 ⟨x1, rfl, hs, hn, hc, hb⟩
               have hbW := HW.out.trans (hb.mono HW.out.size)
               clear a0 a1 a2 a3 a4 b0 b1 b2 b3 b4 n0 n1 n2 n3 n4
               obtain ⟨a0, a1, a2, a3, a4⟩ := (HALL.out _ hbW).2.2.1.facts
               obtain ⟨b0, b1, b2, b3, b4⟩ := (HALL.out _ hbW).2.2.2.1.facts
               obtain ⟨n0, n1, n2, n3, n4⟩ := (HALL.out _ hbW).2.2.2.2.1.facts
               have Hx1 : Hid (Cw _ x1 (addL L M) (k + q) 1900) := (hc.cw (SzL.add _ L M (Nat.le_refl _) SZ.out.1 SZB.out.1) (SZ.out.2.add SZB.out.2)).more (by omega)
               have Ex1 : Hid (x1.s = va.s ∧ x1.n ≤ 300) := ⟨hs, by (try dsimp only at hn); omega⟩
               clear hs hn hc
               replace HW := Lib.hid hbW
               clear hb hbW)
            | (go_at_call 13
               have mk2 := mk1
               clear mk1
               refine (AddK_c (⟨va.s, vb.A, vb.n, vb.c, vb.K⟩ : Cv) va M L q k _ (HALL.out _ HW.out).2.1 (HALL.out _ HW.out).1 (by show vb.n ≤ 1000; omega) (by omega)).mono ?_
               rintro e wz1 ⟨x2, rfl, hs, hn, hc, hb⟩
               have hbW := HW.out.trans (hb.mono HW.out.size)
               clear a0 a1 a2 a3 a4 b0 b1 b2 b3 b4 n0 n1 n2 n3 n4
               obtain ⟨a0, a1, a2, a3, a4⟩ := (HALL.out _ hbW).2.2.1.facts
               obtain ⟨b0, b1, b2, b3, b4⟩ := (HALL.out _ hbW).2.2.2.1.facts
               obtain ⟨n0, n1, n2, n3, n4⟩ := (HALL.out _ hbW).2.2.2.2.1.facts
               replace Hx1 := Lib.hid (Hx1.out.below hb)
               have Hx2 : Hid (Cw _ x2 (addL M L) (q + k) 1900) := (hc.cw (SzL.add _ M L (Nat.le_refl _) SZB.out.1 SZ.out.1) (SZB.out.2.add SZ.out.2)).more (by omega)
               have Ex2 : Hid (x2.s = va.s ∧ x2.n ≤ 300) := ⟨hs, by (try dsimp only at hn); omega⟩
               clear hs hn hc
               replace HW := Lib.hid hbW
               clear hb hbW)
            | (go_at_call 12
               have mk3 := mk2
               clear mk2
               refine (rSameK_c x1 x2 _ _ _ _ _ Hx1.out Hx2.out (by have := Ex1.out.2; omega) (by have := Ex2.out.2; omega) true (decide_eq_true ⟨by rw [Ex1.out.1, Ex2.out.1], addL_comm _ _, Rat.add_comm _ _⟩)).mono ?_
               rintro e wz2 ⟨rfl, hb⟩
               have hbW := HW.out.trans (hb.mono HW.out.size)
               clear a0 a1 a2 a3 a4 b0 b1 b2 b3 b4 n0 n1 n2 n3 n4
               obtain ⟨a0, a1, a2, a3, a4⟩ := (HALL.out _ hbW).2.2.1.facts
               obtain ⟨b0, b1, b2, b3, b4⟩ := (HALL.out _ hbW).2.2.2.1.facts
               obtain ⟨n0, n1, n2, n3, n4⟩ := (HALL.out _ hbW).2.2.2.2.1.facts
               replace Hx1 := Lib.hid (Hx1.out.below hb)
               replace Hx2 := Lib.hid (Hx2.out.below hb)
               clear Hx1 Hx2
               replace HW := Lib.hid hbW
               clear hb hbW)
            | (go_at_call 22
               have mk4 := mk3
               clear mk3
               refine (rZero_v z.K 0 true _ ((HALL.out _ HW.out).2.2.2.2.2.1.more (by omega)) (decide_eq_true rfl)).mono ?_
               rintro e wz3 ⟨rfl, hb⟩
               have hbW := HW.out.trans (hb.mono HW.out.size)
               clear a0 a1 a2 a3 a4 b0 b1 b2 b3 b4 n0 n1 n2 n3 n4
               obtain ⟨a0, a1, a2, a3, a4⟩ := (HALL.out _ hbW).2.2.1.facts
               obtain ⟨b0, b1, b2, b3, b4⟩ := (HALL.out _ hbW).2.2.2.1.facts
               obtain ⟨n0, n1, n2, n3, n4⟩ := (HALL.out _ hbW).2.2.2.2.1.facts
               replace HW := Lib.hid hbW
               clear hb hbW)
            | (go_at_call 21
               have mk5 := mk4
               clear mk4
               refine (rInt_c 2 _ (by omega)).mono ?_
               rintro e wz4 ⟨y, rfl, hy, hb⟩
               have hbW := HW.out.trans (hb.mono HW.out.size)
               clear a0 a1 a2 a3 a4 b0 b1 b2 b3 b4 n0 n1 n2 n3 n4
               obtain ⟨a0, a1, a2, a3, a4⟩ := (HALL.out _ hbW).2.2.1.facts
               obtain ⟨b0, b1, b2, b3, b4⟩ := (HALL.out _ hbW).2.2.2.1.facts
               obtain ⟨n0, n1, n2, n3, n4⟩ := (HALL.out _ hbW).2.2.2.2.1.facts
               have Hy : Hid (Rw _ y ((2 : Int) : Rat) 1900) := (hy.rw (sz_int 2 (by omega))).more (by omega)
               clear hy
               replace HW := Lib.hid hbW
               clear hb hbW)
            | (go_at_call 15
               have mk6 := mk5
               clear mk5
               refine (ScaleK_c va y L k ((2 : Int) : Rat) _ (HALL.out _ HW.out).1 Hy.out (by omega)).mono ?_
               rintro e wz5 ⟨x3, rfl, hs, hn, hc, hb⟩
               have hbW := HW.out.trans (hb.mono HW.out.size)
               clear a0 a1 a2 a3 a4 b0 b1 b2 b3 b4 n0 n1 n2 n3 n4
               obtain ⟨a0, a1, a2, a3, a4⟩ := (HALL.out _ hbW).2.2.1.facts
               obtain ⟨b0, b1, b2, b3, b4⟩ := (HALL.out _ hbW).2.2.2.1.facts
               obtain ⟨n0, n1, n2, n3, n4⟩ := (HALL.out _ hbW).2.2.2.2.1.facts
               replace Hy := Lib.hid (Hy.out.below hb)
               have Hx3 : Hid (Cw _ x3 (scaleL ((2 : Int) : Rat) L) (k * ((2 : Int) : Rat)) 1900) := (hc.cw (SzL.scale (sz_int 2 (by omega)) L SZ.out.1) (SZ.out.2.mul (sz_int 2 (by omega)))).more (by omega)
               have Ex3 : Hid (x3.s = va.s ∧ x3.n ≤ 300) := ⟨hs, by omega⟩
               clear hs hn hc
               replace HW := Lib.hid hbW
               clear hb hbW)
            | (go_at_call 13
               have mk7 := mk6
               clear mk6
               refine (AddK_c va va L L k k _ (HALL.out _ HW.out).1 (HALL.out _ HW.out).1 (by omega) (by omega)).mono ?_
               rintro e wz6 ⟨x4, rfl, hs, hn, hc, hb⟩
               have hbW := HW.out.trans (hb.mono HW.out.size)
               clear a0 a1 a2 a3 a4 b0 b1 b2 b3 b4 n0 n1 n2 n3 n4
               obtain ⟨a0, a1, a2, a3, a4⟩ := (HALL.out _ hbW).2.2.1.facts
               obtain ⟨b0, b1, b2, b3, b4⟩ := (HALL.out _ hbW).2.2.2.1.facts
               obtain ⟨n0, n1, n2, n3, n4⟩ := (HALL.out _ hbW).2.2.2.2.1.facts
               replace Hy := Lib.hid (Hy.out.below hb)
               replace Hx3 := Lib.hid (Hx3.out.below hb)
               have Hx4 : Hid (Cw _ x4 (addL L L) (k + k) 1900) := (hc.cw (SzL.add _ L L (Nat.le_refl _) SZ.out.1 SZ.out.1) (SZ.out.2.add SZ.out.2)).more (by omega)
               have Ex4 : Hid (x4.s = va.s ∧ x4.n ≤ 300) := ⟨hs, by (try dsimp only at hn); omega⟩
               clear hs hn hc
               replace HW := Lib.hid hbW
               clear hb hbW)
            | (go_at_call 12
               have mk8 := mk7
               clear mk7
               refine (rSameK_c x3 x4 _ _ _ _ _ Hx3.out Hx4.out (by have := Ex3.out.2; omega) (by have := Ex4.out.2; omega) true (decide_eq_true ⟨by rw [Ex3.out.1, Ex4.out.1], (addL_twice _).symm, twice_k k⟩)).mono ?_
               rintro e wz7 ⟨rfl, hb⟩
               have hbW := HW.out.trans (hb.mono HW.out.size)
               clear a0 a1 a2 a3 a4 b0 b1 b2 b3 b4 n0 n1 n2 n3 n4
               obtain ⟨a0, a1, a2, a3, a4⟩ := (HALL.out _ hbW).2.2.1.facts
               obtain ⟨b0, b1, b2, b3, b4⟩ := (HALL.out _ hbW).2.2.2.1.facts
               obtain ⟨n0, n1, n2, n3, n4⟩ := (HALL.out _ hbW).2.2.2.2.1.facts
               replace Hy := Lib.hid (Hy.out.below hb)
               replace Hx3 := Lib.hid (Hx3.out.below hb)
               replace Hx4 := Lib.hid (Hx4.out.below hb)
               clear Hx3 Hx4
               replace HW := Lib.hid hbW
               clear hb hbW)
            | (go_at_call 11
               have mk9 := mk8
               clear mk8
               refine (known8_c _).mono ?_
               rintro e wz8 ⟨rfl, hb⟩
               have hbW := HW.out.trans (hb.mono HW.out.size)
               clear a0 a1 a2 a3 a4 b0 b1 b2 b3 b4 n0 n1 n2 n3 n4
               obtain ⟨a0, a1, a2, a3, a4⟩ := (HALL.out _ hbW).2.2.1.facts
               obtain ⟨b0, b1, b2, b3, b4⟩ := (HALL.out _ hbW).2.2.2.1.facts
               obtain ⟨n0, n1, n2, n3, n4⟩ := (HALL.out _ hbW).2.2.2.2.1.facts
               replace HW := Lib.hid hbW
               clear hb hbW))
          clear a0 a1 a2 a3 a4 b0 b1 b2 b3 b4 n0 n1 n2 n3 n4
          go_wp2
          go_ret
          exact ⟨rfl, (HALL.out _ HW.out).2.2.2.2.2.2⟩
      · go_wp2_with fail
        refine (rIsK_c vb 64 lb M q _ (by omega) CB.out.cap (TB.out.1.below HB2.out) (Rds.below HB2.out TB.out.2.1) ((TB.out.2.2.below HB2.out).more (by omega)) (by omega) false ⟨fun h => (by cases h), fun h => absurd h i2⟩).mono ?_
        rintro e w3 ⟨rfl, hb3⟩
        have HB3 := Lib.hid (HB2.out.trans (hb3.mono (by omega)))
        clear hb3 i2
        go_wp2
        go_ret
        exact ⟨rfl, HB3.out⟩
    · go_wp2_with fail
      refine (rIsK_c va 64 la L k _ (by omega) CA.out.cap (TA.out.1.below HB.out) (Rds.below HB.out TA.out.2.1) ((TA.out.2.2.below HB.out).more (by omega)) (by omega) false ⟨fun h => (by cases h), fun h => absurd h i1⟩).mono ?_
      rintro e w2 ⟨rfl, hb2⟩
      have HB2 := Lib.hid (HB.out.trans (hb2.mono (by omega)))
      clear hb2 i1
      go_wp2
      go_ret
      exact ⟨rfl, HB2.out⟩
end Go.Proofs.YtffnjdfmaebmhaaGreatDoor
