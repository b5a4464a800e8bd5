/-
  AffSums: two sums together, one so often, what it is at values, whether it may be.
  P8.1: for every two sums, of any strengths, terms and numbers, every rational, every row of rationals and every int that hold together at most 1048576 values, AffSums answers true and leaves what it was handed as it was: the two together, one so often, what it is at the values, whether it may be, and whether two are one, are as the document's own reckoning has them. Condition: that bound on what the arguments hold.
-/
import Derived.Test.YtffnjdfmaebmhaaGreatDoorMAr
import Derived.Test.YtffnjdfmaebmhaaGreatDoorMAp
import Derived.Test.YtffnjdfmaebmhaaGreatDoorAtR
import Derived.Test.YtffnjdfmaebmhaaGreatDoorMAu
import Derived.Test.YtffnjdfmaebmhaaGreatDoorCards
import Derived.Test.YtffnjdfmaebmhaaGreatDoorTie
import Derived.LaidMore
import Derived.Handed
import Derived.Stop.Joined
import Derived.Lib.LaidTab
import Derived.Lay
import Derived.OpenShut
import Derived.SevenTiedAt
import Derived.Stop.LaidErr
import Derived.Deep.DeepHandedRow
namespace Go.Proofs.YtffnjdfmaebmhaaGreatDoor
set_option maxRecDepth 20000
open Go.RowKit

theorem openK2R (w : World) (v u : Cv) (z : Rv) (W : World) (h : ((w.alloc (.cells #[.int .i64 v.s, .slice v.A v.n v.c, .bool v.K.s, .slice v.K.A v.K.n v.K.c, .slice v.K.B v.K.m v.K.d] 27)).alloc (.cells #[.int .i64 u.s, .slice u.A u.n u.c, .bool u.K.s, .slice u.K.A u.K.n u.K.c, .slice u.K.B u.K.m u.K.d] 27)).alloc (.cells #[.bool z.s, .slice z.A z.n z.c, .slice z.B z.m z.d] 25) = W) :
    C5 W w.heap.size (.int .i64 v.s) (.slice v.A v.n v.c) (.bool v.K.s) (.slice v.K.A v.K.n v.K.c) (.slice v.K.B v.K.m v.K.d) ∧ C5 W (w.heap.size + 1) (.int .i64 u.s) (.slice u.A u.n u.c) (.bool u.K.s) (.slice u.K.A u.K.n u.K.c) (.slice u.K.B u.K.m u.K.d) ∧ C3 W (w.heap.size + 1 + 1) (.bool z.s) (.slice z.A z.n z.c) (.slice z.B z.m z.d) ∧ Below w.heap.size w W ∧ W.heap.size = w.heap.size + 3 := by
  subst h
  have e1 : (w.alloc (.cells #[.int .i64 v.s, .slice v.A v.n v.c, .bool v.K.s, .slice v.K.A v.K.n v.K.c, .slice v.K.B v.K.m v.K.d] 27)).heap.size = w.heap.size + 1 := by simp
  have e2 : ((w.alloc (.cells #[.int .i64 v.s, .slice v.A v.n v.c, .bool v.K.s, .slice v.K.A v.K.n v.K.c, .slice v.K.B v.K.m v.K.d] 27)).alloc (.cells #[.int .i64 u.s, .slice u.A u.n u.c, .bool u.K.s, .slice u.K.A u.K.n u.K.c, .slice u.K.B u.K.m u.K.d] 27)).heap.size = w.heap.size + 1 + 1 := by simp
  refine ⟨((C5.new w (.int .i64 v.s) (.slice v.A v.n v.c) (.bool v.K.s) (.slice v.K.A v.K.n v.K.c) (.slice v.K.B v.K.m v.K.d)).alloc _).alloc _, ?_, ?_, ?_, by simp⟩
  · have := C5.new (w.alloc (.cells #[.int .i64 v.s, .slice v.A v.n v.c, .bool v.K.s, .slice v.K.A v.K.n v.K.c, .slice v.K.B v.K.m v.K.d] 27)) (.int .i64 u.s) (.slice u.A u.n u.c) (.bool u.K.s) (.slice u.K.A u.K.n u.K.c) (.slice u.K.B u.K.m u.K.d)
    rw [e1] at this; exact this.alloc _
  · have := C3.new ((w.alloc (.cells #[.int .i64 v.s, .slice v.A v.n v.c, .bool v.K.s, .slice v.K.A v.K.n v.K.c, .slice v.K.B v.K.m v.K.d] 27)).alloc (.cells #[.int .i64 u.s, .slice u.A u.n u.c, .bool u.K.s, .slice u.K.A u.K.n u.K.c, .slice u.K.B u.K.m u.K.d] 27)) (.bool z.s) (.slice z.A z.n z.c) (.slice z.B z.m z.d)
    rw [e2] at this; exact this
  · exact (((Below.refl w.heap.size w).alloc (Nat.le_refl _) _).alloc (by simp) _).alloc (by simp; omega) _
theorem nums_one (w : World) (z : Rv) : Nums (w.alloc (.cells #[.bool z.s, .slice z.A z.n z.c, .slice z.B z.m z.d] 25)) (some ⟨w.heap.size, 0, none⟩) 1 [z] :=
  ⟨rfl, fun _ => ⟨_, 0, rfl, by simp, fun i r h => by
    have hi : i = 0 := by
      have := (List.getElem?_eq_some_iff.1 h).1
      simp at this; omega
    subst hi
    simp at h
    subst h
    obtain ⟨h0, h1, h2, _⟩ := (C3.new w (.bool z.s) (.slice z.A z.n z.c) (.slice z.B z.m z.d)).facts
    exact ⟨h0, h1, h2⟩⟩⟩
theorem IsS.iff {w w' : World} {v : Cv} {l : List Tv} {N : Int} {L : List (Int × Rat)} {k : Rat} {p : Nat} (hl : Rds w p l L) (hk : Rw w v.K k p) (hb : Below w.heap.size w w') : IsS w v l N ↔ IsS w' v l N := by
  constructor
  · rintro ⟨h1, h2, h3⟩
    refine ⟨h1, (Nrm.iff hk hb).1 h2, fun j x hj hx => ?_⟩
    obtain ⟨g1, g2, g3, g4, g5⟩ := h3 j x hj hx
    obtain ⟨y, X, hy, _, _, hxr⟩ := hl.get j hj
    rw [hx] at hy
    injection hy with hy
    subst hy
    exact ⟨g1, g2, g3, (Nrm.iff hxr hb).1 g4, g5⟩
  · rintro ⟨h1, h2, h3⟩
    refine ⟨h1, (Nrm.iff hk hb).2 h2, fun j x hj hx => ?_⟩
    obtain ⟨g1, g2, g3, g4, g5⟩ := h3 j x hj hx
    obtain ⟨y, X, hy, _, _, hxr⟩ := hl.get j hj
    rw [hx] at hy
    injection hy with hy
    subst hy
    exact ⟨g1, g2, g3, (Nrm.iff hxr hb).2 g4, g5⟩
set_option maxHeartbeats 25600000 in
theorem AffSums_any (va vb : Cv) (z : Rv) (A : Option Addr) (n c : Nat) (N : Int) (la lb : List Tv) (lv : List Rv) (w : World) (ha : Raw w va la) (hb : Raw w vb lb) (hz : RdR w z) (hzn : z.n ≤ 1048576 ∧ z.m ≤ 1048576)
    (hA : Nums w A n lv) (hn : n ≤ 1048576) (hlv : ∀ x ∈ lv, RdR w x ∧ x.n ≤ 1048576 ∧ x.m ≤ 1048576) (hN : 0 ≤ N ∧ N ≤ 9223372036854775807 ∨ N < 0 ∧ -9223372036854775808 ≤ N)
    (hv : ∀ x ∈ la, -9223372036854775808 ≤ x.v ∧ x.v ≤ 9223372036854775807) :
    Calls Tryz.prog 3 #[.agg #[.int .i64 va.s, .slice va.A va.n va.c, .bool va.K.s, .slice va.K.A va.K.n va.K.c, .slice va.K.B va.K.m va.K.d], .agg #[.int .i64 vb.s, .slice vb.A vb.n vb.c, .bool vb.K.s, .slice vb.K.A vb.K.n vb.K.c, .slice vb.K.B vb.K.m vb.K.d], .agg #[.bool z.s, .slice z.A z.n z.c, .slice z.B z.m z.d], .slice A n c, .int .i64 N] w fun e w' => e = .returned (.bool true) ∧ Below w.heap.size w w' := by
  obtain ⟨ka, kb, kz, HW, hsW⟩ := openK2R w va vb z _ rfl
  have k2 : K2 ((((w.alloc (.cells #[.int .i64 va.s, .slice va.A va.n va.c, .bool va.K.s, .slice va.K.A va.K.n va.K.c, .slice va.K.B va.K.m va.K.d] 27)).alloc (.cells #[.int .i64 vb.s, .slice vb.A vb.n vb.c, .bool vb.K.s, .slice vb.K.A vb.K.n vb.K.c, .slice vb.K.B vb.K.m vb.K.d] 27)).alloc (.cells #[.bool z.s, .slice z.A z.n z.c, .slice z.B z.m z.d] 25)).alloc (.cells #[.int .i64 va.s, .slice va.A va.n va.c, .bool va.K.s, .slice va.K.A va.K.n va.K.c, .slice va.K.B va.K.m va.K.d, .int .i64 vb.s, .slice vb.A vb.n vb.c, .bool vb.K.s, .slice vb.K.A vb.K.n vb.K.c, .slice vb.K.B vb.K.m vb.K.d] 27)) (w.heap.size + 3) va vb := by
    have := heap_alloc_new (((w.alloc (.cells #[.int .i64 va.s, .slice va.A va.n va.c, .bool va.K.s, .slice va.K.A va.K.n va.K.c, .slice va.K.B va.K.m va.K.d] 27)).alloc (.cells #[.int .i64 vb.s, .slice vb.A vb.n vb.c, .bool vb.K.s, .slice vb.K.A vb.K.n vb.K.c, .slice vb.K.B vb.K.m vb.K.d] 27)).alloc (.cells #[.bool z.s, .slice z.A z.n z.c, .slice z.B z.m z.d] 25)) (.cells #[.int .i64 va.s, .slice va.A va.n va.c, .bool va.K.s, .slice va.K.A va.K.n va.K.c, .slice va.K.B va.K.m va.K.d, .int .i64 vb.s, .slice vb.A vb.n vb.c, .bool vb.K.s, .slice vb.K.A vb.K.n vb.K.c, .slice vb.K.B vb.K.m vb.K.d] 27)
    rw [hsW] at this
    exact this
  have HW2 := HW.alloc HW.size (.cells #[.int .i64 va.s, .slice va.A va.n va.c, .bool va.K.s, .slice va.K.A va.K.n va.K.c, .slice va.K.B va.K.m va.K.d, .int .i64 vb.s, .slice vb.A vb.n vb.c, .bool vb.K.s, .slice vb.K.A vb.K.n vb.K.c, .slice vb.K.B vb.K.m vb.K.d] 27)
  have ka2 := ka.alloc (.cells #[.int .i64 va.s, .slice va.A va.n va.c, .bool va.K.s, .slice va.K.A va.K.n va.K.c, .slice va.K.B va.K.m va.K.d, .int .i64 vb.s, .slice vb.A vb.n vb.c, .bool vb.K.s, .slice vb.K.A vb.K.n vb.K.c, .slice vb.K.B vb.K.m vb.K.d] 27)
  have kb2 := kb.alloc (.cells #[.int .i64 va.s, .slice va.A va.n va.c, .bool va.K.s, .slice va.K.A va.K.n va.K.c, .slice va.K.B va.K.m va.K.d, .int .i64 vb.s, .slice vb.A vb.n vb.c, .bool vb.K.s, .slice vb.K.A vb.K.n vb.K.c, .slice vb.K.B vb.K.m vb.K.d] 27)
  have kz2 := kz.alloc (.cells #[.int .i64 va.s, .slice va.A va.n va.c, .bool va.K.s, .slice va.K.A va.K.n va.K.c, .slice va.K.B va.K.m va.K.d, .int .i64 vb.s, .slice vb.A vb.n vb.c, .bool vb.K.s, .slice vb.K.A vb.K.n vb.K.c, .slice vb.K.B vb.K.m vb.K.d] 27)
  have hsW2 : ((((w.alloc (.cells #[.int .i64 va.s, .slice va.A va.n va.c, .bool va.K.s, .slice va.K.A va.K.n va.K.c, .slice va.K.B va.K.m va.K.d] 27)).alloc (.cells #[.int .i64 vb.s, .slice vb.A vb.n vb.c, .bool vb.K.s, .slice vb.K.A vb.K.n vb.K.c, .slice vb.K.B vb.K.m vb.K.d] 27)).alloc (.cells #[.bool z.s, .slice z.A z.n z.c, .slice z.B z.m z.d] 25)).alloc (.cells #[.int .i64 va.s, .slice va.A va.n va.c, .bool va.K.s, .slice va.K.A va.K.n va.K.c, .slice va.K.B va.K.m va.K.d, .int .i64 vb.s, .slice vb.A vb.n vb.c, .bool vb.K.s, .slice vb.K.A vb.K.n vb.K.c, .slice vb.K.B vb.K.m vb.K.d] 27)).heap.size = w.heap.size + 4 := by simp
  have e3 : (((w.alloc (.cells #[.int .i64 va.s, .slice va.A va.n va.c, .bool va.K.s, .slice va.K.A va.K.n va.K.c, .slice va.K.B va.K.m va.K.d] 27)).alloc (.cells #[.int .i64 vb.s, .slice vb.A vb.n vb.c, .bool vb.K.s, .slice vb.K.A vb.K.n vb.K.c, .slice vb.K.B vb.K.m vb.K.d] 27)).alloc (.cells #[.bool z.s, .slice z.A z.n z.c, .slice z.B z.m z.d] 25)).heap.size = w.heap.size + 3 := hsW
  have HLV := Lib.hid (And.intro hA (And.intro hlv hv))
  have HZ := Lib.hid (And.intro hz hzn)
  clear ka kb kz HW hsW hA hlv hz hzn hv
  go_enter Tryz.func3, Tryz.ntmps3
  go_wp2_with fail
  generalize (((w.alloc (.cells #[.int .i64 va.s, .slice va.A va.n va.c, .bool va.K.s, .slice va.K.A va.K.n va.K.c, .slice va.K.B va.K.m va.K.d] 27)).alloc (.cells #[.int .i64 vb.s, .slice vb.A vb.n vb.c, .bool vb.K.s, .slice vb.K.A vb.K.n vb.K.c, .slice vb.K.B vb.K.m vb.K.d] 27)).alloc (.cells #[.bool z.s, .slice z.A z.n z.c, .slice z.B z.m z.d] 25)).alloc (.cells #[.int .i64 va.s, .slice va.A va.n va.c, .bool va.K.s, .slice va.K.A va.K.n va.K.c, .slice va.K.B va.K.m va.K.d, .int .i64 vb.s, .slice vb.A vb.n vb.c, .bool vb.K.s, .slice vb.K.A vb.K.n vb.K.c, .slice vb.K.B vb.K.m vb.K.d] 27) = W at *
  have fA : Fit W va la := ⟨ha.fit.row.below HW2, ha.fit.n, ha.fit.kn, ha.fit.km, ha.fit.cap, ha.fit.each⟩
  have fB : Fit W vb lb := ⟨hb.fit.row.below HW2, hb.fit.n, hb.fit.kn, hb.fit.km, hb.fit.cap, hb.fit.each⟩
  refine (heavy_c (w.heap.size + 3) va vb la lb _ k2 fA fB).mono ?_
  rintro e w1 ⟨r, rfl, hr, hb1⟩
  have HB := Lib.hid (HW2.trans (hb1.mono (by omega)))
  have KA := Lib.hid (ka2.below hb1)
  have KB := Lib.hid (kb2.below hb1)
  have KZ := Lib.hid (kz2.below hb1)
  have hs1 := hb1.size
  clear hb1 HW2 ka2 kb2 kz2 k2 fA fB
  have HRA := Lib.hid ha
  have HRB := Lib.hid hb
  clear ha hb
  obtain ⟨z0, z1, z2, z3, z4, z5⟩ := KZ.out.facts
  cases r with
  | true =>
    go_wp2
    go_ret
    exact ⟨rfl, HB.out⟩
  | false =>
    have hcost := hr rfl
    clear hr
    obtain ⟨L, k, cA, tA, nA⟩ := HRA.out.cw (by omega)
    obtain ⟨M, q, cB, tB, nB⟩ := HRB.out.cw (by omega)
    have HC := Lib.hid hcost
    have HRD : Hid (Tms w 0 va.A va.n la ∧ Rds w 1900 la L ∧ Rw w va.K k 1900) := ⟨tA.1, tA.2.more (by omega), cA.num.more (by omega)⟩
    have HRE : Hid (Tms w 0 vb.A vb.n lb ∧ Rds w 1900 lb M ∧ Rw w vb.K q 1900) := ⟨tB.1, tB.2.more (by omega), cB.num.more (by omega)⟩
    have CA := Lib.hid cA
    have CB := Lib.hid cB
    have HRDS := Lib.hid tA.2
    have HRDT := Lib.hid tB.2
    clear cA tA cB tB hcost
    go_wp2_with fail
    refine (many_c (some ⟨w1.heap.size, 0, none⟩) 1 1 [z] _ (nums_one w1 z) (by omega) (fun x hx => by simp at hx; subst hx; exact HZ.out.2)).mono ?_
    rintro e w2 ⟨r, rfl, hr, hb2⟩
    have hb2' : Below w1.heap.size w1 w2 := ((Below.refl _ _).alloc (Nat.le_refl _) _).trans (hb2.mono (by simp))
    have HB2 := Lib.hid (HB.out.trans (hb2'.mono (by omega)))
    have KA2 := Lib.hid (KA.out.below hb2')
    have KB2 := Lib.hid (KB.out.below hb2')
    have KZ2 := Lib.hid (KZ.out.below hb2')
    have hs2 := hb2'.size
    have HR := Lib.hid hr
    clear hb2 hb2' KA KB KZ z0 z1 z2 z3 z4 z5 hr
    cases r with
    | true =>
      go_wp2
      go_ret
      exact ⟨rfl, HB2.out⟩
    | false =>
      have HZ3 := Lib.hid ((HR.out rfl).2 z (by simp))
      clear HR
      go_wp2_with fail
      refine (many_c A n c lv _ (HLV.out.1.below HB2.out) hn (fun x hx => (HLV.out.2.1 x hx).2)).mono ?_
      rintro e w3 ⟨r, rfl, hr, hb3⟩
      have HB3 := Lib.hid (HB2.out.trans (hb3.mono (by omega)))
      have KA3 := Lib.hid (KA2.out.below hb3)
      have KB3 := Lib.hid (KB2.out.below hb3)
      have KZ3 := Lib.hid (KZ2.out.below hb3)
      have hs3 := hb3.size
      have HR := Lib.hid hr
      clear hb3 KA2 KB2 KZ2 hr
      cases r with
      | true =>
        go_wp2
        go_ret
        exact ⟨rfl, HB3.out⟩
      | false =>
        have HV3 := Lib.hid (HR.out rfl)
        clear HR
        obtain ⟨r0, hr0⟩ : ∃ r0 : Bool, r0 = true ↔ IsS w va la N := by classical exact ⟨decide (IsS w va la N), by simp⟩
        have HR0 := Lib.hid hr0
        clear hr0
        have q0 : (r0 == r0) = true := beq_self_eq_true _
        obtain ⟨a0, a1, a2, a3, a4⟩ := KA3.out.facts
        go_wp2_with fail
        refine (rise_c va la _ (HRD.out.1.below HB3.out) (by omega)).mono ?_
        rintro e w4 ⟨r, rfl, hb4⟩
        have HB4 := Lib.hid (HB3.out.trans (hb4.mono (by omega)))
        have KA4 := Lib.hid (KA3.out.below hb4)
        have KB4 := Lib.hid (KB3.out.below hb4)
        have KZ4 := Lib.hid (KZ3.out.below hb4)
        have hs4 := hb4.size
        clear hb4 KA3 KB3 KZ3 a0 a1 a2 a3 a4
        obtain ⟨a0, a1, a2, a3, a4⟩ := KA4.out.facts
        obtain ⟨b0, b1, b2, b3, b4⟩ := KB4.out.facts
        cases r with
        | false =>
          clear b0 b1 b2 b3 b4
          go_wp2_with fail
          have HALL : Hid (∀ w', Below w4.heap.size w4 w' → C5 w' w.heap.size (.int .i64 va.s) (.slice va.A va.n va.c) (.bool va.K.s) (.slice va.K.A va.K.n va.K.c) (.slice va.K.B va.K.m va.K.d) ∧ Below w.heap.size w w') := fun w' h => ⟨KA4.out.below h, HB4.out.trans (h.mono (by omega))⟩
          have HW := Lib.hid (bel1 w4)
          have mk0 : Hid True := trivial
          go_region_held3 (fun w' => w'.cell? ⟨w.heap.size, 0, none⟩ = some (.int .i64 va.s) ∧ w'.cell? ⟨w.heap.size, 1, none⟩ = some (.slice va.A va.n va.c) ∧ w'.cell? ⟨w.heap.size, 2, none⟩ = some (.bool va.K.s) ∧ w'.cell? ⟨w.heap.size, 3, none⟩ = some (.slice va.K.A va.K.n va.K.c) ∧ w'.cell? ⟨w.heap.size, 4, none⟩ = some (.slice va.K.B va.K.m va.K.d)) (go_keep)
            (first
            | (go_at_call 9
               have mk1 := mk0
               clear mk0
               refine (IsK_c va N la L k _ (HRD.out.1.below (HALL.out _ HW.out).2) (Rds.below (HALL.out _ HW.out).2 HRD.out.2.1) (HRD.out.2.2.below (HALL.out _ HW.out).2) (by omega) r0 ⟨fun h => (IsS.iff HRD.out.2.1 HRD.out.2.2 (HALL.out _ HW.out).2).1 (HR0.out.1 h), fun h => HR0.out.2 ((IsS.iff HRD.out.2.1 HRD.out.2.2 (HALL.out _ HW.out).2).2 h)⟩).mono ?_
               rintro e wz0 ⟨rfl, hb⟩
               have hbW := HW.out.trans (hb.mono HW.out.size)
               clear a0 a1 a2 a3 a4
               obtain ⟨a0, a1, a2, a3, a4⟩ := (HALL.out _ hbW).1.facts
               replace HW := Lib.hid hbW
               clear hb hbW)
            | (go_at_call 10
               have mk2 := mk1
               clear mk1
               refine (rIsK_c va N la L k _ hN CA.out.cap (HRD.out.1.below (HALL.out _ HW.out).2) (Rds.below (HALL.out _ HW.out).2 HRD.out.2.1) (HRD.out.2.2.below (HALL.out _ HW.out).2) (by omega) r0 ⟨fun h => (IsS.iff HRD.out.2.1 HRD.out.2.2 (HALL.out _ HW.out).2).1 (HR0.out.1 h), fun h => HR0.out.2 ((IsS.iff HRD.out.2.1 HRD.out.2.2 (HALL.out _ HW.out).2).2 h)⟩).mono ?_
               rintro e wz1 ⟨rfl, hb⟩
               have hbW := HW.out.trans (hb.mono HW.out.size)
               clear a0 a1 a2 a3 a4
               obtain ⟨a0, a1, a2, a3, a4⟩ := (HALL.out _ hbW).1.facts
               replace HW := Lib.hid hbW
               clear hb hbW)
            | (go_at_call 11
               have mk3 := mk2
               clear mk2
               refine (known8_c _).mono ?_
               rintro e wz2 ⟨rfl, hb⟩
               have hbW := HW.out.trans (hb.mono HW.out.size)
               clear a0 a1 a2 a3 a4
               obtain ⟨a0, a1, a2, a3, a4⟩ := (HALL.out _ hbW).1.facts
               replace HW := Lib.hid hbW
               clear hb hbW))
          clear a0 a1 a2 a3 a4
          go_wp2
          go_ret
          exact ⟨rfl, (HALL.out _ HW.out).2⟩
        | true =>
          go_wp2_with fail
          refine (rise_c vb lb _ (HRE.out.1.below HB4.out) (by omega)).mono ?_
          rintro e w5 ⟨r, rfl, hb5⟩
          have HB5 := Lib.hid (HB4.out.trans (hb5.mono (by omega)))
          have KA5 := Lib.hid (KA4.out.below hb5)
          have KB5 := Lib.hid (KB4.out.below hb5)
          have KZ5 := Lib.hid (KZ4.out.below hb5)
          have hs5 := hb5.size
          clear hb5 KA4 KB4 KZ4 a0 a1 a2 a3 a4 b0 b1 b2 b3 b4
          obtain ⟨a0, a1, a2, a3, a4⟩ := KA5.out.facts
          cases r with
          | false =>
            go_wp2_with fail
            have HALL : Hid (∀ w', Below w5.heap.size w5 w' → C5 w' w.heap.size (.int .i64 va.s) (.slice va.A va.n va.c) (.bool va.K.s) (.slice va.K.A va.K.n va.K.c) (.slice va.K.B va.K.m va.K.d) ∧ Below w.heap.size w w') := fun w' h => ⟨KA5.out.below h, HB5.out.trans (h.mono (by omega))⟩
            have HW := Lib.hid (bel1 w5)
            have mk0 : Hid True := trivial
            go_region_held3 (fun w' => w'.cell? ⟨w.heap.size, 0, none⟩ = some (.int .i64 va.s) ∧ w'.cell? ⟨w.heap.size, 1, none⟩ = some (.slice va.A va.n va.c) ∧ w'.cell? ⟨w.heap.size, 2, none⟩ = some (.bool va.K.s) ∧ w'.cell? ⟨w.heap.size, 3, none⟩ = some (.slice va.K.A va.K.n va.K.c) ∧ w'.cell? ⟨w.heap.size, 4, none⟩ = some (.slice va.K.B va.K.m va.K.d)) (go_keep)
              (first
              | (go_at_call 9
                 have mk1 := mk0
                 clear mk0
                 refine (IsK_c va N la L k _ (HRD.out.1.below (HALL.out _ HW.out).2) (Rds.below (HALL.out _ HW.out).2 HRD.out.2.1) (HRD.out.2.2.below (HALL.out _ HW.out).2) (by omega) r0 ⟨fun h => (IsS.iff HRD.out.2.1 HRD.out.2.2 (HALL.out _ HW.out).2).1 (HR0.out.1 h), fun h => HR0.out.2 ((IsS.iff HRD.out.2.1 HRD.out.2.2 (HALL.out _ HW.out).2).2 h)⟩).mono ?_
                 rintro e wz0 ⟨rfl, hb⟩
                 have hbW := HW.out.trans (hb.mono HW.out.size)
                 clear a0 a1 a2 a3 a4
                 obtain ⟨a0, a1, a2, a3, a4⟩ := (HALL.out _ hbW).1.facts
                 replace HW := Lib.hid hbW
                 clear hb hbW)
              | (go_at_call 10
                 have mk2 := mk1
                 clear mk1
                 refine (rIsK_c va N la L k _ hN CA.out.cap (HRD.out.1.below (HALL.out _ HW.out).2) (Rds.below (HALL.out _ HW.out).2 HRD.out.2.1) (HRD.out.2.2.below (HALL.out _ HW.out).2) (by omega) r0 ⟨fun h => (IsS.iff HRD.out.2.1 HRD.out.2.2 (HALL.out _ HW.out).2).1 (HR0.out.1 h), fun h => HR0.out.2 ((IsS.iff HRD.out.2.1 HRD.out.2.2 (HALL.out _ HW.out).2).2 h)⟩).mono ?_
                 rintro e wz1 ⟨rfl, hb⟩
                 have hbW := HW.out.trans (hb.mono HW.out.size)
                 clear a0 a1 a2 a3 a4
                 obtain ⟨a0, a1, a2, a3, a4⟩ := (HALL.out _ hbW).1.facts
                 replace HW := Lib.hid hbW
                 clear hb hbW)
              | (go_at_call 11
                 have mk3 := mk2
                 clear mk2
                 refine (known8_c _).mono ?_
                 rintro e wz2 ⟨rfl, hb⟩
                 have hbW := HW.out.trans (hb.mono HW.out.size)
                 clear a0 a1 a2 a3 a4
                 obtain ⟨a0, a1, a2, a3, a4⟩ := (HALL.out _ hbW).1.facts
                 replace HW := Lib.hid hbW
                 clear hb hbW))
            clear a0 a1 a2 a3 a4
            go_wp2
            go_ret
            exact ⟨rfl, (HALL.out _ HW.out).2⟩
          | true =>
            obtain ⟨b0, b1, b2, b3, b4⟩ := KB5.out.facts
            obtain ⟨r, hrz⟩ := HZ.out.1.rw (p := 3) HZ3.out.1 HZ3.out.2
            have HRZ := Lib.hid hrz
            obtain ⟨V, hV⟩ := rdv_ex (p := 3) lv (fun x hx => ⟨(HLV.out.2.1 x hx).1, (HV3.out.2 x hx).1, (HV3.out.2 x hx).2⟩)
            have HRV := Lib.hid hV
            clear hrz hV
            have HALL : Hid (∀ w', Below w5.heap.size w5 w' → Cw w' va L k 900 ∧ Cw w' vb M q 900 ∧ C5 w' w.heap.size (.int .i64 va.s) (.slice va.A va.n va.c) (.bool va.K.s) (.slice va.K.A va.K.n va.K.c) (.slice va.K.B va.K.m va.K.d) ∧ C5 w' (w.heap.size + 1) (.int .i64 vb.s) (.slice vb.A vb.n vb.c) (.bool vb.K.s) (.slice vb.K.A vb.K.n vb.K.c) (.slice vb.K.B vb.K.m vb.K.d) ∧ C3 w' (w.heap.size + 1 + 1) (.bool z.s) (.slice z.A z.n z.c) (.slice z.B z.m z.d) ∧ Rw w' z r 3 ∧ (Tms w' 0 va.A va.n la ∧ Rds w' 150 la L ∧ Rw w' va.K k 150) ∧ (Nums w' A n lv ∧ RdV w' 3 lv V) ∧ Below w.heap.size w w') := fun w' h => by
              have h1 := HB5.out.trans (h.mono (by omega))
              exact ⟨(CA.out.below h1).more (by omega), (CB.out.below h1).more (by omega), KA5.out.below h, KB5.out.below h, KZ5.out.below h, HRZ.out.below h1, ⟨HRD.out.1.below h1, Rds.below h1 HRDS.out, CA.out.num.below h1⟩, ⟨HLV.out.1.below h1, RdV.below h1 HRV.out⟩, h1⟩
            have SZ : Hid (SzL 150 L ∧ Sz k 150) := ⟨Rds.sz (by omega) HRDS.out, CA.out.num.sz (by omega)⟩
            have SZB : Hid (SzL 150 M ∧ Sz q 150) := ⟨Rds.sz (by omega) HRDT.out, CB.out.num.sz (by omega)⟩
            have SZR : Hid (Sz r 3) := HRZ.out.sz (by omega)
            obtain ⟨r1, hr1⟩ : ∃ r1 : Bool, decide (va.s = vb.s ∧ L = M ∧ k = q) = r1 := ⟨_, rfl⟩
            have HR1 := Lib.hid hr1
            clear hr1
            have q1 : (r1 == r1) = true := beq_self_eq_true _
            have HW := Lib.hid (bel1 w5)
            obtain ⟨z0, z1, z2, _, _, _⟩ := KZ5.out.facts
            have mk0 : Hid True := trivial
            go_wp2_with fail
            go_region_held3 (fun w' => w'.cell? ⟨w.heap.size, 0, none⟩ = some (.int .i64 va.s) ∧ w'.cell? ⟨w.heap.size, 1, none⟩ = some (.slice va.A va.n va.c) ∧ w'.cell? ⟨w.heap.size, 2, none⟩ = some (.bool va.K.s) ∧ w'.cell? ⟨w.heap.size, 3, none⟩ = some (.slice va.K.A va.K.n va.K.c) ∧ w'.cell? ⟨w.heap.size, 4, none⟩ = some (.slice va.K.B va.K.m va.K.d) ∧ w'.cell? ⟨w.heap.size + 1, 0, none⟩ = some (.int .i64 vb.s) ∧ w'.cell? ⟨w.heap.size + 1, 1, none⟩ = some (.slice vb.A vb.n vb.c) ∧ w'.cell? ⟨w.heap.size + 1, 2, none⟩ = some (.bool vb.K.s) ∧ w'.cell? ⟨w.heap.size + 1, 3, none⟩ = some (.slice vb.K.A vb.K.n vb.K.c) ∧ w'.cell? ⟨w.heap.size + 1, 4, none⟩ = some (.slice vb.K.B vb.K.m vb.K.d) ∧ w'.cell? ⟨w.heap.size + 1 + 1, 0, none⟩ = some (.bool z.s) ∧ w'.cell? ⟨w.heap.size + 1 + 1, 1, none⟩ = some (.slice z.A z.n z.c) ∧ w'.cell? ⟨w.heap.size + 1 + 1, 2, none⟩ = some (.slice z.B z.m z.d)) (go_keep)
              (first
              | (go_at_call 13
                 have mk1 := mk0
                 clear mk0
                 refine (AddK_c va vb L M k q _ ((HALL.out _ HW.out).1.more (by omega)) ((HALL.out _ HW.out).2.1.more (by omega)) (by omega) (by omega)).mono ?_
                 rintro e wz0 ⟨x1, rfl, hs, hn, hc, hb⟩
                 have hbW := HW.out.trans (hb.mono HW.out.size)
                 clear a0 a1 a2 a3 a4 b0 b1 b2 b3 b4 z0 z1 z2
                 obtain ⟨a0, a1, a2, a3, a4⟩ := (HALL.out _ hbW).2.2.1.facts
                 obtain ⟨b0, b1, b2, b3, b4⟩ := (HALL.out _ hbW).2.2.2.1.facts
                 obtain ⟨z0, z1, z2, _, _, _⟩ := (HALL.out _ hbW).2.2.2.2.1.facts
                 have Hx1 : Hid (Cw _ x1 (addL L M) (k + q) 1900) := (hc.cw (SzL.add _ L M (Nat.le_refl _) SZ.out.1 SZB.out.1) (SZ.out.2.add SZB.out.2)).more (by omega)
                 have Ex1 : Hid (x1.s = va.s ∧ x1.n ≤ 300) := ⟨hs, by omega⟩
                 clear hs hn hc
                 replace HW := Lib.hid hbW
                 clear hb hbW)
              | (go_at_call 14
                 have mk2 := mk1
                 clear mk1
                 refine (rAddK_c va vb L M k q _ (HALL.out _ HW.out).1 (HALL.out _ HW.out).2.1 (by omega) (by omega)).mono ?_
                 rintro e wz1 ⟨x2, rfl, hs, hn, hc, hb⟩
                 have hbW := HW.out.trans (hb.mono HW.out.size)
                 clear a0 a1 a2 a3 a4 b0 b1 b2 b3 b4 z0 z1 z2
                 obtain ⟨a0, a1, a2, a3, a4⟩ := (HALL.out _ hbW).2.2.1.facts
                 obtain ⟨b0, b1, b2, b3, b4⟩ := (HALL.out _ hbW).2.2.2.1.facts
                 obtain ⟨z0, z1, z2, _, _, _⟩ := (HALL.out _ hbW).2.2.2.2.1.facts
                 replace Hx1 := Lib.hid (Hx1.out.below hb)
                 have Hx2 : Hid (Cw _ x2 (addL L M) (k + q) 1900) := (hc.cw (SzL.add _ L M (Nat.le_refl _) SZ.out.1 SZB.out.1) (SZ.out.2.add SZB.out.2)).more (by omega)
                 have Ex2 : Hid (x2.s = va.s ∧ x2.n ≤ 300) := ⟨hs, by omega⟩
                 clear hs hn hc
                 replace HW := Lib.hid hbW
                 clear hb hbW)
              | (go_at_call 12
                 have mk3 := mk2
                 clear mk2
                 refine (rSameK_c x1 x2 _ _ _ _ _ Hx1.out Hx2.out (by have := Ex1.out.2; omega) (by have := Ex2.out.2; omega) true (decide_eq_true ⟨by rw [Ex1.out.1, Ex2.out.1], rfl, rfl⟩)).mono ?_
                 rintro e wz2 ⟨rfl, hb⟩
                 have hbW := HW.out.trans (hb.mono HW.out.size)
                 clear a0 a1 a2 a3 a4 b0 b1 b2 b3 b4 z0 z1 z2
                 obtain ⟨a0, a1, a2, a3, a4⟩ := (HALL.out _ hbW).2.2.1.facts
                 obtain ⟨b0, b1, b2, b3, b4⟩ := (HALL.out _ hbW).2.2.2.1.facts
                 obtain ⟨z0, z1, z2, _, _, _⟩ := (HALL.out _ hbW).2.2.2.2.1.facts
                 clear Hx1 Hx2 Ex1 Ex2
                 replace HW := Lib.hid hbW
                 clear hb hbW)
              | (go_at_call 15
                 have mk4 := mk3
                 clear mk3
                 refine (ScaleK_c va z L k r _ ((HALL.out _ HW.out).1.more (by omega)) ((HALL.out _ HW.out).2.2.2.2.2.1.more (by omega)) (by omega)).mono ?_
                 rintro e wz3 ⟨x3, rfl, hs, hn, hc, hb⟩
                 have hbW := HW.out.trans (hb.mono HW.out.size)
                 clear a0 a1 a2 a3 a4 b0 b1 b2 b3 b4 z0 z1 z2
                 obtain ⟨a0, a1, a2, a3, a4⟩ := (HALL.out _ hbW).2.2.1.facts
                 obtain ⟨b0, b1, b2, b3, b4⟩ := (HALL.out _ hbW).2.2.2.1.facts
                 obtain ⟨z0, z1, z2, _, _, _⟩ := (HALL.out _ hbW).2.2.2.2.1.facts
                 have Hx3 : Hid (Cw _ x3 (scaleL r L) (k * r) 1900) := (hc.cw (SzL.scale SZR.out L SZ.out.1) (SZ.out.2.mul SZR.out)).more (by omega)
                 have Ex3 : Hid (x3.s = va.s ∧ x3.n ≤ 300) := ⟨hs, by omega⟩
                 clear hs hn hc
                 replace HW := Lib.hid hbW
                 clear hb hbW)
              | (go_at_call 16
                 have mk5 := mk4
                 clear mk4
                 refine (rScaleK_c va z L k r _ (HALL.out _ HW.out).1 ((HALL.out _ HW.out).2.2.2.2.2.1.more (by omega)) (by omega)).mono ?_
                 rintro e wz4 ⟨x4, rfl, hs, hn, hc, hb⟩
                 have hbW := HW.out.trans (hb.mono HW.out.size)
                 clear a0 a1 a2 a3 a4 b0 b1 b2 b3 b4 z0 z1 z2
                 obtain ⟨a0, a1, a2, a3, a4⟩ := (HALL.out _ hbW).2.2.1.facts
                 obtain ⟨b0, b1, b2, b3, b4⟩ := (HALL.out _ hbW).2.2.2.1.facts
                 obtain ⟨z0, z1, z2, _, _, _⟩ := (HALL.out _ hbW).2.2.2.2.1.facts
                 replace Hx3 := Lib.hid (Hx3.out.below hb)
                 have Hx4 : Hid (Cw _ x4 (scaleL r L) (k * r) 1900) := (hc.cw (SzL.scale SZR.out L SZ.out.1) (SZ.out.2.mul SZR.out)).more (by omega)
                 have Ex4 : Hid (x4.s = va.s ∧ x4.n ≤ 300) := ⟨hs, by omega⟩
                 clear hs hn hc
                 replace HW := Lib.hid hbW
                 clear hb hbW)
              | (go_at_call 12
                 have mk6 := mk5
                 clear mk5
                 refine (rSameK_c x3 x4 _ _ _ _ _ Hx3.out Hx4.out (by have := Ex3.out.2; omega) (by have := Ex4.out.2; omega) true (decide_eq_true ⟨by rw [Ex3.out.1, Ex4.out.1], rfl, rfl⟩)).mono ?_
                 rintro e wz5 ⟨rfl, hb⟩
                 have hbW := HW.out.trans (hb.mono HW.out.size)
                 clear a0 a1 a2 a3 a4 b0 b1 b2 b3 b4 z0 z1 z2
                 obtain ⟨a0, a1, a2, a3, a4⟩ := (HALL.out _ hbW).2.2.1.facts
                 obtain ⟨b0, b1, b2, b3, b4⟩ := (HALL.out _ hbW).2.2.2.1.facts
                 obtain ⟨z0, z1, z2, _, _, _⟩ := (HALL.out _ hbW).2.2.2.2.1.facts
                 clear Hx3 Hx4 Ex3 Ex4
                 replace HW := Lib.hid hbW
                 clear hb hbW)
              | (go_at_call 18
                 have mk7 := mk6
                 clear mk6
                 refine (AtK_c va A n c la lv L V k _ (by have := HC.out; omega) (HALL.out _ HW.out).2.2.2.2.2.2.1.1 (HALL.out _ HW.out).2.2.2.2.2.2.1.2.1 (HALL.out _ HW.out).2.2.2.2.2.2.1.2.2 (HALL.out _ HW.out).2.2.2.2.2.2.2.1.1 (HALL.out _ HW.out).2.2.2.2.2.2.2.1.2 (by have := HV3.out.1; omega) HLV.out.2.2).mono ?_
                 rintro e wz6 ⟨y1, rfl, hc, hs, hb⟩
                 have hbW := HW.out.trans (hb.mono HW.out.size)
                 clear a0 a1 a2 a3 a4 b0 b1 b2 b3 b4 z0 z1 z2
                 obtain ⟨a0, a1, a2, a3, a4⟩ := (HALL.out _ hbW).2.2.1.facts
                 obtain ⟨b0, b1, b2, b3, b4⟩ := (HALL.out _ hbW).2.2.2.1.facts
                 obtain ⟨z0, z1, z2, _, _, _⟩ := (HALL.out _ hbW).2.2.2.2.1.facts
                 have Hy1 : Hid (Rw _ y1 (atL (atV V) L k) 1900) := (hc.rw hs).more (by omega)
                 clear hs hc
                 replace HW := Lib.hid hbW
                 clear hb hbW)
              | (go_at_call 19
                 have mk8 := mk7
                 clear mk7
                 refine (rAtK_c va A n c la lv L V k _ (by have := HC.out; omega) (HALL.out _ HW.out).2.2.2.2.2.2.1.1 (HALL.out _ HW.out).2.2.2.2.2.2.1.2.1 (HALL.out _ HW.out).2.2.2.2.2.2.1.2.2 (HALL.out _ HW.out).2.2.2.2.2.2.2.1.1 (HALL.out _ HW.out).2.2.2.2.2.2.2.1.2 (by have := HV3.out.1; omega)).mono ?_
                 rintro e wz7 ⟨y2, rfl, hc, hs, hb⟩
                 have hbW := HW.out.trans (hb.mono HW.out.size)
                 clear a0 a1 a2 a3 a4 b0 b1 b2 b3 b4 z0 z1 z2
                 obtain ⟨a0, a1, a2, a3, a4⟩ := (HALL.out _ hbW).2.2.1.facts
                 obtain ⟨b0, b1, b2, b3, b4⟩ := (HALL.out _ hbW).2.2.2.1.facts
                 obtain ⟨z0, z1, z2, _, _, _⟩ := (HALL.out _ hbW).2.2.2.2.1.facts
                 replace Hy1 := Lib.hid (Hy1.out.below hb)
                 have Hy2 : Hid (Rw _ y2 (atL (atV V) L k) 1900) := (hc.rw hs).more (by omega)
                 clear hs hc
                 replace HW := Lib.hid hbW
                 clear hb hbW)
              | (go_at_call 17
                 have mk9 := mk8
                 clear mk8
                 refine (rSame_v y1 y2 _ _ true _ (Hy1.out.more (by omega)) (Hy2.out.more (by omega)) (decide_eq_true rfl)).mono ?_
                 rintro e wz8 ⟨rfl, hb⟩
                 have hbW := HW.out.trans (hb.mono HW.out.size)
                 clear a0 a1 a2 a3 a4 b0 b1 b2 b3 b4 z0 z1 z2
                 obtain ⟨a0, a1, a2, a3, a4⟩ := (HALL.out _ hbW).2.2.1.facts
                 obtain ⟨b0, b1, b2, b3, b4⟩ := (HALL.out _ hbW).2.2.2.1.facts
                 obtain ⟨z0, z1, z2, _, _, _⟩ := (HALL.out _ hbW).2.2.2.2.1.facts
                 clear Hy1 Hy2
                 replace HW := Lib.hid hbW
                 clear hb hbW)
              | (go_at_call 9
                 have mk10 := mk9
                 clear mk9
                 refine (IsK_c va N la L k _ (HRD.out.1.below (HALL.out _ HW.out).2.2.2.2.2.2.2.2) (Rds.below (HALL.out _ HW.out).2.2.2.2.2.2.2.2 HRD.out.2.1) (HRD.out.2.2.below (HALL.out _ HW.out).2.2.2.2.2.2.2.2) (by omega) r0 ⟨fun h => (IsS.iff HRD.out.2.1 HRD.out.2.2 (HALL.out _ HW.out).2.2.2.2.2.2.2.2).1 (HR0.out.1 h), fun h => HR0.out.2 ((IsS.iff HRD.out.2.1 HRD.out.2.2 (HALL.out _ HW.out).2.2.2.2.2.2.2.2).2 h)⟩).mono ?_
                 rintro e wz9 ⟨rfl, hb⟩
                 have hbW := HW.out.trans (hb.mono HW.out.size)
                 clear a0 a1 a2 a3 a4 b0 b1 b2 b3 b4 z0 z1 z2
                 obtain ⟨a0, a1, a2, a3, a4⟩ := (HALL.out _ hbW).2.2.1.facts
                 obtain ⟨b0, b1, b2, b3, b4⟩ := (HALL.out _ hbW).2.2.2.1.facts
                 obtain ⟨z0, z1, z2, _, _, _⟩ := (HALL.out _ hbW).2.2.2.2.1.facts
                 replace HW := Lib.hid hbW
                 clear hb hbW)
              | (go_at_call 10
                 have mk11 := mk10
                 clear mk10
                 refine (rIsK_c va N la L k _ hN CA.out.cap (HRD.out.1.below (HALL.out _ HW.out).2.2.2.2.2.2.2.2) (Rds.below (HALL.out _ HW.out).2.2.2.2.2.2.2.2 HRD.out.2.1) (HRD.out.2.2.below (HALL.out _ HW.out).2.2.2.2.2.2.2.2) (by omega) r0 ⟨fun h => (IsS.iff HRD.out.2.1 HRD.out.2.2 (HALL.out _ HW.out).2.2.2.2.2.2.2.2).1 (HR0.out.1 h), fun h => HR0.out.2 ((IsS.iff HRD.out.2.1 HRD.out.2.2 (HALL.out _ HW.out).2.2.2.2.2.2.2.2).2 h)⟩).mono ?_
                 rintro e wz10 ⟨rfl, hb⟩
                 have hbW := HW.out.trans (hb.mono HW.out.size)
                 clear a0 a1 a2 a3 a4 b0 b1 b2 b3 b4 z0 z1 z2
                 obtain ⟨a0, a1, a2, a3, a4⟩ := (HALL.out _ hbW).2.2.1.facts
                 obtain ⟨b0, b1, b2, b3, b4⟩ := (HALL.out _ hbW).2.2.2.1.facts
                 obtain ⟨z0, z1, z2, _, _, _⟩ := (HALL.out _ hbW).2.2.2.2.1.facts
                 replace HW := Lib.hid hbW
                 clear hb hbW)
              | (go_at_call 20
                 have mk12 := mk11
                 clear mk11
                 refine (SameK_c va vb L M k q _ ((HALL.out _ HW.out).1.more (by omega)) ((HALL.out _ HW.out).2.1.more (by omega)) (by omega) (by omega) r1 HR1.out).mono ?_
                 rintro e wz11 ⟨rfl, hb⟩
                 have hbW := HW.out.trans (hb.mono HW.out.size)
                 clear a0 a1 a2 a3 a4 b0 b1 b2 b3 b4 z0 z1 z2
                 obtain ⟨a0, a1, a2, a3, a4⟩ := (HALL.out _ hbW).2.2.1.facts
                 obtain ⟨b0, b1, b2, b3, b4⟩ := (HALL.out _ hbW).2.2.2.1.facts
                 obtain ⟨z0, z1, z2, _, _, _⟩ := (HALL.out _ hbW).2.2.2.2.1.facts
                 replace HW := Lib.hid hbW
                 clear hb hbW)
              | (go_at_call 12
                 have mk13 := mk12
                 clear mk12
                 refine (rSameK_c va vb L M k q _ ((HALL.out _ HW.out).1.more (by omega)) ((HALL.out _ HW.out).2.1.more (by omega)) (by omega) (by omega) r1 HR1.out).mono ?_
                 rintro e wz12 ⟨rfl, hb⟩
                 have hbW := HW.out.trans (hb.mono HW.out.size)
                 clear a0 a1 a2 a3 a4 b0 b1 b2 b3 b4 z0 z1 z2
                 obtain ⟨a0, a1, a2, a3, a4⟩ := (HALL.out _ hbW).2.2.1.facts
                 obtain ⟨b0, b1, b2, b3, b4⟩ := (HALL.out _ hbW).2.2.2.1.facts
                 obtain ⟨z0, z1, z2, _, _, _⟩ := (HALL.out _ hbW).2.2.2.2.1.facts
                 replace HW := Lib.hid hbW
                 clear hb hbW)
              | (go_at_call 20
                 have mk14 := mk13
                 clear mk13
                 refine (SameK_c va va L L k k _ ((HALL.out _ HW.out).1.more (by omega)) ((HALL.out _ HW.out).1.more (by omega)) (by omega) (by omega) true (decide_eq_true ⟨rfl, rfl, rfl⟩)).mono ?_
                 rintro e wz13 ⟨rfl, hb⟩
                 have hbW := HW.out.trans (hb.mono HW.out.size)
                 clear a0 a1 a2 a3 a4 b0 b1 b2 b3 b4 z0 z1 z2
                 obtain ⟨a0, a1, a2, a3, a4⟩ := (HALL.out _ hbW).2.2.1.facts
                 obtain ⟨b0, b1, b2, b3, b4⟩ := (HALL.out _ hbW).2.2.2.1.facts
                 obtain ⟨z0, z1, z2, _, _, _⟩ := (HALL.out _ hbW).2.2.2.2.1.facts
                 replace HW := Lib.hid hbW
                 clear hb hbW)
              | (go_at_call 11
                 have mk15 := mk14
                 clear mk14
                 refine (known8_c _).mono ?_
                 rintro e wz14 ⟨rfl, hb⟩
                 have hbW := HW.out.trans (hb.mono HW.out.size)
                 clear a0 a1 a2 a3 a4 b0 b1 b2 b3 b4 z0 z1 z2
                 obtain ⟨a0, a1, a2, a3, a4⟩ := (HALL.out _ hbW).2.2.1.facts
                 obtain ⟨b0, b1, b2, b3, b4⟩ := (HALL.out _ hbW).2.2.2.1.facts
                 obtain ⟨z0, z1, z2, _, _, _⟩ := (HALL.out _ hbW).2.2.2.2.1.facts
                 replace HW := Lib.hid hbW
                 clear hb hbW))
            clear a0 a1 a2 a3 a4 b0 b1 b2 b3 b4 z0 z1 z2
            go_wp2
            go_ret
            exact ⟨rfl, (HALL.out _ HW.out).2.2.2.2.2.2.2.2⟩
end Go.Proofs.YtffnjdfmaebmhaaGreatDoor

namespace Go.Proofs.YtffnjdfmaebmhaaGreatDoor
set_option maxRecDepth 20000
open Go.Joins Go.ChangeShapes Go.WideShapes Go.ChangeAt Go.RowKit

theorem trodAll_five {H : Type} {enc : TypeId × Value → H} {P : Program} {w : World} {base : Nat} {spare : Nat → Bool} {held : Bool} {t t' t'' t3 t4 : TypeId} {args : Array Value} {ds : List (DataW H)} {ps : List MemPlace} (h : DataW.TrodAll enc P w base spare held [t, t', t'', t3, t4] args.toList ds ps) :
    ∃ v v' v'' v3 v4 d d' d'' d3 d4 p p' p'' p3 p4, args = #[v, v', v'', v3, v4] ∧ ds = [d, d', d'', d3, d4] ∧ ps = p ++ (p' ++ (p'' ++ (p3 ++ p4))) ∧ DataW.Trod enc P w base spare held t v d p ∧ DataW.Trod enc P w base spare held t' v' d' p' ∧ DataW.Trod enc P w base spare held t'' v'' d'' p'' ∧ DataW.Trod enc P w base spare held t3 v3 d3 p3 ∧ DataW.Trod enc P w base spare held t4 v4 d4 p4 := by
  obtain ⟨v, vs, d, ds', p, q, hargs, rfl, rfl, hd, hrest⟩ := trodAll_cons h
  obtain ⟨v', vs', d', ds'', p', q', rfl, rfl, rfl, hd', hrest'⟩ := trodAll_cons hrest
  obtain ⟨v'', vs'', d'', ds3, p'', q'', rfl, rfl, rfl, hd'', hrest''⟩ := trodAll_cons hrest'
  obtain ⟨v3, vs3, d3, ds4, p3, q3, rfl, rfl, rfl, hd3, hrest3⟩ := trodAll_cons hrest''
  obtain ⟨v4, vs4, d4, ds5, p4, q4, rfl, rfl, rfl, hd4, hrest4⟩ := trodAll_cons hrest3
  obtain ⟨rfl, rfl, rfl⟩ := trodAll_nil hrest4
  exact ⟨v, v', v'', v3, v4, d, d', d'', d3, d4, p, p', p'', p3, p4, by cases args; simp_all, rfl, by simp, hd, hd', hd'', hd3, hd4⟩
theorem trodAll_mk5 {H : Type} {enc : TypeId × Value → H} {P : Program} {w : World} {base : Nat} {spare : Nat → Bool} {held : Bool} {t t' t'' t3 t4 : TypeId} {v v' v'' v3 v4 : Value} {d d' d'' d3 d4 : DataW H} {p p' p'' p3 p4 : List MemPlace} (h : DataW.Trod enc P w base spare held t v d p) (h' : DataW.Trod enc P w base spare held t' v' d' p')
    (h'' : DataW.Trod enc P w base spare held t'' v'' d'' p'') (h3 : DataW.Trod enc P w base spare held t3 v3 d3 p3) (h4 : DataW.Trod enc P w base spare held t4 v4 d4 p4) : DataW.TrodAll enc P w base spare held [t, t', t'', t3, t4] [v, v', v'', v3, v4] [d, d', d'', d3, d4] (p ++ (p' ++ (p'' ++ (p3 ++ p4)))) :=
  ⟨p, p' ++ (p'' ++ (p3 ++ p4)), h, ⟨p', p'' ++ (p3 ++ p4), h', trodAll_mk3 h'' h3 h4, rfl⟩, rfl⟩
theorem open_ratV {H : Type} {enc : TypeId × Value → H} {W : World} {v : Value} {d : DataW H} {p : List MemPlace} (h0 : DataW.Trod enc Tryz.prog W 0 (fun _ => true) true 25 v d p)
    {base : Nat} (hval : Value.okWide Tryz.prog W .any base 25 v) (hlt : ∀ x ∈ p, x.block < W.heap.size) (hb : Rows.uptoBulk d ≤ 1048576) :
    ∃ u : Rv, v = .agg #[.bool u.s, .slice u.A u.n u.c, .slice u.B u.m u.d] ∧ RdR W u ∧ u.n ≤ 1048576 ∧ u.m ≤ 1048576 := by
  obtain ⟨cs, rfl, hsz3⟩ := okWide_struct Tryz.underlying25 hval
  obtain ⟨fuel, hf⟩ := h0
  have hcs0 : (Value.agg cs).cells.toList = cs.toList := by simp [Value.cells]
  obtain ⟨u, e, h⟩ := open_ratN hf hlt hb
  refine ⟨u, ?_, h⟩
  rw [← Array.toArray_toList (xs := cs), ← hcs0, e]
theorem open_intV {H : Type} {enc : TypeId × Value → H} {W : World} {v : Value} {d : DataW H} {p : List MemPlace} (h0 : DataW.Trod enc Tryz.prog W 0 (fun _ => true) true 3 v d p)
    {base : Nat} (hval : Value.okWide Tryz.prog W .any base 3 v) : ∃ i : Int, v = .int .i64 i ∧ (0 ≤ i ∧ i ≤ 9223372036854775807 ∨ i < 0 ∧ -9223372036854775808 ≤ i) := by
  obtain ⟨i, rfl⟩ := okWide_int Tryz.underlying3 hval
  obtain ⟨fuel, hf⟩ := h0
  obtain ⟨j, e, _, wi⟩ := DataW.trod_int Tryz.underlying3 hf
  simp only [Value.cells] at e
  refine ⟨i, rfl, ?_⟩
  have hij : i = j := by simpa using e
  subst hij
  simp only [Lit.wf, Bool.and_eq_true, decide_eq_true_eq] at wi
  have h1 : IntKind.i64.min = -9223372036854775808 := rfl
  have h2 : IntKind.i64.max = 9223372036854775807 := rfl
  omega

theorem affSums_contract (H : Type) (enc : TypeId × Value → H) (W : World) (base : Nat) (args : Array Value) (ds gs : List (DataW H)) (before : List MemPlace)
    (hval0 : ∀ (j : Nat) t v, Tryz.f3.params[j]? = some t → args[j]? = some v → Value.okWide Tryz.prog W .any base t v)
    (hW : DataW.Whole enc Tryz.prog Tryz.f3.params.toList Rows.affSumsSpec.vars false W args.toList ds gs before) (hk : Rows.uptoSmall H (ds ++ gs) = true) :
    Calls Tryz.prog 3 args W fun e W' => ∃ v, e = .returned v ∧ Rows.affSumsSpec.post enc Tryz.prog Tryz.f3 false true false false W args v W' := by
  have hval : ∀ (j : Nat) t v, Tryz.f3.params[j]? = some t → args[j]? = some v → Value.okWide Tryz.prog W .any base t v := hval0
  have hW' := hW
  obtain ⟨p, q, hA0, hV, rfl, hfz, hnd⟩ := hW
  have hA : DataW.TrodAll enc Tryz.prog W 0 (fun _ => true) true Tryz.f3.params.toList args.toList ds p := hA0
  rw [Tryz.params3] at hA hval
  obtain ⟨v0, v1, v2, v3, v4, d0, d1, d2, d3, d4, p0, p1, p2, p3, p4, rfl, rfl, rfl, h0, h1, h2, h3, h4⟩ := trodAll_five hA
  obtain ⟨rfl, rfl⟩ := trodVars_none hV
  clear hA0 hval0
  have hbk := of_decide_eq_true hk
  simp only [List.append_nil, Rows.uptoBulkAll] at hbk
  simp only [List.append_nil] at hW'
  have hlt0 : ∀ x ∈ p0, x.block < W.heap.size := fun x hx => hW'.lt x (by simp [hx])
  obtain ⟨x0, l0, rfl, raw0, hv0⟩ := open_conV h0 (hval 0 _ v0 rfl rfl) hlt0 (by omega)
  have hlt1 : ∀ x ∈ p1, x.block < W.heap.size := fun x hx => hW'.lt x (by simp [hx])
  obtain ⟨x1, l1, rfl, raw1⟩ := open_con h1 (hval 1 _ v1 rfl rfl) hlt1 (by omega)
  have hlt2 : ∀ x ∈ p2, x.block < W.heap.size := fun x hx => hW'.lt x (by simp [hx])
  obtain ⟨x2, rfl, rd2, bd2⟩ := open_ratV h2 (hval 2 _ v2 rfl rfl) hlt2 (by omega)
  have hlt3 : ∀ x ∈ p3, x.block < W.heap.size := fun x hx => hW'.lt x (by simp [hx])
  obtain ⟨A3, n3, c3, l3, rfl, nc3, nb3, nm3, rd3⟩ := open_nums h3 (hval 3 _ v3 rfl rfl) hlt3 (by omega)
  have hlt4 : ∀ x ∈ p4, x.block < W.heap.size := fun x hx => hW'.lt x (by simp [hx])
  obtain ⟨N4, rfl, rg4⟩ := open_intV h4 (hval 4 _ v4 rfl rfl)
  have hargs_con : ∀ (W' : World) (v : Value) (d : DataW H) (ps : List MemPlace), DataW.Trod enc Tryz.prog W 0 (fun _ => true) true 27 v d ps → (∀ x ∈ ps, x.block < W.heap.size) → Below W.heap.size W W' → DataW.Trod enc Tryz.prog W' 0 (fun b => decide (b < W.heap.size)) true 27 v d ps :=
    fun W' v d ps h hl hn => Below.trod Tryz.laidOut (by kernel_rfl) (of_decide_eq_true (by kernel_rfl)) h hn hl
  have hargs_conV : ∀ (W' : World) (v : Value) (d : DataW H) (ps : List MemPlace), DataW.Trod enc Tryz.prog W 0 (fun _ => true) true 27 v d ps → (∀ x ∈ ps, x.block < W.heap.size) → Below W.heap.size W W' → DataW.Trod enc Tryz.prog W' 0 (fun b => decide (b < W.heap.size)) true 27 v d ps :=
    fun W' v d ps h hl hn => Below.trod Tryz.laidOut (by kernel_rfl) (of_decide_eq_true (by kernel_rfl)) h hn hl
  have hargs_int : ∀ (W' : World) (v : Value) (d : DataW H) (ps : List MemPlace), DataW.Trod enc Tryz.prog W 0 (fun _ => true) true 3 v d ps → (∀ x ∈ ps, x.block < W.heap.size) → Below W.heap.size W W' → DataW.Trod enc Tryz.prog W' 0 (fun b => decide (b < W.heap.size)) true 3 v d ps :=
    fun W' v d ps h hl hn => Below.trod Tryz.laidOut (by kernel_rfl) (of_decide_eq_true (by kernel_rfl)) h hn hl
  have hargs_rat : ∀ (W' : World) (v : Value) (d : DataW H) (ps : List MemPlace), DataW.Trod enc Tryz.prog W 0 (fun _ => true) true 25 v d ps → (∀ x ∈ ps, x.block < W.heap.size) → Below W.heap.size W W' → DataW.Trod enc Tryz.prog W' 0 (fun b => decide (b < W.heap.size)) true 25 v d ps :=
    fun W' v d ps h hl hn => Below.trod Tryz.laidOut (by kernel_rfl) (of_decide_eq_true (by kernel_rfl)) h hn hl
  have hargs_rats : ∀ (W' : World) (v : Value) (d : DataW H) (ps : List MemPlace), DataW.Trod enc Tryz.prog W 0 (fun _ => true) true 28 v d ps → (∀ x ∈ ps, x.block < W.heap.size) → Below W.heap.size W W' → DataW.Trod enc Tryz.prog W' 0 (fun b => decide (b < W.heap.size)) true 28 v d ps :=
    fun W' v d ps h hl hn => Below.trod Tryz.laidOut (by kernel_rfl) (of_decide_eq_true (by kernel_rfl)) h hn hl
  refine (AffSums_any x0 x1 x2 A3 n3 c3 N4 l0 l1 l3 W raw0 raw1 rd2 bd2 nm3 nb3 rd3 rg4 hv0).mono fun e W' ⟨he, hnx⟩ => ?_
  subst he
  refine ⟨_, rfl, _, _, _, [], _, [], hW', ?_, (trodAll_mk5 (hargs_conV _ _ _ _ h0 hlt0 hnx) (hargs_con _ _ _ _ h1 hlt1 hnx) (hargs_rat _ _ _ _ h2 hlt2 hnx) (hargs_rats _ _ _ _ h3 hlt3 hnx) (hargs_int _ _ _ _ h4 hlt4 hnx)), rfl, hnx.frame _, fun h => by cases h⟩
  exact trodAll_mk1 (shut_bool Tryz.underlying4 true)
theorem affSums_reads (os : Os) {H : Type} (enc : TypeId × Value → H) : DataW.whole enc Tryz.prog ((World.laidAll Tryz.prog os Rows.affSumsUptoRow.laid).forCall (fun _ _ => 0) ⟨#[], #[.agg #[.int .i64 0, .slice none 0 0, .bool false, .slice none 0 0, .slice none 0 0], .agg #[.int .i64 0, .slice none 0 0, .bool false, .slice none 0 0, .slice none 0 0], .agg #[.bool false, .slice none 0 0, .slice none 0 0], .slice none 0 0, .int .i64 0], []⟩).memory Tryz.f3.params.toList Rows.affSumsSpec.vars false (#[.agg #[.int .i64 0, .slice none 0 0, .bool false, .slice none 0 0, .slice none 0 0], .agg #[.int .i64 0, .slice none 0 0, .bool false, .slice none 0 0, .slice none 0 0], .agg #[.bool false, .slice none 0 0, .slice none 0 0], .slice none 0 0, .int .i64 0] : Array Value).toList 8 = some ([.agg [.lit (.int .i64 0), .nil, .agg [.lit (.bool false), .nil, .nil]], .agg [.lit (.int .i64 0), .nil, .agg [.lit (.bool false), .nil, .nil]], .agg [.lit (.bool false), .nil, .nil], .nil, .lit (.int .i64 0)], [], []) := by kernel_rfl
theorem affSums_laid (os : Os) : laidMetH Tryz.prog Rows.affSumsUptoRow.laid ((World.laidAll Tryz.prog os Rows.affSumsUptoRow.laid).forCall (fun _ _ => 0) ⟨#[], #[.agg #[.int .i64 0, .slice none 0 0, .bool false, .slice none 0 0, .slice none 0 0], .agg #[.int .i64 0, .slice none 0 0, .bool false, .slice none 0 0, .slice none 0 0], .agg #[.bool false, .slice none 0 0, .slice none 0 0], .slice none 0 0, .int .i64 0], []⟩).memory := by
  rw [MakeChecks.laidMetH_plain _ _ _ (by kernel_rfl)]; exact laidMet_laidAll _ (by kernel_rfl) (by kernel_rfl)
theorem affSums_ok (os : Os) : Input.okWideB Tryz.prog ((World.laidAll Tryz.prog os Rows.affSumsUptoRow.laid).forCall (fun _ _ => 0) ⟨#[], #[.agg #[.int .i64 0, .slice none 0 0, .bool false, .slice none 0 0, .slice none 0 0], .agg #[.int .i64 0, .slice none 0 0, .bool false, .slice none 0 0, .slice none 0 0], .agg #[.bool false, .slice none 0 0, .slice none 0 0], .slice none 0 0, .int .i64 0], []⟩) 3 ⟨#[], #[.agg #[.int .i64 0, .slice none 0 0, .bool false, .slice none 0 0, .slice none 0 0], .agg #[.int .i64 0, .slice none 0 0, .bool false, .slice none 0 0, .slice none 0 0], .agg #[.bool false, .slice none 0 0, .slice none 0 0], .slice none 0 0, .int .i64 0], []⟩ = true := by kernel_rfl
set_option maxRecDepth 100000 in
theorem affSums_lifted (os : Os) (started : os.Started) (H : Type) (enc : TypeId × Value → H) (F : Stop.Interp) :
    ReturnsInHanded {} Tryz.checked os 3 .any ((Rows.OpenSpec.upto Rows.affSumsSpec).preRow enc Tryz.prog Tryz.f3 Rows.affSumsUptoRow.domain false Rows.affSumsUptoRow.laid) (((Rows.OpenSpec.upto Rows.affSumsSpec).at F).post enc Tryz.prog Tryz.f3 false true false false) := by
  refine returnsInHanded_of_row (C := Tryz.checked) (s := Rows.OpenSpec.upto Rows.affSumsSpec) Tryz.own started (by kernel_rfl) Tryz.func3
    ⟨World.laidAll Tryz.prog os Rows.affSumsUptoRow.laid, fun _ _ => 0, ⟨#[], #[.agg #[.int .i64 0, .slice none 0 0, .bool false, .slice none 0 0, .slice none 0 0], .agg #[.int .i64 0, .slice none 0 0, .bool false, .slice none 0 0, .slice none 0 0], .agg #[.bool false, .slice none 0 0, .slice none 0 0], .slice none 0 0, .int .i64 0], []⟩, World.laidAll_os _ _ _, World.shaped_of_ZipB (by kernel_rfl) (by kernel_rfl), (Input.okWide_of_okWideB (base := 0) (affSums_ok os)).1, (Input.okWide_of_okWideB (affSums_ok os)).2,
      OpenSpec.preRow_of_cond 8 (affSums_reads os enc) (by kernel_rfl) (fun k hk => by cases hk; kernel_rfl) (by kernel_rfl) (affSums_laid os), by
        simp only [Assume.holds]
        exact ⟨by simp, by simp, fun _ => Modest.zero, by simp, by simp⟩⟩ ?_
  intro W base args ds gs before hval hW _ hcond _ _ _ _
  exact affSums_contract H enc W base args ds gs before hval hW (hcond _ rfl)
theorem affSums_row : Rows.AffSumsUptoSaid :=
  OpenClaim.holds_of_cond 3 Tryz.f3 rfl rfl rfl rfl rfl rfl rfl ⟨rfl, rfl, rfl, rfl, rfl⟩ rfl rfl rfl rfl rfl (by kernel_rfl) Tryz.func3 (by kernel_rfl)
    (of_decide_eq_true (by kernel_rfl)) (by unfold Func.isWrapper; first | (rw [if_pos (by decide +kernel)]; kernel_rfl) | (rw [if_neg (by decide +kernel)]; exact ⟨rfl, rfl⟩))
    (fun os started H enc _ F => by rw [OpenClaim.pre_eq_preRow]; exact affSums_lifted os started H enc F)
theorem affSums_card : Rows.AffSumsUptoCardSaid :=
  Claim7.holds_tied_plain_at .later [] [.data, .data, .data, .data, .pinned] true Rows.affSumsUptoCard.stood.harness false affSums_row (fun _ h => by cases h) (by kernel_rfl) (fun _ h => by cases h) affSumsUpto_row_tie rfl ⟨rfl, rfl⟩ (by kernel_rfl) rfl
    (fun f fn hf hfn => by
      obtain rfl : f = 3 := Option.some.inj ((show Tryz.prog.funcNamed Rows.affSumsUptoRow.func = some 3 by kernel_rfl).symm.trans hf) |>.symm
      obtain rfl : fn = Tryz.f3 := (Option.some.inj (Tryz.func3.symm.trans hfn)).symm
      exact ⟨by kernel_rfl, fun j t ht => by
        rw [Tryz.params3] at ht
        have hm : t ∈ [27, 27, 25, 28, 3] := by simpa using Array.mem_of_getElem? ht
        have hall : ([27, 27, 25, 28, 3].all fun u => !Tryz.prog.wantsStandIn u) = true := by kernel_rfl
        exact (show Tryz.prog.wantsStandIn t = false by simpa using List.all_eq_true.1 hall t hm)⟩)
    (by kernel_rfl)
end Go.Proofs.YtffnjdfmaebmhaaGreatDoor
