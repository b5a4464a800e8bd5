/-
  Sums of an expression's leaves and of its joins: the program's.
-/
import Derived.Test.YtdpbceipiappjaaGreatDoorSrM
import Derived.Test.YtdpbceipiappjaaGreatDoorMAa
namespace Go.Proofs.YtdpbceipiappjaaGreatDoor
set_option maxRecDepth 20000
open Go.RowKit

theorem Ct.of {w : World} {lo b n2 c2 : Nat} {s : Int} {A2 : Option Addr} {l2 : List Tv} {L : List (Int × Rat)} {k : Rat} {z : Rv} (hc : n2 ≤ c2) (hg : Tms w lo A2 n2 l2) (hr : RdN w lo l2 L) (hz : Rt w lo z k) (hb : b < lo) :
    Ct (put5 w b (.int .i64 s) (.slice A2 n2 c2) (.bool z.s) (.slice z.A z.n z.c) (.slice z.B z.m z.d)) lo ⟨s, A2, n2, c2, z⟩ L k :=
  ⟨hc, ⟨l2, hg.but hb (by rw [put5_size]; exact Nat.le_refl _) (put5_but _ _ _ _ _ _ _), RdN.but hb (by rw [put5_size]; exact Nat.le_refl _) (put5_but _ _ _ _ _ _ _) hr⟩, hz.but hb (by rw [put5_size]; exact Nat.le_refl _) (put5_but _ _ _ _ _ _ _)⟩
theorem Ct.put {w : World} {lo b : Nat} {v : Cv} {L : List (Int × Rat)} {k : Rat} (h : Ct w lo v L k) (hb : b < lo) (x0 x1 x2 x3 x4 : Value) : Ct (put5 w b x0 x1 x2 x3 x4) lo v L k := by
  obtain ⟨h1, ⟨l, h2, h3⟩, h4⟩ := h
  exact ⟨h1, ⟨l, h2.but hb (by rw [put5_size]; exact Nat.le_refl _) (put5_but _ _ _ _ _ _ _), RdN.but hb (by rw [put5_size]; exact Nat.le_refl _) (put5_but _ _ _ _ _ _ _) h3⟩, h4.but hb (by rw [put5_size]; exact Nat.le_refl _) (put5_but _ _ _ _ _ _ _)⟩
theorem Ct.len {w : World} {lo : Nat} {v : Cv} {L : List (Int × Rat)} {k : Rat} (h : Ct w lo v L k) : v.n = L.length := by
  obtain ⟨h1, ⟨l, h2, h3⟩, h4⟩ := h
  rw [← h2.len, h3.len]
theorem Cw.len {w : World} {v : Cv} {L : List (Int × Rat)} {k : Rat} {p : Nat} (h : Cw w v L k p) : v.n = L.length := by
  obtain ⟨h1, ⟨l, h2, h3⟩, h4⟩ := h
  rw [← h2.len, h3.len]
theorem ret5t {fn : Func} {t u : Tmp} {R : Ending → World → Prop} {a : Act} {w : World} {b : Nat} {x0 x1 x2 x3 x4 y : Value} (hres : fn.results = #[.cell t 39, .tmp u]) (ht : a.tmps.getD t undef = .pointer (some ⟨b, 0, none⟩)) (hu : a.tmps.getD u undef = y) (hd : a.defers = [])
    (hk : C5 w b x0 x1 x2 x3 x4) (hR : R (.returned (.tuple #[.agg #[x0, x1, x2, x3, x4], y])) w) : bodyPost Tryz.prog fn R .ret a w := by
  obtain ⟨q0, q1, q2, q3, q4⟩ := hk.facts
  have ht' : (a.tmps[t]?.getD undef) = .pointer (some ⟨b, 0, none⟩) := by simpa using ht
  have hu' : (a.tmps[u]?.getD undef) = y := by simpa using hu
  refine bodyPost_ret (v := .tuple #[.agg #[x0, x1, x2, x3, x4], y]) ?_ hd hR
  simp [results, hres, go_sem, ht', hu', q0, q1, q2, q3, q4]
/-- The world behind the blocks of a sum and of the result. -/
theorem openK1z (w : World) (v : Cv) (W : World) (h : (w.alloc (.cells #[.int .i64 v.s, .slice v.A v.n v.c, .bool v.K.s, .slice v.K.A v.K.n v.K.c, .slice v.K.B v.K.m v.K.d] 39)).alloc (.cells #[.int .i64 0, .slice none 0 0, .bool false, .slice none 0 0, .slice none 0 0] 39) = W) :
    C5 W w.heap.size (.int .i64 v.s) (.slice v.A v.n v.c) (.bool v.K.s) (.slice v.K.A v.K.n v.K.c) (.slice v.K.B v.K.m v.K.d) ∧ C5 W (w.heap.size + 1) (.int .i64 0) (.slice none 0 0) (.bool false) (.slice none 0 0) (.slice none 0 0) ∧ Below w.heap.size w W ∧ W.heap.size = w.heap.size + 2 := by
  subst h
  have e1 : (w.alloc (.cells #[.int .i64 v.s, .slice v.A v.n v.c, .bool v.K.s, .slice v.K.A v.K.n v.K.c, .slice v.K.B v.K.m v.K.d] 39)).heap.size = w.heap.size + 1 := by simp
  refine ⟨(C5.new w (.int .i64 v.s) (.slice v.A v.n v.c) (.bool v.K.s) (.slice v.K.A v.K.n v.K.c) (.slice v.K.B v.K.m v.K.d)).alloc _, ?_, ?_, by simp⟩
  · have := C5.new (w.alloc (.cells #[.int .i64 v.s, .slice v.A v.n v.c, .bool v.K.s, .slice v.K.A v.K.n v.K.c, .slice v.K.B v.K.m v.K.d] 39)) (.int .i64 0) (.slice none 0 0) (.bool false) (.slice none 0 0) (.slice none 0 0)
    rw [e1] at this; exact this
  · exact ((Below.refl w.heap.size w).alloc (Nat.le_refl _) _).alloc (by simp) _
/-- What a part of an expression comes to. -/
def KR (w : World) (r : SR) (e : Ending) (w' : World) : Prop :=
  Below w.heap.size w w' ∧ match r with
    | .ok L k => ∃ z : Cv, e = .returned (.tuple #[.agg #[.int .i64 z.s, .slice z.A z.n z.c, .bool z.K.s, .slice z.K.A z.K.n z.K.c, .slice z.K.B z.K.m z.K.d], .int .i64 0]) ∧ Ct w' w.heap.size z L k
    | .err c => ∃ z : Cv, e = .returned (.tuple #[.agg #[.int .i64 z.s, .slice z.A z.n z.c, .bool z.K.s, .slice z.K.A z.K.n z.K.c, .slice z.K.B z.K.m z.K.d], .int .i64 (c : Int)])
def Kz : Cv := ⟨0, none, 0, 0, ⟨false, none, 0, 0, none, 0, 0⟩⟩

set_option maxHeartbeats 3200000 in
theorem variable_c (i : Int) (w : World) :
    Calls Tryz.prog 15 #[.int .i64 i] w fun e w' => ∃ z : Cv, e = .returned (.agg #[.int .i64 z.s, .slice z.A z.n z.c, .bool z.K.s, .slice z.K.A z.K.n z.K.c, .slice z.K.B z.K.m z.K.d]) ∧ Ct w' w.heap.size z [(i, ((1 : Int) : Rat))] ((0 : Int) : Rat) ∧ Below w.heap.size w w' := by
  go_enter Tryz.func15, Tryz.ntmps15
  go_wp2_with fail
  have kz := C5.new w (.int .i64 0) (.slice none 0 0) (.bool false) (.slice none 0 0) (.slice none 0 0)
  have hB : Below w.heap.size w (w.alloc (.cells #[.int .i64 0, .slice none 0 0, .bool false, .slice none 0 0, .slice none 0 0] 39)) := (Below.refl _ _).alloc (Nat.le_refl _) _
  have hs : (w.alloc (.cells #[.int .i64 0, .slice none 0 0, .bool false, .slice none 0 0, .slice none 0 0] 39)).heap.size = w.heap.size + 1 := by simp
  generalize w.alloc (.cells #[.int .i64 0, .slice none 0 0, .bool false, .slice none 0 0, .slice none 0 0] 39) = W at *
  refine (Int_any 1 _ (by omega)).mono ?_
  rintro e w1 ⟨x, rfl, hx, hb⟩
  have kz1 := kz.below hb
  have hB1 := hB.trans (hb.mono (by omega))
  have hs1 := hb.size
  clear hb kz hB
  go_wp2_with fail
  have ht := At4.new w1 ⟨i, x⟩
  have hba : Below w1.heap.size w1 (w1.alloc (.cells #[.int .i64 i, .bool x.s, .slice x.A x.n x.c, .slice x.B x.m x.d] 58)) := (Below.refl _ _).alloc (Nat.le_refl _) _
  have ht1 : At4 (w1.alloc (.cells #[.int .i64 i, .bool x.s, .slice x.A x.n x.c, .slice x.B x.m x.d] 58)) w1.heap.size 0 ⟨i, x⟩ := ht
  have hsa : (w1.alloc (.cells #[.int .i64 i, .bool x.s, .slice x.A x.n x.c, .slice x.B x.m x.d] 58)).heap.size = w1.heap.size + 1 := by simp
  clear ht
  generalize w1.alloc (.cells #[.int .i64 i, .bool x.s, .slice x.A x.n x.c, .slice x.B x.m x.d] 58) = W1 at *
  refine (Int_any 0 _ (by omega)).mono ?_
  rintro e w2 ⟨y, rfl, hy, hb⟩
  have hb2 := hba.trans (hb.mono (by omega))
  have kz2 := kz1.below hb2
  have hB2 := hB1.trans (hb2.mono hB1.size)
  have hx2 := Lib.hid ((hx.below hb2).lower (show w.heap.size + 1 ≤ W.heap.size by omega))
  have hy2 := Lib.hid (hy.lower (show w.heap.size + 1 ≤ W1.heap.size by have := hB1.size; omega))
  have ht2 : Hid (Tms w2 (w.heap.size + 1) (some ⟨w1.heap.size, 0, none⟩) 1 [⟨i, x⟩]) := ⟨rfl, fun _ => ⟨w1.heap.size, 0, rfl, by have := hB1.size; omega, by have := hb.size; omega, fun j t ht => by
    cases j with
    | zero =>
      simp at ht
      subst ht
      have := ht1.keep (hb.block w1.heap.size (by omega))
      simpa using this
    | succ j => simp at ht⟩⟩
  clear hb hba hb2 kz1 hx hy ht1
  obtain ⟨z0, z1, z2, z3, z4⟩ := kz2.facts
  obtain ⟨t0, t1, t2, t3, t4⟩ := kz2.thaw
  go_wp2
  refine ret5 (fn := Tryz.f15) Tryz.results15 rfl rfl kz2 ?_
  have hrd : RdN w2 (w.heap.size + 1) [⟨i, x⟩] [(i, ((1 : Int) : Rat))] := ⟨⟨rfl, hx2.out⟩, trivial⟩
  exact ⟨⟨0, some ⟨w1.heap.size, 0, none⟩, 1, 1, y⟩, rfl, (Ct.of (Nat.le_refl _) ht2.out hrd hy2.out (by omega)).lower (by omega), hB2.trans (put5_below (Nat.le_refl _) _ _ _ _ _)⟩
set_option maxHeartbeats 3200000 in
theorem constant_c (a : Rv) (q : Rat) (w : World) (ha : Rw w a q 5000) :
    Calls Tryz.prog 18 #[.agg #[.bool a.s, .slice a.A a.n a.c, .slice a.B a.m a.d]] w fun e w' => ∃ z : Cv, e = .returned (.agg #[.int .i64 z.s, .slice z.A z.n z.c, .bool z.K.s, .slice z.K.A z.K.n z.K.c, .slice z.K.B z.K.m z.K.d]) ∧ Ct w' w.heap.size z [] q ∧ Below w.heap.size w w' := by
  have HA := Lib.hid ha
  clear ha
  go_enter Tryz.func18, Tryz.ntmps18
  have e1 : (w.alloc (.cells #[.bool a.s, .slice a.A a.n a.c, .slice a.B a.m a.d] 24)).heap.size = w.heap.size + 1 := by simp
  have ka := (C3.new w (.bool a.s) (.slice a.A a.n a.c) (.slice a.B a.m a.d)).alloc (.cells #[.int .i64 0, .slice none 0 0, .bool false, .slice none 0 0, .slice none 0 0] 39)
  have kz := C5.new (w.alloc (.cells #[.bool a.s, .slice a.A a.n a.c, .slice a.B a.m a.d] 24)) (.int .i64 0) (.slice none 0 0) (.bool false) (.slice none 0 0) (.slice none 0 0)
  rw [e1] at kz
  have hB : Below w.heap.size w ((w.alloc (.cells #[.bool a.s, .slice a.A a.n a.c, .slice a.B a.m a.d] 24)).alloc (.cells #[.int .i64 0, .slice none 0 0, .bool false, .slice none 0 0, .slice none 0 0] 39)) := ((Below.refl _ _).alloc (Nat.le_refl _) _).alloc (by simp) _
  have hs : ((w.alloc (.cells #[.bool a.s, .slice a.A a.n a.c, .slice a.B a.m a.d] 24)).alloc (.cells #[.int .i64 0, .slice none 0 0, .bool false, .slice none 0 0, .slice none 0 0] 39)).heap.size = w.heap.size + 1 + 1 := by simp
  clear e1
  obtain ⟨a0, a1, a2, _, _, _⟩ := ka.facts
  go_wp2_with fail
  generalize (w.alloc (.cells #[.bool a.s, .slice a.A a.n a.c, .slice a.B a.m a.d] 24)).alloc (.cells #[.int .i64 0, .slice none 0 0, .bool false, .slice none 0 0, .slice none 0 0] 39) = W at *
  refine (Norm_any a q _ (HA.out.below hB)).mono ?_
  rintro e w1 ⟨x, rfl, hx, hb⟩
  have kz1 := kz.below hb
  have hB1 := hB.trans (hb.mono (by omega))
  have HX := Lib.hid hx
  clear hb kz hB ka a0 a1 a2 hx
  obtain ⟨z0, z1, z2, z3, z4⟩ := kz1.facts
  obtain ⟨t0, t1, t2, t3, t4⟩ := kz1.thaw
  go_wp2
  refine ret5 (fn := Tryz.f18) Tryz.results18 rfl rfl kz1 ?_
  exact ⟨⟨0, none, 0, 0, x⟩, rfl, (Ct.of (Nat.le_refl _) (Tms.nil_ _ _ _) (show RdN _ _ [] [] from trivial) (HX.out.lower (show w.heap.size + 2 ≤ W.heap.size by omega)) (by omega)).lower (by omega), hB1.trans (put5_below (by omega) _ _ _ _ _)⟩
set_option maxHeartbeats 6400000 in
theorem minus_c (va : Cv) (L : List (Int × Rat)) (k : Rat) (w : World) (ha : Cw w va L k 1900) (hn : va.n ≤ 1000) :
    Calls Tryz.prog 46 #[.agg #[.int .i64 va.s, .slice va.A va.n va.c, .bool va.K.s, .slice va.K.A va.K.n va.K.c, .slice va.K.B va.K.m va.K.d]] w fun e w' => ∃ z : Cv, e = .returned (.agg #[.int .i64 z.s, .slice z.A z.n z.c, .bool z.K.s, .slice z.K.A z.K.n z.K.c, .slice z.K.B z.K.m z.K.d]) ∧ Ct w' w.heap.size z (scaleL ((-1 : Int) : Rat) L) (k * ((-1 : Int) : Rat)) ∧ Below w.heap.size w w' := by
  have HA := Lib.hid ha
  clear ha
  go_enter Tryz.func46, Tryz.ntmps46
  go_wp2_with fail
  generalize hW : (w.alloc (.cells #[.int .i64 va.s, .slice va.A va.n va.c, .bool va.K.s, .slice va.K.A va.K.n va.K.c, .slice va.K.B va.K.m va.K.d] 39)).alloc (.cells #[.int .i64 0, .slice none 0 0, .bool false, .slice none 0 0, .slice none 0 0] 39) = W
  obtain ⟨ka, kz, HW, hsW⟩ := openK1z w va W hW
  clear hW
  obtain ⟨a0, a1, a2, a3, a4⟩ := ka.facts
  obtain ⟨z0, z1, z2, z3, z4⟩ := kz.facts
  obtain ⟨t0, t1, t2, t3, t4⟩ := kz.thaw
  have HAW := Lib.hid (HA.out.below (HW.trans (below_drewN' w.heap.size W 1)))
  have hn1 : ¬ w.heap.size = w.heap.size + 1 := by omega
  have hn2 : ¬ w.heap.size + 1 = w.heap.size := by omega
  go_region_held3 (fun w' => w'.cell? ⟨w.heap.size, 0, none⟩ = some (.int .i64 va.s) ∧ w'.cell? ⟨w.heap.size, 1, none⟩ = some (.slice va.A va.n va.c) ∧ w'.cell? ⟨w.heap.size, 2, none⟩ = some (.bool va.K.s) ∧ w'.cell? ⟨w.heap.size, 3, none⟩ = some (.slice va.K.A va.K.n va.K.c) ∧ w'.cell? ⟨w.heap.size, 4, none⟩ = some (.slice va.K.B va.K.m va.K.d)) (go_keep)
      (first
      | (go_at_call 26
         refine (Int_any (-1) _ (by omega)).mono ?_
         rintro e w1 ⟨x, rfl, hx, hb1⟩
         have KA := ka.drew.below hb1
         have KZ := kz.drew.below hb1
         obtain ⟨a0, a1, a2, a3, a4⟩ := KA.facts
         obtain ⟨z0, z1, z2, z3, z4⟩ := KZ.facts
         obtain ⟨t0, t1, t2, t3, t4⟩ := KZ.thaw)
      | (go_at_call 66
         refine (ScaleK_c va x L k ((-1 : Int) : Rat) _ (HAW.out.below hb1) ((hx.rw sz_m1).more (by omega)) hn).mono ?_
         rintro e w2 ⟨z, rfl, hzs, hzn, hz, hb2⟩
         clear hzs hzn
         replace KA := KA.below hb2
         replace KZ := KZ.below hb2
         obtain ⟨a0, a1, a2, a3, a4⟩ := KA.facts
         obtain ⟨z0, z1, z2, z3, z4⟩ := KZ.facts
         obtain ⟨t0, t1, t2, t3, t4⟩ := KZ.thaw))
  have hs1 : W.heap.size ≤ w1.heap.size := hb1.size
  have HB3 : Below w.heap.size w w2 := HW.trans ((below_drewN' w.heap.size W 1).trans ((hb1.mono (by show _ ≤ W.heap.size; omega)).trans (hb2.mono (by omega))))
  have HZ := Lib.hid (hz.lower (show w.heap.size + 2 ≤ w1.heap.size by omega))
  clear hb1 hb2 KA ka kz hz
  go_wp2
  refine ret5 (fn := Tryz.f46) Tryz.results46 rfl rfl KZ ?_
  exact ⟨z, rfl, (HZ.out.put (by omega) _ _ _ _ _).lower (by omega), HB3.trans (put5_below (by omega) _ _ _ _ _)⟩
end Go.Proofs.YtdpbceipiappjaaGreatDoor
