/-
  Quotients of sums: the program's.
-/
import Derived.Test.YtdpbceipiappjaaGreatDoorSrB
namespace Go.Proofs.YtdpbceipiappjaaGreatDoor
set_option maxRecDepth 20000
open Go.RowKit

/-- A quotient's number, in a block of its own. -/
structure QAt (W wx : World) (lb : Nat) (x : Rv) (R : Rat) : Prop where
  cell : C3 wx lb (.bool x.s) (.slice x.A x.n x.c) (.slice x.B x.m x.d)
  below : Below W.heap.size W wx
  rt : Rt wx W.heap.size x R
  lb : W.heap.size ≤ lb
theorem QAt.new {W w3 : World} {x : Rv} {lo : Nat} {R : Rat} (hb : Below W.heap.size W w3) (hlo : W.heap.size ≤ lo) (hz : Rt w3 lo x R) : QAt W (w3.alloc (.cells #[.bool x.s, .slice x.A x.n x.c, .slice x.B x.m x.d] 24)) w3.heap.size x R :=
  ⟨C3.new w3 (.bool x.s) (.slice x.A x.n x.c) (.slice x.B x.m x.d), hb.alloc hb.size _, (hz.lower hlo).below ((Below.refl _ _).alloc (Nat.le_refl _) _), hb.size⟩
theorem put3_but (w : World) (b : Nat) (x0 x1 x2 : Value) : ∀ g, g < w.heap.size → g ≠ b → (put3 w b x0 x1 x2).heap[g]? = w.heap[g]? := by
  intro g _ hg
  have h1 : ∀ (w : World) (j : Nat) (x : Value), (w.setCell ⟨b, j, none⟩ x).heap[g]? = w.heap[g]? := fun w j x => by
    show (w.heap.modify b _)[g]? = _
    rw [Array.getElem?_modify, if_neg (fun e => hg e.symm)]
  rw [h1, h1, h1]
theorem QAt.put {W w3 : World} {x : Rv} {lo nb : Nat} {R : Rat} (hk : C3 w3 nb (.bool false) (.slice none 0 0) (.slice none 0 0)) (hnb : W.heap.size ≤ nb) (hlt : nb < lo) (hb : Below W.heap.size W w3) (hz : Rt w3 lo x R) : QAt W (put3 w3 nb (.bool x.s) (.slice x.A x.n x.c) (.slice x.B x.m x.d)) nb x R :=
  ⟨hk.put _ _ _, hb.trans (put3_below hnb _ _ _), (hz.but hlt (by simp [put3, World.setCell]) (put3_but _ _ _ _ _)).lower (by omega), hnb⟩
set_option maxHeartbeats 12800000 in
theorem quotient_zero (va vb : Cv) (L : List (Int × Rat)) (k q : Rat) (w : World) (ha : Cw w va L k 1900) (hb : Cw w vb [] q 1900) (hn : va.n ≤ 1000) (zq : q = 0) :
    Calls Tryz.prog 69 #[.agg #[.int .i64 va.s, .slice va.A va.n va.c, .bool va.K.s, .slice va.K.A va.K.n va.K.c, .slice va.K.B va.K.m va.K.d], .agg #[.int .i64 vb.s, .slice vb.A vb.n vb.c, .bool vb.K.s, .slice vb.K.A vb.K.n vb.K.c, .slice vb.K.B vb.K.m vb.K.d]] w (KR w (.err 7)) := by
  have lb := hb.len
  have HA := Lib.hid ha
  have HBB := Lib.hid hb
  clear ha hb
  obtain ⟨ka, kb, kz, HW, hsW⟩ := openK2z w va vb _ rfl
  obtain ⟨a0, a1, a2, a3, a4⟩ := ka.facts
  obtain ⟨b0, b1, b2, b3, b4⟩ := kb.facts
  obtain ⟨z0, z1, z2, z3, z4⟩ := kz.facts
  obtain ⟨t0, t1, t2, t3, t4⟩ := kz.thaw
  have HN := Lib.hid hn
  have ZQ := Lib.hid zq
  clear hn zq
  · have i0 : ¬ (0 : Int) < (vb.n : Int) := by simp at lb; omega
    clear lb
    go_enter Tryz.func69, Tryz.ntmps69
    go_wp2_with fail
    have HAL : Hid (∀ w', Below (((w.alloc (.cells #[.int .i64 va.s, .slice va.A va.n va.c, .bool va.K.s, .slice va.K.A va.K.n va.K.c, .slice va.K.B va.K.m va.K.d] 39)).alloc (.cells #[.int .i64 vb.s, .slice vb.A vb.n vb.c, .bool vb.K.s, .slice vb.K.A vb.K.n vb.K.c, .slice vb.K.B vb.K.m vb.K.d] 39)).alloc (.cells #[.int .i64 0, .slice none 0 0, .bool false, .slice none 0 0, .slice none 0 0] 39)).heap.size (((w.alloc (.cells #[.int .i64 va.s, .slice va.A va.n va.c, .bool va.K.s, .slice va.K.A va.K.n va.K.c, .slice va.K.B va.K.m va.K.d] 39)).alloc (.cells #[.int .i64 vb.s, .slice vb.A vb.n vb.c, .bool vb.K.s, .slice vb.K.A vb.K.n vb.K.c, .slice vb.K.B vb.K.m vb.K.d] 39)).alloc (.cells #[.int .i64 0, .slice none 0 0, .bool false, .slice none 0 0, .slice none 0 0] 39)) w' → Cw w' va L k 1900 ∧ Rw w' vb.K q 1900 ∧ C5 w' w.heap.size (.int .i64 va.s) (.slice va.A va.n va.c) (.bool va.K.s) (.slice va.K.A va.K.n va.K.c) (.slice va.K.B va.K.m va.K.d) ∧ C5 w' (w.heap.size + 1) (.int .i64 vb.s) (.slice vb.A vb.n vb.c) (.bool vb.K.s) (.slice vb.K.A vb.K.n vb.K.c) (.slice vb.K.B vb.K.m vb.K.d) ∧ C5 w' (w.heap.size + 1 + 1) (.int .i64 0) (.slice none 0 0) (.bool false) (.slice none 0 0) (.slice none 0 0) ∧ Below w.heap.size w w') := fun w' h =>
      ⟨(HA.out.below HW).below h, (HBB.out.num.below HW).below h, ka.below h, kb.below h, kz.below h, HW.trans (h.mono HW.size)⟩
    clear ka kb kz HW
    generalize ((w.alloc (.cells #[.int .i64 va.s, .slice va.A va.n va.c, .bool va.K.s, .slice va.K.A va.K.n va.K.c, .slice va.K.B va.K.m va.K.d] 39)).alloc (.cells #[.int .i64 vb.s, .slice vb.A vb.n vb.c, .bool vb.K.s, .slice vb.K.A vb.K.n vb.K.c, .slice vb.K.B vb.K.m vb.K.d] 39)).alloc (.cells #[.int .i64 0, .slice none 0 0, .bool false, .slice none 0 0, .slice none 0 0] 39) = W at *
    clear a0 a1 a2 a3 a4 b0 b1 z0 z1 z2 z3 z4 t0 t1 t2 t3 t4
    go_cut [6, 7] from 13 to 19 (fun lv ev wx => ∃ (lb : Nat) (x : Rv), lv = .pointer (some ⟨lb, 0, none⟩) ∧ ev = .bool false ∧ Hid (QAt W wx lb x 0))
    case first =>
      have m1 : ¬ w.heap.size + 1 = W.heap.size := by omega
      have m2 : ¬ W.heap.size = w.heap.size + 1 := by omega
      have HSW := Lib.hid hsW
      clear hsW
      have hWA : Below W.heap.size W (W.alloc (.cells #[.bool false, .slice none 0 0, .slice none 0 0] 24)).drew := ((Below.refl _ _).alloc (Nat.le_refl _) _).drew
      have kl0 : C3 (W.alloc (.cells #[.bool false, .slice none 0 0, .slice none 0 0] 24)).drew W.heap.size (.bool false) (.slice none 0 0) (.slice none 0 0) := C3.new W (.bool false) (.slice none 0 0) (.slice none 0 0)
      have hzA : (W.alloc (.cells #[.bool false, .slice none 0 0, .slice none 0 0] 24)).drew.heap.size = W.heap.size + 1 := by simp
      have HWA := Lib.hid (And.intro hWA (And.intro kl0 hzA))
      clear hWA kl0 hzA
      go_region_held3 (fun w' => w'.cell? ⟨w.heap.size + 1, 2, none⟩ = some (.bool vb.K.s) ∧ w'.cell? ⟨w.heap.size + 1, 3, none⟩ = some (.slice vb.K.A vb.K.n vb.K.c) ∧ w'.cell? ⟨w.heap.size + 1, 4, none⟩ = some (.slice vb.K.B vb.K.m vb.K.d)) (go_keep)
        (first
        | (go_at_call 26
           refine (Int_any 1 _ (by omega)).mono ?_
           rintro e w5 ⟨y, rfl, hy, hb⟩
           have hbW : Below W.heap.size W w5 := by
             first
             | (have hbq : Below W.drew.heap.size W.drew w5 := by with_reducible exact hb
                exact (bel1 W).trans hbq)
             | (have hbq : Below (W.alloc (.cells #[.bool false, .slice none 0 0, .slice none 0 0] 24)).drew.heap.size (W.alloc (.cells #[.bool false, .slice none 0 0, .slice none 0 0] 24)).drew w5 := by with_reducible exact hb
                exact HWA.out.1.trans (hbq.mono HWA.out.1.size))
           first
           | (have hbq : Below (W.alloc (.cells #[.bool false, .slice none 0 0, .slice none 0 0] 24)).drew.heap.size (W.alloc (.cells #[.bool false, .slice none 0 0, .slice none 0 0] 24)).drew w5 := by with_reducible exact hb
              have KN := Lib.hid (And.intro (HWA.out.2.1.below hbq) (show W.heap.size < w5.heap.size by have h1 := hbq.size; have h2 := HWA.out.2.2; omega))
              obtain ⟨q0, q1, q2, t0, t1, t2⟩ := KN.out.1.facts
              clear hbq)
           | skip
           obtain ⟨_, _, b2, b3, b4⟩ := (HAL.out _ hbW).2.2.2.1.facts
           have HY : Hid (Rw w5 y ((1 : Int) : Rat) 2000) := (hy.rw sz_p1).more (by omega)
           have HW5 := Lib.hid hbW
           have hz5 := hbW.size
           have hsW := HSW.out
           have m3 : ¬ w.heap.size + 1 = w5.heap.size := by omega
           have m4 : ¬ w5.heap.size = w.heap.size + 1 := by omega
           clear hsW
           clear hy hb hbW)
        | (go_at_call 85
           refine (Div_zero_c y vb.K q _ (((HAL.out _ (HW5.out.trans (Below.mono (B := w5.heap.size) ?_ hz5))).2.1).more (by omega)) ZQ.out).mono ?_
           · first
             | (with_reducible exact Below.refl _ _)
             | (with_reducible exact (Below.refl _ _).alloc (Nat.le_refl _) _)
           rintro e w6 ⟨x, rfl, hx, hb⟩
           have hb5 : Below w5.heap.size w5 w6 := by
             first
             | (with_reducible exact hb)
             | (have hbq : Below (w5.alloc (.cells #[.bool false, .slice none 0 0, .slice none 0 0] 24)).heap.size (w5.alloc (.cells #[.bool false, .slice none 0 0, .slice none 0 0] 24)) w6 := by with_reducible exact hb
                exact ((Below.refl _ _).alloc (Nat.le_refl _) _).trans (hbq.mono (by simp)))
           have hbW := HW5.out.trans (hb5.mono hz5)
           first
           | (have KN6 := Lib.hid (KN.out.1.below hb5)
              clear q0 q1 q2 t0 t1 t2
              obtain ⟨q0, q1, q2, t0, t1, t2⟩ := KN6.out.facts)
           | (have hbq : Below (w5.alloc (.cells #[.bool false, .slice none 0 0, .slice none 0 0] 24)).heap.size (w5.alloc (.cells #[.bool false, .slice none 0 0, .slice none 0 0] 24)) w6 := by with_reducible exact hb
              have KM6 := Lib.hid ((C3.new w5 (.bool false) (.slice none 0 0) (.slice none 0 0)).below hbq)
              obtain ⟨q0, q1, q2, t0, t1, t2⟩ := KM6.out.facts
              clear hbq)
           | skip
           obtain ⟨_, _, b2, b3, b4⟩ := (HAL.out _ hbW).2.2.2.1.facts
           have HX := Lib.hid hx
           have HW6 := Lib.hid hbW
           have hz6 := hbW.size
           have hsW := HSW.out
           have m5 : ¬ w.heap.size + 1 = w6.heap.size := by omega
           have m6 : ¬ w6.heap.size = w.heap.size + 1 := by omega
           clear hsW
           clear hx hb hb5 hbW))
      all_goals
        go_wp2_with fail
        go_meet
        first
        | exact ⟨_, x, rfl, rfl, Lib.hid (QAt.put KN6.out (Nat.le_refl _) KN.out.2 HW6.out HX.out)⟩
        | exact ⟨_, x, rfl, rfl, Lib.hid (QAt.put KM6.out hz5 (by simp) HW6.out HX.out)⟩
        | exact ⟨_, x, rfl, rfl, Lib.hid (QAt.new HW6.out hz5 HX.out)⟩
    case rest =>
      obtain ⟨lb, x, rfl, rfl, HQ⟩ := hcut
      have hbc := HQ.out.below
      obtain ⟨c0, c1, c2, _, _, _⟩ := HQ.out.cell.facts
      have HK := Lib.hid (HAL.out _ hbc)
      have hsz := hbc.size
      clear b2 b3 b4
      obtain ⟨a0, a1, a2, a3, a4⟩ := HK.out.2.2.1.facts
      obtain ⟨z0, z1, z2, z3, z4⟩ := HK.out.2.2.2.2.1.facts
      obtain ⟨t0, t1, t2, t3, t4⟩ := HK.out.2.2.2.2.1.thaw
      clear hbc
      go_wp2
      refine ret5t (fn := Tryz.f69) Tryz.results69 rfl rfl rfl (HK.out.2.2.2.2.1.put _ _ _ _ _) ?_
      exact ⟨HK.out.2.2.2.2.2.trans (put5_below (by omega) _ _ _ _ _), Kz, rfl⟩
set_option maxHeartbeats 12800000 in
theorem quotient_ok (va vb : Cv) (L : List (Int × Rat)) (k q : Rat) (w : World) (ha : Cw w va L k 1900) (hb : Cw w vb [] q 1900) (hn : va.n ≤ 1000) (zq : q ≠ 0 ∧ Sz (((1 : Int) : Rat) / q) 1900) :
    Calls Tryz.prog 69 #[.agg #[.int .i64 va.s, .slice va.A va.n va.c, .bool va.K.s, .slice va.K.A va.K.n va.K.c, .slice va.K.B va.K.m va.K.d], .agg #[.int .i64 vb.s, .slice vb.A vb.n vb.c, .bool vb.K.s, .slice vb.K.A vb.K.n vb.K.c, .slice vb.K.B vb.K.m vb.K.d]] w (KR w (.ok (scaleL (((1 : Int) : Rat) / q) L) (k * (((1 : Int) : Rat) / q)))) := by
  have lb := hb.len
  have HA := Lib.hid ha
  have HBB := Lib.hid hb
  clear ha hb
  obtain ⟨ka, kb, kz, HW, hsW⟩ := openK2z w va vb _ rfl
  obtain ⟨a0, a1, a2, a3, a4⟩ := ka.facts
  obtain ⟨b0, b1, b2, b3, b4⟩ := kb.facts
  obtain ⟨z0, z1, z2, z3, z4⟩ := kz.facts
  obtain ⟨t0, t1, t2, t3, t4⟩ := kz.thaw
  have HN := Lib.hid hn
  have ZQ := Lib.hid zq
  clear hn zq
  · have i0 : ¬ (0 : Int) < (vb.n : Int) := by simp at lb; omega
    clear lb
    go_enter Tryz.func69, Tryz.ntmps69
    go_wp2_with fail
    have HAL : Hid (∀ w', Below (((w.alloc (.cells #[.int .i64 va.s, .slice va.A va.n va.c, .bool va.K.s, .slice va.K.A va.K.n va.K.c, .slice va.K.B va.K.m va.K.d] 39)).alloc (.cells #[.int .i64 vb.s, .slice vb.A vb.n vb.c, .bool vb.K.s, .slice vb.K.A vb.K.n vb.K.c, .slice vb.K.B vb.K.m vb.K.d] 39)).alloc (.cells #[.int .i64 0, .slice none 0 0, .bool false, .slice none 0 0, .slice none 0 0] 39)).heap.size (((w.alloc (.cells #[.int .i64 va.s, .slice va.A va.n va.c, .bool va.K.s, .slice va.K.A va.K.n va.K.c, .slice va.K.B va.K.m va.K.d] 39)).alloc (.cells #[.int .i64 vb.s, .slice vb.A vb.n vb.c, .bool vb.K.s, .slice vb.K.A vb.K.n vb.K.c, .slice vb.K.B vb.K.m vb.K.d] 39)).alloc (.cells #[.int .i64 0, .slice none 0 0, .bool false, .slice none 0 0, .slice none 0 0] 39)) w' → Cw w' va L k 1900 ∧ Rw w' vb.K q 1900 ∧ C5 w' w.heap.size (.int .i64 va.s) (.slice va.A va.n va.c) (.bool va.K.s) (.slice va.K.A va.K.n va.K.c) (.slice va.K.B va.K.m va.K.d) ∧ C5 w' (w.heap.size + 1) (.int .i64 vb.s) (.slice vb.A vb.n vb.c) (.bool vb.K.s) (.slice vb.K.A vb.K.n vb.K.c) (.slice vb.K.B vb.K.m vb.K.d) ∧ C5 w' (w.heap.size + 1 + 1) (.int .i64 0) (.slice none 0 0) (.bool false) (.slice none 0 0) (.slice none 0 0) ∧ Below w.heap.size w w') := fun w' h =>
      ⟨(HA.out.below HW).below h, (HBB.out.num.below HW).below h, ka.below h, kb.below h, kz.below h, HW.trans (h.mono HW.size)⟩
    clear ka kb kz HW
    generalize ((w.alloc (.cells #[.int .i64 va.s, .slice va.A va.n va.c, .bool va.K.s, .slice va.K.A va.K.n va.K.c, .slice va.K.B va.K.m va.K.d] 39)).alloc (.cells #[.int .i64 vb.s, .slice vb.A vb.n vb.c, .bool vb.K.s, .slice vb.K.A vb.K.n vb.K.c, .slice vb.K.B vb.K.m vb.K.d] 39)).alloc (.cells #[.int .i64 0, .slice none 0 0, .bool false, .slice none 0 0, .slice none 0 0] 39) = W at *
    clear a0 a1 a2 a3 a4 b0 b1 z0 z1 z2 z3 z4 t0 t1 t2 t3 t4
    go_cut [6, 7] from 13 to 19 (fun lv ev wx => ∃ (lb : Nat) (x : Rv), lv = .pointer (some ⟨lb, 0, none⟩) ∧ ev = .bool true ∧ Hid (QAt W wx lb x (((1 : Int) : Rat) / q)))
    case first =>
      have m1 : ¬ w.heap.size + 1 = W.heap.size := by omega
      have m2 : ¬ W.heap.size = w.heap.size + 1 := by omega
      have HSW := Lib.hid hsW
      clear hsW
      have hWA : Below W.heap.size W (W.alloc (.cells #[.bool false, .slice none 0 0, .slice none 0 0] 24)).drew := ((Below.refl _ _).alloc (Nat.le_refl _) _).drew
      have kl0 : C3 (W.alloc (.cells #[.bool false, .slice none 0 0, .slice none 0 0] 24)).drew W.heap.size (.bool false) (.slice none 0 0) (.slice none 0 0) := C3.new W (.bool false) (.slice none 0 0) (.slice none 0 0)
      have hzA : (W.alloc (.cells #[.bool false, .slice none 0 0, .slice none 0 0] 24)).drew.heap.size = W.heap.size + 1 := by simp
      have HWA := Lib.hid (And.intro hWA (And.intro kl0 hzA))
      clear hWA kl0 hzA
      go_region_held3 (fun w' => w'.cell? ⟨w.heap.size + 1, 2, none⟩ = some (.bool vb.K.s) ∧ w'.cell? ⟨w.heap.size + 1, 3, none⟩ = some (.slice vb.K.A vb.K.n vb.K.c) ∧ w'.cell? ⟨w.heap.size + 1, 4, none⟩ = some (.slice vb.K.B vb.K.m vb.K.d)) (go_keep)
        (first
        | (go_at_call 26
           refine (Int_any 1 _ (by omega)).mono ?_
           rintro e w5 ⟨y, rfl, hy, hb⟩
           have hbW : Below W.heap.size W w5 := by
             first
             | (have hbq : Below W.drew.heap.size W.drew w5 := by with_reducible exact hb
                exact (bel1 W).trans hbq)
             | (have hbq : Below (W.alloc (.cells #[.bool false, .slice none 0 0, .slice none 0 0] 24)).drew.heap.size (W.alloc (.cells #[.bool false, .slice none 0 0, .slice none 0 0] 24)).drew w5 := by with_reducible exact hb
                exact HWA.out.1.trans (hbq.mono HWA.out.1.size))
           first
           | (have hbq : Below (W.alloc (.cells #[.bool false, .slice none 0 0, .slice none 0 0] 24)).drew.heap.size (W.alloc (.cells #[.bool false, .slice none 0 0, .slice none 0 0] 24)).drew w5 := by with_reducible exact hb
              have KN := Lib.hid (And.intro (HWA.out.2.1.below hbq) (show W.heap.size < w5.heap.size by have h1 := hbq.size; have h2 := HWA.out.2.2; omega))
              obtain ⟨q0, q1, q2, t0, t1, t2⟩ := KN.out.1.facts
              clear hbq)
           | skip
           obtain ⟨_, _, b2, b3, b4⟩ := (HAL.out _ hbW).2.2.2.1.facts
           have HY : Hid (Rw w5 y ((1 : Int) : Rat) 2000) := (hy.rw sz_p1).more (by omega)
           have HW5 := Lib.hid hbW
           have hz5 := hbW.size
           have hsW := HSW.out
           have m3 : ¬ w.heap.size + 1 = w5.heap.size := by omega
           have m4 : ¬ w5.heap.size = w.heap.size + 1 := by omega
           clear hsW
           clear hy hb hbW)
        | (go_at_call 85
           refine (Div_c y vb.K ((1 : Int) : Rat) q _ (HY.out.below ?_) (((HAL.out _ (HW5.out.trans (Below.mono (B := w5.heap.size) ?_ hz5))).2.1).more (by omega)) ZQ.out.1).mono ?_
           · first
             | (with_reducible exact Below.refl _ _)
             | (with_reducible exact (Below.refl _ _).alloc (Nat.le_refl _) _)
           · first
             | (with_reducible exact Below.refl _ _)
             | (with_reducible exact (Below.refl _ _).alloc (Nat.le_refl _) _)
           rintro e w6 ⟨x, rfl, hx, hb⟩
           have hb5 : Below w5.heap.size w5 w6 := by
             first
             | (with_reducible exact hb)
             | (have hbq : Below (w5.alloc (.cells #[.bool false, .slice none 0 0, .slice none 0 0] 24)).heap.size (w5.alloc (.cells #[.bool false, .slice none 0 0, .slice none 0 0] 24)) w6 := by with_reducible exact hb
                exact ((Below.refl _ _).alloc (Nat.le_refl _) _).trans (hbq.mono (by simp)))
           have hbW := HW5.out.trans (hb5.mono hz5)
           first
           | (have KN6 := Lib.hid (KN.out.1.below hb5)
              clear q0 q1 q2 t0 t1 t2
              obtain ⟨q0, q1, q2, t0, t1, t2⟩ := KN6.out.facts)
           | (have hbq : Below (w5.alloc (.cells #[.bool false, .slice none 0 0, .slice none 0 0] 24)).heap.size (w5.alloc (.cells #[.bool false, .slice none 0 0, .slice none 0 0] 24)) w6 := by with_reducible exact hb
              have KM6 := Lib.hid ((C3.new w5 (.bool false) (.slice none 0 0) (.slice none 0 0)).below hbq)
              obtain ⟨q0, q1, q2, t0, t1, t2⟩ := KM6.out.facts
              clear hbq)
           | skip
           obtain ⟨_, _, b2, b3, b4⟩ := (HAL.out _ hbW).2.2.2.1.facts
           have HX := Lib.hid hx
           have HW6 := Lib.hid hbW
           have hz6 := hbW.size
           have hsW := HSW.out
           have m5 : ¬ w.heap.size + 1 = w6.heap.size := by omega
           have m6 : ¬ w6.heap.size = w.heap.size + 1 := by omega
           clear hsW
           clear hx hb hb5 hbW))
      all_goals
        go_wp2_with fail
        go_meet
        first
        | exact ⟨_, x, rfl, rfl, Lib.hid (QAt.put KN6.out (Nat.le_refl _) KN.out.2 HW6.out HX.out)⟩
        | exact ⟨_, x, rfl, rfl, Lib.hid (QAt.put KM6.out hz5 (by simp) HW6.out HX.out)⟩
        | exact ⟨_, x, rfl, rfl, Lib.hid (QAt.new HW6.out hz5 HX.out)⟩
    case rest =>
      obtain ⟨lb, x, rfl, rfl, HQ⟩ := hcut
      have hbc := HQ.out.below
      obtain ⟨c0, c1, c2, _, _, _⟩ := HQ.out.cell.facts
      have HK := Lib.hid (HAL.out _ hbc)
      have hsz := hbc.size
      clear b2 b3 b4
      obtain ⟨a0, a1, a2, a3, a4⟩ := HK.out.2.2.1.facts
      obtain ⟨z0, z1, z2, z3, z4⟩ := HK.out.2.2.2.2.1.facts
      obtain ⟨t0, t1, t2, t3, t4⟩ := HK.out.2.2.2.2.1.thaw
      clear hbc
      go_wp2_with fail
      refine (ScaleK_c va x L k (((1 : Int) : Rat) / q) _ HK.out.1 (HQ.out.rt.rw ZQ.out.2) HN.out).mono ?_
      rintro e w2 ⟨z, rfl, hzs, hzn, hz, hb⟩
      have kz2 := HK.out.2.2.2.2.1.below hb
      have hB2 := HK.out.2.2.2.2.2.trans (hb.mono (by omega))
      have HZ := Lib.hid (hz.lower (show w.heap.size + 3 ≤ wc.heap.size by omega))
      clear a0 a1 a2 a3 a4 z0 z1 z2 z3 z4 t0 t1 t2 t3 t4 c0 c1 c2 hb hz hzs hzn
      obtain ⟨q0, q1, q2, q3, q4⟩ := kz2.facts
      obtain ⟨t0, t1, t2, t3, t4⟩ := kz2.thaw
      go_wp2
      refine ret5t (fn := Tryz.f69) Tryz.results69 rfl rfl rfl (kz2.put _ _ _ _ _) ?_
      exact ⟨hB2.trans (put5_below (by omega) _ _ _ _ _), z, rfl, (HZ.out.put (by omega) _ _ _ _ _).lower (by omega)⟩
set_option maxHeartbeats 3200000 in
theorem quotient_c (va vb : Cv) (L M : List (Int × Rat)) (k q : Rat) (w : World) (ha : Cw w va L k 1900) (hb : Cw w vb M q 1900) (hn : va.n ≤ 1000) (zq : q ≠ 0 → Sz (((1 : Int) : Rat) / q) 1900) :
    Calls Tryz.prog 69 #[.agg #[.int .i64 va.s, .slice va.A va.n va.c, .bool va.K.s, .slice va.K.A va.K.n va.K.c, .slice va.K.B va.K.m va.K.d], .agg #[.int .i64 vb.s, .slice vb.A vb.n vb.c, .bool vb.K.s, .slice vb.K.A vb.K.n vb.K.c, .slice vb.K.B vb.K.m vb.K.d]] w (KR w (divS L k M q)) := by
  rcases M with _ | ⟨y, M⟩
  · by_cases h : q = 0
    · rw [show divS L k [] q = .err 7 from if_pos h]
      exact quotient_zero va vb L k q w ha hb hn h
    · rw [show divS L k [] q = .ok (scaleL (((1 : Int) : Rat) / q) L) (k * (((1 : Int) : Rat) / q)) from if_neg h]
      exact quotient_ok va vb L k q w ha hb hn ⟨h, zq h⟩
  · have lb := hb.len
    obtain ⟨ka, kb, kz, HW, hsW⟩ := openK2z w va vb _ rfl
    obtain ⟨b0, b1, b2, b3, b4⟩ := kb.facts
    obtain ⟨z0, z1, z2, z3, z4⟩ := kz.facts
    obtain ⟨t0, t1, t2, t3, t4⟩ := kz.thaw
    clear ha hb zq
    have i0 : (0 : Int) < (vb.n : Int) := by simp at lb; omega
    clear lb
    go_enter Tryz.func69, Tryz.ntmps69
    go_wp2
    generalize ((w.alloc (.cells #[.int .i64 va.s, .slice va.A va.n va.c, .bool va.K.s, .slice va.K.A va.K.n va.K.c, .slice va.K.B va.K.m va.K.d] 39)).alloc (.cells #[.int .i64 vb.s, .slice vb.A vb.n vb.c, .bool vb.K.s, .slice vb.K.A vb.K.n vb.K.c, .slice vb.K.B vb.K.m vb.K.d] 39)).alloc (.cells #[.int .i64 0, .slice none 0 0, .bool false, .slice none 0 0, .slice none 0 0] 39) = W at *
    refine ret5t (fn := Tryz.f69) Tryz.results69 rfl rfl rfl kz ?_
    exact ⟨HW, Kz, rfl⟩
end Go.Proofs.YtdpbceipiappjaaGreatDoor
