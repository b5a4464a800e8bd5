/-
  CheckFewer: what is linear of some fields is linear of fewer; of none all is; a difference is, if both sides are.
-/
import Derived.Test.YtcmkgoikmleanaaCkZ
namespace Go.Proofs.Ytcmkgoikmleanaa
set_option maxRecDepth 20000
open Go.RowKit Go.Maps Go.WideMaps

theorem fewer_take (ss : List ByteArray) (k : Nat) (t : Tr) (h : (sees (inL ss) t).2 = true) : (sees (inL (ss.take k)) t).2 = true :=
  (sees_mono (inL ss) (inL (ss.take k)) (fun s => inL_mono ss k s) t).2 h
theorem fewer_nil (t : Tr) : (sees (inL []) t).2 = true := by rw [sees_none _ inL_nil]
theorem fewer_sub (F : ByteArray → Bool) (ta tb : Tr) : (sees F (.node 4 ⟨#[]⟩ 2 fun i => if i = 0 then ta else tb)).2 = ((sees F ta).2 && (sees F tb).2) := by
  show (loopS 4 (fun i => sees F (if i = 0 then ta else tb)) (decide ((4 : Int) = 2) && F ⟨#[]⟩, true) 2).2 = _
  rw [loop_sub]; rfl
def Goal (w : World) (e : Ending) (w' : World) : Prop := e = .returned (.bool true) ∧ Below w.heap.size w w'
set_option maxHeartbeats 12800000 in
theorem CheckFewer_any (ta tb : Tr) (va vb : Ev) (A : Option Addr) (n c : Nat) (ss : List ByteArray) (w : World) (ha : RdT w ta va) (hb : RdT w tb vb) (hs : Strs w A n ss) (hnc : n ≤ c) (hn9 : n ≤ 100000000000000) :
    Calls Try.prog 5 #[.agg #[.int .i64 va.k, .bool va.r.s, .slice va.r.A va.r.n va.r.c, .slice va.r.B va.r.m va.r.d, .string va.s, .slice va.K va.n va.c], .agg #[.int .i64 vb.k, .bool vb.r.s, .slice vb.r.A vb.r.n vb.r.c, .slice vb.r.B vb.r.m vb.r.d, .string vb.s, .slice vb.K vb.n vb.c], .slice A n c] w (Goal w) := by
  have k_a := C6.new w (.int .i64 va.k) (.bool va.r.s) (.slice va.r.A va.r.n va.r.c) (.slice va.r.B va.r.m va.r.d) (.string va.s) (.slice va.K va.n va.c)
  have k_b := C6.new (w.alloc (.cells #[.int .i64 va.k, .bool va.r.s, .slice va.r.A va.r.n va.r.c, .slice va.r.B va.r.m va.r.d, .string va.s, .slice va.K va.n va.c] 36)) (.int .i64 vb.k) (.bool vb.r.s) (.slice vb.r.A vb.r.n vb.r.c) (.slice vb.r.B vb.r.m vb.r.d) (.string vb.s) (.slice vb.K vb.n vb.c)
  have e1 : (w.alloc (.cells #[.int .i64 va.k, .bool va.r.s, .slice va.r.A va.r.n va.r.c, .slice va.r.B va.r.m va.r.d, .string va.s, .slice va.K va.n va.c] 36)).heap.size = w.heap.size + 1 := by simp
  rw [e1] at k_b
  clear e1
  replace k_a := k_a.alloc (.cells #[.int .i64 vb.k, .bool vb.r.s, .slice vb.r.A vb.r.n vb.r.c, .slice vb.r.B vb.r.m vb.r.d, .string vb.s, .slice vb.K vb.n vb.c] 36)
  have HB := ((Below.refl w.heap.size w).alloc (Nat.le_refl _) (.cells #[.int .i64 va.k, .bool va.r.s, .slice va.r.A va.r.n va.r.c, .slice va.r.B va.r.m va.r.d, .string va.s, .slice va.K va.n va.c] 36)).alloc (by simp) (.cells #[.int .i64 vb.k, .bool vb.r.s, .slice vb.r.A vb.r.n vb.r.c, .slice vb.r.B vb.r.m vb.r.d, .string vb.s, .slice vb.K vb.n vb.c] 36)
  have n0 : (0 : Int) ≤ (n : Int) := by omega
  have n9 : (n : Int) ≤ 100000000000000 := by omega
  obtain ⟨a0, a1, a2, a3, a4, a5⟩ := k_a.facts
  obtain ⟨b0, b1, b2, b3, b4, b5⟩ := k_b.facts
  go_enter Try.func5, Try.ntmps5
  go_wp2_with fail
  refine (weight_t ta va _ w 400 ha HB (by omega) (by omega)).mono ?_
  rintro e w1 ⟨R1, rfl, ⟨hR1, hR2⟩, hb1⟩
  replace k_a := k_a.below hb1
  replace k_b := k_b.below hb1
  replace HB := HB.trans (hb1.mono HB.size)
  clear hb1 a0 a1 a2 a3 a4 a5 b0 b1 b2 b3 b4 b5
  obtain ⟨a0, a1, a2, a3, a4, a5⟩ := k_a.facts
  obtain ⟨b0, b1, b2, b3, b4, b5⟩ := k_b.facts
  by_cases h1 : R1 < 0
  · go_wp2
    go_ret
    exact ⟨rfl, HB⟩
  go_wp2_with fail
  refine (weight_t tb vb _ w 400 hb HB (by omega) (by omega)).mono ?_
  rintro e w2 ⟨Q1, rfl, ⟨hQ1, hQ2⟩, hb1⟩
  replace k_a := k_a.below hb1
  replace k_b := k_b.below hb1
  replace HB := HB.trans (hb1.mono HB.size)
  clear hb1 a0 a1 a2 a3 a4 a5 b0 b1 b2 b3 b4 b5 hR1 hR2
  obtain ⟨a0, a1, a2, a3, a4, a5⟩ := k_a.facts
  obtain ⟨b0, b1, b2, b3, b4, b5⟩ := k_b.facts
  by_cases h2 : Q1 < 0
  · go_wp2
    go_ret
    exact ⟨rfl, HB⟩
  by_cases h3 : 20 < n
  · have h3' : (20 : Int) < (n : Int) := by omega
    go_wp2
    go_ret
    exact ⟨rfl, HB⟩
  have h3' : ¬ (20 : Int) < (n : Int) := by omega
  have n20 : (n : Int) ≤ 20 := by omega
  have N20 := Lib.hid (show n ≤ 20 by omega)
  have NC := Lib.hid hnc
  have HS := Lib.hid hs
  have HRA := Lib.hid ha
  have HRB := Lib.hid hb
  clear hs hnc ha hb hn9
  go_wp2_with fail
  clear h1 h2 hQ1 hQ2 h3 h3'
  have mk0 : Hid True := trivial
  have hn1 : ¬ w.heap.size = w.heap.size + 1 := by omega
  have hn2 : ¬ w.heap.size + 1 = w.heap.size := by omega
  go_region_held3 (fun w' => w'.cell? ⟨w.heap.size, 0, none⟩ = some (.int .i64 va.k) ∧ w'.cell? ⟨w.heap.size, 1, none⟩ = some (.bool va.r.s) ∧ w'.cell? ⟨w.heap.size, 2, none⟩ = some (.slice va.r.A va.r.n va.r.c) ∧ w'.cell? ⟨w.heap.size, 3, none⟩ = some (.slice va.r.B va.r.m va.r.d) ∧ w'.cell? ⟨w.heap.size, 4, none⟩ = some (.string va.s) ∧ w'.cell? ⟨w.heap.size, 5, none⟩ = some (.slice va.K va.n va.c) ∧ w'.cell? ⟨w.heap.size + 1, 0, none⟩ = some (.int .i64 vb.k) ∧ w'.cell? ⟨w.heap.size + 1, 1, none⟩ = some (.bool vb.r.s) ∧ w'.cell? ⟨w.heap.size + 1, 2, none⟩ = some (.slice vb.r.A vb.r.n vb.r.c) ∧ w'.cell? ⟨w.heap.size + 1, 3, none⟩ = some (.slice vb.r.B vb.r.m vb.r.d) ∧ w'.cell? ⟨w.heap.size + 1, 4, none⟩ = some (.string vb.s) ∧ w'.cell? ⟨w.heap.size + 1, 5, none⟩ = some (.slice vb.K vb.n vb.c)) (go_keep)
      (first
      | (go_at_call 19
         have mk1 := mk0
         clear mk0
         refine (Linear_c ta va A n c ss _ (HRA.out.below (bdrew HB)) (HS.out.below (bdrew HB)) (by have := N20.out; omega)).mono ?_
         rintro e w3 ⟨rfl, hb3⟩
         replace HB := (bdrew HB).trans (hb3.mono (bdrew HB).size)
         replace k_a := k_a.drew.below hb3
         replace k_b := k_b.drew.below hb3
         obtain ⟨a0, a1, a2, a3, a4, a5⟩ := k_a.facts
         obtain ⟨b0, b1, b2, b3, b4, b5⟩ := k_b.facts
         clear hb3)
      | (go_at_call 19
         have mk2 := mk1
         clear mk1
         refine (Linear_c tb vb A n c ss _ (HRB.out.below HB) (HS.out.below HB) (by have := N20.out; omega)).mono ?_
         rintro e w4 ⟨rfl, hb3⟩
         replace HB := HB.trans (hb3.mono HB.size)
         replace k_a := k_a.below hb3
         replace k_b := k_b.below hb3
         obtain ⟨a0, a1, a2, a3, a4, a5⟩ := k_a.facts
         obtain ⟨b0, b1, b2, b3, b4, b5⟩ := k_b.facts
         clear hb3))
  obtain ⟨xa, hxa⟩ : ∃ xa, (sees (inL ss) ta).2 = xa := ⟨_, rfl⟩
  obtain ⟨xb, hxb⟩ : ∃ xb, (sees (inL ss) tb).2 = xb := ⟨_, rfl⟩
  rw [hxa, hxb]
  have HXA := Lib.hid hxa
  have HXB := Lib.hid hxb
  clear hxa hxb
  go_wp2
  clear a0 a1 a2 a3 a4 a5 b0 b1 b2 b3 b4 b5
  go_loopw [9] (fun iv wr => ∃ i : Nat, i ≤ n ∧ iv = .int .i64 i ∧ C6 wr w.heap.size (.int .i64 va.k) (.bool va.r.s) (.slice va.r.A va.r.n va.r.c) (.slice va.r.B va.r.m va.r.d) (.string va.s) (.slice va.K va.n va.c) ∧ C6 wr (w.heap.size + 1) (.int .i64 vb.k) (.bool vb.r.s) (.slice vb.r.A vb.r.n vb.r.c) (.slice vb.r.B vb.r.m vb.r.d) (.string vb.s) (.slice vb.K vb.n vb.c) ∧ Below w.heap.size w wr) (fun iv _ => n - (intOf iv).toNat)
  case atStart => exact ⟨0, Nat.zero_le _, rfl, k_a, k_b, HB⟩
  case round =>
    clear k_a k_b HB
    obtain ⟨i, hi, rfl, k_a, k_b, HB⟩ := hrel
    obtain ⟨a0, a1, a2, a3, a4, a5⟩ := k_a.facts
    obtain ⟨b0, b1, b2, b3, b4, b5⟩ := k_b.facts
    have i0 : (0 : Int) ≤ (i : Int) := by omega
    by_cases hlt : i < n
    · have i1 : (i : Int) < (n : Int) := by omega
      cases xa with
      | false =>
        go_wp2_with fail
        go_region
        go_wp2
        go_roundw
        case rel => exact ⟨i + 1, by omega, by go_num, k_a.drew, k_b.drew, bdrew HB⟩
        case measure => simp [intOf]; omega
      | true =>
        have hst := HS.out.take i (by omega)
        have i2 : (i : Int) ≤ (c : Int) := by have := NC.out; omega
        obtain ⟨b, off, rfl, _, _⟩ := HS.out.mem (by omega)
        go_wp2_with fail
        go_region_held3 (fun w' => w'.cell? ⟨w.heap.size, 0, none⟩ = some (.int .i64 va.k) ∧ w'.cell? ⟨w.heap.size, 1, none⟩ = some (.bool va.r.s) ∧ w'.cell? ⟨w.heap.size, 2, none⟩ = some (.slice va.r.A va.r.n va.r.c) ∧ w'.cell? ⟨w.heap.size, 3, none⟩ = some (.slice va.r.B va.r.m va.r.d) ∧ w'.cell? ⟨w.heap.size, 4, none⟩ = some (.string va.s) ∧ w'.cell? ⟨w.heap.size, 5, none⟩ = some (.slice va.K va.n va.c)) (go_keep)
          (first
          | (go_at_call 19
             refine (Linear_c ta va _ i c (ss.take i) _ (HRA.out.below (bdrew HB)) (hst.below (bdrew HB)) (by have := N20.out; omega)).mono ?_
             rintro e w3 ⟨he, hb3⟩
             rw [fewer_take ss i ta HXA.out] at he
             subst he
             replace HB := (bdrew HB).trans (hb3.mono (bdrew HB).size)
             replace k_a := k_a.drew.below hb3
             replace k_b := k_b.drew.below hb3
             clear a0 a1 a2 a3 a4 a5 b0 b1 b2 b3 b4 b5 hb3
             obtain ⟨a0, a1, a2, a3, a4, a5⟩ := k_a.facts))
        go_wp2
        go_roundw
        case rel => exact ⟨i + 1, by omega, by go_num, k_a, k_b, HB⟩
        case measure => simp [intOf]; omega
    · have i1 : ¬ (i : Int) < (n : Int) := by omega
      have za := k_a.lt
      have zb := k_b.lt
      go_wp2_with fail
      have hNS : Strs wr none 0 [] := ⟨rfl, fun _ => Nat.zero_le _, fun h => absurd h (by omega)⟩
      have hB12 := (Below.refl wr.heap.size wr).alloc (Nat.le_refl _) (.cells #[.int .i64 va.k, .bool va.r.s, .slice va.r.A va.r.n va.r.c, .slice va.r.B va.r.m va.r.d, .string va.s, .slice va.K va.n va.c, .int .i64 vb.k, .bool vb.r.s, .slice vb.r.A vb.r.n vb.r.c, .slice vb.r.B vb.r.m vb.r.d, .string vb.s, .slice vb.K vb.n vb.c] 36)
      have k_12 := C12.newAt (w := wr) va vb rfl
      have hB6 := hB12.alloc (by simp) (.cells #[.int .i64 4, .bool false, .slice none 0 0, .slice none 0 0, .string ⟨#[]⟩, .slice (some ⟨wr.heap.size, 0, none⟩) 2 2] 36)
      replace k_12 := k_12.below (by simp) ((Below.refl _ _).alloc (Nat.le_refl _) (.cells #[.int .i64 4, .bool false, .slice none 0 0, .slice none 0 0, .string ⟨#[]⟩, .slice (some ⟨wr.heap.size, 0, none⟩) 2 2] 36))
      have k_s := C6.new (wr.alloc (.cells #[.int .i64 va.k, .bool va.r.s, .slice va.r.A va.r.n va.r.c, .slice va.r.B va.r.m va.r.d, .string va.s, .slice va.K va.n va.c, .int .i64 vb.k, .bool vb.r.s, .slice vb.r.A vb.r.n vb.r.c, .slice vb.r.B vb.r.m vb.r.d, .string vb.s, .slice vb.K vb.n vb.c] 36)) (.int .i64 4) (.bool false) (.slice none 0 0) (.slice none 0 0) (.string ⟨#[]⟩) (.slice (some ⟨wr.heap.size, 0, none⟩) (2 : Nat) 2)
      have e1 : (wr.alloc (.cells #[.int .i64 va.k, .bool va.r.s, .slice va.r.A va.r.n va.r.c, .slice va.r.B va.r.m va.r.d, .string va.s, .slice va.K va.n va.c, .int .i64 vb.k, .bool vb.r.s, .slice vb.r.A vb.r.n vb.r.c, .slice vb.r.B vb.r.m vb.r.d, .string vb.s, .slice vb.K vb.n vb.c] 36)).heap.size = wr.heap.size + 1 := by simp
      rw [e1] at k_s
      have zz : wr.heap.size < ((wr.alloc (.cells #[.int .i64 va.k, .bool va.r.s, .slice va.r.A va.r.n va.r.c, .slice va.r.B va.r.m va.r.d, .string va.s, .slice va.K va.n va.c, .int .i64 vb.k, .bool vb.r.s, .slice vb.r.A vb.r.n vb.r.c, .slice vb.r.B vb.r.m vb.r.d, .string vb.s, .slice vb.K vb.n vb.c] 36)).alloc (.cells #[.int .i64 4, .bool false, .slice none 0 0, .slice none 0 0, .string ⟨#[]⟩, .slice (some ⟨wr.heap.size, 0, none⟩) 2 2] 36)).heap.size := by simp; omega
      have hBw := HB.trans (hB6.mono HB.size)
      refine (Linear_c ta va none 0 0 [] _ (HRA.out.below hBw) (hNS.below hB6) (by omega)).mono ?_
      rintro e w5 ⟨he, hb5⟩
      rw [fewer_nil] at he
      subst he
      replace k_12 := k_12.below zz hb5
      replace k_s := k_s.below hb5
      have zz5 : wr.heap.size < w5.heap.size := Nat.lt_of_lt_of_le zz hb5.size
      replace HB := hBw.trans (hb5.mono hBw.size)
      clear hb5 zz hBw hB6 hB12 e1 hNS a0 a1 a2 a3 a4 a5 b0 b1 b2 b3 b4 b5
      obtain ⟨s0, s1, s2, s3, s4, s5⟩ := k_s.facts
      go_wp2_with fail
      refine (Linear_c (.node 4 ⟨#[]⟩ 2 fun i => if i = 0 then ta else tb) ⟨4, ⟨false, none, 0, 0, none, 0, 0⟩, ⟨#[]⟩, some ⟨wr.heap.size, 0, none⟩, 2, 2⟩ A n c ss _ (rd_two 4 (by omega) k_12 zz5 (HRA.out.below HB) (HRB.out.below HB)) (HS.out.below HB) (by have := N20.out; omega)).mono ?_
      rintro e w6 ⟨he, hb6⟩
      rw [fewer_sub, HXA.out, HXB.out] at he
      subst he
      replace HB := HB.trans (hb6.mono HB.size)
      clear hb6 s0 s1 s2 s3 s4 s5 k_s k_12 zz5
      cases xa <;> cases xb
      all_goals
        go_wp2_with fail
        refine (known7_c _).mono ?_
        rintro e w7 ⟨rfl, hb7⟩
        go_wp2
        go_ret
        exact ⟨rfl, HB.trans (hb7.mono HB.size)⟩
end Go.Proofs.Ytcmkgoikmleanaa
