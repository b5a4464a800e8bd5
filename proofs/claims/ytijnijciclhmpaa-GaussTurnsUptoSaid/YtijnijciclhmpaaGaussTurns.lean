/-
  GaussTurns: the order of sums does not matter; one that stands twice does not.
-/
import Derived.Test.YtijnijciclhmpaaRaw
import Derived.Test.YtijnijciclhmpaaKnG
import Derived.Test.YtijnijciclhmpaaClo
import Derived.Deep.Cut
namespace Go.Proofs.Ytijnijciclhmpaa
set_option maxRecDepth 20000
open Go.RowKit

theorem kons_one {w : World} {G : Nat} {v : Cv} (hG : w.heap[G]? = some (.cells #[.int .i64 v.s, .slice v.A v.n v.c, .bool v.K.s, .slice v.K.A v.K.n v.K.c, .slice v.K.B v.K.m v.K.d] 29 (0, 0))) : Kons w (some ⟨G, 0, none⟩) 1 [v] :=
  ⟨rfl, fun _ => ⟨G, 0, rfl, (Array.getElem?_eq_some_iff.1 hG).1, fun i x hx => by
    have hi : i < 1 := (List.getElem?_eq_some_iff.1 hx).1
    have : i = 0 := by omega
    subst this
    injection hx with hx; subst hx
    constructor <;> simp [World.cell?, hG]⟩⟩
/-- A row that is the call's own grows: what the caller holds stands. -/
theorem far_grown {w w1 w2 : World} {A : Option Addr} {c n : Nat} {l : List Cv} (hb : Below w.heap.size w w1) (ho : OwnC w1 w.heap.size A c n l) (hg : w1.grownBy w2 (A.map (·.block))) : Below w.heap.size w w2 := by
  refine hb.grown hg hb.size ?_
  intro k hk
  cases A with
  | none => simp at hk
  | some ad => simp at hk; subst hk; exact (ho.lt ad rfl).1
theorem rev_step {α : Type} {L : List α} {j : Nat} {x : α} (h : L[j]? = some x) : (L.drop (j + 1)).reverse ++ [x] = (L.drop j).reverse := by
  obtain ⟨hj, e⟩ := List.getElem?_eq_some_iff.1 h
  rw [List.drop_eq_getElem_cons hj, List.reverse_cons, e]
set_option maxHeartbeats 12800000 in
theorem GaussTurns_any (A : Option Addr) (m c : Nat) (v n : Int) (ps : List (Cv × List Tv)) (w : World) (hk : Kons w A m (ps.map (·.1))) (hf : ∀ x ∈ ps, Raw w x.1 x.2) (hm : m ≤ 1048576) :
    Calls Try.prog 3 #[.slice A m c, .int .i64 v, .int .i64 n] w fun e w' => e = .returned (.bool true) ∧ Below w.heap.size w w' := by
  have HK := Lib.hid hk
  have HF := Lib.hid hf
  clear hk hf
  have m0 : (0 : Int) ≤ (m : Int) := by omega
  have m1 : (m : Int) ≤ 1048576 := by omega
  go_enter Try.func3, Try.ntmps3
  go_wp2_with fail
  refine (heavyG_c A m c ps _ HK.out (fun x hx => (HF.out x hx).fit) hm).mono ?_
  rintro e w1 ⟨r, rfl, hr, hb⟩
  have HR := Lib.hid hr
  have HB1 := Lib.hid hb
  clear hr hb
  cases r with
  | true =>
    go_wp2
    go_ret
    exact ⟨rfl, HB1.out⟩
  | false =>
  by_cases hn10 : 10 < n
  · go_wp2
    go_ret
    exact ⟨rfl, HB1.out⟩
  obtain ⟨N, hN⟩ : ∃ N, heldN n = N := ⟨_, rfl⟩
  have hN12 : N ≤ 10 := by have := heldN_int n; omega
  have HN := Lib.hid hN
  have HRM : Hid (Room 150 N) := room150 (by omega)
  obtain ⟨hm75, vs, hvs, hkn⟩ := kns_of N HK.out HF.out (HR.out rfl)
  have HV := Lib.hid (And.intro hvs hkn)
  have m2 : (m : Int) ≤ 75 := by omega
  clear hvs hkn HF HR hN hN12
  obtain ⟨L, hL⟩ : ∃ L, L = ps.map (·.1) := ⟨_, rfl⟩
  rw [← hL] at HK HV
  clear hL
  have HL : Hid (L.length = m) := HK.out.len
  go_wp2_with fail
  go_loopw [7, 8] (fun bv iv wr => ∃ (k : Nat) (A2 : Option Addr) (q c2 : Nat), k ≤ m ∧ k + q = m ∧ iv = .int .i64 ((k : Int) - 1) ∧ bv = .slice A2 q c2 ∧ Hid (OwnC wr w.heap.size A2 c2 q (L.drop k).reverse ∧ Below w.heap.size w wr)) (fun _ iv _ => (intOf iv + 1).toNat)
  case atStart =>
    refine ⟨m, none, 0, 0, Nat.le_refl _, by omega, rfl, rfl, Lib.hid ⟨?_, HB1.out⟩⟩
    rw [List.drop_of_length_le (by rw [HL.out]; exact Nat.le_refl _)]
    exact OwnC.nil_ _ _
  case round =>
    obtain ⟨k, A2, q, c2, hk, hkq, rfl, rfl, HO⟩ := hrel
    cases k with
    | zero =>
      have hq : q = m := by omega
      subst hq
      clear hkq hk
      replace HO : Hid (OwnC wr w.heap.size A2 c2 q L.reverse ∧ Below w.heap.size w wr) := HO
      have e0 : (((0 : Nat)) : Int) - 1 = -1 := by omega
      rw [e0]
      go_wp2_with (at_builtin; refine wpc_appends rfl _ _ rfl rfl rfl (lo := w.heap.size) (l := L.reverse) (k := L) HO.out.1 (HK.out.below HO.out.2) (by omega) HO.out.2.size ?_)
      intro A3 c3 w3 hown hgrow
      have HO3 : Hid (OwnC w3 w.heap.size A3 c3 (q + q) (L.reverse ++ L) ∧ Below w.heap.size w w3) := ⟨hown, far_grown HO.out.2 HO.out.1 hgrow⟩
      have HVA : Hid (Kns N 150 w3 A q vs) := HV.out.2.below HO3.out.2
      have HVB : Hid (Kns N 150 w3 A3 (q + q) (vs.reverse ++ vs)) := ⟨by rw [List.map_append, List.map_reverse, HV.out.1]; exact HO3.out.1.kons, fun x hx => HVA.out.rd x (by simpa using hx)⟩
      have HB3 := Lib.hid HO3.out.2
      clear hown hgrow HO HO3 HV HK HL HB1
      go_wp2_with fail
      refine (Fixed_c n v N 150 A q c vs _ HN.out HVA.out (by omega) HRM.out).mono ?_
      rintro e w4 ⟨z1, b1, q1, rfl, hz1, hb4, f1, f2⟩
      have H4 : Hid (C3 (w4.alloc (.cells #[.bool z1.s, .slice z1.A z1.n z1.c, .slice z1.B z1.m z1.d] 27)) w4.heap.size (.bool z1.s) (.slice z1.A z1.n z1.c) (.slice z1.B z1.m z1.d) ∧ Below w3.heap.size w3 (w4.alloc (.cells #[.bool z1.s, .slice z1.A z1.n z1.c, .slice z1.B z1.m z1.d] 27)) ∧ Rw (w4.alloc (.cells #[.bool z1.s, .slice z1.A z1.n z1.c, .slice z1.B z1.m z1.d] 27)) z1 q1 1000000000) := ⟨C3.new w4 (.bool z1.s) (.slice z1.A z1.n z1.c) (.slice z1.B z1.m z1.d), hb4.alloc hb4.size _, hz1.alloc _⟩
      have HF1 := Lib.hid (And.intro f1 f2)
      clear hz1 hb4 f1 f2
      go_wp2_with fail
      generalize w4.alloc (.cells #[.bool z1.s, .slice z1.A z1.n z1.c, .slice z1.B z1.m z1.d] 27) = W4 at *
      refine (Fixed_c n v N 150 A3 (q + q) c3 (vs.reverse ++ vs) _ HN.out (HVB.out.below H4.out.2.1) (by omega) HRM.out).mono ?_
      rintro e w5 ⟨z2, b2, q2, rfl, hz2, hb5, f1, f2⟩
      obtain ⟨rfl, rfl⟩ := fix_same (sums_back N vs) HF1.out.1 HF1.out.2 f1 f2
      have H6 : Hid (C3 (w5.alloc (.cells #[.bool z2.s, .slice z2.A z2.n z2.c, .slice z2.B z2.m z2.d] 27)) w5.heap.size (.bool z2.s) (.slice z2.A z2.n z2.c) (.slice z2.B z2.m z2.d) ∧ Below w3.heap.size w3 (w5.alloc (.cells #[.bool z2.s, .slice z2.A z2.n z2.c, .slice z2.B z2.m z2.d] 27)) ∧ Rw (w5.alloc (.cells #[.bool z2.s, .slice z2.A z2.n z2.c, .slice z2.B z2.m z2.d] 27)) z2 q1 1000000000 ∧ Below W4.heap.size W4 (w5.alloc (.cells #[.bool z2.s, .slice z2.A z2.n z2.c, .slice z2.B z2.m z2.d] 27))) := by
        have b1 := H4.out.2.1.trans (hb5.mono H4.out.2.1.size)
        exact ⟨C3.new w5 (.bool z2.s) (.slice z2.A z2.n z2.c) (.slice z2.B z2.m z2.d), b1.alloc b1.size _, hz2.alloc _, hb5.alloc hb5.size _⟩
      clear hz2 hb5 f1 f2 HF1
      go_wp2_with fail
      generalize w5.alloc (.cells #[.bool z2.s, .slice z2.A z2.n z2.c, .slice z2.B z2.m z2.d] 27) = W6 at *
      have H46 : Hid (C3 W6 w4.heap.size (.bool z1.s) (.slice z1.A z1.n z1.c) (.slice z1.B z1.m z1.d) ∧ Rw W6 z1 q1 1000000000) := ⟨H4.out.1.below H6.out.2.2.2, H4.out.2.2.below H6.out.2.2.2⟩
      clear H4
      generalize w4.heap.size = X1 at *
      generalize w5.heap.size = X2 at *
      refine (Consistent_c n N 150 A q c vs _ HN.out (HVA.out.below H6.out.2.1) (by omega) HRM.out).mono ?_
      rintro e w7 ⟨b3, rfl, hc3, hb7⟩
      have H7 : Hid (Below W6.heap.size W6 w7) := hb7
      have HC3 := Lib.hid hc3
      clear hb7 hc3
      go_wp2_with fail
      refine (Consistent_c n N 150 A3 (q + q) c3 (vs.reverse ++ vs) _ HN.out ((HVB.out.below H6.out.2.1).below H7.out) (by omega) HRM.out).mono ?_
      rintro e w8 ⟨b4, rfl, hc4, hb8⟩
      have H8 : Hid (Below W6.heap.size W6 w8) := H7.out.trans (hb8.mono H7.out.size)
      obtain rfl := cons_same (sums_back N vs) HC3.out hc4
      have eb3 : (b3 == b3) = true := by simp
      clear hb8 hc4 HC3 H7
      go_wp2_with fail
      refine (Rank_c n N 150 A q c vs _ HN.out ((HVA.out.below H6.out.2.1).below H8.out) (by omega) HRM.out).mono ?_
      rintro e w9 ⟨R1, rfl, hB1, hb9⟩
      have H9 : Hid (Below W6.heap.size W6 w9) := H8.out.trans (hb9.mono H8.out.size)
      have HR1 := Lib.hid hB1
      clear hb9 hB1 H8
      go_wp2_with fail
      refine (Rank_c n N 150 A3 (q + q) c3 (vs.reverse ++ vs) _ HN.out ((HVB.out.below H6.out.2.1).below H9.out) (by omega) HRM.out).mono ?_
      rintro e w10 ⟨R2, rfl, hB2, hb10⟩
      rw [← rank_same (sums_back N vs) HR1.out hB2]
      have H10 : Hid (Below W6.heap.size W6 w10) := H9.out.trans (hb10.mono H9.out.size)
      clear hb10 hB2 H9 HR1
      obtain ⟨x0, x1, x2, _⟩ := (H46.out.1.below H10.out).facts
      obtain ⟨y0, y1, y2, _⟩ := (H6.out.1.below H10.out).facts
      have eb1 : (b1 == b1) = true := by simp
      go_wp2_with fail
      refine (rSame_c z1 z2 q1 q1 _ ((H46.out.2.below H10.out).more (by omega)) ((H6.out.2.2.1.below H10.out).more (by omega))).mono ?_
      rw [decide_eq_true rfl]
      rintro e w11 ⟨rfl, hb11⟩
      have H11 : Hid (Below W6.heap.size W6 w11) := H10.out.trans (hb11.mono H10.out.size)
      clear x0 x1 x2 y0 y1 y2 hb11 H10
      go_wp2_with fail
      refine (known10_c _).mono ?_
      rintro e w12 ⟨rfl, hb12⟩
      have H12 : Hid (Below w.heap.size w w12) := HB3.out.trans ((H6.out.2.1.trans ((H11.out.trans (hb12.mono H11.out.size)).mono H6.out.2.1.size)).mono HB3.out.size)
      clear hb12 H11
      go_wp2
      go_ret
      exact ⟨rfl, H12.out⟩
    | succ j =>
      have e1 : (((j + 1 : Nat)) : Int) - 1 = (j : Int) := by omega
      rw [e1]
      have j0 : (0 : Int) ≤ (j : Int) := by omega
      have j1 : (j : Int) < (m : Int) := by omega
      have hjl : j < L.length := by rw [HL.out]; omega
      obtain ⟨b, off, hA, hbw, hcc⟩ := HK.out.mem (by omega)
      have hx := List.getElem?_eq_getElem hjl
      have HX := Lib.hid hx
      obtain ⟨k0, k1, k2, k3, k4⟩ := (hcc j _ hx).keep (HO.out.2.block b hbw)
      generalize L[j] = x at *
      have EA := Lib.hid hA
      subst hA
      clear hx hcc
      go_wp2_with (at_builtin; refine wpc_appends rfl _ _ rfl rfl rfl (lo := w.heap.size) (l := (L.drop (j + 1)).reverse) (k := [x]) (HO.out.1.below ((Below.refl _ _).alloc (Nat.le_refl _) _)) (kons_one (heap_alloc_new _ _)) (by omega) (by have := HO.out.2.size; simp; omega) ?_)
      intro A3 c3 w3 hown hgrow
      have HO3 : Hid (OwnC w3 w.heap.size A3 c3 (q + 1) (L.drop j).reverse ∧ Below w.heap.size w w3) := ⟨rev_step HX.out ▸ hown, far_grown (HO.out.2.alloc HO.out.2.size _) (HO.out.1.below ((Below.refl _ _).alloc (Nat.le_refl _) _)) hgrow⟩
      clear hown hgrow k0 k1 k2 k3 k4
      go_wp2
      go_roundw
      case rel => exact ⟨j, A3, q + 1, c3, by omega, by omega, rfl, rfl, HO3⟩
      case measure => simp [intOf]
end Go.Proofs.Ytijnijciclhmpaa
