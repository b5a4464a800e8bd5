/-
  The next page, the one before, the one that counts, by the document.
-/
import Derived.Test.YtaifgehmlfjljaaPgJ
namespace Go.Proofs.Ytaifgehmlfjljaa
set_option maxRecDepth 20000
open Go.RowKit Go.Maps Go.WideMaps

set_option maxHeartbeats 6400000 in
theorem rNext_c (f : Fv) (its : List SwI) (pg : List (ByteArray × ByteArray)) (O : Option Addr) (on oc : Nat) (ol : List Bool) (a : Int) (w : World) (hf : Frm w f its pg) (ho : Bls w O on ol) (hon : on ≤ 1500000) :
    Calls Try.prog 23 #[.agg #[.slice f.a1 f.n1 f.c1, .slice f.a2 f.n2 f.c2, .slice f.a3 f.n3 f.c3, .slice f.a4 f.n4 f.c4, .slice f.a5 f.n5 f.c5, .slice f.a6 f.n6 f.c6], .slice O on oc, .int .i64 a] w fun e w' => NxPost (pg.map fun x => relv its ol x.2) a e ∧ Below w.heap.size w w' := by
  have HB : Hid (Below w.heap.size w (w.alloc (.cells #[.slice f.a1 f.n1 f.c1, .slice f.a2 f.n2 f.c2, .slice f.a3 f.n3 f.c3, .slice f.a4 f.n4 f.c4, .slice f.a5 f.n5 f.c5, .slice f.a6 f.n6 f.c6] 44))) := below_alloc _ _
  have HF := Lib.hid (And.intro (F6.newAt (w := w) f rfl) (And.intro (hf.below HB.out) (ho.below HB.out)))
  have n0 : (0 : Int) ≤ (f.n3 : Int) := by omega
  have n9 : (f.n3 : Int) ≤ 1500000 := by have := hf.n3; omega
  have HL := Lib.hid hf.pg.len
  obtain ⟨a0, a1, a2, a3, a4, a5⟩ := HF.out.1.facts
  obtain ⟨r, hr⟩ : ∃ r, (pg.map fun x => relv its ol x.2) = r := ⟨_, rfl⟩
  rw [hr]
  have HRR := Lib.hid hr
  clear hf ho hr
  go_enter Try.func23, Try.ntmps23
  go_wp2_with fail
  generalize w.alloc (.cells #[.slice f.a1 f.n1 f.c1, .slice f.a2 f.n2 f.c2, .slice f.a3 f.n3 f.c3, .slice f.a4 f.n4 f.c4, .slice f.a5 f.n5 f.c5, .slice f.a6 f.n6 f.c6] 44) = W at *
  refine (rRelevantB_c f its pg O on oc ol _ HF.out.2.1 HF.out.2.2 hon).mono ?_
  rintro e w1 ⟨RA, rc, rfl, hrow, hb⟩
  rw [HRR.out] at hrow
  have H1 : Hid (Bls w1 RA f.n3 r ∧ Below w.heap.size w w1) := ⟨hrow, HB.out.trans (hb.mono HB.out.size)⟩
  clear hrow hb a0 a1 a2 a3 a4 a5 HF HB
  have hrl : Hid (r.length = f.n3) := by show _ = _; rw [← HRR.out, List.length_map]; exact HL.out
  go_wp2
  go_loopw [9] (fun iv wr => wr = w1 ∧ ∃ i : Nat, i ≤ f.n3 ∧ iv = .int .i64 i ∧ Hid (∀ j, j < i → ¬ isNx r a j)) (fun iv _ => f.n3 - (intOf iv).toNat)
  case atStart => exact ⟨rfl, 0, Nat.zero_le _, rfl, fun j hj => absurd hj (Nat.not_lt_zero _)⟩
  case round =>
    obtain ⟨rfl, i, hi, rfl, HI⟩ := hrel
    have i0 : (0 : Int) ≤ (i : Int) := by omega
    by_cases hlt : i < f.n3
    · have i1 : (i : Int) < (f.n3 : Int) := by omega
      obtain ⟨x, hx⟩ : ∃ x, r[i]? = some x := ⟨_, List.getElem?_eq_getElem (by rw [hrl.out]; omega)⟩
      obtain ⟨b, off, ea, hbl, hc⟩ := H1.out.1.mem (by omega)
      subst ea
      have c0 := hc i x hx
      have HX := Lib.hid hx
      clear hx hc hbl
      have hskip : ¬ isNx r a i → Hid (∀ j, j < i + 1 → ¬ isNx r a j) := fun h j hj => by
        by_cases e : j = i
        · subst e; exact h
        · exact HI.out j (by omega)
      by_cases hai : a < (i : Int)
      · have hai2 : ¬ (i : Int) ≤ a := by omega
        cases x with
        | true =>
          have HN : Hid (isNx r a i) := ⟨HX.out, hai⟩
          clear hskip
          go_wp2
          go_ret2
          exact ⟨.inl ⟨i, rfl, HN.out, HI.out⟩, H1.out.2⟩
        | false =>
          have HN := hskip (fun h => by have := h.1; rw [HX.out] at this; cases this)
          clear hskip
          go_wp2
          go_roundw
          case rel => exact ⟨by first | exact rfl | trivial, i + 1, by omega, by go_num, HN⟩
          case measure => simp [intOf]; omega
      · have hai2 : (i : Int) ≤ a := by omega
        have HN := hskip (fun h => hai h.2)
        clear hskip
        go_wp2
        go_roundw
        case rel => exact ⟨by first | exact rfl | trivial, i + 1, by omega, by go_num, HN⟩
        case measure => simp [intOf]; omega
    · have i1 : ¬ (i : Int) < (f.n3 : Int) := by omega
      go_wp2
      go_ret2
      exact ⟨.inr ⟨rfl, fun j hj => by
        have hj2 := (List.getElem?_eq_some_iff.1 hj.1).1
        rw [hrl.out] at hj2
        exact HI.out j (by omega) hj⟩, H1.out.2⟩
set_option maxHeartbeats 6400000 in
theorem rBack_c (f : Fv) (its : List SwI) (pg : List (ByteArray × ByteArray)) (O : Option Addr) (on oc : Nat) (ol : List Bool) (a : Int) (w : World) (hf : Frm w f its pg) (ho : Bls w O on ol) (hon : on ≤ 1500000) :
    Calls Try.prog 25 #[.agg #[.slice f.a1 f.n1 f.c1, .slice f.a2 f.n2 f.c2, .slice f.a3 f.n3 f.c3, .slice f.a4 f.n4 f.c4, .slice f.a5 f.n5 f.c5, .slice f.a6 f.n6 f.c6], .slice O on oc, .int .i64 a] w fun e w' => BkPost (pg.map fun x => relv its ol x.2) a e ∧ Below w.heap.size w w' := by
  have HB : Hid (Below w.heap.size w (w.alloc (.cells #[.slice f.a1 f.n1 f.c1, .slice f.a2 f.n2 f.c2, .slice f.a3 f.n3 f.c3, .slice f.a4 f.n4 f.c4, .slice f.a5 f.n5 f.c5, .slice f.a6 f.n6 f.c6] 44))) := below_alloc _ _
  have HF := Lib.hid (And.intro (F6.newAt (w := w) f rfl) (And.intro (hf.below HB.out) (ho.below HB.out)))
  have n0 : (0 : Int) ≤ (f.n3 : Int) := by omega
  have n9 : (f.n3 : Int) ≤ 1500000 := by have := hf.n3; omega
  have HL := Lib.hid hf.pg.len
  obtain ⟨a0, a1, a2, a3, a4, a5⟩ := HF.out.1.facts
  obtain ⟨r, hr⟩ : ∃ r, (pg.map fun x => relv its ol x.2) = r := ⟨_, rfl⟩
  rw [hr]
  have HRR := Lib.hid hr
  clear hf ho hr
  go_enter Try.func25, Try.ntmps25
  go_wp2_with fail
  generalize w.alloc (.cells #[.slice f.a1 f.n1 f.c1, .slice f.a2 f.n2 f.c2, .slice f.a3 f.n3 f.c3, .slice f.a4 f.n4 f.c4, .slice f.a5 f.n5 f.c5, .slice f.a6 f.n6 f.c6] 44) = W at *
  refine (rRelevantB_c f its pg O on oc ol _ HF.out.2.1 HF.out.2.2 hon).mono ?_
  rintro e w1 ⟨RA, rc, rfl, hrow, hb⟩
  rw [HRR.out] at hrow
  have H1 : Hid (Bls w1 RA f.n3 r ∧ Below w.heap.size w w1) := ⟨hrow, HB.out.trans (hb.mono HB.out.size)⟩
  clear hrow hb a0 a1 a2 a3 a4 a5 HF HB
  have hrl : Hid (r.length = f.n3) := by show _ = _; rw [← HRR.out, List.length_map]; exact HL.out
  go_wp2
  go_loopw [9] (fun iv wr => wr = w1 ∧ ∃ z : Int, ∃ i : Nat, i ≤ f.n3 ∧ iv = .int .i64 z ∧ Hid (z + 1 = (i : Int)) ∧ Hid (∀ j, i ≤ j → ¬ isBk r a j)) (fun iv _ => (intOf iv + 1).toNat)
  case atStart => exact ⟨rfl, (f.n3 : Int) - 1, f.n3, Nat.le_refl _, by first | rfl | go_num, (show (f.n3 : Int) - 1 + 1 = (f.n3 : Int) by omega), fun j hj h => by
    have hj2 := (List.getElem?_eq_some_iff.1 h.1).1
    rw [hrl.out] at hj2; omega⟩
  case round =>
    obtain ⟨rfl, z, q, hq, rfl, HZ, HI⟩ := hrel
    cases q with
    | zero =>
      have z1 : ¬ (0 : Int) ≤ z := by have := HZ.out; omega
      go_wp2
      go_ret2
      exact ⟨.inr ⟨rfl, fun j => HI.out j (Nat.zero_le _)⟩, H1.out.2⟩
    | succ i =>
      obtain rfl : z = (i : Int) := by have := HZ.out; omega
      have i0 : (0 : Int) ≤ (i : Int) := by omega
      have i1 : (i : Int) < (f.n3 : Int) := by omega
      obtain ⟨x, hx⟩ : ∃ x, r[i]? = some x := ⟨_, List.getElem?_eq_getElem (by rw [hrl.out]; omega)⟩
      obtain ⟨b, off, ea, hbl, hc⟩ := H1.out.1.mem (by omega)
      subst ea
      have c0 := hc i x hx
      have HX := Lib.hid hx
      clear hx hc hbl
      have hskip : ¬ isBk r a i → Hid (∀ j, i ≤ j → ¬ isBk r a j) := fun h j hj => by
        by_cases e : j = i
        · subst e; exact h
        · exact HI.out j (by omega)
      by_cases hai : (i : Int) < a
      · have hai2 : ¬ a ≤ (i : Int) := by omega
        cases x with
        | true =>
          have HN : Hid (isBk r a i) := ⟨HX.out, hai⟩
          clear hskip
          go_wp2
          go_ret2
          exact ⟨.inl ⟨i, rfl, HN.out, fun j hj => HI.out j (by omega)⟩, H1.out.2⟩
        | false =>
          have HN := hskip (fun h => by have := h.1; rw [HX.out] at this; cases this)
          clear hskip
          go_wp2
          go_roundw
          case rel => exact ⟨by first | exact rfl | trivial, (i : Int) - 1, i, by omega, by go_num, (show (i : Int) - 1 + 1 = (i : Int) by omega), HN⟩
          case measure => first | (simp [intOf]; done) | (simp [intOf]; omega)
      · have hai2 : a ≤ (i : Int) := by omega
        have HN := hskip (fun h => hai h.2)
        clear hskip
        go_wp2
        go_roundw
        case rel => exact ⟨by first | exact rfl | trivial, (i : Int) - 1, i, by omega, by go_num, (show (i : Int) - 1 + 1 = (i : Int) by omega), HN⟩
        case measure => first | (simp [intOf]; done) | (simp [intOf]; omega)
set_option maxHeartbeats 6400000 in
theorem rFix_c (f : Fv) (its : List SwI) (pg : List (ByteArray × ByteArray)) (O : Option Addr) (on oc : Nat) (ol : List Bool) (a : Int) (w : World) (hf : Frm w f its pg) (ho : Bls w O on ol) (hon : on ≤ 1500000) :
    Calls Try.prog 29 #[.agg #[.slice f.a1 f.n1 f.c1, .slice f.a2 f.n2 f.c2, .slice f.a3 f.n3 f.c3, .slice f.a4 f.n4 f.c4, .slice f.a5 f.n5 f.c5, .slice f.a6 f.n6 f.c6], .slice O on oc, .int .i64 a] w fun e w' => FxPost (pg.map fun x => relv its ol x.2) a e ∧ Below w.heap.size w w' := by
  have HB : Hid (Below w.heap.size w (w.alloc (.cells #[.slice f.a1 f.n1 f.c1, .slice f.a2 f.n2 f.c2, .slice f.a3 f.n3 f.c3, .slice f.a4 f.n4 f.c4, .slice f.a5 f.n5 f.c5, .slice f.a6 f.n6 f.c6] 44))) := below_alloc _ _
  have HF := Lib.hid (And.intro (F6.newAt (w := w) f rfl) (And.intro (hf.below HB.out) (ho.below HB.out)))
  have HL := Lib.hid (And.intro hf.pg.len (And.intro hon hf.n3))
  obtain ⟨r, hr⟩ : ∃ r, (pg.map fun x => relv its ol x.2) = r := ⟨_, rfl⟩
  rw [hr]
  have HRR := Lib.hid hr
  obtain ⟨a0, a1, a2, a3, a4, a5⟩ := HF.out.1.facts
  clear hf ho hr
  go_enter Try.func29, Try.ntmps29
  go_wp2_with fail
  generalize w.alloc (.cells #[.slice f.a1 f.n1 f.c1, .slice f.a2 f.n2 f.c2, .slice f.a3 f.n3 f.c3, .slice f.a4 f.n4 f.c4, .slice f.a5 f.n5 f.c5, .slice f.a6 f.n6 f.c6] 44) = W at *
  refine (rRelevantB_c f its pg O on oc ol _ HF.out.2.1 HF.out.2.2 HL.out.2.1).mono ?_
  rintro e w1 ⟨RA, rc, rfl, hrow, hb⟩
  rw [HRR.out] at hrow
  have hrl : Hid (r.length = f.n3) := by show _ = _; rw [← HRR.out, List.length_map]; exact HL.out.1
  have H1 : Hid (Bls w1 RA f.n3 r ∧ Below W.heap.size W w1) := ⟨hrow, hb⟩
  have HBW : Hid (∀ w', Below W.heap.size W w' → Below w.heap.size w w') := fun w' h => HB.out.trans (h.mono HB.out.size)
  clear hrow hb a0 a1 a2 a3 a4 a5
  have n9 : (f.n3 : Int) ≤ 1500000 := by have := HL.out.2.2; omega
  have n0 : (0 : Int) ≤ (f.n3 : Int) := by omega
  have hrest : Hid (¬ (0 ≤ a ∧ r[a.toNat]? = some true) → ∀ w', Below W.heap.size W w' → F6 w' w.heap.size f ∧ Frm w' f its pg ∧ Bls w' O on ol) := fun _ w' h => ⟨HF.out.1.below h, HF.out.2.1.below h, HF.out.2.2.below h⟩
  by_cases hfit : 0 ≤ a ∧ r[a.toNat]? = some true
  · have hq := (List.getElem?_eq_some_iff.1 hfit.2).1
    obtain ⟨q, rfl⟩ : ∃ q : Nat, a = (q : Int) := ⟨a.toNat, by have := hfit.1; omega⟩
    have hq2 : q < f.n3 := by rw [← hrl.out]; simpa using hq
    have j0 : (0 : Int) ≤ (q : Int) := by omega
    have j1 : (q : Int) < (f.n3 : Int) := by omega
    obtain ⟨b, off, rfl, hbl, hc⟩ := H1.out.1.mem (by omega)
    have c0 := hc q true (by simpa using hfit.2)
    have HX : Hid (FxIs r (q : Int) (q : Int)) := .inl ⟨hfit.1, hfit.2, rfl⟩
    clear hc hfit hq hbl
    go_wp2
    go_ret
    exact ⟨⟨_, rfl, HX.out⟩, HBW.out _ H1.out.2⟩
  · have hall := hrest.out hfit
    have HALL := Lib.hid hall
    obtain ⟨a0, a1, a2, a3, a4, a5⟩ := (HALL.out _ H1.out.2).1.facts
    have HN := Lib.hid hfit
    have hstep : Hid (∀ w', Below W.heap.size W w' → True) := fun _ _ => trivial
    clear hall hstep
    have hmain : (¬ (0 : Int) ≤ a) ∨ (0 ≤ a ∧ ¬ a < (f.n3 : Int)) ∨ (∃ q : Nat, a = (q : Int) ∧ q < f.n3 ∧ r[q]? = some false) := by
      by_cases h0 : (0 : Int) ≤ a
      · by_cases h1 : a < (f.n3 : Int)
        · obtain ⟨q, rfl⟩ : ∃ q : Nat, a = (q : Int) := ⟨a.toNat, by omega⟩
          obtain ⟨x, hx⟩ : ∃ x, r[q]? = some x := ⟨_, List.getElem?_eq_getElem (by rw [hrl.out]; omega)⟩
          cases x with
          | true => exact absurd ⟨h0, by simpa using hx⟩ hfit
          | false => exact .inr (.inr ⟨q, rfl, by omega, hx⟩)
        · exact .inr (.inl ⟨h0, h1⟩)
      · exact .inl h0
    clear hfit
    rcases hmain with h0 | ⟨h0, h1⟩ | ⟨q, rfl, hq2, hx⟩
    · go_wp2_with fail
      refine (rBack_c f its pg O on oc ol _ _ (HALL.out _ H1.out.2).2.1 (HALL.out _ H1.out.2).2.2 HL.out.2.1).mono ?_
      rintro e w2 ⟨hB, hb⟩
      rw [HRR.out] at hB
      have H2 := Lib.hid (H1.out.2.trans (hb.mono H1.out.2.size))
      clear hb a0 a1 a2 a3 a4 a5
      obtain ⟨a0, a1, a2, a3, a4, a5⟩ := (HALL.out _ H2.out).1.facts
      rcases hB with ⟨i, rfl, hB⟩ | ⟨rfl, hB⟩
      · have HB2 := Lib.hid hB
        clear hB
        go_wp2
        go_ret
        exact ⟨⟨_, rfl, .inr ⟨HN.out, .inl ⟨i, rfl, HB2.out⟩⟩⟩, HBW.out _ H2.out⟩
      · have HB2 := Lib.hid hB
        clear hB
        go_wp2_with fail
        refine (rNext_c f its pg O on oc ol _ _ (HALL.out _ H2.out).2.1 (HALL.out _ H2.out).2.2 HL.out.2.1).mono ?_
        rintro e w3 ⟨hC, hb⟩
        rw [HRR.out] at hC
        have H3 := Lib.hid (H2.out.trans (hb.mono H2.out.size))
        clear hb a0 a1 a2 a3 a4 a5
        rcases hC with ⟨i, rfl, hC⟩ | ⟨rfl, hC⟩
        · have HC2 := Lib.hid hC
          clear hC
          go_wp2
          go_ret
          exact ⟨⟨_, rfl, .inr ⟨HN.out, .inr ⟨HB2.out, .inl ⟨i, rfl, HC2.out⟩⟩⟩⟩, HBW.out _ H3.out⟩
        · have HC2 := Lib.hid hC
          clear hC
          go_wp2
          go_ret
          exact ⟨⟨_, rfl, .inr ⟨HN.out, .inr ⟨HB2.out, .inr ⟨HC2.out, rfl⟩⟩⟩⟩, HBW.out _ H3.out⟩
    · go_wp2_with fail
      refine (rBack_c f its pg O on oc ol _ _ (HALL.out _ H1.out.2).2.1 (HALL.out _ H1.out.2).2.2 HL.out.2.1).mono ?_
      rintro e w2 ⟨hB, hb⟩
      rw [HRR.out] at hB
      have H2 := Lib.hid (H1.out.2.trans (hb.mono H1.out.2.size))
      clear hb a0 a1 a2 a3 a4 a5
      obtain ⟨a0, a1, a2, a3, a4, a5⟩ := (HALL.out _ H2.out).1.facts
      rcases hB with ⟨i, rfl, hB⟩ | ⟨rfl, hB⟩
      · have HB2 := Lib.hid hB
        clear hB
        go_wp2
        go_ret
        exact ⟨⟨_, rfl, .inr ⟨HN.out, .inl ⟨i, rfl, HB2.out⟩⟩⟩, HBW.out _ H2.out⟩
      · have HB2 := Lib.hid hB
        clear hB
        go_wp2_with fail
        refine (rNext_c f its pg O on oc ol _ _ (HALL.out _ H2.out).2.1 (HALL.out _ H2.out).2.2 HL.out.2.1).mono ?_
        rintro e w3 ⟨hC, hb⟩
        rw [HRR.out] at hC
        have H3 := Lib.hid (H2.out.trans (hb.mono H2.out.size))
        clear hb a0 a1 a2 a3 a4 a5
        rcases hC with ⟨i, rfl, hC⟩ | ⟨rfl, hC⟩
        · have HC2 := Lib.hid hC
          clear hC
          go_wp2
          go_ret
          exact ⟨⟨_, rfl, .inr ⟨HN.out, .inr ⟨HB2.out, .inl ⟨i, rfl, HC2.out⟩⟩⟩⟩, HBW.out _ H3.out⟩
        · have HC2 := Lib.hid hC
          clear hC
          go_wp2
          go_ret
          exact ⟨⟨_, rfl, .inr ⟨HN.out, .inr ⟨HB2.out, .inr ⟨HC2.out, rfl⟩⟩⟩⟩, HBW.out _ H3.out⟩
    · have j0 : (0 : Int) ≤ (q : Int) := by omega
      have j1 : (q : Int) < (f.n3 : Int) := by omega
      obtain ⟨b, off, rfl, hbl, hc⟩ := H1.out.1.mem (by omega)
      have c0 := hc q false hx
      clear hc hbl hx
      go_wp2_with fail
      refine (rBack_c f its pg O on oc ol _ _ (HALL.out _ H1.out.2).2.1 (HALL.out _ H1.out.2).2.2 HL.out.2.1).mono ?_
      rintro e w2 ⟨hB, hb⟩
      rw [HRR.out] at hB
      have H2 := Lib.hid (H1.out.2.trans (hb.mono H1.out.2.size))
      clear hb a0 a1 a2 a3 a4 a5
      obtain ⟨a0, a1, a2, a3, a4, a5⟩ := (HALL.out _ H2.out).1.facts
      rcases hB with ⟨i, rfl, hB⟩ | ⟨rfl, hB⟩
      · have HB2 := Lib.hid hB
        clear hB
        go_wp2
        go_ret
        exact ⟨⟨_, rfl, .inr ⟨HN.out, .inl ⟨i, rfl, HB2.out⟩⟩⟩, HBW.out _ H2.out⟩
      · have HB2 := Lib.hid hB
        clear hB
        go_wp2_with fail
        refine (rNext_c f its pg O on oc ol _ _ (HALL.out _ H2.out).2.1 (HALL.out _ H2.out).2.2 HL.out.2.1).mono ?_
        rintro e w3 ⟨hC, hb⟩
        rw [HRR.out] at hC
        have H3 := Lib.hid (H2.out.trans (hb.mono H2.out.size))
        clear hb a0 a1 a2 a3 a4 a5
        rcases hC with ⟨i, rfl, hC⟩ | ⟨rfl, hC⟩
        · have HC2 := Lib.hid hC
          clear hC
          go_wp2
          go_ret
          exact ⟨⟨_, rfl, .inr ⟨HN.out, .inr ⟨HB2.out, .inl ⟨i, rfl, HC2.out⟩⟩⟩⟩, HBW.out _ H3.out⟩
        · have HC2 := Lib.hid hC
          clear hC
          go_wp2
          go_ret
          exact ⟨⟨_, rfl, .inr ⟨HN.out, .inr ⟨HB2.out, .inr ⟨HC2.out, rfl⟩⟩⟩⟩, HBW.out _ H3.out⟩
end Go.Proofs.Ytaifgehmlfjljaa
