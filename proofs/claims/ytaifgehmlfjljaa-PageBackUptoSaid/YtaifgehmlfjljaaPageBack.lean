/-
  The way there and back: the next page that counts, and the one before it.
-/
import Derived.Test.YtaifgehmlfjljaaPgH
namespace Go.Proofs.Ytaifgehmlfjljaa
set_option maxRecDepth 20000
open Go.RowKit Go.Maps Go.WideMaps

theorem fx_at {r : List Bool} {q : Nat} (h : r[q]? = some true) : ∀ v : Int, FxIs r (q : Int) v → v = (q : Int) := by
  intro v hv
  exact hv.one (.inl ⟨by omega, by simpa using h, rfl⟩)
set_option maxHeartbeats 6400000 in
theorem PageBack_c (f : Fv) (its : List SwI) (pg : List (ByteArray × ByteArray)) (O : Option Addr) (on oc : Nat) (ol : List Bool) (a : Int) (w : World) (hf : Frm w f its pg) (ho : Bls w O on ol) (hon : on ≤ 1500000) :
    Calls Try.prog 8 #[.agg #[.slice f.a1 f.n1 f.c1, .slice f.a2 f.n2 f.c2, .slice f.a3 f.n3 f.c3, .slice f.a4 f.n4 f.c4, .slice f.a5 f.n5 f.c5, .slice f.a6 f.n6 f.c6], .slice O on oc, .int .i64 a] w fun e w' => e = .returned (.bool true) ∧ Below w.heap.size w w' := by
  have HB : Hid (Below w.heap.size w (w.alloc (.cells #[.slice f.a1 f.n1 f.c1, .slice f.a2 f.n2 f.c2, .slice f.a3 f.n3 f.c3, .slice f.a4 f.n4 f.c4, .slice f.a5 f.n5 f.c5, .slice f.a6 f.n6 f.c6] 44)) ∧ (w.alloc (.cells #[.slice f.a1 f.n1 f.c1, .slice f.a2 f.n2 f.c2, .slice f.a3 f.n3 f.c3, .slice f.a4 f.n4 f.c4, .slice f.a5 f.n5 f.c5, .slice f.a6 f.n6 f.c6] 44)).heap.size = w.heap.size + 1) := ⟨below_alloc _ _, by simp⟩
  have HF := Lib.hid (And.intro (F6.newAt (w := w) f rfl) (And.intro (hf.below HB.out.1) (ho.below HB.out.1)))
  have n0 : (0 : Int) ≤ (f.n3 : Int) := by omega
  have n9 : (f.n3 : Int) ≤ 1500000 := by have := hf.n3; omega
  have HL := Lib.hid (And.intro hf.pg.len hon)
  obtain ⟨r, hr⟩ : ∃ r, (pg.map fun x => relv its ol x.2) = r := ⟨_, rfl⟩
  have HRR := Lib.hid hr
  obtain ⟨a0, a1, a2, a3, a4, a5⟩ := HF.out.1.facts
  clear hf ho hr
  go_enter Try.func8, Try.ntmps8
  go_wp2_with fail
  generalize w.alloc (.cells #[.slice f.a1 f.n1 f.c1, .slice f.a2 f.n2 f.c2, .slice f.a3 f.n3 f.c3, .slice f.a4 f.n4 f.c4, .slice f.a5 f.n5 f.c5, .slice f.a6 f.n6 f.c6] 44) = W at *
  refine (longP_c f its pg _ HF.out.2.1).mono ?_
  rintro e w1 ⟨⟨lg, rfl⟩, hb⟩
  have H1 : Hid (Below W.heap.size W w1) := hb
  clear a0 a1 a2 a3 a4 a5 hb
  obtain ⟨a0, a1, a2, a3, a4, a5⟩ := (HF.out.1.below H1.out).facts
  have HBW : Hid (∀ w', Below W.heap.size W w' → Below w.heap.size w w') := fun w' h => HB.out.1.trans (h.mono HB.out.1.size)
  cases lg with
  | true =>
    go_wp2
    go_ret
    exact ⟨rfl, HBW.out _ H1.out⟩
  | false =>
    by_cases h100 : 100 < on
    · have i1 : (100 : Int) < (on : Int) := by omega
      go_wp2
      go_ret
      exact ⟨rfl, HBW.out _ H1.out⟩
    · have i1 : ¬ (100 : Int) < (on : Int) := by omega
      go_wp2_with fail
      refine (Relevant_c f its pg O on oc ol _ (HF.out.2.1.below H1.out) (HF.out.2.2.below H1.out) HL.out.2).mono ?_
      rintro e w2 ⟨g, rfl, hrow, hb⟩
      rw [HRR.out] at hrow
      have H2 : Hid (OwnB w2 w1.heap.size (some ⟨g, 0, none⟩) f.n3 f.n3 r ∧ Below W.heap.size W w2) := ⟨hrow, H1.out.trans (hb.mono H1.out.size)⟩
      have hrl : Hid (r.length = f.n3) := by show _ = _; rw [← HRR.out, List.length_map]; exact HL.out.1
      clear hrow hb a0 a1 a2 a3 a4 a5
      obtain ⟨a0, a1, a2, a3, a4, a5⟩ := (HF.out.1.below H2.out.2).facts
      have hmain : (a < 0) ∨ (¬ a < 0 ∧ (f.n3 : Int) ≤ a) ∨ (∃ q : Nat, a = (q : Int) ∧ q < f.n3 ∧ r[q]? = some false) ∨ (∃ q : Nat, a = (q : Int) ∧ q < f.n3 ∧ r[q]? = some true) := by
        by_cases h0 : a < 0
        · exact .inl h0
        · by_cases h1 : a < (f.n3 : Int)
          · obtain ⟨q, rfl⟩ : ∃ q : Nat, a = (q : Int) := ⟨a.toNat, by omega⟩
            obtain ⟨x, hx⟩ : ∃ x, r[q]? = some x := ⟨_, List.getElem?_eq_getElem (by rw [hrl.out]; omega)⟩
            cases x with
            | true => exact .inr (.inr (.inr ⟨q, rfl, by omega, hx⟩))
            | false => exact .inr (.inr (.inl ⟨q, rfl, by omega, hx⟩))
          · exact .inr (.inl ⟨h0, by omega⟩)
      rcases hmain with h0 | ⟨h0, h1⟩ | ⟨q, rfl, hq2, hx⟩ | ⟨q, rfl, hq2, hx⟩
      · go_wp2_with fail
        refine (knownP_c _).mono ?_
        rintro e w4 ⟨rfl, hb⟩
        have H4 := Lib.hid (H2.out.2.trans (hb.mono H2.out.2.size))
        clear hb
        go_wp2
        go_ret
        exact ⟨rfl, HBW.out _ H4.out⟩
      · go_wp2_with fail
        refine (knownP_c _).mono ?_
        rintro e w4 ⟨rfl, hb⟩
        have H4 := Lib.hid (H2.out.2.trans (hb.mono H2.out.2.size))
        clear hb
        go_wp2
        go_ret
        exact ⟨rfl, HBW.out _ H4.out⟩
      · have j0 : ¬ (q : Int) < 0 := by omega
        have j2 : (0 : Int) ≤ (q : Int) := by omega
        have j1 : ¬ (f.n3 : Int) ≤ (q : Int) := by omega
        have j3 : (q : Int) < (f.n3 : Int) := by omega
        have c0 := H2.out.1.cell hx
        clear hx
        go_wp2_with fail
        refine (knownP_c _).mono ?_
        rintro e w4 ⟨rfl, hb⟩
        have H4 := Lib.hid (H2.out.2.trans (hb.mono H2.out.2.size))
        clear hb
        go_wp2
        go_ret
        exact ⟨rfl, HBW.out _ H4.out⟩
      · have j0 : ¬ (q : Int) < 0 := by omega
        have j2 : (0 : Int) ≤ (q : Int) := by omega
        have j1 : ¬ (f.n3 : Int) ≤ (q : Int) := by omega
        have j3 : (q : Int) < (f.n3 : Int) := by omega
        have c0 := H2.out.1.cell hx
        have HFX : Hid (r[q]? = some true ∧ ∀ v : Int, FxIs r (q : Int) v → v = (q : Int)) := ⟨hx, fx_at hx⟩
        clear hx
        go_wp2_with fail
        refine (Next_c f its pg O on oc ol _ _ (HF.out.2.1.below H2.out.2) (HF.out.2.2.below H2.out.2) HL.out.2).mono ?_
        rintro e w3 ⟨hN, hb⟩
        rw [HRR.out] at hN
        have H3 : Hid (Below W.heap.size W w3 ∧ Below w2.heap.size w2 w3) := ⟨H2.out.2.trans (hb.mono H2.out.2.size), hb⟩
        clear hb a0 a1 a2 a3 a4 a5 c0
        obtain ⟨a0, a1, a2, a3, a4, a5⟩ := (HF.out.1.below H3.out.1).facts
        rcases hN with ⟨p, rfl, hp, hmin⟩ | ⟨rfl, hno⟩
        · have hpl : p < f.n3 := by rw [← hrl.out]; exact (List.getElem?_eq_some_iff.1 hp.1).1
          have HP : Hid (r[p]? = some true ∧ (q : Int) < p ∧ ∀ j, j < p → ¬ isNx r (q : Int) j) := ⟨hp.1, hp.2, hmin⟩
          clear hp hmin
          go_wp2_with fail
          refine (Back_c f its pg O on oc ol _ _ (HF.out.2.1.below H3.out.1) (HF.out.2.2.below H3.out.1) HL.out.2).mono ?_
          rintro e w4 ⟨hB, hb⟩
          rw [HRR.out] at hB
          have HX := Lib.hid (H3.out.1.trans (hb.mono H3.out.1.size))
          have HX2 := Lib.hid (H3.out.2.trans (hb.mono H3.out.2.size))
          clear hb a0 a1 a2 a3 a4 a5
          obtain ⟨a0, a1, a2, a3, a4, a5⟩ := (HF.out.1.below HX.out).facts
          have hbq : isBk r (p : Int) q := ⟨HFX.out.1, by have := HP.out.2.1; omega⟩
          rcases hB with ⟨i, rfl, hi, hmax⟩ | ⟨rfl, hB⟩
          · have hiq : i = q := by
              rcases Nat.lt_trichotomy i q with h | h | h
              · exact absurd hbq (hmax q h)
              · exact h
              · exact absurd ⟨hi.1, by omega⟩ (HP.out.2.2 i (by have := hi.2; omega))
            subst hiq
            have c0 := (H2.out.1.below HX2.out).cell HP.out.1
            have p0 : (0 : Int) ≤ (p : Int) := by omega
            have p1 : ¬ (p : Int) ≤ (i : Int) := by have := HP.out.2.1; omega
            have p2 : (p : Int) < (f.n3 : Int) := by omega
            have p3 : ¬ (f.n3 : Int) ≤ (p : Int) := by omega
            clear hi hmax hbq
            go_wp2_with fail
            refine (Fix_c f its pg O on oc ol _ _ (HF.out.2.1.below HX.out) (HF.out.2.2.below HX.out) HL.out.2).mono ?_
            rintro e w5 ⟨⟨v, rfl, hv⟩, hb⟩
            rw [HRR.out] at hv
            obtain rfl := HFX.out.2 v hv
            have H5 := Lib.hid (HX.out.trans (hb.mono HX.out.size))
            clear hb hv
            go_wp2_with fail
            refine (knownP_c _).mono ?_
            rintro e w6 ⟨rfl, hb⟩
            have H6 := Lib.hid (H5.out.trans (hb.mono H5.out.size))
            clear hb
            go_wp2
            go_ret
            exact ⟨rfl, HBW.out _ H6.out⟩
          · exact absurd hbq (hB q)
        · have HX := Lib.hid H3.out.1
          clear hno
          go_wp2_with fail
          refine (Fix_c f its pg O on oc ol _ _ (HF.out.2.1.below HX.out) (HF.out.2.2.below HX.out) HL.out.2).mono ?_
          rintro e w5 ⟨⟨v, rfl, hv⟩, hb⟩
          rw [HRR.out] at hv
          obtain rfl := HFX.out.2 v hv
          have H5 := Lib.hid (HX.out.trans (hb.mono HX.out.size))
          clear hb hv
          go_wp2_with fail
          refine (knownP_c _).mono ?_
          rintro e w6 ⟨rfl, hb⟩
          have H6 := Lib.hid (H5.out.trans (hb.mono H5.out.size))
          clear hb
          go_wp2
          go_ret
          exact ⟨rfl, HBW.out _ H6.out⟩
end Go.Proofs.Ytaifgehmlfjljaa
