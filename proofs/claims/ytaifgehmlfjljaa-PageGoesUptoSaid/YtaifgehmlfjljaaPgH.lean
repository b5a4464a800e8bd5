/-
  A page that counts, by the program.
-/
import Derived.Test.YtaifgehmlfjljaaPgG
namespace Go.Proofs.Ytaifgehmlfjljaa
set_option maxRecDepth 20000
open Go.RowKit Go.Maps Go.WideMaps

/-- The page that Fix tells. -/
def FxIs (r : List Bool) (a v : Int) : Prop :=
  (0 ≤ a ∧ r[a.toNat]? = some true ∧ v = a) ∨ (¬ (0 ≤ a ∧ r[a.toNat]? = some true) ∧
    ((∃ i : Nat, v = (i : Int) ∧ isBk r a i ∧ ∀ j, i < j → ¬ isBk r a j) ∨ ((∀ j, ¬ isBk r a j) ∧
      ((∃ i : Nat, v = (i : Int) ∧ isNx r a i ∧ ∀ j, j < i → ¬ isNx r a j) ∨ ((∀ j, ¬ isNx r a j) ∧ v = 0)))))
def FxPost (r : List Bool) (a : Int) (e : Ending) : Prop := ∃ v : Int, e = .returned (.int .i64 v) ∧ FxIs r a v
theorem nx_one {r : List Bool} {a : Int} {i j : Nat} (h1 : isNx r a i) (h2 : ∀ k, k < i → ¬ isNx r a k) (h3 : isNx r a j) (h4 : ∀ k, k < j → ¬ isNx r a k) : i = j := by
  rcases Nat.lt_trichotomy i j with h | h | h
  · exact absurd h1 (h4 i h)
  · exact h
  · exact absurd h3 (h2 j h)
theorem bk_one {r : List Bool} {a : Int} {i j : Nat} (h1 : isBk r a i) (h2 : ∀ k, i < k → ¬ isBk r a k) (h3 : isBk r a j) (h4 : ∀ k, j < k → ¬ isBk r a k) : i = j := by
  rcases Nat.lt_trichotomy i j with h | h | h
  · exact absurd h3 (h2 j h)
  · exact h
  · exact absurd h1 (h4 i h)
theorem FxIs.one {r : List Bool} {a v v' : Int} (h : FxIs r a v) (h' : FxIs r a v') : v = v' := by
  rcases h with ⟨h1, h2, rfl⟩ | ⟨h1, h⟩
  · rcases h' with ⟨_, _, rfl⟩ | ⟨h3, _⟩
    · rfl
    · exact absurd ⟨h1, h2⟩ h3
  · rcases h' with ⟨h3, h4, rfl⟩ | ⟨_, h'⟩
    · exact absurd ⟨h3, h4⟩ h1
    · rcases h with ⟨i, rfl, hi, hi2⟩ | ⟨hn, h⟩
      · rcases h' with ⟨j, rfl, hj, hj2⟩ | ⟨hn', _⟩
        · rw [bk_one hi hi2 hj hj2]
        · exact absurd hi (hn' i)
      · rcases h' with ⟨j, rfl, hj, _⟩ | ⟨_, h'⟩
        · exact absurd hj (hn j)
        · rcases h with ⟨i, rfl, hi, hi2⟩ | ⟨hm, rfl⟩
          · rcases h' with ⟨j, rfl, hj, hj2⟩ | ⟨hm', _⟩
            · rw [nx_one hi hi2 hj hj2]
            · exact absurd hi (hm' i)
          · rcases h' with ⟨j, rfl, hj, _⟩ | ⟨_, rfl⟩
            · exact absurd hj (hm j)
            · rfl
theorem RelevantB_c (f : Fv) (its : List SwI) (pg : List (ByteArray × ByteArray)) (O : Option Addr) (on oc : Nat) (ol : List Bool) (w : World) (hf : Frm w f its pg) (ho : Bls w O on ol) (hon : on ≤ 1500000) :
    Calls Try.prog 20 #[.agg #[.slice f.a1 f.n1 f.c1, .slice f.a2 f.n2 f.c2, .slice f.a3 f.n3 f.c3, .slice f.a4 f.n4 f.c4, .slice f.a5 f.n5 f.c5, .slice f.a6 f.n6 f.c6], .slice O on oc] w fun e w' => ∃ RA rc, e = .returned (.slice RA f.n3 rc) ∧ Bls w' RA f.n3 (pg.map fun x => relv its ol x.2) ∧ Below w.heap.size w w' := by
  refine (Relevant_c f its pg O on oc ol w hf ho hon).mono ?_
  rintro e w' ⟨g, rfl, h1, h2⟩
  exact ⟨_, _, rfl, h1.bls, h2⟩
set_option maxHeartbeats 6400000 in
theorem Fix_c (f : Fv) (its : List SwI) (pg : List (ByteArray × ByteArray)) (O : Option Addr) (on oc : Nat) (ol : List Bool) (a : Int) (w : World) (hf : Frm w f its pg) (ho : Bls w O on ol) (hon : on ≤ 1500000) :
    Calls Try.prog 28 #[.agg #[.slice f.a1 f.n1 f.c1, .slice f.a2 f.n2 f.c2, .slice f.a3 f.n3 f.c3, .slice f.a4 f.n4 f.c4, .slice f.a5 f.n5 f.c5, .slice f.a6 f.n6 f.c6], .slice O on oc, .int .i64 a] w fun e w' => FxPost (pg.map fun x => relv its ol x.2) a e ∧ Below w.heap.size w w' := by
  have HB : Hid (Below w.heap.size w (w.alloc (.cells #[.slice f.a1 f.n1 f.c1, .slice f.a2 f.n2 f.c2, .slice f.a3 f.n3 f.c3, .slice f.a4 f.n4 f.c4, .slice f.a5 f.n5 f.c5, .slice f.a6 f.n6 f.c6] 44))) := below_alloc _ _
  have HF := Lib.hid (And.intro (F6.newAt (w := w) f rfl) (And.intro (hf.below HB.out) (ho.below HB.out)))
  have HL := Lib.hid (And.intro hf.pg.len (And.intro hon hf.n3))
  obtain ⟨r, hr⟩ : ∃ r, (pg.map fun x => relv its ol x.2) = r := ⟨_, rfl⟩
  rw [hr]
  have HRR := Lib.hid hr
  obtain ⟨a0, a1, a2, a3, a4, a5⟩ := HF.out.1.facts
  clear hf ho hr
  go_enter Try.func28, Try.ntmps28
  go_wp2_with fail
  generalize w.alloc (.cells #[.slice f.a1 f.n1 f.c1, .slice f.a2 f.n2 f.c2, .slice f.a3 f.n3 f.c3, .slice f.a4 f.n4 f.c4, .slice f.a5 f.n5 f.c5, .slice f.a6 f.n6 f.c6] 44) = W at *
  refine (RelevantB_c f its pg O on oc ol _ HF.out.2.1 HF.out.2.2 HL.out.2.1).mono ?_
  rintro e w1 ⟨RA, rc, rfl, hrow, hb⟩
  rw [HRR.out] at hrow
  have hrl : Hid (r.length = f.n3) := by show _ = _; rw [← HRR.out, List.length_map]; exact HL.out.1
  have H1 : Hid (Bls w1 RA f.n3 r ∧ Below W.heap.size W w1) := ⟨hrow, hb⟩
  have HBW : Hid (∀ w', Below W.heap.size W w' → Below w.heap.size w w') := fun w' h => HB.out.trans (h.mono HB.out.size)
  clear hrow hb a0 a1 a2 a3 a4 a5
  have n9 : (f.n3 : Int) ≤ 1500000 := by have := HL.out.2.2; omega
  have n0 : (0 : Int) ≤ (f.n3 : Int) := by omega
  have hrest : Hid (¬ (0 ≤ a ∧ r[a.toNat]? = some true) → ∀ w', Below W.heap.size W w' → F6 w' w.heap.size f ∧ Frm w' f its pg ∧ Bls w' O on ol) := fun _ w' h => ⟨HF.out.1.below h, HF.out.2.1.below h, HF.out.2.2.below h⟩
  by_cases hfit : 0 ≤ a ∧ r[a.toNat]? = some true
  · have hq := (List.getElem?_eq_some_iff.1 hfit.2).1
    obtain ⟨q, rfl⟩ : ∃ q : Nat, a = (q : Int) := ⟨a.toNat, by have := hfit.1; omega⟩
    have hq2 : q < f.n3 := by rw [← hrl.out]; simpa using hq
    have j0 : (0 : Int) ≤ (q : Int) := by omega
    have j1 : (q : Int) < (f.n3 : Int) := by omega
    obtain ⟨b, off, rfl, hbl, hc⟩ := H1.out.1.mem (by omega)
    have c0 := hc q true (by simpa using hfit.2)
    have HX : Hid (FxIs r (q : Int) (q : Int)) := .inl ⟨hfit.1, hfit.2, rfl⟩
    clear hc hfit hq hbl
    go_wp2
    go_ret
    exact ⟨⟨_, rfl, HX.out⟩, HBW.out _ H1.out.2⟩
  · have hall := hrest.out hfit
    have HALL := Lib.hid hall
    obtain ⟨a0, a1, a2, a3, a4, a5⟩ := (HALL.out _ H1.out.2).1.facts
    have HN := Lib.hid hfit
    have hstep : Hid (∀ w', Below W.heap.size W w' → True) := fun _ _ => trivial
    clear hall hstep
    have hmain : (¬ (0 : Int) ≤ a) ∨ (0 ≤ a ∧ ¬ a < (f.n3 : Int)) ∨ (∃ q : Nat, a = (q : Int) ∧ q < f.n3 ∧ r[q]? = some false) := by
      by_cases h0 : (0 : Int) ≤ a
      · by_cases h1 : a < (f.n3 : Int)
        · obtain ⟨q, rfl⟩ : ∃ q : Nat, a = (q : Int) := ⟨a.toNat, by omega⟩
          obtain ⟨x, hx⟩ : ∃ x, r[q]? = some x := ⟨_, List.getElem?_eq_getElem (by rw [hrl.out]; omega)⟩
          cases x with
          | true => exact absurd ⟨h0, by simpa using hx⟩ hfit
          | false => exact .inr (.inr ⟨q, rfl, by omega, hx⟩)
        · exact .inr (.inl ⟨h0, h1⟩)
      · exact .inl h0
    clear hfit
    rcases hmain with h0 | ⟨h0, h1⟩ | ⟨q, rfl, hq2, hx⟩
    · go_wp2_with fail
      refine (Back_c f its pg O on oc ol _ _ (HALL.out _ H1.out.2).2.1 (HALL.out _ H1.out.2).2.2 HL.out.2.1).mono ?_
      rintro e w2 ⟨hB, hb⟩
      rw [HRR.out] at hB
      have H2 := Lib.hid (H1.out.2.trans (hb.mono H1.out.2.size))
      clear hb a0 a1 a2 a3 a4 a5
      obtain ⟨a0, a1, a2, a3, a4, a5⟩ := (HALL.out _ H2.out).1.facts
      rcases hB with ⟨i, rfl, hB⟩ | ⟨rfl, hB⟩
      · have HB2 := Lib.hid hB
        clear hB
        go_wp2
        go_ret
        exact ⟨⟨_, rfl, .inr ⟨HN.out, .inl ⟨i, rfl, HB2.out⟩⟩⟩, HBW.out _ H2.out⟩
      · have HB2 := Lib.hid hB
        clear hB
        go_wp2_with fail
        refine (Next_c f its pg O on oc ol _ _ (HALL.out _ H2.out).2.1 (HALL.out _ H2.out).2.2 HL.out.2.1).mono ?_
        rintro e w3 ⟨hC, hb⟩
        rw [HRR.out] at hC
        have H3 := Lib.hid (H2.out.trans (hb.mono H2.out.size))
        clear hb a0 a1 a2 a3 a4 a5
        rcases hC with ⟨i, rfl, hC⟩ | ⟨rfl, hC⟩
        · have HC2 := Lib.hid hC
          clear hC
          go_wp2
          go_ret
          exact ⟨⟨_, rfl, .inr ⟨HN.out, .inr ⟨HB2.out, .inl ⟨i, rfl, HC2.out⟩⟩⟩⟩, HBW.out _ H3.out⟩
        · have HC2 := Lib.hid hC
          clear hC
          go_wp2
          go_ret
          exact ⟨⟨_, rfl, .inr ⟨HN.out, .inr ⟨HB2.out, .inr ⟨HC2.out, rfl⟩⟩⟩⟩, HBW.out _ H3.out⟩
    · go_wp2_with fail
      refine (Back_c f its pg O on oc ol _ _ (HALL.out _ H1.out.2).2.1 (HALL.out _ H1.out.2).2.2 HL.out.2.1).mono ?_
      rintro e w2 ⟨hB, hb⟩
      rw [HRR.out] at hB
      have H2 := Lib.hid (H1.out.2.trans (hb.mono H1.out.2.size))
      clear hb a0 a1 a2 a3 a4 a5
      obtain ⟨a0, a1, a2, a3, a4, a5⟩ := (HALL.out _ H2.out).1.facts
      rcases hB with ⟨i, rfl, hB⟩ | ⟨rfl, hB⟩
      · have HB2 := Lib.hid hB
        clear hB
        go_wp2
        go_ret
        exact ⟨⟨_, rfl, .inr ⟨HN.out, .inl ⟨i, rfl, HB2.out⟩⟩⟩, HBW.out _ H2.out⟩
      · have HB2 := Lib.hid hB
        clear hB
        go_wp2_with fail
        refine (Next_c f its pg O on oc ol _ _ (HALL.out _ H2.out).2.1 (HALL.out _ H2.out).2.2 HL.out.2.1).mono ?_
        rintro e w3 ⟨hC, hb⟩
        rw [HRR.out] at hC
        have H3 := Lib.hid (H2.out.trans (hb.mono H2.out.size))
        clear hb a0 a1 a2 a3 a4 a5
        rcases hC with ⟨i, rfl, hC⟩ | ⟨rfl, hC⟩
        · have HC2 := Lib.hid hC
          clear hC
          go_wp2
          go_ret
          exact ⟨⟨_, rfl, .inr ⟨HN.out, .inr ⟨HB2.out, .inl ⟨i, rfl, HC2.out⟩⟩⟩⟩, HBW.out _ H3.out⟩
        · have HC2 := Lib.hid hC
          clear hC
          go_wp2
          go_ret
          exact ⟨⟨_, rfl, .inr ⟨HN.out, .inr ⟨HB2.out, .inr ⟨HC2.out, rfl⟩⟩⟩⟩, HBW.out _ H3.out⟩
    · have j0 : (0 : Int) ≤ (q : Int) := by omega
      have j1 : (q : Int) < (f.n3 : Int) := by omega
      obtain ⟨b, off, rfl, hbl, hc⟩ := H1.out.1.mem (by omega)
      have c0 := hc q false hx
      clear hc hbl hx
      go_wp2_with fail
      refine (Back_c f its pg O on oc ol _ _ (HALL.out _ H1.out.2).2.1 (HALL.out _ H1.out.2).2.2 HL.out.2.1).mono ?_
      rintro e w2 ⟨hB, hb⟩
      rw [HRR.out] at hB
      have H2 := Lib.hid (H1.out.2.trans (hb.mono H1.out.2.size))
      clear hb a0 a1 a2 a3 a4 a5
      obtain ⟨a0, a1, a2, a3, a4, a5⟩ := (HALL.out _ H2.out).1.facts
      rcases hB with ⟨i, rfl, hB⟩ | ⟨rfl, hB⟩
      · have HB2 := Lib.hid hB
        clear hB
        go_wp2
        go_ret
        exact ⟨⟨_, rfl, .inr ⟨HN.out, .inl ⟨i, rfl, HB2.out⟩⟩⟩, HBW.out _ H2.out⟩
      · have HB2 := Lib.hid hB
        clear hB
        go_wp2_with fail
        refine (Next_c f its pg O on oc ol _ _ (HALL.out _ H2.out).2.1 (HALL.out _ H2.out).2.2 HL.out.2.1).mono ?_
        rintro e w3 ⟨hC, hb⟩
        rw [HRR.out] at hC
        have H3 := Lib.hid (H2.out.trans (hb.mono H2.out.size))
        clear hb a0 a1 a2 a3 a4 a5
        rcases hC with ⟨i, rfl, hC⟩ | ⟨rfl, hC⟩
        · have HC2 := Lib.hid hC
          clear hC
          go_wp2
          go_ret
          exact ⟨⟨_, rfl, .inr ⟨HN.out, .inr ⟨HB2.out, .inl ⟨i, rfl, HC2.out⟩⟩⟩⟩, HBW.out _ H3.out⟩
        · have HC2 := Lib.hid hC
          clear hC
          go_wp2
          go_ret
          exact ⟨⟨_, rfl, .inr ⟨HN.out, .inr ⟨HB2.out, .inr ⟨HC2.out, rfl⟩⟩⟩⟩, HBW.out _ H3.out⟩
end Go.Proofs.Ytaifgehmlfjljaa
