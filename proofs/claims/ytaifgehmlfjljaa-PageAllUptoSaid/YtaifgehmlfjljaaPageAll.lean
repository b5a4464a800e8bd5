/-
  From the first page that counts, one by one, all that count are met: the walk.
-/
import Derived.Test.YtaifgehmlfjljaaPgF
namespace Go.Proofs.Ytaifgehmlfjljaa
set_option maxRecDepth 20000
open Go.RowKit Go.Maps Go.WideMaps

/-- How many of the first ones count. -/
def cnt (r : List Bool) : Nat → Nat
  | 0 => 0
  | i + 1 => cnt r i + (if r[i]? = some true then 1 else 0)
theorem cnt_le (r : List Bool) : ∀ i, cnt r i ≤ i
  | 0 => Nat.le_refl _
  | i + 1 => by
    have := cnt_le r i
    rw [cnt]
    split <;> omega
theorem cnt_same {r : List Bool} {a : Int} {q : Nat} (hq : a + 1 = (q : Int)) : ∀ {i : Nat}, q ≤ i → (∀ j, j < i → ¬ isNx r a j) → cnt r i = cnt r q
  | 0, h, _ => by
    obtain rfl : q = 0 := by omega
    rfl
  | i + 1, h, hn => by
    by_cases e : q = i + 1
    · rw [e]
    · rw [cnt, cnt_same hq (i := i) (by omega) (fun j hj => hn j (by omega)), if_neg (fun h5 => hn i (by omega) ⟨h5, by omega⟩)]; rfl
set_option maxHeartbeats 6400000 in
theorem PageAll_c (f : Fv) (its : List SwI) (pg : List (ByteArray × ByteArray)) (O : Option Addr) (on oc : Nat) (ol : List Bool) (w : World) (hf : Frm w f its pg) (ho : Bls w O on ol) (hon : on ≤ 1500000) :
    Calls Try.prog 9 #[.agg #[.slice f.a1 f.n1 f.c1, .slice f.a2 f.n2 f.c2, .slice f.a3 f.n3 f.c3, .slice f.a4 f.n4 f.c4, .slice f.a5 f.n5 f.c5, .slice f.a6 f.n6 f.c6], .slice O on oc] w fun e w' => e = .returned (.bool true) ∧ Below w.heap.size w w' := by
  have HB : Hid (Below w.heap.size w (w.alloc (.cells #[.slice f.a1 f.n1 f.c1, .slice f.a2 f.n2 f.c2, .slice f.a3 f.n3 f.c3, .slice f.a4 f.n4 f.c4, .slice f.a5 f.n5 f.c5, .slice f.a6 f.n6 f.c6] 44)) ∧ (w.alloc (.cells #[.slice f.a1 f.n1 f.c1, .slice f.a2 f.n2 f.c2, .slice f.a3 f.n3 f.c3, .slice f.a4 f.n4 f.c4, .slice f.a5 f.n5 f.c5, .slice f.a6 f.n6 f.c6] 44)).heap.size = w.heap.size + 1) := ⟨below_alloc _ _, by simp⟩
  have HF := Lib.hid (And.intro (F6.newAt (w := w) f rfl) (And.intro (hf.below HB.out.1) (ho.below HB.out.1)))
  have n0 : (0 : Int) ≤ (f.n3 : Int) := by omega
  have n9 : (f.n3 : Int) ≤ 1500000 := by have := hf.n3; omega
  have HL := Lib.hid (And.intro hf.pg.len hon)
  obtain ⟨r, hr⟩ : ∃ r, (pg.map fun x => relv its ol x.2) = r := ⟨_, rfl⟩
  have HRR := Lib.hid hr
  obtain ⟨a0, a1, a2, a3, a4, a5⟩ := HF.out.1.facts
  clear hf ho hr
  go_enter Try.func9, Try.ntmps9
  go_wp2_with fail
  generalize w.alloc (.cells #[.slice f.a1 f.n1 f.c1, .slice f.a2 f.n2 f.c2, .slice f.a3 f.n3 f.c3, .slice f.a4 f.n4 f.c4, .slice f.a5 f.n5 f.c5, .slice f.a6 f.n6 f.c6] 44) = W at *
  refine (longP_c f its pg _ HF.out.2.1).mono ?_
  rintro e w1 ⟨⟨lg, rfl⟩, hb⟩
  have H1 : Hid (Below W.heap.size W w1) := hb
  clear a0 a1 a2 a3 a4 a5 hb
  obtain ⟨a0, a1, a2, a3, a4, a5⟩ := (HF.out.1.below H1.out).facts
  have HBW : Hid (∀ w', Below W.heap.size W w' → Below w.heap.size w w') := fun w' h => HB.out.1.trans (h.mono HB.out.1.size)
  cases lg with
  | true =>
    go_wp2
    go_ret
    exact ⟨rfl, HBW.out _ H1.out⟩
  | false =>
    by_cases h100 : 100 < on
    · have i1 : (100 : Int) < (on : Int) := by omega
      go_wp2
      go_ret
      exact ⟨rfl, HBW.out _ H1.out⟩
    · have i1 : ¬ (100 : Int) < (on : Int) := by omega
      go_wp2_with fail
      refine (Relevant_c f its pg O on oc ol _ (HF.out.2.1.below H1.out) (HF.out.2.2.below H1.out) HL.out.2).mono ?_
      rintro e w2 ⟨g, rfl, hrow, hb⟩
      rw [HRR.out] at hrow
      have H2 : Hid (OwnB w2 w1.heap.size (some ⟨g, 0, none⟩) f.n3 f.n3 r ∧ Below W.heap.size W w2) := ⟨hrow, H1.out.trans (hb.mono H1.out.size)⟩
      have hrl : Hid (r.length = f.n3) := by show _ = _; rw [← HRR.out, List.length_map]; exact HL.out.1
      clear hrow hb a0 a1 a2 a3 a4 a5
      go_wp2
      go_loopw [6, 8] (fun zv iv wr => wr = w2 ∧ ∃ i : Nat, i ≤ f.n3 ∧ iv = .int .i64 i ∧ zv = .int .i64 (cnt r i : Nat)) (fun _ iv _ => f.n3 - (intOf iv).toNat)
      case atStart => exact ⟨rfl, 0, Nat.zero_le _, rfl, rfl⟩
      case round =>
        obtain ⟨hw9, i, hi, rfl, rfl⟩ := hrel
        obtain rfl : w2 = wr := hw9.symm
        have i0 : (0 : Int) ≤ (i : Int) := by omega
        have hci := cnt_le r i
        have z0 : (0 : Int) ≤ (cnt r i : Int) := by omega
        have z9 : (cnt r i : Int) ≤ 1500000 := by omega
        by_cases hlt : i < f.n3
        · have i1 : (i : Int) < (f.n3 : Int) := by omega
          obtain ⟨x, hx⟩ : ∃ x, r[i]? = some x := ⟨_, List.getElem?_eq_getElem (by rw [hrl.out]; omega)⟩
          have c0 := H2.out.1.cell hx
          have HN : Hid (cnt r (i + 1) = cnt r i + (if x = true then 1 else 0)) := by
            show _ = _; rw [cnt, hx]; cases x <;> rfl
          clear hx
          cases x with
          | true =>
            go_wp2
            go_roundw
            case rel => exact ⟨by first | exact rfl | trivial, i + 1, by omega, by go_num, by rw [HN.out]; go_num⟩
            case measure => simp [intOf]; omega
          | false =>
            go_wp2
            go_roundw
            case rel => exact ⟨by first | exact rfl | trivial, i + 1, by omega, by go_num, by rw [HN.out]; go_num⟩
            case measure => simp [intOf]; omega
        · have i1 : ¬ (i : Int) < (f.n3 : Int) := by omega
          have hie : i = f.n3 := by omega
          have HIE := Lib.hid hie
          clear hie
          go_wp2
          go_loopw [7, 9] (fun mv av wr2 => ∃ (q : Nat) (a : Int), q ≤ f.n3 ∧ mv = .int .i64 (cnt r q : Nat) ∧ av = .int .i64 a ∧ Hid (a + 1 = (q : Int)) ∧ Hid (Below w2.heap.size w2 wr2)) (fun _ av _ => f.n3 + 1 - (intOf av + 1).toNat)
          case atStart => exact ⟨0, -1, Nat.zero_le _, rfl, rfl, (show (-1 : Int) + 1 = ((0 : Nat) : Int) by omega), Below.refl _ _⟩
          case round =>
            obtain ⟨q, a, hq, rfl, rfl, HA, HR⟩ := hrel
            have hcq := cnt_le r q
            have y0 : (0 : Int) ≤ (cnt r q : Int) := by omega
            have y9 : (cnt r q : Int) ≤ (f.n3 : Int) := by omega
            have HWR : Hid (Below W.heap.size W wr) := H2.out.2.trans (HR.out.mono H2.out.2.size)
            obtain ⟨a0, a1, a2, a3, a4, a5⟩ := (HF.out.1.below HWR.out).facts
            go_wp2_with fail
            refine (Next_c f its pg O on oc ol a _ (HF.out.2.1.below HWR.out) (HF.out.2.2.below HWR.out) HL.out.2).mono ?_
            rintro e w3 ⟨hN, hb⟩
            rw [HRR.out] at hN
            have H3 : Hid (Below W.heap.size W w3 ∧ Below w2.heap.size w2 w3) := ⟨HWR.out.trans (hb.mono HWR.out.size), HR.out.trans (hb.mono HR.out.size)⟩
            clear hb a0 a1 a2 a3 a4 a5
            rcases hN with ⟨p, rfl, hp, hmin⟩ | ⟨rfl, hno⟩
            · have hpl : p < f.n3 := by rw [← hrl.out]; exact (List.getElem?_eq_some_iff.1 hp.1).1
              have c0 := (H2.out.1.below H3.out.2).cell hp.1
              have p0 : (0 : Int) ≤ (p : Int) := by omega
              have p1 : ¬ (p : Int) ≤ a := by have := hp.2; omega
              have p2 : (p : Int) < (f.n3 : Int) := by omega
              have p3 : ¬ (f.n3 : Int) ≤ (p : Int) := by omega
              have hqp : q ≤ p := by have := hp.2; have := HA.out; omega
              have HN : Hid (cnt r (p + 1) = cnt r q + 1) := by
                show _ = _; rw [cnt, if_pos hp.1, cnt_same HA.out hqp hmin]
              have HM : Hid ((a + 1).toNat ≤ p) := by show _ ≤ _; have := HA.out; omega
              clear hp hmin
              go_wp2
              go_roundw
              case rel => exact ⟨p + 1, (p : Int), by omega, by rw [HN.out]; go_num, rfl, (show (p : Int) + 1 = ((p + 1 : Nat) : Int) by omega), H3.out.2⟩
              case measure => have := HM.out; simp [intOf]; omega
            · have HE : Hid (cnt r q = cnt r i) := by
                show _ = _; rw [HIE.out]; exact (cnt_same HA.out hq fun j _ => hno j).symm
              rw [HE.out]
              clear hno
              go_wp2_with fail
              refine (knownP_c _).mono ?_
              rintro e w4 ⟨rfl, hb⟩
              have H4 := Lib.hid (H3.out.1.trans (hb.mono H3.out.1.size))
              clear hb
              go_wp2
              go_ret
              exact ⟨rfl, HBW.out _ H4.out⟩
end Go.Proofs.Ytaifgehmlfjljaa
