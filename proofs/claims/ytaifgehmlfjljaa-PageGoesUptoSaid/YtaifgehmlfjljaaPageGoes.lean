/-
  The program's walk is the document's: the pages that count, the next, the one before, the jump, the one that counts.
-/
import Derived.Test.YtaifgehmlfjljaaPgL
namespace Go.Proofs.Ytaifgehmlfjljaa
set_option maxRecDepth 20000
open Go.RowKit Go.Maps Go.WideMaps

theorem NxPost.form {r : List Bool} {a : Int} {e : Ending} (h : NxPost r a e) : ∃ (v : Int) (b : Bool), e = .returned (.tuple #[.int .i64 v, .bool b]) := by
  rcases h with ⟨i, rfl, _⟩ | ⟨rfl, _⟩ <;> exact ⟨_, _, rfl⟩
theorem NxPost.one {r : List Bool} {a : Int} {e e' : Ending} (h : NxPost r a e) (h' : NxPost r a e') : e = e' := by
  rcases h with ⟨i, rfl, h1, h2⟩ | ⟨rfl, h1⟩
  · rcases h' with ⟨j, rfl, h3, h4⟩ | ⟨rfl, h3⟩
    · rw [nx_one h1 h2 h3 h4]
    · exact absurd h1 (h3 i)
  · rcases h' with ⟨j, rfl, h3, h4⟩ | ⟨rfl, h3⟩
    · exact absurd h3 (h1 j)
    · rfl
theorem BkPost.form {r : List Bool} {a : Int} {e : Ending} (h : BkPost r a e) : ∃ (v : Int) (b : Bool), e = .returned (.tuple #[.int .i64 v, .bool b]) := by
  rcases h with ⟨i, rfl, _⟩ | ⟨rfl, _⟩ <;> exact ⟨_, _, rfl⟩
theorem BkPost.one {r : List Bool} {a : Int} {e e' : Ending} (h : BkPost r a e) (h' : BkPost r a e') : e = e' := by
  rcases h with ⟨i, rfl, h1, h2⟩ | ⟨rfl, h1⟩
  · rcases h' with ⟨j, rfl, h3, h4⟩ | ⟨rfl, h3⟩
    · rw [bk_one h1 h2 h3 h4]
    · exact absurd h1 (h3 i)
  · rcases h' with ⟨j, rfl, h3, h4⟩ | ⟨rfl, h3⟩
    · exact absurd h3 (h1 j)
    · rfl
theorem JmPost.form {r : List Bool} {pg : List (ByteArray × ByteArray)} {s : ByteArray} {e : Ending} (h : JmPost r pg s e) : ∃ v c : Int, e = .returned (.tuple #[.int .i64 v, .int .i64 c]) := by
  obtain ⟨v, c, rfl, _⟩ := h; exact ⟨_, _, rfl⟩
theorem JmPost.one {r : List Bool} {pg : List (ByteArray × ByteArray)} {s : ByteArray} {e e' : Ending} (h : JmPost r pg s e) (h' : JmPost r pg s e') : e = e' := by
  obtain ⟨v, c, rfl, h1⟩ := h
  obtain ⟨v', c', rfl, h2⟩ := h'
  obtain ⟨rfl, rfl⟩ := h1.one h2
  rfl
theorem FxPost.form {r : List Bool} {a : Int} {e : Ending} (h : FxPost r a e) : ∃ v : Int, e = .returned (.int .i64 v) := by
  obtain ⟨v, rfl, _⟩ := h; exact ⟨_, rfl⟩
theorem FxPost.one {r : List Bool} {a : Int} {e e' : Ending} (h : FxPost r a e) (h' : FxPost r a e') : e = e' := by
  obtain ⟨v, rfl, h1⟩ := h
  obtain ⟨v', rfl, h2⟩ := h'
  rw [h1.one h2]
set_option maxHeartbeats 12800000 in
theorem PageGoes_c (f : Fv) (its : List SwI) (pg : List (ByteArray × ByteArray)) (O : Option Addr) (on oc : Nat) (ol : List Bool) (a : Int) (s : ByteArray) (w : World) (hf : Frm w f its pg) (ho : Bls w O on ol) (hon : on ≤ 1500000) (hs : s.size ≤ 1500000) :
    Calls Try.prog 7 #[.agg #[.slice f.a1 f.n1 f.c1, .slice f.a2 f.n2 f.c2, .slice f.a3 f.n3 f.c3, .slice f.a4 f.n4 f.c4, .slice f.a5 f.n5 f.c5, .slice f.a6 f.n6 f.c6], .slice O on oc, .int .i64 a, .string s] w fun e w' => e = .returned (.bool true) ∧ Below w.heap.size w w' := by
  have HB : Hid (Below w.heap.size w (w.alloc (.cells #[.slice f.a1 f.n1 f.c1, .slice f.a2 f.n2 f.c2, .slice f.a3 f.n3 f.c3, .slice f.a4 f.n4 f.c4, .slice f.a5 f.n5 f.c5, .slice f.a6 f.n6 f.c6] 44)) ∧ (w.alloc (.cells #[.slice f.a1 f.n1 f.c1, .slice f.a2 f.n2 f.c2, .slice f.a3 f.n3 f.c3, .slice f.a4 f.n4 f.c4, .slice f.a5 f.n5 f.c5, .slice f.a6 f.n6 f.c6] 44)).heap.size = w.heap.size + 1) := ⟨below_alloc _ _, by simp⟩
  have HF := Lib.hid (And.intro (F6.newAt (w := w) f rfl) (And.intro (hf.below HB.out.1) (ho.below HB.out.1)))
  have n0 : (0 : Int) ≤ (f.n3 : Int) := by omega
  have n9 : (f.n3 : Int) ≤ 1500000 := by have := hf.n3; omega
  have HL := Lib.hid (And.intro hf.pg.len hon)
  obtain ⟨r, hr⟩ : ∃ r, (pg.map fun x => relv its ol x.2) = r := ⟨_, rfl⟩
  have HRR := Lib.hid hr
  have hrl : Hid (r.length = f.n3) := by show _ = _; rw [← HRR.out, List.length_map]; exact HL.out.1
  obtain ⟨a0, a1, a2, a3, a4, a5⟩ := HF.out.1.facts
  clear hf ho hr
  go_enter Try.func7, Try.ntmps7
  go_wp2_with fail
  generalize w.alloc (.cells #[.slice f.a1 f.n1 f.c1, .slice f.a2 f.n2 f.c2, .slice f.a3 f.n3 f.c3, .slice f.a4 f.n4 f.c4, .slice f.a5 f.n5 f.c5, .slice f.a6 f.n6 f.c6] 44) = W at *
  refine (longP_c f its pg _ HF.out.2.1).mono ?_
  rintro e w1 ⟨⟨lg, rfl⟩, hb⟩
  have H1 : Hid (Below W.heap.size W w1) := hb
  clear a0 a1 a2 a3 a4 a5 hb
  obtain ⟨a0, a1, a2, a3, a4, a5⟩ := (HF.out.1.below H1.out).facts
  have HBW : Hid (∀ w', Below W.heap.size W w' → Below w.heap.size w w') := fun w' h => HB.out.1.trans (h.mono HB.out.1.size)
  cases lg with
  | true =>
    go_wp2
    go_ret
    exact ⟨rfl, HBW.out _ H1.out⟩
  | false =>
    by_cases h100 : 100 < on
    · have i1 : (100 : Int) < (on : Int) := by omega
      go_wp2
      go_ret
      exact ⟨rfl, HBW.out _ H1.out⟩
    · have i1 : ¬ (100 : Int) < (on : Int) := by omega
      by_cases g100 : 100 < s.size
      · have i2 : (100 : Int) < (s.size : Int) := by omega
        go_wp2
        go_ret
        exact ⟨rfl, HBW.out _ H1.out⟩
      have i2 : ¬ (100 : Int) < (s.size : Int) := by omega
      go_wp2_with fail
      go_region_held3 (fun w' => w'.cell? ⟨w.heap.size, 0, none⟩ = some (.slice f.a1 f.n1 f.c1) ∧ w'.cell? ⟨w.heap.size, 1, none⟩ = some (.slice f.a2 f.n2 f.c2) ∧ w'.cell? ⟨w.heap.size, 2, none⟩ = some (.slice f.a3 f.n3 f.c3) ∧ w'.cell? ⟨w.heap.size, 3, none⟩ = some (.slice f.a4 f.n4 f.c4) ∧ w'.cell? ⟨w.heap.size, 4, none⟩ = some (.slice f.a5 f.n5 f.c5) ∧ w'.cell? ⟨w.heap.size, 5, none⟩ = some (.slice f.a6 f.n6 f.c6)) (go_keep)
        (first
        | (go_at_call 20
           refine (RelevantB_c f its pg O on oc ol _ (HF.out.2.1.below H1.out.drew) (HF.out.2.2.below H1.out.drew) HL.out.2).mono ?_
           rintro e w2 ⟨RA, rc, rfl, hrow, hb⟩
           rw [HRR.out] at hrow
           have H2 : Hid (Bls w2 RA f.n3 r ∧ Below W.heap.size W w2) := ⟨hrow, H1.out.drew.trans (hb.mono H1.out.drew.size)⟩
           clear hrow hb a0 a1 a2 a3 a4 a5
           obtain ⟨a0, a1, a2, a3, a4, a5⟩ := (HF.out.1.below H2.out.2).facts)
        | (go_at_call 21
           refine (rRelevantB_c f its pg O on oc ol _ (HF.out.2.1.below H2.out.2) (HF.out.2.2.below H2.out.2) HL.out.2).mono ?_
           rintro e w3 ⟨XA, xc, rfl, hrow, hb⟩
           rw [HRR.out] at hrow
           have H3 : Hid (Bls w3 RA f.n3 r ∧ Bls w3 XA f.n3 r ∧ Below W.heap.size W w3) := ⟨H2.out.1.below hb, hrow, H2.out.2.trans (hb.mono H2.out.2.size)⟩
           clear hrow hb a0 a1 a2 a3 a4 a5
           obtain ⟨a0, a1, a2, a3, a4, a5⟩ := (HF.out.1.below H3.out.2.2).facts))
      clear a0 a1 a2 a3 a4 a5
      go_wp2
      go_loopw [11] (fun iv wr => ∃ i : Nat, i ≤ f.n3 ∧ iv = .int .i64 i ∧ Hid (Below w3.heap.size w3 wr)) (fun iv _ => f.n3 - (intOf iv).toNat)
      case atStart => exact ⟨0, Nat.zero_le _, rfl, Below.refl _ _⟩
      case round =>
        obtain ⟨i, hi, rfl, HR⟩ := hrel
        have i0 : (0 : Int) ≤ (i : Int) := by omega
        by_cases hlt : i < f.n3
        · have i1' : (i : Int) < (f.n3 : Int) := by omega
          obtain ⟨x, hx⟩ : ∃ x, r[i]? = some x := ⟨_, List.getElem?_eq_getElem (by rw [hrl.out]; omega)⟩
          obtain ⟨b, off, ea, hbl, hc⟩ := (H3.out.1.below HR.out).mem (by omega)
          obtain ⟨b2, off2, ea2, hbl2, hc2⟩ := (H3.out.2.1.below HR.out).mem (by omega)
          subst ea ea2
          have c0 := hc i x hx
          have c2 := hc2 i x hx
          clear hx hc hbl hc2 hbl2
          have HN := Lib.hid HR.out.drew
          go_wp2_with fail
          go_region_held3 (fun w' => w'.cell? ⟨b, off + i, none⟩ = some (.bool x) ∧ w'.cell? ⟨b2, off2 + i, none⟩ = some (.bool x)) (go_keep) (fail)
          go_wp2
          go_roundw
          case rel => exact ⟨i + 1, by omega, by go_num, HN⟩
          case measure => simp [intOf]; omega
        · have i1' : ¬ (i : Int) < (f.n3 : Int) := by omega
          have H4 := Lib.hid (H3.out.2.2.trans (HR.out.mono H3.out.2.2.size))
          obtain ⟨a0, a1, a2, a3, a4, a5⟩ := (HF.out.1.below H4.out).facts
          clear hlt
          go_wp2_with fail
          refine (Next_c f its pg O on oc ol _ _ (HF.out.2.1.below H4.out) (HF.out.2.2.below H4.out) HL.out.2).mono ?_
          rintro en w4 ⟨hN, hb⟩
          rw [HRR.out] at hN
          obtain ⟨vn, bn, rfl⟩ := NxPost.form hN
          have H5N := Lib.hid hN
          have H5 := Lib.hid (H4.out.trans (hb.mono H4.out.size))
          clear hN hb a0 a1 a2 a3 a4 a5
          obtain ⟨a0, a1, a2, a3, a4, a5⟩ := (HF.out.1.below H5.out).facts
          go_wp2_with fail
          refine (rNext_c f its pg O on oc ol _ _ (HF.out.2.1.below H5.out) (HF.out.2.2.below H5.out) HL.out.2).mono ?_
          rintro en' w4' ⟨hN, hb⟩
          rw [HRR.out] at hN
          obtain rfl := NxPost.one hN H5N.out
          have H5' := Lib.hid (H5.out.trans (hb.mono H5.out.size))
          clear hN hb a0 a1 a2 a3 a4 a5
          obtain ⟨a0, a1, a2, a3, a4, a5⟩ := (HF.out.1.below H5'.out).facts
          go_wp2_with fail
          refine (Back_c f its pg O on oc ol _ _ (HF.out.2.1.below H5'.out) (HF.out.2.2.below H5'.out) HL.out.2).mono ?_
          rintro eb w5 ⟨hN, hb⟩
          rw [HRR.out] at hN
          obtain ⟨vb, bb, rfl⟩ := BkPost.form hN
          have H6N := Lib.hid hN
          have H6 := Lib.hid (H5'.out.trans (hb.mono H5'.out.size))
          clear hN hb a0 a1 a2 a3 a4 a5
          obtain ⟨a0, a1, a2, a3, a4, a5⟩ := (HF.out.1.below H6.out).facts
          go_wp2_with fail
          refine (rBack_c f its pg O on oc ol _ _ (HF.out.2.1.below H6.out) (HF.out.2.2.below H6.out) HL.out.2).mono ?_
          rintro eb' w5' ⟨hN, hb⟩
          rw [HRR.out] at hN
          obtain rfl := BkPost.one hN H6N.out
          have H6' := Lib.hid (H6.out.trans (hb.mono H6.out.size))
          clear hN hb a0 a1 a2 a3 a4 a5
          obtain ⟨a0, a1, a2, a3, a4, a5⟩ := (HF.out.1.below H6'.out).facts
          go_wp2_with fail
          refine (Jump_c f its pg O on oc ol _ _ (HF.out.2.1.below H6'.out) (HF.out.2.2.below H6'.out) HL.out.2).mono ?_
          rintro ej w6 ⟨hN, hb⟩
          rw [HRR.out] at hN
          obtain ⟨vj, bj, rfl⟩ := JmPost.form hN
          have H7N := Lib.hid hN
          have H7 := Lib.hid (H6'.out.trans (hb.mono H6'.out.size))
          clear hN hb a0 a1 a2 a3 a4 a5
          obtain ⟨a0, a1, a2, a3, a4, a5⟩ := (HF.out.1.below H7.out).facts
          go_wp2_with fail
          refine (rJump_c f its pg O on oc ol _ _ (HF.out.2.1.below H7.out) (HF.out.2.2.below H7.out) HL.out.2).mono ?_
          rintro ej' w6' ⟨hN, hb⟩
          rw [HRR.out] at hN
          obtain rfl := JmPost.one hN H7N.out
          have H7' := Lib.hid (H7.out.trans (hb.mono H7.out.size))
          clear hN hb a0 a1 a2 a3 a4 a5
          obtain ⟨a0, a1, a2, a3, a4, a5⟩ := (HF.out.1.below H7'.out).facts
          have hq1 : Hid True := trivial
          go_wp2_with fail
          go_region_held3 (fun w' => w'.cell? ⟨w.heap.size, 0, none⟩ = some (.slice f.a1 f.n1 f.c1) ∧ w'.cell? ⟨w.heap.size, 1, none⟩ = some (.slice f.a2 f.n2 f.c2) ∧ w'.cell? ⟨w.heap.size, 2, none⟩ = some (.slice f.a3 f.n3 f.c3) ∧ w'.cell? ⟨w.heap.size, 3, none⟩ = some (.slice f.a4 f.n4 f.c4) ∧ w'.cell? ⟨w.heap.size, 4, none⟩ = some (.slice f.a5 f.n5 f.c5) ∧ w'.cell? ⟨w.heap.size, 5, none⟩ = some (.slice f.a6 f.n6 f.c6)) (go_keep)
            (first
            | (go_at_call 28
               refine (Fix_c f its pg O on oc ol _ _ (HF.out.2.1.below H7'.out.drew) (HF.out.2.2.below H7'.out.drew) HL.out.2).mono ?_
               rintro e w8 ⟨hN, hb⟩
               rw [HRR.out] at hN
               obtain ⟨vx, rfl⟩ := FxPost.form hN
               have HXN := Lib.hid hN
               have H8 := Lib.hid (H7'.out.drew.trans (hb.mono H7'.out.drew.size))
               clear hN hb a0 a1 a2 a3 a4 a5
               obtain ⟨a0, a1, a2, a3, a4, a5⟩ := (HF.out.1.below H8.out).facts)
            | (go_at_call 29
               refine (rFix_c f its pg O on oc ol _ _ (HF.out.2.1.below H8.out) (HF.out.2.2.below H8.out) HL.out.2).mono ?_
               rintro e' w9 ⟨hN, hb⟩
               rw [HRR.out] at hN
               obtain rfl := FxPost.one hN HXN.out
               have H9 := Lib.hid (H8.out.trans (hb.mono H8.out.size))
               clear hN hb a0 a1 a2 a3 a4 a5
               obtain ⟨a0, a1, a2, a3, a4, a5⟩ := (HF.out.1.below H9.out).facts)
            | (go_at_call 30
               refine (knownP_c _).mono ?_
               rintro e' w10 ⟨rfl, hb⟩
               have H10 := Lib.hid (H9.out.trans (hb.mono H9.out.size))
               clear hb a0 a1 a2 a3 a4 a5
               obtain ⟨a0, a1, a2, a3, a4, a5⟩ := (HF.out.1.below H10.out).facts))
          go_wp2
          go_ret
          exact ⟨rfl, HBW.out _ H10.out⟩
end Go.Proofs.Ytaifgehmlfjljaa
