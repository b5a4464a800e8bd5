/-
  How long a form is; the next page that counts; one page is passed over.
-/
import Derived.Test.YtaifgehmlfjljaaPgD
namespace Go.Proofs.Ytaifgehmlfjljaa
set_option maxRecDepth 20000
open Go.RowKit Go.Maps Go.WideMaps

/-- Some Boolean answer. -/
def SomeB (e : Ending) : Prop := ∃ r : Bool, e = .returned (.bool r)
set_option maxHeartbeats 6400000 in
theorem longP_c (f : Fv) (its : List SwI) (pg : List (ByteArray × ByteArray)) (w : World) (hf : Frm w f its pg) :
    Calls Try.prog 19 #[.agg #[.slice f.a1 f.n1 f.c1, .slice f.a2 f.n2 f.c2, .slice f.a3 f.n3 f.c3, .slice f.a4 f.n4 f.c4, .slice f.a5 f.n5 f.c5, .slice f.a6 f.n6 f.c6]] w fun e w' => SomeB e ∧ Below w.heap.size w w' := by
  have HB : Hid (Below w.heap.size w (w.alloc (.cells #[.slice f.a1 f.n1 f.c1, .slice f.a2 f.n2 f.c2, .slice f.a3 f.n3 f.c3, .slice f.a4 f.n4 f.c4, .slice f.a5 f.n5 f.c5, .slice f.a6 f.n6 f.c6] 44))) := below_alloc _ _
  have HF := Lib.hid (And.intro (F6.newAt (w := w) f rfl) (And.intro (hf.below HB.out) (And.intro hf.pg.len hf.sw.len)))
  have n0 : (0 : Int) ≤ (f.n3 : Int) := by omega
  have m0 : (0 : Int) ≤ (f.n1 : Int) := by omega
  have n9 : (f.n3 : Int) ≤ 1500000 := by have := hf.n3; omega
  have m9 : (f.n1 : Int) ≤ 1500000 := by have := hf.n1; omega
  clear hf
  go_enter Try.func19, Try.ntmps19
  go_wp2
  generalize w.alloc (.cells #[.slice f.a1 f.n1 f.c1, .slice f.a2 f.n2 f.c2, .slice f.a3 f.n3 f.c3, .slice f.a4 f.n4 f.c4, .slice f.a5 f.n5 f.c5, .slice f.a6 f.n6 f.c6] 44) = W at *
  go_loopw [3, 4] (fun zv iv wr => ∃ (i : Nat) (z : Int), i ≤ f.n3 ∧ iv = .int .i64 i ∧ zv = .int .i64 z ∧ Hid (Below W.heap.size W wr)) (fun _ iv _ => f.n3 - (intOf iv).toNat)
  case atStart => exact ⟨0, 0, Nat.zero_le _, rfl, rfl, Below.refl _ _⟩
  case round =>
    obtain ⟨i, z, hi, rfl, rfl, HR⟩ := hrel
    have i0 : (0 : Int) ≤ (i : Int) := by omega
    obtain ⟨a0, a1, a2, a3, a4, a5⟩ := (HF.out.1.below HR.out).facts
    by_cases hlt : i < f.n3
    · have i1 : (i : Int) < (f.n3 : Int) := by omega
      obtain ⟨b, off, ea, hbl, hc⟩ := (HF.out.2.1.pg.below HR.out).mem (by omega)
      obtain ⟨⟨nm, wh⟩, hx⟩ : ∃ x, pg[i]? = some x := ⟨_, List.getElem?_eq_getElem (by rw [HF.out.2.2.1]; omega)⟩
      obtain ⟨c0, c1⟩ := hc i _ hx
      dsimp only at c0 c1
      clear hc hx hbl
      rw [ea] at a2
      go_wp2
      go_region_held3 (fun w' => w'.cell? ⟨w.heap.size, 2, none⟩ = some (.slice (some ⟨b, off, none⟩) f.n3 f.c3) ∧ w'.cell? ⟨b, off + i * 2, none⟩ = some (.string nm) ∧ w'.cell? ⟨b, off + i * 2 + 1, none⟩ = some (.string wh)) (go_keep) (fail)
      have HN := Lib.hid HR.out.drew
      go_wp2
      go_roundw
      case rel => exact ⟨i + 1, _, by omega, by go_num, rfl, HN⟩
      case measure => simp [intOf]; omega
    · have i1 : ¬ (i : Int) < (f.n3 : Int) := by omega
      go_wp2
      go_loopw [3, 5] (fun zv iv wr2 => wr2 = wr ∧ ∃ (i : Nat) (z : Int), i ≤ f.n1 ∧ iv = .int .i64 i ∧ zv = .int .i64 z) (fun _ iv _ => f.n1 - (intOf iv).toNat)
      case atStart => exact ⟨rfl, 0, z, Nat.zero_le _, rfl, rfl⟩
      case round =>
        obtain ⟨rfl, j, y, hj, rfl, rfl⟩ := hrel
        have j0 : (0 : Int) ≤ (j : Int) := by omega
        by_cases hlt : j < f.n1
        · have i1 : (j : Int) < (f.n1 : Int) := by omega
          obtain ⟨b, off, ea, hbl, hc⟩ := (HF.out.2.1.sw.below HR.out).mem (by omega)
          obtain ⟨x, hx⟩ : ∃ x, its[j]? = some x := ⟨_, List.getElem?_eq_getElem (by rw [HF.out.2.2.2]; omega)⟩
          obtain ⟨_, c0, c1⟩ := hc j _ hx
          clear hc hx hbl
          rw [ea] at a0
          go_wp2
          go_roundw
          case rel => exact ⟨by first | exact rfl | trivial, j + 1, _, by omega, by go_num, rfl⟩
          case measure => simp [intOf]; omega
        · have i1 : ¬ (j : Int) < (f.n1 : Int) := by omega
          go_wp2
          go_ret
          exact ⟨⟨_, rfl⟩, HB.out.trans (HR.out.mono HB.out.size)⟩
/-- A page that counts, behind a place. -/
def isNx (r : List Bool) (a : Int) (j : Nat) : Prop := r[j]? = some true ∧ a < (j : Int)
/-- What Next answers. -/
def NxPost (r : List Bool) (a : Int) (e : Ending) : Prop :=
  (∃ i : Nat, e = .returned (.tuple #[.int .i64 (i : Int), .bool true]) ∧ isNx r a i ∧ ∀ j, j < i → ¬ isNx r a j) ∨ (e = .returned (.tuple #[.int .i64 a, .bool false]) ∧ ∀ j, ¬ isNx r a j)
set_option maxHeartbeats 6400000 in
theorem Next_c (f : Fv) (its : List SwI) (pg : List (ByteArray × ByteArray)) (O : Option Addr) (on oc : Nat) (ol : List Bool) (a : Int) (w : World) (hf : Frm w f its pg) (ho : Bls w O on ol) (hon : on ≤ 1500000) :
    Calls Try.prog 22 #[.agg #[.slice f.a1 f.n1 f.c1, .slice f.a2 f.n2 f.c2, .slice f.a3 f.n3 f.c3, .slice f.a4 f.n4 f.c4, .slice f.a5 f.n5 f.c5, .slice f.a6 f.n6 f.c6], .slice O on oc, .int .i64 a] w fun e w' => NxPost (pg.map fun x => relv its ol x.2) a e ∧ Below w.heap.size w w' := by
  have HB : Hid (Below w.heap.size w (w.alloc (.cells #[.slice f.a1 f.n1 f.c1, .slice f.a2 f.n2 f.c2, .slice f.a3 f.n3 f.c3, .slice f.a4 f.n4 f.c4, .slice f.a5 f.n5 f.c5, .slice f.a6 f.n6 f.c6] 44))) := below_alloc _ _
  have HF := Lib.hid (And.intro (F6.newAt (w := w) f rfl) (And.intro (hf.below HB.out) (ho.below HB.out)))
  have n0 : (0 : Int) ≤ (f.n3 : Int) := by omega
  have n9 : (f.n3 : Int) ≤ 1500000 := by have := hf.n3; omega
  have HL := Lib.hid hf.pg.len
  obtain ⟨a0, a1, a2, a3, a4, a5⟩ := HF.out.1.facts
  obtain ⟨r, hr⟩ : ∃ r, (pg.map fun x => relv its ol x.2) = r := ⟨_, rfl⟩
  rw [hr]
  have HRR := Lib.hid hr
  clear hf ho hr
  go_enter Try.func22, Try.ntmps22
  go_wp2_with fail
  generalize w.alloc (.cells #[.slice f.a1 f.n1 f.c1, .slice f.a2 f.n2 f.c2, .slice f.a3 f.n3 f.c3, .slice f.a4 f.n4 f.c4, .slice f.a5 f.n5 f.c5, .slice f.a6 f.n6 f.c6] 44) = W at *
  refine (Relevant_c f its pg O on oc ol _ HF.out.2.1 HF.out.2.2 hon).mono ?_
  rintro e w1 ⟨g, rfl, hrow, hb⟩
  rw [HRR.out] at hrow
  have H1 : Hid (OwnB w1 W.heap.size (some ⟨g, 0, none⟩) f.n3 f.n3 r ∧ Below w.heap.size w w1) := ⟨hrow, HB.out.trans (hb.mono HB.out.size)⟩
  clear hrow hb a0 a1 a2 a3 a4 a5 HF HB
  have hrl : Hid (r.length = f.n3) := by show _ = _; rw [← HRR.out, List.length_map]; exact HL.out
  go_wp2
  go_loopw [14] (fun iv wr => wr = w1 ∧ ∃ i : Nat, i ≤ f.n3 ∧ iv = .int .i64 i ∧ Hid (∀ j, j < i → ¬ isNx r a j)) (fun iv _ => f.n3 - (intOf iv).toNat)
  case atStart => exact ⟨rfl, 0, Nat.zero_le _, rfl, fun j hj => absurd hj (Nat.not_lt_zero _)⟩
  case round =>
    obtain ⟨rfl, i, hi, rfl, HI⟩ := hrel
    have i0 : (0 : Int) ≤ (i : Int) := by omega
    by_cases hlt : i < f.n3
    · have i1 : (i : Int) < (f.n3 : Int) := by omega
      obtain ⟨x, hx⟩ : ∃ x, r[i]? = some x := ⟨_, List.getElem?_eq_getElem (by rw [hrl.out]; omega)⟩
      have c0 := H1.out.1.cell hx
      have HX := Lib.hid hx
      clear hx
      have hskip : ¬ isNx r a i → Hid (∀ j, j < i + 1 → ¬ isNx r a j) := fun h j hj => by
        by_cases e : j = i
        · subst e; exact h
        · exact HI.out j (by omega)
      cases x with
      | true =>
        by_cases hai : a < (i : Int)
        · have HN : Hid (isNx r a i) := ⟨HX.out, hai⟩
          clear hskip
          go_wp2
          go_ret2
          exact ⟨.inl ⟨i, rfl, HN.out, HI.out⟩, H1.out.2⟩
        · have HN := hskip (fun h => hai h.2)
          clear hskip
          go_wp2
          go_roundw
          case rel => exact ⟨by first | exact rfl | trivial, i + 1, by omega, by go_num, HN⟩
          case measure => simp [intOf]; omega
      | false =>
        have HN := hskip (fun h => by have := h.1; rw [HX.out] at this; cases this)
        clear hskip
        go_wp2
        go_roundw
        case rel => exact ⟨by first | exact rfl | trivial, i + 1, by omega, by go_num, HN⟩
        case measure => simp [intOf]; omega
    · have i1 : ¬ (i : Int) < (f.n3 : Int) := by omega
      go_wp2
      go_ret2
      exact ⟨.inr ⟨rfl, fun j hj => by
        have hj2 := (List.getElem?_eq_some_iff.1 hj.1).1
        rw [hrl.out] at hj2
        exact HI.out j (by omega) hj⟩, H1.out.2⟩
end Go.Proofs.Ytaifgehmlfjljaa
