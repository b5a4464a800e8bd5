/-
  The laws' helpers: how long a history is, one taken back.
-/
import Derived.Test.YtaifgehmlfjljaaHsE
namespace Go.Proofs.Ytaifgehmlfjljaa
set_option maxRecDepth 20000
open Go.RowKit

/-- Some Boolean answer. -/
def SomeB (e : Ending) : Prop := ∃ r : Bool, e = .returned (.bool r)
set_option maxHeartbeats 3200000 in
theorem long_c (A B : Option Addr) (n c m d : Nat) (l k : List ByteArray) (w : World) (h : Strs w A n l) (h' : Strs w B m k) (hn : n ≤ 2000000) (hm : m ≤ 2000000) :
    Calls Try.prog 10 #[.agg #[.slice A n c, .slice B m d]] w fun e w' => SomeB e ∧ Below w.heap.size w w' := by
  have HB : Hid (Below w.heap.size w (w.alloc (.cells #[.slice A n c, .slice B m d] 24))) := below_alloc _ _
  have k0 : C2 (w.alloc (.cells #[.slice A n c, .slice B m d] 24)) w.heap.size 24 (.slice A n c) (.slice B m d) := C2.newAt _ _ _ rfl
  obtain ⟨a0, a1⟩ := k0.facts
  have HS := Lib.hid (And.intro (h.below HB.out) (h'.below HB.out))
  have HL := Lib.hid (And.intro h.len h'.len)
  have n0 : (0 : Int) ≤ (n : Int) := by omega
  have m0 : (0 : Int) ≤ (m : Int) := by omega
  clear h h' k0
  go_enter Try.func10, Try.ntmps10
  go_wp2
  generalize w.alloc (.cells #[.slice A n c, .slice B m d] 24) = W at *
  go_loopw [3, 4] (fun zv iv wr => wr = W ∧ ∃ (i : Nat) (z : Int), i ≤ n ∧ iv = .int .i64 i ∧ zv = .int .i64 z) (fun _ iv _ => n - (intOf iv).toNat)
  case atStart => exact ⟨rfl, 0, 0, Nat.zero_le _, rfl, rfl⟩
  case round =>
    obtain ⟨rfl, i, z, hi, rfl, rfl⟩ := hrel
    have i0 : (0 : Int) ≤ (i : Int) := by omega
    by_cases hlt : i < n
    · have i1 : (i : Int) < (n : Int) := by omega
      obtain ⟨b, off, rfl, hbl, hc⟩ := HS.out.1.mem (by omega)
      obtain ⟨x, hx⟩ : ∃ x, l[i]? = some x := ⟨_, List.getElem?_eq_getElem (by rw [HL.out.1]; omega)⟩
      have c0 := hc i x hx
      clear hc hx hbl
      go_wp2
      go_roundw
      case rel => exact ⟨by first | exact rfl | trivial, i + 1, _, by omega, by go_num, rfl⟩
      case measure => simp [intOf]; omega
    · have i1 : ¬ (i : Int) < (n : Int) := by omega
      go_wp2
      go_loopw [3, 5] (fun zv iv wr2 => wr2 = wr ∧ ∃ (i : Nat) (z : Int), i ≤ m ∧ iv = .int .i64 i ∧ zv = .int .i64 z) (fun _ iv _ => m - (intOf iv).toNat)
      case atStart => exact ⟨rfl, 0, z, Nat.zero_le _, rfl, rfl⟩
      case round =>
        obtain ⟨rfl, j, y, hj, rfl, rfl⟩ := hrel
        have j0 : (0 : Int) ≤ (j : Int) := by omega
        by_cases hlt : j < m
        · have i1 : (j : Int) < (m : Int) := by omega
          obtain ⟨b, off, rfl, hbl, hc⟩ := HS.out.2.mem (by omega)
          obtain ⟨x, hx⟩ : ∃ x, k[j]? = some x := ⟨_, List.getElem?_eq_getElem (by rw [HL.out.2]; omega)⟩
          have c0 := hc j x hx
          clear hc hx hbl
          go_wp2
          go_roundw
          case rel => exact ⟨by first | exact rfl | trivial, j + 1, _, by omega, by go_num, rfl⟩
          case measure => simp [intOf]; omega
        · have i1 : ¬ (j : Int) < (m : Int) := by omega
          go_wp2
          go_ret
          exact ⟨⟨_, rfl⟩, HB.out⟩
set_option maxHeartbeats 3200000 in
theorem known_c (w : World) : Calls Try.prog 12 #[] w fun e w' => e = .returned (.bool true) ∧ Below w.heap.size w w' := by
  go_enter Try.func12, Try.ntmps12
  go_wp2_with fail
  refine (Push_c none none 0 0 0 0 [] ⟨#[97]⟩ _ (Strs.nil_ _ _) (by omega) (by omega) (by decide)).mono ?_
  rintro e w1 ⟨A2, c2, rfl, ho, hb⟩
  have H1 : Hid (OwnS w1 w.heap.size A2 c2 (0 + 1) [⟨#[97]⟩] ∧ Below w.heap.size w w1) := ⟨ho, hb⟩
  clear ho hb
  have e1 : 0 - gone 0 + 1 = 0 + 1 := rfl
  rw [e1]
  clear e1
  go_wp2_with fail
  have hss : Strs w1 A2 (0 + 1) [⟨#[97]⟩] := H1.out.1.strs (fun s hs => by simp at hs; subst hs; decide)
  refine (Undo_yes A2 none 0 c2 0 0 [⟨#[97]⟩] [] ⟨#[98]⟩ ⟨#[97]⟩ _ hss (Strs.nil_ _ _) (by omega) (by omega) (by decide) rfl H1.out.1.capLe).mono ?_
  rintro e w2 ⟨A3, c3, B3, d3, rfl, ho, ho', hb⟩
  have H2 : Hid (OwnS w2 w1.heap.size B3 d3 (0 + 1) [⟨#[98]⟩] ∧ Below w.heap.size w w2) := ⟨ho', H1.out.2.trans (hb.mono H1.out.2.size)⟩
  obtain ⟨g, rfl, hg1, hg2⟩ := H2.out.1.form (by omega)
  have c0 := H2.out.1.cell (j := 0) (s := ⟨#[98]⟩) rfl
  have hsz := H2.out.2.size
  have hg3 : ¬ g = w2.heap.size := by omega
  clear ho ho' hb hss
  go_wp2
  go_ret
  exact ⟨rfl, H2.out.2.alloc (by omega) _⟩
end Go.Proofs.Ytaifgehmlfjljaa
