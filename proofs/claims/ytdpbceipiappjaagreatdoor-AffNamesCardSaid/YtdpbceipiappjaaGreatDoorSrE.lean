/-
  Rows of texts: where a text stands, whether it does.
-/
import Derived.Test.YtdpbceipiappjaaGreatDoorSrD
namespace Go.Proofs.YtdpbceipiappjaaGreatDoor
set_option maxRecDepth 20000
open Go.RowKit

/-- A row of texts. -/
structure Strs (w : World) (A : Option Addr) (n : Nat) (ss : List ByteArray) : Prop where
  len : ss.length = n
  sz : ∀ s ∈ ss, s.size ≤ 1000000000000000
  mem : 0 < n → ∃ b off, A = some ⟨b, off, none⟩ ∧ b < w.heap.size ∧ ∀ j s, ss[j]? = some s → w.cell? ⟨b, off + j, none⟩ = some (.string s)
theorem Strs.below {w w' : World} {A : Option Addr} {n : Nat} {ss : List ByteArray} (h : Strs w A n ss) (hb : Below w.heap.size w w') : Strs w' A n ss :=
  ⟨h.len, h.sz, fun hn => by
    obtain ⟨b, off, e, h1, hc⟩ := h.mem hn
    exact ⟨b, off, e, Nat.lt_of_lt_of_le h1 hb.size, fun j s hj => (World.cell?_of_block (hb.block b h1)).trans (hc j s hj)⟩⟩
/-- Where a text stands. -/
def ixB (s : ByteArray) : List ByteArray → Option Nat
  | [] => none
  | x :: l => if x.toList = s.toList then some 0 else (ixB s l).map (· + 1)
theorem ixB_none {s : ByteArray} : ∀ {l : List ByteArray}, (∀ (j : Nat) x, l[j]? = some x → ¬ x.toList = s.toList) → ixB s l = none
  | [], _ => rfl
  | x :: l, h => by
    rw [ixB, if_neg (h 0 x rfl), ixB_none (l := l) fun j y hy => h (j + 1) y (by simpa using hy)]
    rfl
theorem ixB_some {s y : ByteArray} : ∀ {l : List ByteArray} (i : Nat), (∀ (j : Nat) x, j < i → l[j]? = some x → ¬ x.toList = s.toList) → l[i]? = some y → y.toList = s.toList → ixB s l = some i
  | [], _, _, h, _ => by simp at h
  | x :: l, 0, _, h, e => by
    simp at h; subst h
    rw [ixB, if_pos e]
  | x :: l, i + 1, h, hy, e => by
    rw [ixB, if_neg (h 0 x (by omega) rfl), ixB_some (l := l) i (fun j z hj hz => h (j + 1) z (by omega) (by simpa using hz)) (by simpa using hy) e]
    rfl
theorem ixB_lt {s : ByteArray} : ∀ {l : List ByteArray} {i : Nat}, ixB s l = some i → i < l.length
  | [], _, h => by cases h
  | x :: l, i, h => by
    rw [ixB] at h
    split at h
    · injection h with h; subst h; simp
    · cases e : ixB s l with
      | none => rw [e] at h; cases h
      | some j =>
        rw [e] at h; injection h with h
        have := ixB_lt e
        simp only at h
        subst h
        simp; omega
theorem ixB_iff {s : ByteArray} : ∀ {l : List ByteArray}, ixB s l ≠ none ↔ ∃ x ∈ l, x.toList = s.toList
  | [] => ⟨fun h => absurd rfl h, fun ⟨_, h, _⟩ => by cases h⟩
  | x :: l => by
    rw [ixB]
    split
    · next h => exact ⟨fun _ => ⟨x, List.mem_cons_self, h⟩, fun _ h' => by cases h'⟩
    · next h =>
      have ih := ixB_iff (s := s) (l := l)
      constructor
      · intro h'
        obtain ⟨y, hy, e⟩ := ih.1 (fun e => h' (by rw [e]; rfl))
        exact ⟨y, List.mem_cons_of_mem _ hy, e⟩
      · rintro ⟨y, hy, e⟩ h'
        rcases List.mem_cons.1 hy with rfl | hy
        · exact h e
        · refine ih.2 ⟨y, hy, e⟩ ?_
          cases e2 : ixB s l with
          | none => rfl
          | some j => rw [e2] at h'; cases h'
theorem ixB_same {s t : ByteArray} (h : s.toList = t.toList) : ∀ l, ixB s l = ixB t l
  | [] => rfl
  | x :: l => by rw [ixB, ixB, h, ixB_same h l]
def ixI (s : ByteArray) (l : List ByteArray) : Int := match ixB s l with
  | some i => (i : Int)
  | none => -1
set_option maxHeartbeats 3200000 in
theorem index_c (A : Option Addr) (n c : Nat) (ss : List ByteArray) (s : ByteArray) (w : World) (h : Strs w A n ss) (hn : n ≤ 1000000) :
    Calls Tryz.prog 65 #[.slice A n c, .string s] w fun e w' => e = .returned (.int .i64 (ixI s ss)) ∧ w = w' := by
  have n0 : (0 : Int) ≤ (n : Int) := by omega
  have n9 : (n : Int) ≤ 1000000 := by omega
  have HH := Lib.hid h
  have HL := Lib.hid h.len
  clear h
  go_enter Tryz.func65, Tryz.ntmps65
  go_wp2
  go_loopw [4, 5, 8] (fun _ _ iv wr => w = wr ∧ ∃ i : Nat, i ≤ n ∧ iv = .int .i64 i ∧ Hid (∀ (j : Nat) x, j < i → ss[j]? = some x → ¬ x.toList = s.toList)) (fun _ _ iv _ => n - (intOf iv).toNat)
  case atStart => exact ⟨rfl, 0, by omega, rfl, Lib.hid (fun j x hj => absurd hj (Nat.not_lt_zero _))⟩
  case round =>
    obtain ⟨rfl, i, hi, rfl, HI⟩ := hrel
    have i0 : (0 : Int) ≤ (i : Int) := by omega
    by_cases hlt : i < n
    · have i1 : (i : Int) < (n : Int) := by omega
      obtain ⟨b, off, rfl, hbl, hc⟩ := HH.out.mem (by omega)
      obtain ⟨x, hx⟩ : ∃ x, ss[i]? = some x := ⟨_, List.getElem?_eq_getElem (by rw [HL.out]; omega)⟩
      have x0 := hc i x hx
      have HX := Lib.hid hx
      clear hc hx
      by_cases he : x.toList = s.toList
      · have hb : (s.toList == x.toList) = true := by rw [he]; exact beq_self_eq_true _
        have HE := Lib.hid he
        clear he
        go_wp2
        go_ret
        exact ⟨by unfold ixI; rw [ixB_some i HI.out HX.out HE.out]; rfl, rfl⟩
      · have hb : (s.toList == x.toList) = false := beq_eq_false_iff_ne.2 fun e => he e.symm
        have HE := Lib.hid he
        clear he
        go_wp2
        go_roundw
        case rel =>
          exact ⟨by first | exact rfl | trivial, i + 1, by omega, by go_num, Lib.hid (fun j y hj hy => by
            by_cases e : j = i
            · subst e; rw [HX.out] at hy; injection hy with hy; subst hy; exact HE.out
            · exact HI.out j y (by omega) hy)⟩
        case measure => simp [intOf]; omega
    · have i1 : ¬ (i : Int) < (n : Int) := by omega
      go_wp2
      go_ret
      exact ⟨by unfold ixI; rw [ixB_none fun j x hx => HI.out j x (by have := (List.getElem?_eq_some_iff.1 hx).1; rw [HL.out] at this; omega) hx]; rfl, rfl⟩
set_option maxHeartbeats 3200000 in
theorem rHas_c (A : Option Addr) (n c : Nat) (ss : List ByteArray) (s : ByteArray) (w : World) (h : Strs w A n ss) (hn : n ≤ 1000000) :
    Calls Tryz.prog 8 #[.slice A n c, .string s] w fun e w' => e = .returned (.bool (ixB s ss).isSome) ∧ w = w' := by
  have n0 : (0 : Int) ≤ (n : Int) := by omega
  have n9 : (n : Int) ≤ 1000000 := by omega
  have HH := Lib.hid h
  have HL := Lib.hid h.len
  clear h
  go_enter Tryz.func8, Tryz.ntmps8
  go_wp2
  go_loopw [5] (fun iv wr => w = wr ∧ ∃ i : Nat, i ≤ n ∧ iv = .int .i64 i ∧ Hid (∀ (j : Nat) x, j < i → ss[j]? = some x → ¬ x.toList = s.toList)) (fun iv _ => n - (intOf iv).toNat)
  case atStart => exact ⟨rfl, 0, by omega, rfl, Lib.hid (fun j x hj => absurd hj (Nat.not_lt_zero _))⟩
  case round =>
    obtain ⟨rfl, i, hi, rfl, HI⟩ := hrel
    have i0 : (0 : Int) ≤ (i : Int) := by omega
    by_cases hlt : i < n
    · have i1 : (i : Int) < (n : Int) := by omega
      obtain ⟨b, off, rfl, hbl, hc⟩ := HH.out.mem (by omega)
      obtain ⟨x, hx⟩ : ∃ x, ss[i]? = some x := ⟨_, List.getElem?_eq_getElem (by rw [HL.out]; omega)⟩
      have x0 := hc i x hx
      have HX := Lib.hid hx
      clear hc hx
      by_cases he : x.toList = s.toList
      · have hb : (x.toList == s.toList) = true := by rw [he]; exact beq_self_eq_true _
        have HE := Lib.hid he
        clear he
        go_wp2
        go_ret
        exact ⟨by rw [ixB_some i HI.out HX.out HE.out]; rfl, rfl⟩
      · have hb : (x.toList == s.toList) = false := beq_eq_false_iff_ne.2 fun e => he e
        have HE := Lib.hid he
        clear he
        go_wp2
        go_roundw
        case rel =>
          exact ⟨by first | exact rfl | trivial, i + 1, by omega, by go_num, Lib.hid (fun j y hj hy => by
            by_cases e : j = i
            · subst e; rw [HX.out] at hy; injection hy with hy; subst hy; exact HE.out
            · exact HI.out j y (by omega) hy)⟩
        case measure => simp [intOf]; omega
    · have i1 : ¬ (i : Int) < (n : Int) := by omega
      go_wp2
      go_ret
      exact ⟨by rw [ixB_none fun j x hx => HI.out j x (by have := (List.getElem?_eq_some_iff.1 hx).1; rw [HL.out] at this; omega) hx]; rfl, rfl⟩
end Go.Proofs.YtdpbceipiappjaaGreatDoor
