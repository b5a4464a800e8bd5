/-
  Trees that come in: how much they weigh, which names are in a set, what a look through a tree sees.
-/
import Derived.Test.YtcmkgoikmleanaaCkA
import Derived.RegionTactic
import Derived.Deep.RegionHeld3
import Derived.Deep.RegionWith
import Derived.Deep.DeepCutAuto
import Derived.Outline
import Derived.ChangeAlike
namespace Go.Proofs.Ytcmkgoikmleanaa
set_option maxRecDepth 20000
open Go.RowKit Go.Maps Go.WideMaps

set_option maxHeartbeats 6400000 in
theorem weight_t : ∀ (t : Tr) (v : Ev) (w w0 : World) (left : Int), RdT w0 t v → Below w0.heap.size w0 w → 0 ≤ left → left ≤ 1000000 →
    Calls Try.prog 18 #[.agg #[.int .i64 v.k, .bool v.r.s, .slice v.r.A v.r.n v.r.c, .slice v.r.B v.r.m v.r.d, .string v.s, .slice v.K v.n v.c], .int .i64 left] w fun e w' => ∃ R : Int, e = .returned (.int .i64 R) ∧ (-10000000000000000 ≤ R ∧ R ≤ 1000000) ∧ Below w.heap.size w w' := by
  intro t
  induction t with
  | leaf => exact fun v w w0 left h => h.elim
  | node kk ss nn f ih =>
    rintro v w w0 left ⟨hk1, hs1, hn1, hk, hs, hnc, hn9, hr3, hr4, hkids⟩ hb00 hl0 hl1
    subst hk1
    subst hs1
    subst hn1
    have k_e := C6.new w (.int .i64 v.k) (.bool v.r.s) (.slice v.r.A v.r.n v.r.c) (.slice v.r.B v.r.m v.r.d) (.string v.s) (.slice v.K v.n v.c)
    have hb0 := (Below.refl w.heap.size w).alloc (Nat.le_refl _) (.cells #[.int .i64 v.k, .bool v.r.s, .slice v.r.A v.r.n v.r.c, .slice v.r.B v.r.m v.r.d, .string v.s, .slice v.K v.n v.c] 36)
    have IH := Lib.hid ih
    have HK := Lib.hid hkids
    clear ih hkids
    have i1 : (v.s.size : Int) ≤ 1000000000000000 := by omega
    have i2 : (v.r.n : Int) ≤ 100000000000000 := by omega
    have i3 : (v.r.m : Int) ≤ 100000000000000 := by omega
    have i4 : (0 : Int) ≤ (v.s.size : Int) := by omega
    have i5 : (0 : Int) ≤ (v.r.n : Int) := by omega
    have i6 : (0 : Int) ≤ (v.r.m : Int) := by omega
    obtain ⟨e0, e1, e2, e3, e4, e5⟩ := k_e.facts
    go_enter Try.func18, Try.ntmps18
    go_wp2
    clear e0 e1 e2 e3 e4 e5
    obtain ⟨R0, hR0⟩ : ∃ R0 : Int, R0 = left - 3 - (v.s.size : Int) - 8 * (v.r.n : Int) - 8 * (v.r.m : Int) := ⟨_, rfl⟩
    have hR1 : -10000000000000000 ≤ R0 := by omega
    go_loopw [1, 5] (fun lv iv wr => ∃ (i : Nat) (R : Int), i ≤ v.n ∧ iv = .int .i64 i ∧ lv = .int .i64 R ∧ -10000000000000000 ≤ R ∧ R ≤ 1000000 ∧
      C6 wr w.heap.size (.int .i64 v.k) (.bool v.r.s) (.slice v.r.A v.r.n v.r.c) (.slice v.r.B v.r.m v.r.d) (.string v.s) (.slice v.K v.n v.c) ∧ Below w.heap.size w wr) (fun _ iv _ => v.n - (intOf iv).toNat)
    case atStart =>
      exact ⟨0, R0, Nat.zero_le _, rfl, by rw [hR0], hR1, by omega, k_e, hb0⟩
    case round =>
      clear k_e hb0
      obtain ⟨i, R, hi, rfl, rfl, hRl, hRu, k_e, hb⟩ := hrel
      obtain ⟨e0, e1, e2, e3, e4, e5⟩ := k_e.facts
      have a0 : (0 : Int) ≤ (i : Int) := by omega
      have a9 : (v.n : Int) ≤ 10000000000000 := by omega
      by_cases hlt : i < v.n
      · have a1 : (i : Int) < (v.n : Int) := by omega
        by_cases hRn : 0 ≤ R
        · obtain ⟨b, off, x, hKb, hbw, hx, hrx⟩ := HK.out i hlt
          have hB : Below w0.heap.size w0 wr := hb00.trans (hb.mono hb00.size)
          have hx6 := hx.keep (hB.block b hbw)
          have HC := Lib.hid (IH.out i x wr w0 R hrx hB hRn hRu)
          have HKB := Lib.hid hKb
          rw [hKb] at e5 k_e
          clear hKb hx hrx hbw
          obtain ⟨x0, x1, x2, x3, x4, x5⟩ := hx6
          go_wp2_with fail
          refine HC.out.mono ?_
          rintro e w2 ⟨R2, rfl, ⟨hRl2, hRu2⟩, hb2⟩
          replace k_e := k_e.below hb2
          replace hb := hb.trans (hb2.mono hb.size)
          rw [← HKB.out] at k_e
          clear hb2 HC e0 e1 e2 e3 e4 e5 x0 x1 x2 x3 x4 x5
          go_wp2
          go_roundw
          case rel => exact ⟨i + 1, R2, by omega, by go_num, rfl, hRl2, hRu2, k_e, hb⟩
          case measure => simp [intOf]; omega
        · have hRneg : ¬ (0 : Int) ≤ R := hRn
          go_wp2
          go_ret
          exact ⟨R, rfl, ⟨hRl, hRu⟩, hb⟩
      · have e : i = v.n := by omega
        have a1 : ¬ (i : Int) < (v.n : Int) := by omega
        clear e
        go_wp2
        go_ret
        exact ⟨R, rfl, ⟨hRl, hRu⟩, hb⟩

theorem law9k : Keyed Try.prog 9 := string_keyed Try.underlying9
theorem zero89e (w : World) : (zeroValue 89).run Try.prog w = .ok (.agg #[]) w := by kernel_rfl
def keyL (s : ByteArray) : Lit := .string s.data.toList
theorem key_ok (s : ByteArray) (h : s.size ≤ 1000000000000000) : keyOf Try.prog 9 (.string s) = some (keyL s) :=
  keyOf_string_mk Try.underlying9 (by unfold maxLen; omega)
/-- Some names as the set's datum; whether one is among them. -/
def Sd (l : List ByteArray) : DataW Unit := setOf (.agg []) (l.map keyL)
def inL (l : List ByteArray) (s : ByteArray) : Bool := (l.map keyL).any (fun x => x.sameKey (keyL s))
theorem has_Sd (l : List ByteArray) (s : ByteArray) : Maps.has (Sd l) (keyL s) = inL l s := by
  unfold Sd inL
  exact has_setOf _ _ _ (fun x hx => by
    obtain ⟨y, _, rfl⟩ := List.mem_map.1 hx
    trivial)
theorem Sd_snoc (l : List ByteArray) (s : ByteArray) : Sd (l ++ [s]) = (Sd l).put (keyL s) (.agg []) := by
  unfold Sd; rw [List.map_append]; exact setOf_snoc _ _ _
theorem inL_mono (l : List ByteArray) (k : Nat) (s : ByteArray) (h : inL (l.take k) s = true) : inL l s = true := by
  unfold inL at *
  rw [List.any_eq_true] at *
  obtain ⟨x, hx, h2⟩ := h
  refine ⟨x, ?_, h2⟩
  obtain ⟨y, hy, rfl⟩ := List.mem_map.1 hx
  exact List.mem_map.2 ⟨y, List.mem_of_mem_take hy, rfl⟩
theorem inL_nil (s : ByteArray) : inL [] s = false := rfl
/-- A map's block is the set of some names. -/
def SetAt (w : World) (b : Nat) (l : List ByteArray) : Prop := w.ownsMap Try.prog 9 (unitElem (H := Unit)) b l.length (Sd l) ∧ b < w.heap.size
set_option maxRecDepth 100000 in
theorem add_c (b : Nat) (l : List ByteArray) (s : ByteArray) (w : World) (h : SetAt w b l) (hs : s.size ≤ 1000000000000000) (hl : l.length ≤ 100000000000000) :
    Calls Try.prog 64 #[.map (some b), .string s] w fun e w' => e = .returned (.tuple #[]) ∧ SetAt w' b (l ++ [s]) ∧ w.grownBy w' (some b) := by
  have hkey := key_ok s hs
  obtain ⟨hown, hb⟩ := h
  go_enter Try.func64, Try.ntmps64
  go_wp2_with (first
    | (at_mapUpdate; refine wpList_mapUpdate_own _ rfl _ _ _ 62 rfl 9 89 law9k Try.underlying62 (unitElem (H := Unit)) b l.length _ rfl hown (by unfold maxLen; omega) _ _ _ rfl rfl hkey _ [] unitElem_mk ?_; intro w1 hown1 hgrow1)
    | go_in)
  go_end0
  refine ⟨rfl, ⟨?_, ?_⟩, hgrow1⟩
  · rw [List.length_append, Sd_snoc]; exact hown1
  · exact Nat.lt_of_lt_of_le hb hgrow1.size
set_option maxRecDepth 100000 in
theorem has_c (b : Nat) (l : List ByteArray) (s : ByteArray) (w : World) (h : SetAt w b l) (hs : s.size ≤ 1000000000000000) :
    Calls Try.prog 63 #[.map (some b), .string s] w fun e w' => e = .returned (.bool (inL l s)) ∧ Below w.heap.size w w' := by
  have hkey := key_ok s hs
  obtain ⟨hown, hb⟩ := h
  have hh := has_Sd l s
  generalize inL l s = q at *
  go_enter Try.func63, Try.ntmps63
  go_wp2_with (first
    | (at_lookup; refine wpList_lookup_own_unit _ rfl _ _ 62 rfl 9 89 law9k Try.underlying62 (zero89e _) b l.length _ rfl hown _ _ rfl hkey ?_; rw [hh])
    | go_in)
  go_ret
  exact ⟨rfl, (Below.refl _ _).alloc (Nat.le_refl _) _⟩
end Go.Proofs.Ytcmkgoikmleanaa
