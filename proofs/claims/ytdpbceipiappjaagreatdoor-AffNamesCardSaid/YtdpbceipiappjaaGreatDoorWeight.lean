/-
  How much an expression that comes in weighs: the law's own count.
-/
import Derived.Test.YtdpbceipiappjaaGreatDoorOpenT
namespace Go.Proofs.YtdpbceipiappjaaGreatDoor
set_option maxRecDepth 20000
open Go.RowKit

def sumL (ls : Nat → Nat) : Nat → Nat
  | 0 => 0
  | i + 1 => sumL ls i + ls i
theorem sumL_if (ls : Nat → Nat) (L i : Nat) : ∀ n, n ≤ i → sumL (fun j => if j = i then L else ls j) n = sumL ls n := by
  intro n
  induction n with
  | zero => exact fun _ => rfl
  | succ n ih =>
    intro h
    show sumL (fun j => if j = i then L else ls j) n + (if n = i then L else ls n) = sumL ls n + ls n
    rw [ih (by omega), if_neg (by omega)]
/-- A tree as it came in weighs just so much. -/
def Light (w : World) : Nat → Ev → Nat → Prop
  | 0, _, _ => False
  | k + 1, v, L => ∃ ls : Nat → Nat, L = 3 + v.s.size + 8 * v.r.n + 8 * v.r.m + sumL ls v.n ∧
      ∀ i, i < v.n → ∃ b off x, v.K = some ⟨b, off, none⟩ ∧ b < w.heap.size ∧ At6 w b (off + i * 6) x ∧ Raw w k x ∧ Light w k x (ls i)
/-- What is left: less than nothing, or just what the tree does not weigh. -/
def Left (w : World) (k : Nat) (v : Ev) (left R : Int) : Prop := -10000000000000000 ≤ R ∧ (R < 0 ∨ ∃ L : Nat, Light w k v L ∧ R = left - L ∧ 0 ≤ R)
set_option maxHeartbeats 6400000 in
theorem weight_c : ∀ (k : Nat) (v : Ev) (w w0 : World) (left : Int), Raw w0 k v → Below w0.heap.size w0 w → 0 ≤ left → left ≤ 1000000 →
    Calls Tryz.prog 4 #[.agg #[.int .i64 v.k, .bool v.r.s, .slice v.r.A v.r.n v.r.c, .slice v.r.B v.r.m v.r.d, .string v.s, .slice v.K v.n v.c], .int .i64 left] w fun e w' => ∃ R : Int, e = .returned (.int .i64 R) ∧ Left w0 k v left R ∧ Below w.heap.size w w' := by
  intro k
  induction k with
  | zero => exact fun v w w0 left h => h.elim
  | succ k ih =>
    intro v w w0 left hraw hb00 hl0 hl1
    obtain ⟨hk, hr, hs, hnc, hn9, hkids⟩ := hraw
    obtain ⟨hr1, hr2, hr3, hr4, _⟩ := hr
    have k_e := C6.new w (.int .i64 v.k) (.bool v.r.s) (.slice v.r.A v.r.n v.r.c) (.slice v.r.B v.r.m v.r.d) (.string v.s) (.slice v.K v.n v.c)
    have hb0 := (Below.refl w.heap.size w).alloc (Nat.le_refl _) (.cells #[.int .i64 v.k, .bool v.r.s, .slice v.r.A v.r.n v.r.c, .slice v.r.B v.r.m v.r.d, .string v.s, .slice v.K v.n v.c] 27)
    have IH := Lib.hid ih
    have HK := Lib.hid hkids
    clear ih hkids
    have i1 : (v.s.size : Int) ≤ 1000000000000000 := by omega
    have i2 : (v.r.n : Int) ≤ 100000000000000 := by omega
    have i3 : (v.r.m : Int) ≤ 100000000000000 := by omega
    have i4 : (0 : Int) ≤ (v.s.size : Int) := by omega
    have i5 : (0 : Int) ≤ (v.r.n : Int) := by omega
    have i6 : (0 : Int) ≤ (v.r.m : Int) := by omega
    obtain ⟨e0, e1, e2, e3, e4, e5⟩ := k_e.facts
    go_enter Tryz.func4, Tryz.ntmps4
    go_wp2
    clear e0 e1 e2 e3 e4 e5
    obtain ⟨R0, hR0⟩ : ∃ R0 : Int, R0 = left - 3 - (v.s.size : Int) - 8 * (v.r.n : Int) - 8 * (v.r.m : Int) := ⟨_, rfl⟩
    have hR1 : -10000000000000000 ≤ R0 := by omega
    go_loopw [1, 5] (fun lv iv wr => ∃ (i : Nat) (R : Int), i ≤ v.n ∧ iv = .int .i64 i ∧ lv = .int .i64 R ∧ -10000000000000000 ≤ R ∧ R ≤ 1000000 ∧
      Hid (R < 0 ∨ ∃ ls : Nat → Nat, (∀ j, j < i → ∃ b off x, v.K = some ⟨b, off, none⟩ ∧ b < w0.heap.size ∧ At6 w0 b (off + j * 6) x ∧ Raw w0 k x ∧ Light w0 k x (ls j)) ∧ R = R0 - (sumL ls i : Nat) ∧ 0 ≤ R) ∧
      C6 wr w.heap.size (.int .i64 v.k) (.bool v.r.s) (.slice v.r.A v.r.n v.r.c) (.slice v.r.B v.r.m v.r.d) (.string v.s) (.slice v.K v.n v.c) ∧ Below w.heap.size w wr) (fun _ iv _ => v.n - (intOf iv).toNat)
    case atStart =>
      refine ⟨0, R0, Nat.zero_le _, rfl, by rw [hR0], hR1, by omega, ?_, k_e, hb0⟩
      show _ ∨ _
      by_cases h : R0 < 0
      · exact .inl h
      · exact .inr ⟨fun _ => 0, fun j hj => absurd hj (by omega), by show R0 = R0 - (0 : Nat); omega, by omega⟩
    case round =>
      clear k_e hb0
      obtain ⟨i, R, hi, rfl, rfl, hRl, hRu, HR, k_e, hb⟩ := hrel
      obtain ⟨e0, e1, e2, e3, e4, e5⟩ := k_e.facts
      have a0 : (0 : Int) ≤ (i : Int) := by omega
      have a9 : (v.n : Int) ≤ 10000000000000 := by omega
      by_cases hlt : i < v.n
      · have a1 : (i : Int) < (v.n : Int) := by omega
        by_cases hRn : 0 ≤ R
        · obtain ⟨b, off, x, hKb, hbw, hx, hrx⟩ := HK.out i hlt
          have hB : Below w0.heap.size w0 wr := hb00.trans (hb.mono hb00.size)
          have hx6 := hx.keep (hB.block b hbw)
          have HX := Lib.hid (And.intro hKb (And.intro hbw (And.intro hx hrx)))
          have HC := Lib.hid (IH.out x wr w0 R hrx hB hRn hRu)
          have HKB := Lib.hid hKb
          rw [hKb] at e5 k_e
          clear hKb hx hrx hbw
          obtain ⟨x0, x1, x2, x3, x4, x5⟩ := hx6
          go_wp2_with fail
          refine HC.out.mono ?_
          rintro e w2 ⟨R2, rfl, hL, hb2⟩
          replace k_e := k_e.below hb2
          replace hb := hb.trans (hb2.mono hb.size)
          have HR2 : Hid (R2 < 0 ∨ ∃ ls : Nat → Nat, (∀ j, j < i + 1 → ∃ b off x, v.K = some ⟨b, off, none⟩ ∧ b < w0.heap.size ∧ At6 w0 b (off + j * 6) x ∧ Raw w0 k x ∧ Light w0 k x (ls j)) ∧ R2 = R0 - (sumL ls (i + 1) : Nat) ∧ 0 ≤ R2) := by
            show _ ∨ _
            rcases hL.2 with h | ⟨L, hLi, hLe, hL0⟩
            · exact .inl h
            · rcases HR.out with h | ⟨ls, hls, hlR, _⟩
              · omega
              · refine .inr ⟨fun j => if j = i then L else ls j, fun j hj => ?_, ?_, hL0⟩
                · by_cases hji : j = i
                  · subst hji
                    obtain ⟨h1, h2, h3, h4⟩ := HX.out
                    refine ⟨b, off, x, h1, h2, h3, h4, ?_⟩
                    show Light w0 k x (if j = j then L else ls j)
                    rw [if_pos rfl]; exact hLi
                  · obtain ⟨b', off', x', h1, h2, h3, h5, h4⟩ := hls j (by omega)
                    refine ⟨b', off', x', h1, h2, h3, h5, ?_⟩
                    show Light w0 k x' (if j = i then L else ls j)
                    rw [if_neg hji]; exact h4
                · have hs : sumL (fun j => if j = i then L else ls j) (i + 1) = sumL ls i + L := by
                    show sumL (fun j => if j = i then L else ls j) i + (if i = i then L else ls i) = _
                    rw [if_pos rfl, sumL_if ls L i i (Nat.le_refl _)]
                  rw [hs]; omega
          have hRl2 := hL.1
          have hRu2 : R2 ≤ 1000000 := by
            rcases hL.2 with h | ⟨L, _, hLe, _⟩ <;> omega
          rw [← HKB.out] at k_e
          clear hb2 hL HC e0 e1 e2 e3 e4 e5 x0 x1 x2 x3 x4 x5
          go_wp2
          go_roundw
          case rel => exact ⟨i + 1, R2, by omega, by go_num, rfl, hRl2, hRu2, HR2, k_e, hb⟩
          case measure => simp [intOf]; omega
        · have hRneg : ¬ (0 : Int) ≤ R := hRn
          have HLF : Hid (Left w0 (k + 1) v left R) := ⟨hRl, .inl (by omega)⟩
          go_wp2
          go_ret
          exact ⟨R, rfl, HLF.out, hb⟩
      · have e : i = v.n := by omega
        have a1 : ¬ (i : Int) < (v.n : Int) := by omega
        have HLF : Hid (Left w0 (k + 1) v left R) := by
          refine ⟨hRl, ?_⟩
          rcases HR.out with h | ⟨ls, hls, hlR, hl0⟩
          · exact .inl h
          · rw [e] at hls hlR
            exact .inr ⟨_, ⟨ls, rfl, hls⟩, by omega, hl0⟩
        clear e
        go_wp2
        go_ret
        exact ⟨R, rfl, HLF.out, hb⟩
end Go.Proofs.YtdpbceipiappjaaGreatDoor
