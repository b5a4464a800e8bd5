/-
  Print of naturals, the program's way: groups of nine digits; a group's digits put behind a text of bytes.
-/
import Derived.Test.YtcmomoalohibiaaDoorTxtC
import Derived.Test.YtcmomoalohibiaaDoorDiv1
namespace Go.Proofs.YtcmomoalohibiaaDoor
set_option maxRecDepth 20000
open Go.RowKit

/-- A number's groups of nine digits, the lowest first. -/
def grp (x : Nat) : List Nat := if h : x < 1000000000 then [x] else (x % 1000000000) :: grp (x / 1000000000)
  decreasing_by omega
theorem grp_small {x : Nat} (h : x < 1000000000) : grp x = [x] := by rw [grp, dif_pos h]
theorem grp_big {x : Nat} (h : ¬ x < 1000000000) : grp x = (x % 1000000000) :: grp (x / 1000000000) := by rw [grp, dif_neg h]
theorem grp_pos (x : Nat) : 0 < (grp x).length := by
  by_cases h : x < 1000000000
  · rw [grp_small h]; simp
  · rw [grp_big h]; simp
theorem grp_len {k x : Nat} (hk : 0 < k) (h : x < 1000000000 ^ k) : (grp x).length ≤ k := by
  induction k generalizing x with
  | zero => omega
  | succ k ih =>
    by_cases h1 : x < 1000000000
    · rw [grp_small h1]; simp
    · rw [grp_big h1, List.length_cons]
      have hk0 : 0 < k := by
        rcases Nat.eq_zero_or_pos k with rfl | h0
        · simp at h; omega
        · exact h0
      have := ih hk0 (x := x / 1000000000) (by rw [Nat.pow_succ] at h; exact Nat.div_lt_of_lt_mul (by rw [Nat.mul_comm]; exact h))
      omega
theorem grp_len_lim {x p : Nat} (hp : 0 < p) (h : (lim x).length ≤ p) : (grp x).length ≤ 2 * p := by
  refine grp_len (by omega) ?_
  have h1 : x < 4294967296 ^ p := Bd.ofL h
  have h2 : 4294967296 ^ p ≤ (1000000000 ^ 2) ^ p := Nat.pow_le_pow_left (by omega) _
  rw [Nat.pow_mul]
  omega
theorem grp_split (x : Nat) : (x % 1000000000) :: (if x / 1000000000 = 0 then [] else grp (x / 1000000000)) = grp x := by
  by_cases h : x < 1000000000
  · rw [grp_small h, if_pos (by omega), Nat.mod_eq_of_lt h]
  · rw [grp_big h, if_neg (by omega)]
theorem grp_dg : ∀ (i x : Nat), i < (grp x).length → dg (grp x) i = x / 1000000000 ^ i % 1000000000 ∧ (i + 1 < (grp x).length → x / 1000000000 ^ (i + 1) ≠ 0) ∧ (i + 1 = (grp x).length → x / 1000000000 ^ i < 1000000000) := by
  intro i
  induction i with
  | zero =>
    intro x h
    by_cases h1 : x < 1000000000
    · rw [grp_small h1]; simp; omega
    · rw [grp_big h1]
      have hp := grp_pos (x / 1000000000)
      refine ⟨by simp, fun _ => by rw [Nat.zero_add, Nat.pow_one]; omega, fun h => ?_⟩
      rw [List.length_cons] at h
      omega
  | succ i ih =>
    intro x h
    by_cases h1 : x < 1000000000
    · rw [grp_small h1] at h; simp at h
    · rw [grp_big h1, List.length_cons] at h ⊢
      obtain ⟨a, b, c⟩ := ih (x / 1000000000) (by omega)
      have e : ∀ j, x / 1000000000 ^ (j + 1) = x / 1000000000 / 1000000000 ^ j := fun j => by rw [Nat.pow_succ, Nat.mul_comm, Nat.div_div_eq_div_mul]
      refine ⟨?_, fun h2 => ?_, fun h2 => ?_⟩
      · rw [dg_succ, a, e]
      · rw [e (i + 1)]; exact b (by omega)
      · rw [e]; exact c (by omega)
/-- The digits from a group on. -/
theorem grp_text {x i : Nat} (hi : i + 1 < (grp x).length) : Lib.decDigits (x / 1000000000 ^ i) = Lib.decDigits (x / 1000000000 ^ (i + 1)) ++ pad 9 (dg (grp x) i) := by
  obtain ⟨a, b, _⟩ := grp_dg i x (by omega)
  have hq := b hi
  rw [a]
  have e1 : x / 1000000000 ^ (i + 1) = x / 1000000000 ^ i / 1000000000 := by rw [Nat.pow_succ, Nat.div_div_eq_div_mul]
  rw [e1] at hq ⊢
  have h := dec_pad 9 hq (x / 1000000000 ^ i % 1000000000) (by omega)
  have e2 : x / 1000000000 ^ i / 1000000000 * 10 ^ 9 + x / 1000000000 ^ i % 1000000000 = x / 1000000000 ^ i := by omega
  rw [e2] at h
  exact h

theorem Tryd.info5 : (Tryd.prog.info? 5).map (fun i => (i.zero, i.size, i.bytes)) = some (some (.int .u8 0), 1, 1) := by kernel_rfl

/-- What the loop of appendGroup keeps: j digits are still to come. -/
structure AgAt (w wx : World) (B u : Nat) (l : List UInt8) (j : Nat) (v : Value) : Prop where
  own : wx.ownsRow B 5 1 v (l.length + (9 - j)) (Lib.byteCells (l ++ pad (9 - j) (u / 10 ^ j)))
  below : Below B w wx
theorem pad_next {j u : Nat} (hj : j + 1 ≤ 9) : pad (9 - j) (u / 10 ^ j) = pad (8 - j) (u / 10 ^ (j + 1)) ++ [UInt8.ofNat (48 + u / 10 ^ j % 10)] := by
  have e : 9 - j = (8 - j) + 1 := by omega
  rw [e, pad, Nat.pow_succ, Nat.div_div_eq_div_mul]
theorem AgAt.step {w w2 : World} {B u : Nat} {l : List UInt8} {j : Nat} {v2 : Value} (hj : j + 1 ≤ 9) (hb : Below B w w2) {z : Int} (hz : z = ((48 + u / 10 ^ j % 10 : Nat) : Int))
    (ho : w2.ownsRow B 5 1 v2 (l.length + (8 - j) + 1) (Lib.byteCells (l ++ pad (8 - j) (u / 10 ^ (j + 1))) ++ [.int .u8 z])) : AgAt w w2 B u l j v2 := by
  refine ⟨?_, hb⟩
  have e : Lib.byteCells (l ++ pad (9 - j) (u / 10 ^ j)) = Lib.byteCells (l ++ pad (8 - j) (u / 10 ^ (j + 1))) ++ [.int .u8 z] := by
    rw [pad_next hj, ← List.append_assoc]
    simp only [Lib.byteCells, List.map_append, List.map_cons, List.map_nil]
    rw [u8_toNat (by omega), hz]
  rw [e, show l.length + (9 - j) = l.length + (8 - j) + 1 by omega]
  exact ho

set_option maxHeartbeats 1600000 in
theorem appendGroup_any (B u : Nat) (l : List UInt8) (v : Value) (w : World) (hu : u < 1000000000) (hl : l.length ≤ 1000000) (hB : B ≤ w.heap.size) (ho : w.ownsRow B 5 1 v l.length (Lib.byteCells l)) :
    Calls Tryd.prog 23 #[v, .int .u32 (u : Int)] w fun e w' => ∃ v2, e = .returned v2 ∧ w'.ownsRow B 5 1 v2 (l ++ pad 9 u).length (Lib.byteCells (l ++ pad 9 u)) ∧ Below B w w' := by
  obtain ⟨i0, hi, hz0, hz1, hz2⟩ := info_parts Tryd.info5
  have HST : Hid (AgAt w w B u l 9 v) := by
    refine ⟨?_, Below.refl _ _⟩
    simpa [pad] using ho
  clear ho
  go_enter Tryd.func23, Tryd.ntmps23
  go_wp2
  go_loopw [0, 5] (fun tv qv wr => ∃ (j q : Nat), j ≤ 9 ∧ qv = .int .u32 (q : Int) ∧ q ≤ 100000000 ∧ Hid (q = 10 ^ j / 10) ∧ Hid (AgAt w wr B u l j tv)) (fun _ qv _ => (intOf qv).toNat)
  case atStart => exact ⟨9, 100000000, by omega, by rfl, by omega, by show _ = _; omega, HST⟩
  case round =>
    obtain ⟨j, q, hj, rfl, hq8, HQ, HA⟩ := hrel
    clear HST
    rcases Nat.eq_zero_or_pos j with rfl | hj0
    · have hq0 : q ≤ 0 := by have : q = 10 ^ 0 / 10 := HQ.out; omega
      have HO : Hid (wr.ownsRow B 5 1 u0 (l ++ pad 9 u).length (Lib.byteCells (l ++ pad 9 u))) := by
        have := HA.out.own
        show wr.ownsRow _ _ _ _ _ _
        simpa [pad_len] using this
      have HB := Lib.hid HA.out.below
      clear HA
      go_wp2
      go_ret
      exact ⟨_, rfl, HO.out, HB.out⟩
    · obtain ⟨j, rfl⟩ : ∃ i, j = i + 1 := ⟨j - 1, by omega⟩
      have HQ2 : Hid (q = 10 ^ j) := by
        have : q = 10 ^ (j + 1) / 10 := HQ.out
        rw [Nat.pow_succ, Nat.mul_div_cancel _ (by omega)] at this
        exact this
      have hq1 : 1 ≤ q := by rw [HQ2.out]; exact ten_pos j
      have HQ3 : Hid (q / 10 = 10 ^ j / 10) := by show _ = _; rw [HQ2.out]
      have hz := HA.out.below.size
      have STEP : Hid (∀ w2 v2, Below B w w2 → w2.ownsRow B 5 1 v2 (l.length + (8 - j) + 1) (Lib.byteCells (l ++ pad (8 - j) (u / 10 ^ (j + 1))) ++ [.int .u8 (48 + (u : Int) / (q : Int) % 10)]) → AgAt w w2 B u l j v2) := fun w2 v2 hb ho =>
        AgAt.step (by omega) hb (by rw [HQ2.out]; rfl) ho
      have OWN := Lib.hid HA.out.own
      rw [show 9 - (j + 1) = 8 - j by omega] at OWN
      have HB := Lib.hid HA.out.below
      have LT := Lib.hid HA.out.own.lt
      have hd2 : (u : Int) / (q : Int) ≤ 1000000000 := by
        have h1 : u / q ≤ u := Nat.div_le_self _ _
        have h2 : (u : Int) / (q : Int) = ((u / q : Nat) : Int) := rfl
        rw [h2]; omega
      have hd1 : (0 : Int) ≤ (u : Int) / (q : Int) := Int.ediv_nonneg (by omega) (by omega)
      clear HA HQ HQ2
      go_wp2_with (at_builtin; refine wpList_append_own _ rfl _ _ 41 rfl B 5 i0 (.int .u8 0) 1 1 Tryd.underlying41 hi hz0 hz1 hz2 rfl (by decide) _ _ _ rfl (OWN.out.alloc _) ⟨wr.heap.size, 0, none⟩ 1 1 [Value.int .u8 (48 + (u : Int) / (q : Int) % 10)] rfl rfl ?c1 ?c2 ?c3 ?c4 ?c5 ?_)
      case c1 => intro j' u' hj'; match j', hj' with | 0, hj' => simp at hj'; subst hj'; simp [Addr.add]
      case c2 => intro u' hu'; simp at hu'; subst hu'; rfl
      case c3 => unfold maxLen; omega
      case c4 => omega
      case c5 => simp; omega
      intro v2 w2 hown2 hgrow _
      have HA2 := Lib.hid (STEP.out w2 v2 ((HB.out.alloc (by omega) _).grown hgrow (by simp; omega) (fun k hk => (LT.out k hk).1)) hown2)
      clear STEP OWN HB LT hown2 hgrow
      go_wp2
      go_roundw
      case rel => exact ⟨j, q / 10, by omega, by go_num, by omega, HQ3, HA2⟩
      case measure => simp [intOf]; omega
end Go.Proofs.YtcmomoalohibiaaDoor
