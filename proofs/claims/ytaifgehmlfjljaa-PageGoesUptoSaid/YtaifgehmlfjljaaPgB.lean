/-
  slices.Backward: what it hands back is gone along from the last item to the first.
-/
import Derived.Test.YtaifgehmlfjljaaHsA
import Derived.RangeFuncNested
import Derived.RangeFuncBound
import Derived.RangeFuncCalls
import Derived.RangeFuncLeaves
import Derived.Shelf.Abstract
import Derived.Shelf.RegionOpen
import Derived.OwnWalkIn
import Derived.TacticsInMore
import Derived.LoopNIn
import Derived.LoopIn
namespace Go.Proofs.Ytaifgehmlfjljaa
set_option maxRecDepth 20000
open Go.RowKit Go.Shelf
attribute [local go_sem] Oper.semAt_some

/-- What a round keeps: all that lay below n₀, and the block of the row that is gone along. -/
def KpS (n₀ B : Nat) (W W' : World) : Prop := Below n₀ W W' ∧ W'.heap[B]? = W.heap[B]?
theorem KpS.refl (n₀ B : Nat) (W : World) : KpS n₀ B W W := ⟨Below.refl _ _, rfl⟩
theorem KpS.trans {n₀ B : Nat} {X Y Z : World} (h : KpS n₀ B X Y) (k : KpS n₀ B Y Z) : KpS n₀ B X Z := ⟨h.1.trans k.1, k.2.trans h.2⟩
theorem KpS.cell {n₀ B i : Nat} {X Y : World} (h : KpS n₀ B X Y) : Y.cell? ⟨B, i, none⟩ = X.cell? ⟨B, i, none⟩ := World.cell?_of_block h.2
theorem kpS_t {n₀ B : Nat} {X Y Z : World} (h : KpS n₀ B X Y) (k : KpS n₀ B Y Z) : KpS n₀ B X Z := h.trans k
theorem kpS_b {n₀ B : Nat} {w : World} (hn : n₀ ≤ w.heap.size) (hB : B < w.heap.size) (W : World) (l : Nat) (o o' : Obj) (hl : w.heap.size ≤ l) (h : W.heap[l]? = some o) (h1 : o.isCells = false) (h2 : o.isWalk = false) : KpS n₀ B W (W.putObj l o') :=
  ⟨belowK_b hn W l o o' hl h h1 h2, (grownBy_putObj' W l o').block B (by have := (Array.getElem?_eq_some_iff.1 h).1; omega) (by simp; omega)⟩
abbrev SwI := { x : Nat × ByteArray × Bool // x.1 ≤ 2000000 ∧ x.2.1.size ≤ 2000000 }
abbrev BoI := { x : Nat × Bool // x.1 ≤ 2000000 }
/-- The row's items lie in memory. -/
def backSAt (W : World) (b off : Nat) (its : List SwI) : Prop := ∀ (j : Nat) x, its[j]? = some x → x.1.1 = j ∧ (W.cell? ⟨b, off + j * 2, none⟩ = some (.string x.1.2.1) ∧ W.cell? ⟨b, off + j * 2 + 1, none⟩ = some (.bool x.1.2.2))
theorem backSAt.below {n₀ b off : Nat} {its : List SwI} {W W' : World} (h : backSAt W b off its) (hb : Below n₀ W W') (hl : b < n₀) : backSAt W' b off its := fun j x hx => by
  obtain ⟨e, hc⟩ := h j x hx
  refine ⟨e, ?_⟩
  exact ⟨(hb.cell (p := ⟨b, _, none⟩) hl).trans hc.1, (hb.cell (p := ⟨b, _, none⟩) hl).trans hc.2⟩
set_option maxRecDepth 100000 in
set_option maxHeartbeats 4000000 in
theorem backS1_in (F : Fence) (n : Nat) (hF : F.fn 48) (hro : F.round = none) (hn : 1 ≤ n) (l Bs n₀ b off len cap : Nat) (its : List SwI) (hlen : its.length = len) (hreach : len ≤ 2000000) (hb : b < n₀) (J Jx : List SwI → World → Prop)
    (hY : ∀ pre x W, J pre W → pre.length < len → YieldAt F (n - 1) Try.prog l #[.int .i64 (x.1.1 : Int), .agg #[.string x.1.2.1, .bool x.1.2.2]] W fun e W' =>
      (e = .returned (.bool true) ∧ J (pre ++ [x]) W' ∧ KpS n₀ Bs W W') ∨ (e = .returned (.bool false) ∧ Jx (pre ++ [x]) W'))
    (W : World) (hBs : W.cell? ⟨Bs, 0, none⟩ = some (.slice (some ⟨b, off, none⟩) len cap)) (hc : backSAt W b off its) (h0 : J [] W) :
    CallsIn F n Try.prog 48 #[.func (.yield l) #[] #[], .pointer (some ⟨Bs, 0, none⟩)] W fun e W' => (∃ v, e = .returned v) ∧
      ((∃ ys, ys = its.reverse ∧ J ys W') ∨ (∃ pre, (∃ k, k ≤ len ∧ pre = its.reverse.take k) ∧ Jx pre W')) := by
  have n0 : (0 : Int) ≤ (len : Int) := by omega
  have n9 : (len : Int) ≤ 2000000 := by omega
  have HLEN := Lib.hid hlen
  clear hlen
  refine callsIn_of_wp Try.func48 rfl hF ?_ hro
  simp only [Try.ntmps48, List.size_toArray, List.length_cons, List.length_nil, Nat.reduceAdd, Nat.reduceSub, Array.replicate_succ, Array.replicate_zero, List.push_toArray, List.append_toArray, List.nil_append, List.cons_append]
  gi_wp2
  gi_loopw [3] (fun i wr => ∃ (k : Nat) (z : Int), k ≤ len ∧ i = .int .i64 z ∧ Hid (z + 1 = (len : Int) - (k : Int)) ∧ J (its.reverse.take k) wr ∧ KpS n₀ Bs W wr)
    (fun i _ => (intOf i + 1).toNat)
  case atStart => exact ⟨0, (len : Int) - 1, Nat.zero_le _, rfl, (show (len : Int) - 1 + 1 = (len : Int) - 0 by omega), h0, KpS.refl _ _ _⟩
  case round =>
    obtain ⟨k, z, hk, rfl, HZ, hJs, hnx⟩ := hrel
    have hBs' : wr.cell? ⟨Bs, 0, none⟩ = some (.slice (some ⟨b, off, none⟩) len cap) := hnx.cell.trans hBs
    by_cases hlt : k < len
    · obtain ⟨q, hq⟩ : ∃ q, q + 1 + k = len := ⟨len - 1 - k, by omega⟩
      obtain rfl : z = (q : Int) := by have := HZ.out; omega
      obtain ⟨x, hx⟩ : ∃ x, its[q]? = some x := ⟨_, List.getElem?_eq_getElem (by rw [HLEN.out]; omega)⟩
      obtain ⟨he, hcx⟩ := hc.below hnx.1 hb q x hx
      have q0 : (0 : Int) ≤ (q : Int) := by omega
      have q1 : (q : Int) < (len : Int) := by omega
      have HQ := Lib.hid hq
      have hnext : Hid (its.reverse.take (k + 1) = its.reverse.take k ++ [x]) := by
        show _ = _
        rw [List.take_add_one, List.getElem?_reverse (by rw [HLEN.out]; omega), HLEN.out, show len - 1 - k = q by omega, hx]; rfl
      obtain ⟨fn, tmps, assign, body, hy, hR⟩ := hY _ x wr hJs (by rw [List.length_take, List.length_reverse, HLEN.out]; omega)
      rw [he] at hy
      clear hq hx he HZ
      obtain ⟨hc1, hc2⟩ := hcx
      gi_wp2
      refine hR.mono ?_
      rintro e W3 (⟨rfl, hJ3, hk3⟩ | ⟨rfl, hJx3⟩)
      · gi_wp2
        go_roundw
        case rel => exact ⟨k + 1, (q : Int) - 1, by omega, by first | rfl | simp, (show (q : Int) - 1 + 1 = (len : Int) - ((k + 1 : Nat) : Int) by have := HQ.out; omega), by rw [hnext.out]; exact hJ3, hnx.trans hk3⟩
        case measure => simp [intOf]
      · gi_wp2
        refine bodyPost_ret (results_none rfl _ _ _) rfl ?_
        exact ⟨⟨_, rfl⟩, .inr ⟨_, ⟨k + 1, by omega, hnext.out.symm⟩, hJx3⟩⟩
    · obtain rfl : k = len := by omega
      have z0 : ¬ (0 : Int) ≤ z := by have := HZ.out; omega
      have hJ2 : J its.reverse wr := by rw [List.take_of_length_le (by simp [HLEN.out])] at hJs; exact hJs
      gi_wp2
      go_end0
      exact ⟨⟨_, rfl⟩, .inl hJ2⟩
set_option maxRecDepth 100000 in
set_option maxHeartbeats 1000000 in
theorem backS1_nil_in (F : Fence) (n : Nat) (hF : F.fn 48) (hro : F.round = none) (l Bs : Nat) (A0 : Option Addr) (cap : Nat) (J : List SwI → World → Prop) (W : World) (hBs : W.cell? ⟨Bs, 0, none⟩ = some (.slice A0 0 cap)) (h0 : J [] W) :
    CallsIn F n Try.prog 48 #[.func (.yield l) #[] #[], .pointer (some ⟨Bs, 0, none⟩)] W fun e W' => (∃ v, e = .returned v) ∧ J [] W' := by
  refine callsIn_of_wp Try.func48 rfl hF ?_ hro
  simp only [Try.ntmps48, List.size_toArray, List.length_cons, List.length_nil, Nat.reduceAdd, Nat.reduceSub, Array.replicate_succ, Array.replicate_zero, List.push_toArray, List.append_toArray, List.nil_append, List.cons_append]
  gi_wp2
  gi_loopw [3] (fun i wr => i = .int .i64 (-1) ∧ J [] wr) (fun _ _ => 0)
  case atStart => exact ⟨rfl, h0⟩
  case round =>
    obtain ⟨rfl, hJs⟩ := hrel
    gi_wp2
    go_end0
    exact ⟨⟨_, rfl⟩, hJs⟩
set_option maxHeartbeats 1000000 in
theorem backS0_in (F : Fence) (n : Nat) (hF : F.fn 46) (hro : F.round = none) (a : Option Addr) (len cap : Nat) (w : World) :
    CallsIn F n Try.prog 46 #[.slice a len cap] w fun e w' => e = .returned (.func (.func 48) #[] #[.pointer (some ⟨w.heap.size, 0, none⟩)]) ∧ w' = w.alloc (.cells #[.slice a len cap] 37) := by
  refine callsIn_of_wp Try.func46 rfl hF ?_ hro
  simp only [Try.ntmps46, List.size_toArray, List.length_cons, List.length_nil, Nat.reduceAdd, Nat.reduceSub, Array.replicate_succ, Array.replicate_zero, List.push_toArray, List.append_toArray, List.nil_append, List.cons_append]
  gi_wp2
  go_ret
  exact ⟨rfl, rfl⟩
/-- What Backward hands back is gone along from the last item to the first. -/
theorem backS_stops (F : Fence) (n : Nat) (hF : F.fn 48) (hro : F.round = none) (hn : 1 ≤ n) (Bs n₀ : Nat) (A0 : Option Addr) (len cap : Nat) (its : List SwI) (hlen : its.length = len) (hreach : len ≤ 2000000) (w : World) (hBs : Bs < w.heap.size) (hn₀ : n₀ ≤ w.heap.size)
    (hc : w.cell? ⟨Bs, 0, none⟩ = some (.slice A0 len cap)) (hI : 0 < len → ∃ b off, A0 = some ⟨b, off, none⟩ ∧ b < n₀ ∧ backSAt w b off its) :
    SeqStopsK F n Try.prog 48 #[.pointer (some ⟨Bs, 0, none⟩)] (fun x : SwI => #[.int .i64 (x.1.1 : Int), .agg #[.string x.1.2.1, .bool x.1.2.2]]) (KpS n₀ Bs) (fun ys => ys = its.reverse) (fun pre => ∃ k, k ≤ len ∧ pre = its.reverse.take k) len w := fun l J Jx W hW _ _ hY h0 => by
  have hc' := (hW.cell (p := ⟨Bs, 0, none⟩) hBs).trans hc
  rcases Nat.eq_zero_or_pos len with hz | hz
  · subst hz
    obtain rfl : its = [] := List.eq_nil_of_length_eq_zero hlen
    exact (backS1_nil_in F n hF hro l Bs A0 cap J W hc' h0).mono fun e W' ⟨he, hj⟩ => ⟨he, .inl ⟨_, rfl, hj⟩⟩
  · obtain ⟨b, off, rfl, hb, hcs⟩ := hI hz
    exact backS1_in F n hF hro hn l Bs n₀ b off len cap its hlen hreach hb J Jx hY W hc' (hcs.below (hW.mono hn₀) hb) h0
/-- The row's items lie in memory. -/
def backBAt (W : World) (b off : Nat) (its : List BoI) : Prop := ∀ (j : Nat) x, its[j]? = some x → x.1.1 = j ∧ W.cell? ⟨b, off + j, none⟩ = some (.bool x.1.2)
theorem backBAt.below {n₀ b off : Nat} {its : List BoI} {W W' : World} (h : backBAt W b off its) (hb : Below n₀ W W') (hl : b < n₀) : backBAt W' b off its := fun j x hx => by
  obtain ⟨e, hc⟩ := h j x hx
  refine ⟨e, ?_⟩
  exact (hb.cell (p := ⟨b, _, none⟩) hl).trans hc
set_option maxRecDepth 100000 in
set_option maxHeartbeats 4000000 in
theorem backB1_in (F : Fence) (n : Nat) (hF : F.fn 47) (hro : F.round = none) (hn : 1 ≤ n) (l Bs n₀ b off len cap : Nat) (its : List BoI) (hlen : its.length = len) (hreach : len ≤ 2000000) (hb : b < n₀) (J Jx : List BoI → World → Prop)
    (hY : ∀ pre x W, J pre W → pre.length < len → YieldAt F (n - 1) Try.prog l #[.int .i64 (x.1.1 : Int), .bool x.1.2] W fun e W' =>
      (e = .returned (.bool true) ∧ J (pre ++ [x]) W' ∧ KpS n₀ Bs W W') ∨ (e = .returned (.bool false) ∧ Jx (pre ++ [x]) W'))
    (W : World) (hBs : W.cell? ⟨Bs, 0, none⟩ = some (.slice (some ⟨b, off, none⟩) len cap)) (hc : backBAt W b off its) (h0 : J [] W) :
    CallsIn F n Try.prog 47 #[.func (.yield l) #[] #[], .pointer (some ⟨Bs, 0, none⟩)] W fun e W' => (∃ v, e = .returned v) ∧
      ((∃ ys, ys = its.reverse ∧ J ys W') ∨ (∃ pre, (∃ k, k ≤ len ∧ pre = its.reverse.take k) ∧ Jx pre W')) := by
  have n0 : (0 : Int) ≤ (len : Int) := by omega
  have n9 : (len : Int) ≤ 2000000 := by omega
  have HLEN := Lib.hid hlen
  clear hlen
  refine callsIn_of_wp Try.func47 rfl hF ?_ hro
  simp only [Try.ntmps47, List.size_toArray, List.length_cons, List.length_nil, Nat.reduceAdd, Nat.reduceSub, Array.replicate_succ, Array.replicate_zero, List.push_toArray, List.append_toArray, List.nil_append, List.cons_append]
  gi_wp2
  gi_loopw [3] (fun i wr => ∃ (k : Nat) (z : Int), k ≤ len ∧ i = .int .i64 z ∧ Hid (z + 1 = (len : Int) - (k : Int)) ∧ J (its.reverse.take k) wr ∧ KpS n₀ Bs W wr)
    (fun i _ => (intOf i + 1).toNat)
  case atStart => exact ⟨0, (len : Int) - 1, Nat.zero_le _, rfl, (show (len : Int) - 1 + 1 = (len : Int) - 0 by omega), h0, KpS.refl _ _ _⟩
  case round =>
    obtain ⟨k, z, hk, rfl, HZ, hJs, hnx⟩ := hrel
    have hBs' : wr.cell? ⟨Bs, 0, none⟩ = some (.slice (some ⟨b, off, none⟩) len cap) := hnx.cell.trans hBs
    by_cases hlt : k < len
    · obtain ⟨q, hq⟩ : ∃ q, q + 1 + k = len := ⟨len - 1 - k, by omega⟩
      obtain rfl : z = (q : Int) := by have := HZ.out; omega
      obtain ⟨x, hx⟩ : ∃ x, its[q]? = some x := ⟨_, List.getElem?_eq_getElem (by rw [HLEN.out]; omega)⟩
      obtain ⟨he, hcx⟩ := hc.below hnx.1 hb q x hx
      have q0 : (0 : Int) ≤ (q : Int) := by omega
      have q1 : (q : Int) < (len : Int) := by omega
      have HQ := Lib.hid hq
      have hnext : Hid (its.reverse.take (k + 1) = its.reverse.take k ++ [x]) := by
        show _ = _
        rw [List.take_add_one, List.getElem?_reverse (by rw [HLEN.out]; omega), HLEN.out, show len - 1 - k = q by omega, hx]; rfl
      obtain ⟨fn, tmps, assign, body, hy, hR⟩ := hY _ x wr hJs (by rw [List.length_take, List.length_reverse, HLEN.out]; omega)
      rw [he] at hy
      clear hq hx he HZ
      
      gi_wp2
      refine hR.mono ?_
      rintro e W3 (⟨rfl, hJ3, hk3⟩ | ⟨rfl, hJx3⟩)
      · gi_wp2
        go_roundw
        case rel => exact ⟨k + 1, (q : Int) - 1, by omega, by first | rfl | simp, (show (q : Int) - 1 + 1 = (len : Int) - ((k + 1 : Nat) : Int) by have := HQ.out; omega), by rw [hnext.out]; exact hJ3, hnx.trans hk3⟩
        case measure => simp [intOf]
      · gi_wp2
        refine bodyPost_ret (results_none rfl _ _ _) rfl ?_
        exact ⟨⟨_, rfl⟩, .inr ⟨_, ⟨k + 1, by omega, hnext.out.symm⟩, hJx3⟩⟩
    · obtain rfl : k = len := by omega
      have z0 : ¬ (0 : Int) ≤ z := by have := HZ.out; omega
      have hJ2 : J its.reverse wr := by rw [List.take_of_length_le (by simp [HLEN.out])] at hJs; exact hJs
      gi_wp2
      go_end0
      exact ⟨⟨_, rfl⟩, .inl hJ2⟩
set_option maxRecDepth 100000 in
set_option maxHeartbeats 1000000 in
theorem backB1_nil_in (F : Fence) (n : Nat) (hF : F.fn 47) (hro : F.round = none) (l Bs : Nat) (A0 : Option Addr) (cap : Nat) (J : List BoI → World → Prop) (W : World) (hBs : W.cell? ⟨Bs, 0, none⟩ = some (.slice A0 0 cap)) (h0 : J [] W) :
    CallsIn F n Try.prog 47 #[.func (.yield l) #[] #[], .pointer (some ⟨Bs, 0, none⟩)] W fun e W' => (∃ v, e = .returned v) ∧ J [] W' := by
  refine callsIn_of_wp Try.func47 rfl hF ?_ hro
  simp only [Try.ntmps47, List.size_toArray, List.length_cons, List.length_nil, Nat.reduceAdd, Nat.reduceSub, Array.replicate_succ, Array.replicate_zero, List.push_toArray, List.append_toArray, List.nil_append, List.cons_append]
  gi_wp2
  gi_loopw [3] (fun i wr => i = .int .i64 (-1) ∧ J [] wr) (fun _ _ => 0)
  case atStart => exact ⟨rfl, h0⟩
  case round =>
    obtain ⟨rfl, hJs⟩ := hrel
    gi_wp2
    go_end0
    exact ⟨⟨_, rfl⟩, hJs⟩
set_option maxHeartbeats 1000000 in
theorem backB0_in (F : Fence) (n : Nat) (hF : F.fn 40) (hro : F.round = none) (a : Option Addr) (len cap : Nat) (w : World) :
    CallsIn F n Try.prog 40 #[.slice a len cap] w fun e w' => e = .returned (.func (.func 47) #[] #[.pointer (some ⟨w.heap.size, 0, none⟩)]) ∧ w' = w.alloc (.cells #[.slice a len cap] 45) := by
  refine callsIn_of_wp Try.func40 rfl hF ?_ hro
  simp only [Try.ntmps40, List.size_toArray, List.length_cons, List.length_nil, Nat.reduceAdd, Nat.reduceSub, Array.replicate_succ, Array.replicate_zero, List.push_toArray, List.append_toArray, List.nil_append, List.cons_append]
  gi_wp2
  go_ret
  exact ⟨rfl, rfl⟩
/-- What Backward hands back is gone along from the last item to the first. -/
theorem backB_stops (F : Fence) (n : Nat) (hF : F.fn 47) (hro : F.round = none) (hn : 1 ≤ n) (Bs n₀ : Nat) (A0 : Option Addr) (len cap : Nat) (its : List BoI) (hlen : its.length = len) (hreach : len ≤ 2000000) (w : World) (hBs : Bs < w.heap.size) (hn₀ : n₀ ≤ w.heap.size)
    (hc : w.cell? ⟨Bs, 0, none⟩ = some (.slice A0 len cap)) (hI : 0 < len → ∃ b off, A0 = some ⟨b, off, none⟩ ∧ b < n₀ ∧ backBAt w b off its) :
    SeqStopsK F n Try.prog 47 #[.pointer (some ⟨Bs, 0, none⟩)] (fun x : BoI => #[.int .i64 (x.1.1 : Int), .bool x.1.2]) (KpS n₀ Bs) (fun ys => ys = its.reverse) (fun pre => ∃ k, k ≤ len ∧ pre = its.reverse.take k) len w := fun l J Jx W hW _ _ hY h0 => by
  have hc' := (hW.cell (p := ⟨Bs, 0, none⟩) hBs).trans hc
  rcases Nat.eq_zero_or_pos len with hz | hz
  · subst hz
    obtain rfl : its = [] := List.eq_nil_of_length_eq_zero hlen
    exact (backB1_nil_in F n hF hro l Bs A0 cap J W hc' h0).mono fun e W' ⟨he, hj⟩ => ⟨he, .inl ⟨_, rfl, hj⟩⟩
  · obtain ⟨b, off, rfl, hb, hcs⟩ := hI hz
    exact backB1_in F n hF hro hn l Bs n₀ b off len cap its hlen hreach hb J Jx hY W hc' (hcs.below (hW.mono hn₀) hb) h0
end Go.Proofs.Ytaifgehmlfjljaa
