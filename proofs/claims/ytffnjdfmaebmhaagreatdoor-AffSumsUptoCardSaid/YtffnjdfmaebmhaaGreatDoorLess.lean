/-
  A piece less so often the divisor, and made up for.
-/
import Derived.Test.YtffnjdfmaebmhaaGreatDoorGuess
import Derived.Test.YtffnjdfmaebmhaaGreatDoorNSub
namespace Go.Proofs.YtffnjdfmaebmhaaGreatDoor
set_option maxRecDepth 20000
open Go.RowKit

theorem set_mid {pre mid post : List Nat} {i k x : Nat} (hi : pre.length = i) (hk : k < mid.length) : (pre ++ mid ++ post).set (i + k) x = pre ++ mid.set k x ++ post := by
  subst hi
  rw [List.append_assoc, List.set_append_right _ _ (by omega), Nat.add_sub_cancel_left, List.set_append_left _ _ hk, List.append_assoc]
theorem dg_mid {pre mid post : List Nat} {i k : Nat} (hi : pre.length = i) (hk : k < mid.length) : dg (pre ++ mid ++ post) (i + k) = dg mid k := by
  subst hi
  rw [List.append_assoc, dg_eq, dg_eq, List.getElem?_append_right (by omega), Nat.add_sub_cancel_left, List.getElem?_append_left hk]

theorem grown_set {ws wr : World} {g j : Nat} {u : Value} (h : ws.grownBy wr (some g)) : ws.grownBy (wr.setCell ⟨g, j, none⟩ u) (some g) :=
  ⟨h.os, h.tape, h.output, by simpa using h.size, fun k hk hne => (heap_setCell_other wr ⟨g, j, none⟩ k u (fun e => hne (by rw [e]))).trans (h.block k hk hne)⟩
theorem grown_drew {ws wr : World} {row : Option Nat} (h : ws.grownBy wr row) : ws.grownBy wr.drew row := ⟨h.os, h.tape, h.output, h.size, h.block⟩

theorem less_step {P V Sv Ss c b f u s x b' tl th : Nat} (h : V + f * Sv = Ss + P * (c + b)) (ht : tl + 4294967296 * th = c + u * f) (hx : x + tl + b = s + 4294967296 * b') :
    (V + P * x) + f * (Sv + P * u) = (Ss + P * s) + (P * 4294967296) * (th + b') := by
  have e1 := congrArg (P * ·) ht
  have e2 := congrArg (P * ·) hx
  simp only [Nat.mul_add] at e1 e2 h ⊢
  rw [← Nat.mul_assoc P 4294967296] at e1 e2
  have e3 : f * (P * u) = P * (u * f) := by rw [Nat.mul_left_comm, Nat.mul_comm f u]
  omega

/-- What the loop of lessTimes keeps. -/
structure LessAt (ws w0 wr : World) (g C N i : Nat) (pre s v post : List Nat) (f k c b : Nat) (r : List Nat) : Prop where
  len : r.length = k
  own : Own wr w0.heap.size (some ⟨g, 0, none⟩) C N (pre ++ (r ++ s.drop k) ++ post)
  sum : val r + f * S (fun j => dg v j) k = S (fun j => dg s j) k + 4294967296 ^ k * (c + b)
  below : Below w0.heap.size w0 wr
  gr : ws.grownBy wr (some g)

theorem LessAt.step {ws w0 wr : World} {g C N i : Nat} {pre s v post : List Nat} {f k c b : Nat} {r : List Nat} (h : LessAt ws w0 wr g C N i pre s v post f k c b r) (hi : pre.length = i) (hk : k < s.length) (hg : w0.heap.size ≤ g) {tl th u : Nat}
    (ht : tl + 4294967296 * th = c + u * f) (hu : dg v k = u) (htl : tl < 4294967296) (hs : dg s k < 4294967296) (hb : b ≤ 1) :
    LessAt ws w0 (wr.setCell ⟨g, i + k, none⟩ (.int .u32 ((dif (dg s k) tl b : Nat) : Int))) g C N i pre s v post f (k + 1) th (bor (dg s k) tl b) (r ++ [dif (dg s k) tl b]) := by
  obtain ⟨h1, h2, _⟩ := dif_bor hs htl hb
  have hl : (r ++ s.drop k).length = s.length := by simp [h.len]; omega
  refine ⟨by simp [h.len], ?_, ?_, h.below.setCell hg _, grown_set h.gr⟩
  · have h3 := h.own.set (j := i + k) h2
    rw [set_mid hi (by omega), set_split h.len hk] at h3
    exact h3
  · rw [val_snoc, h.len, S, S, Nat.pow_succ, hu]
    exact less_step h.sum ht h1

set_option maxHeartbeats 1600000 in
theorem lessTimes_any (w0 : World) (g i m C N c cy f : Nat) (Y : Option Addr) (pre s v post : List Nat) (w : World) (hg : w0.heap.size ≤ g) (hm : m ≤ 100000) (hN : N ≤ 1000000) (hi : pre.length = i) (hs : s.length = m + 1) (hf : f < 4294967296)
    (hv : Row w0 0 Y m v) (hbel : Below w0.heap.size w0 w) (ho : Own w w0.heap.size (some ⟨g, 0, none⟩) C N (pre ++ s ++ post)) :
    Calls Tryz.prog 133 #[.slice (some ⟨g, i, none⟩) (m + 1 : Nat) c, .slice Y m cy, .int .u32 (f : Int)] w fun e w' => ∃ (bw : Bool) (s' : List Nat), e = .returned (.bool bw) ∧ s'.length = m + 1 ∧ Own w' w0.heap.size (some ⟨g, 0, none⟩) C N (pre ++ s' ++ post) ∧ (Below w0.heap.size w0 w' ∧ w.grownBy w' (some g)) ∧ val s' + f * val v = val s + 4294967296 ^ (m + 1) * bw.toNat := by
  have hiN : i + m + 1 ≤ N := by have := ho.len; simp at this; omega
  have HST : Hid (LessAt w w0 w g C N i pre s v post f 0 0 0 []) := ⟨rfl, by simpa using ho, by simp [val, S], hbel, World.grownBy.refl _ _⟩
  have ls : L32 s := by
    intro j
    by_cases hj : j < s.length
    · have := ho.l32 (i + j)
      rwa [dg_mid hi hj] at this
    · rw [dg_out (by omega)]; omega
  clear ho hbel
  have HS := Lib.hid hs
  have HI := Lib.hid hi
  clear hs hi
  go_enter Tryz.func133, Tryz.ntmps133
  go_wp2
  go_loopw [7, 8, 9, 10, 14] (fun cv bv _ _ iv wr => ∃ (k cr b : Nat) (r : List Nat), k ≤ m ∧ cr < 4294967296 ∧ b ≤ 1 ∧ iv = .int .i64 k ∧ cv = .int .u64 cr ∧ bv = .int .u32 b ∧ Hid (LessAt w w0 wr g C N i pre s v post f k cr b r)) (fun _ _ _ _ iv _ => m - (intOf iv).toNat)
  case atStart => exact ⟨0, 0, 0, [], by omega, by omega, by omega, rfl, rfl, rfl, HST⟩
  case round =>
    obtain ⟨k, cr, b, r, hk, hcr, hb, rfl, rfl, rfl, HA⟩ := hrel
    have hks : k < s.length := by have := HS.out; omega
    have hl : k < (r ++ s.drop k).length := by have := HA.out.len; simp; omega
    obtain ⟨b2, off2, hA, h3, h4, hc2⟩ := HA.out.own.row.mem (by omega)
    injection hA with hA
    injection hA with e1 e2
    subst e1 e2
    have hcs := hc2 (i + k) (by omega)
    rw [Nat.zero_add, dg_mid HI.out hl, dg_split HA.out.len] at hcs
    have hfs := HA.out.own.own.frozenAt (i + k)
    have hsk := ls k
    clear hc2 HST hl hks
    by_cases h0 : k < m
    · have hb1 := hv.below HA.out.below
      have hu := hv.l32 k
      obtain ⟨b', off, rfl, h1, h2, hc⟩ := hb1.mem (by omega)
      have hcb := hc k h0
      have hp := mul_max hu hf
      have htl : (cr + dg v k * f) % 4294967296 < 4294967296 := Nat.mod_lt _ (by omega)
      have STEP := Lib.hid (HA.out.step HI.out (by have := HS.out; omega) hg (tl := (cr + dg v k * f) % 4294967296) (th := (cr + dg v k * f) / 4294967296) (Nat.mod_add_div _ _) rfl htl hsk hb)
      have hb2 : bor (dg s k) ((cr + dg v k * f) % 4294967296) b ≤ 1 := (dif_bor hsk htl hb).2.2
      have hcr2 : (cr + dg v k * f) / 4294967296 < 4294967296 := by omega
      have HSB := Lib.hid (fun (w : World) => Sub32_any (dg s k) ((cr + dg v k * f) % 4294967296) b w hsk htl hb)
      clear hc HA hb1 hv
      go_wp2_with fail
      refine ((HSB.out _)).mono ?_
      rintro e w' ⟨rfl, rfl⟩
      go_wp2
      go_roundw
      case rel => exact ⟨k + 1, (cr + dg v k * f) / 4294967296, bor (dg s k) ((cr + dg v k * f) % 4294967296) b, _, by omega, hcr2, hb2, by go_num, by go_num, rfl, STEP⟩
      case measure => simp [intOf]; omega
    · have hkm : k = m := by omega
      subst hkm
      have hvk : dg v k = 0 := dg_out (by rw [hv.len]; exact Nat.le_refl _)
      have ST := HA.out.step HI.out (by have := HS.out; omega) hg (tl := cr) (th := 0) (f := f) (u := 0) (by omega) hvk hcr hsk hb
      have hb2 : bor (dg s k) cr b ≤ 1 := (dif_bor hsk hcr hb).2.2
      have hsum := ST.sum
      rw [S_more v (k + 1) (by rw [hv.len]; omega), S_more s (k + 1) (by have := HS.out; omega), Nat.zero_add] at hsum
      have hown := ST.own
      rw [List.drop_eq_nil_of_le (by have := HS.out; omega), List.append_nil] at hown
      have HOWN := Lib.hid hown
      have HSUM := Lib.hid hsum
      have HLEN := Lib.hid ST.len
      have HBEL := Lib.hid (And.intro ST.below ST.gr)
      have HSB := Lib.hid (fun (w : World) => Sub32_any (dg s k) cr b w hsk hcr hb)
      clear ST hsum hown HA hv hvk
      generalize hx : dif (dg s k) cr b = x at *
      generalize hy : bor (dg s k) cr b = y at *
      clear hx hy
      have hy2 : y = 0 ∨ y = 1 := by omega
      rcases hy2 with rfl | rfl
      · go_wp2_with fail
        refine ((HSB.out _)).mono ?_
        rintro e w' ⟨rfl, rfl⟩
        go_wp2
        go_ret
        exact ⟨false, _, rfl, HLEN.out, HOWN.out, HBEL.out, HSUM.out⟩
      · go_wp2_with fail
        refine ((HSB.out _)).mono ?_
        rintro e w' ⟨rfl, rfl⟩
        go_wp2
        go_ret
        exact ⟨true, _, rfl, HLEN.out, HOWN.out, HBEL.out, HSUM.out⟩

/-- What the loop of addBack keeps. -/
structure BackAt (ws w0 wr : World) (g C N i : Nat) (pre s v post : List Nat) (k c : Nat) (r : List Nat) : Prop where
  len : r.length = k
  own : Own wr w0.heap.size (some ⟨g, 0, none⟩) C N (pre ++ (r ++ s.drop k) ++ post)
  sum : val r + 4294967296 ^ k * c = S (fun j => dg s j) k + S (fun j => dg v j) k
  below : Below w0.heap.size w0 wr
  gr : ws.grownBy wr (some g)
theorem BackAt.step {ws w0 wr : World} {g C N i : Nat} {pre s v post : List Nat} {k c : Nat} {r : List Nat} (h : BackAt ws w0 wr g C N i pre s v post k c r) (hi : pre.length = i) (hk : k < s.length) (hg : w0.heap.size ≤ g) :
    BackAt ws w0 (wr.drew.setCell ⟨g, i + k, none⟩ (.int .u32 (((dg s k + dg v k + c) % 4294967296 : Nat) : Int))) g C N i pre s v post (k + 1) ((dg s k + dg v k + c) / 4294967296) (r ++ [(dg s k + dg v k + c) % 4294967296]) := by
  have hl : (r ++ s.drop k).length = s.length := by simp [h.len]; omega
  refine ⟨by simp [h.len], ?_, ?_, h.below.drew.setCell hg _, grown_set (grown_drew h.gr)⟩
  · have h3 := h.own.drew.set (j := i + k) (x := (dg s k + dg v k + c) % 4294967296) (Nat.mod_lt _ (by omega))
    rw [set_mid hi (by omega), set_split h.len hk] at h3
    exact h3
  · rw [val_snoc, h.len, S, S, Nat.pow_succ]
    exact add_step h.sum (by omega)

set_option maxHeartbeats 1600000 in
theorem addBack_any (w0 : World) (g i m C N c cy : Nat) (Y : Option Addr) (pre s v post : List Nat) (w : World) (hg : w0.heap.size ≤ g) (hm : m ≤ 100000) (hN : N ≤ 1000000) (hi : pre.length = i) (hs : s.length = m + 1)
    (hv : Row w0 0 Y m v) (hbel : Below w0.heap.size w0 w) (ho : Own w w0.heap.size (some ⟨g, 0, none⟩) C N (pre ++ s ++ post)) :
    Calls Tryz.prog 134 #[.slice (some ⟨g, i, none⟩) (m + 1 : Nat) c, .slice Y m cy] w fun e w' => e = .returned (.tuple #[]) ∧ ∃ (s' : List Nat) (cr : Nat), cr ≤ 1 ∧ s'.length = m + 1 ∧ Own w' w0.heap.size (some ⟨g, 0, none⟩) C N (pre ++ s' ++ post) ∧ (Below w0.heap.size w0 w' ∧ w.grownBy w' (some g)) ∧ val s' + 4294967296 ^ (m + 1) * cr = val s + val v := by
  have hiN : i + m + 1 ≤ N := by have := ho.len; simp at this; omega
  have HST : Hid (BackAt w w0 w g C N i pre s v post 0 0 []) := ⟨rfl, by simpa using ho, by simp [val, S], hbel, World.grownBy.refl _ _⟩
  have ls : L32 s := by
    intro j
    by_cases hj : j < s.length
    · have := ho.l32 (i + j)
      rwa [dg_mid hi hj] at this
    · rw [dg_out (by omega)]; omega
  clear ho hbel
  have HS := Lib.hid hs
  have HI := Lib.hid hi
  clear hs hi
  go_enter Tryz.func134, Tryz.ntmps134
  go_wp2
  go_loopw [4, 5, 8] (fun cv _ iv wr => ∃ (k cr : Nat) (r : List Nat), k ≤ m + 1 ∧ cr ≤ 1 ∧ iv = .int .i64 k ∧ cv = .int .u32 cr ∧ Hid (BackAt w w0 wr g C N i pre s v post k cr r)) (fun _ _ iv _ => m + 1 - (intOf iv).toNat)
  case atStart => exact ⟨0, 0, [], by omega, by omega, rfl, rfl, HST⟩
  case round =>
    obtain ⟨k, cr, r, hk, hcr, rfl, rfl, HA⟩ := hrel
    by_cases h0 : k < m + 1
    · have hl : k < (r ++ s.drop k).length := by have := HA.out.len; have := HS.out; simp; omega
      obtain ⟨b2, off2, hA, h3, h4, hc2⟩ := HA.out.own.row.mem (by omega)
      injection hA with hA
      injection hA with e1 e2
      subst e1 e2
      have hcs := hc2 (i + k) (by omega)
      rw [Nat.zero_add, dg_mid HI.out hl, dg_split HA.out.len] at hcs
      have hfs := HA.out.own.own.frozenAt (i + k)
      have hsk := ls k
      have hvk := hv.l32 k
      have hb1 := hv.below HA.out.below
      have STEP := Lib.hid (HA.out.step HI.out (by have := HS.out; omega) hg)
      clear hc2 HST hl HA hv
      go_wp2
      go_region_with (first | (go_at_call 123; refine (limbAt_any Y m cy v k k _ (by omega) hb1.drew rfl).mono ?_; rintro e w' ⟨rfl, rfl⟩) | (go_at_call 122; refine (Add32_any (dg s k) (dg v k) cr _ (by omega) (by omega) (by omega)).mono ?_; rintro e w' ⟨rfl, rfl⟩))
      all_goals
        go_wp2
        go_roundw
        case rel => exact ⟨k + 1, (dg s k + dg v k + cr) / 4294967296, _, by omega, by omega, by go_num, rfl, STEP⟩
        case measure => simp [intOf]; omega
    · have hkm : k = m + 1 := by omega
      subst hkm
      have hsum := HA.out.sum
      rw [S_more v (m + 1) (by rw [hv.len]; omega), S_more s (m + 1) (by have := HS.out; omega)] at hsum
      have hown := HA.out.own
      rw [List.drop_eq_nil_of_le (by have := HS.out; omega), List.append_nil] at hown
      have HOWN := Lib.hid hown
      have HSUM := Lib.hid hsum
      have HLEN := Lib.hid HA.out.len
      have HBEL := Lib.hid (And.intro HA.out.below HA.out.gr)
      clear hsum hown HA hv HST
      go_wp2
      go_end0
      exact ⟨rfl, r, cr, hcr, HLEN.out, HOWN.out, HBEL.out, HSUM.out⟩
end Go.Proofs.YtffnjdfmaebmhaaGreatDoor
