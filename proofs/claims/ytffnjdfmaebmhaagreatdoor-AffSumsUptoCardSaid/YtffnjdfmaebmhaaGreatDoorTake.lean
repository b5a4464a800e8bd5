/-
  One digit of a quotient is taken out of a piece.
-/
import Derived.Test.YtffnjdfmaebmhaaGreatDoorLess
namespace Go.Proofs.YtffnjdfmaebmhaaGreatDoor
set_option maxRecDepth 20000
open Go.RowKit

/-- A segment of a row of the call's own reads as itself. -/
theorem Row.mid {w : World} {lo g N c i k : Nat} {pre s post : List Nat} (h : Own w lo (some ⟨g, 0, none⟩) c N (pre ++ s ++ post)) (hi : pre.length = i) (hs : s.length = k) : Row w lo (some ⟨g, i, none⟩) k s := by
  refine ⟨hs, ?_, fun h0 => ?_⟩
  · intro j
    by_cases hj : j < s.length
    · have := h.l32 (i + j)
      rwa [dg_mid hi hj] at this
    · rw [dg_out (by omega)]; omega
  · have hN : 0 < N := by have := h.len; simp at this; omega
    obtain ⟨b, off, e, h1, h2, hc⟩ := h.row.mem hN
    injection e with e
    injection e with e1 e2
    subst e1 e2
    refine ⟨g, i, rfl, h1, h2, fun j hj => ?_⟩
    have := hc (i + j) (by have := h.len; simp at this; omega)
    rw [Nat.zero_add, dg_mid hi (by omega)] at this
    exact this

theorem one_le {d v p s P : Nat} (h : s + d * v = p + P * true.toNat) (hP : s < P) : 1 ≤ d := by
  rcases Nat.eq_zero_or_pos d with h0 | h0
  · subst h0
    simp at h
    omega
  · exact h0
theorem one_mul' {d v p s P : Nat} (h : s + d * v = p + P * true.toNat) : s + d * v = p + P := by simpa using h

theorem zero_mul' {d v p s P : Nat} (h : s + d * v = p + P * false.toNat) : s + d * v = p := by simpa using h

/-- What lessTimes leaves, said of one number P behind a name. -/
structure Less (ws w0 w' : World) (g C N m i : Nat) (pre s s' v post : List Nat) (d : Nat) (bw : Bool) : Prop where
  len : s'.length = m + 1
  own : Own w' w0.heap.size (some ⟨g, 0, none⟩) C N (pre ++ s' ++ post)
  below : Below w0.heap.size w0 w'
  gr : ws.grownBy w' (some g)
  sum : val s' + d * val v = val s + 4294967296 ^ (m + 1) * bw.toNat
theorem Less.one {ws w0 w' : World} {g C N m i : Nat} {pre s s' v post : List Nat} {d : Nat} (h : Less ws w0 w' g C N m i pre s s' v post d true) (hi : pre.length = i) : 1 ≤ d := by
  have h1 := val_lt (Row.mid h.own hi h.len).l32
  rw [h.len] at h1
  exact one_le h.sum h1
structure Back (ws w0 w' : World) (g C N m : Nat) (pre s s' v post : List Nat) : Prop where
  len : s'.length = m + 1
  own : Own w' w0.heap.size (some ⟨g, 0, none⟩) C N (pre ++ s' ++ post)
  below : Below w0.heap.size w0 w'
  gr : ws.grownBy w' (some g)
  sum : ∃ cr, cr ≤ 1 ∧ val s' + 4294967296 ^ (m + 1) * cr = val s + val v
structure Taken (ws w0 w' : World) (g C N m : Nat) (pre s s' v post : List Nat) (q : Nat) : Prop where
  len : s'.length = m + 1
  own : Own w' w0.heap.size (some ⟨g, 0, none⟩) C N (pre ++ s' ++ post)
  below : Below w0.heap.size w0 w'
  gr : ws.grownBy w' (some g)
  sum : val s' + q * val v = val s
  less : val s' < val v
theorem Less.taken {ws w0 w' : World} {g C N m i : Nat} {pre s s' v post : List Nat} {d : Nat} (h : Less ws w0 w' g C N m i pre s s' v post d false) (hup : val s < (d + 1) * val v) : Taken ws w0 w' g C N m pre s s' v post d := by
  have hs := zero_mul' h.sum
  exact ⟨h.len, h.own, h.below, h.gr, hs, take_ok hs hup⟩
theorem grown_trans {a b c : World} {row : Option Nat} (h : a.grownBy b row) (k : b.grownBy c row) : a.grownBy c row :=
  ⟨k.os.trans h.os, k.tape.trans h.tape, k.output.trans h.output, Nat.le_trans h.size k.size, fun q hq hne => (k.block q (by have := h.size; omega) hne).trans (h.block q hq hne)⟩
theorem Back.taken {ws w0 w1 w' : World} {g C N m i : Nat} {pre s s1 s' v post : List Nat} {e : Nat} (hb : Back w1 w0 w' g C N m pre s1 s' v post) (hl : Less ws w0 w1 g C N m i pre s s1 v post (e + 1) true) (hi : pre.length = i) (hle : (e + 1) * val v ≤ val s + val v) : Taken ws w0 w' g C N m pre s s' v post e := by
  have h1 := val_lt (Row.mid hl.own hi hl.len).l32
  rw [hl.len] at h1
  have h2 := val_lt (Row.mid hb.own hi hb.len).l32
  rw [hb.len] at h2
  obtain ⟨cr, hcr, hs⟩ := hb.sum
  obtain ⟨_, k2, k3⟩ := back_ok (one_mul' hl.sum) h1 hs h2 hle hcr
  exact ⟨hb.len, hb.own, hb.below, grown_trans hl.gr hb.gr, by simpa using k2, k3⟩
theorem Taken.back {w w1 w0 w' : World} {g C N m q q1 : Nat} {pre s s' v post : List Nat} (h : Taken w1 w0 w' g C N m pre s s' v post q) (hw : w1 = w.drewN q1) : Taken w w0 w' g C N m pre s s' v post q := by
  subst hw
  exact ⟨h.len, h.own, h.below, ⟨h.gr.os, h.gr.tape, h.gr.output, h.gr.size, h.gr.block⟩, h.sum, h.less⟩
theorem lessTimes_w (w0 : World) (g i m C N c cy f : Nat) (Y : Option Addr) (pre s v post : List Nat) (w : World) (hg : w0.heap.size ≤ g) (hm : m ≤ 100000) (hN : N ≤ 1000000) (hi : pre.length = i) (hs : s.length = m + 1) (hf : f < 4294967296)
    (hv : Row w0 0 Y m v) (hbel : Below w0.heap.size w0 w) (ho : Own w w0.heap.size (some ⟨g, 0, none⟩) C N (pre ++ s ++ post)) :
    Calls Tryz.prog 133 #[.slice (some ⟨g, i, none⟩) (m + 1 : Nat) c, .slice Y m cy, .int .u32 (f : Int)] w fun e w' => ∃ (bw : Bool) (s' : List Nat), e = .returned (.bool bw) ∧ Less w w0 w' g C N m i pre s s' v post f bw :=
  (lessTimes_any w0 g i m C N c cy f Y pre s v post w hg hm hN hi hs hf hv hbel ho).mono fun _ _ ⟨bw, s', h1, h2, h3, h4, h5⟩ => ⟨bw, s', h1, h2, h3, h4.1, h4.2, h5⟩
theorem addBack_w (w0 : World) (g i m C N c cy : Nat) (Y : Option Addr) (pre s v post : List Nat) (w : World) (hg : w0.heap.size ≤ g) (hm : m ≤ 100000) (hN : N ≤ 1000000) (hi : pre.length = i) (hs : s.length = m + 1)
    (hv : Row w0 0 Y m v) (hbel : Below w0.heap.size w0 w) (ho : Own w w0.heap.size (some ⟨g, 0, none⟩) C N (pre ++ s ++ post)) :
    Calls Tryz.prog 134 #[.slice (some ⟨g, i, none⟩) (m + 1 : Nat) c, .slice Y m cy] w fun e w' => e = .returned (.tuple #[]) ∧ ∃ (s' : List Nat), Back w w0 w' g C N m pre s s' v post :=
  (addBack_any w0 g i m C N c cy Y pre s v post w hg hm hN hi hs hv hbel ho).mono fun _ _ ⟨h0, s', cr, h1, h2, h3, h4, h5⟩ => ⟨h0, s', h2, h3, h4.1, h4.2, cr, h1, h5⟩
theorem guess_w (X Y : Option Addr) (m cx cy : Nat) (p v : List Nat) (w : World) (hm : 2 ≤ m) (hm2 : m ≤ 100000) (hp : Row w 0 X (m + 1) p) (hv : Row w 0 Y m v) (hn : 2147483648 ≤ dg v (m - 1)) (hlt : val p < val v * 4294967296) :
    Calls Tryz.prog 132 #[.slice X (m + 1 : Nat) cx, .slice Y m cy] w fun e w' => ∃ d : Nat, e = .returned (.int .u32 (d : Int)) ∧ Hid (d < 4294967296 ∧ val p < (d + 1) * val v ∧ d * val v ≤ val p + val v) ∧ ∃ q, w' = w.drewN q :=
  (guess_any X Y m cx cy p v w hm hm2 hp hv hn hlt).mono fun _ _ ⟨d, h1, h2, h3, h4, h5⟩ => ⟨d, h1, ⟨h2, h3, h4⟩, h5⟩

set_option maxHeartbeats 800000 in
theorem takeOut_any (w0 : World) (g i m C N c cy : Nat) (Y : Option Addr) (pre s v post : List Nat) (w : World) (hg : w0.heap.size ≤ g) (hm1 : 2 ≤ m) (hm : m ≤ 100000) (hN : N ≤ 1000000) (hi : pre.length = i) (hs : s.length = m + 1)
    (hv : Row w0 0 Y m v) (hbel : Below w0.heap.size w0 w) (ho : Own w w0.heap.size (some ⟨g, 0, none⟩) C N (pre ++ s ++ post)) (hn : 2147483648 ≤ dg v (m - 1)) (hlt : val s < val v * 4294967296) :
    Calls Tryz.prog 121 #[.slice (some ⟨g, i, none⟩) (m + 1 : Nat) c, .slice Y m cy] w fun e w' => ∃ (q : Nat) (s' : List Nat), e = .returned (.int .u32 (q : Int)) ∧ Hid (q < 4294967296) ∧ Taken w w0 w' g C N m pre s s' v post q := by
  have hrow := (Row.mid ho hi hs).lower (Nat.zero_le _)
  have HG := Lib.hid (guess_w _ Y m c cy s v w hm1 hm hrow (hv.below hbel) hn hlt)
  have HL := Lib.hid (fun (w1 : World) (d : Nat) (hd : d < 4294967296) (q : Nat) (hw : w1 = w.drewN q) => lessTimes_w w0 g i m C N c cy d Y pre s v post w1 hg hm hN hi hs hd hv (hbel.trans (by rw [hw]; exact below_drewN' _ _ _)) (by rw [hw]; exact ho.drewN q))
  have HA := Lib.hid (fun (w1 w2 : World) (s1 : List Nat) (d : Nat) (bw : Bool) (h : Less w1 w0 w2 g C N m i pre s s1 v post d bw) => addBack_w w0 g i m C N c cy Y pre s1 v post w2 hg hm hN hi h.len hv h.below h.own)
  have HI := Lib.hid hi
  clear ho hrow hbel hv hi hs hn hlt
  go_enter Tryz.func121, Tryz.ntmps121
  go_wp2_with fail
  refine HG.out.mono ?_
  rintro e w1 ⟨d, rfl, HD, q1, hw1⟩
  have HW := Lib.hid hw1
  clear hw1 HG
  go_wp2_with fail
  refine (HL.out _ d HD.out.1 q1 HW.out).mono ?_
  rintro e w2 ⟨bw, s', rfl, hl⟩
  cases bw with
  | false =>
    have HT := Lib.hid ((hl.taken HD.out.2.1).back HW.out)
    clear hl HL HA
    go_wp2
    go_ret
    exact ⟨d, s', rfl, HD.out.1, HT.out⟩
  | true =>
    have h1 := hl.one HI.out
    obtain ⟨e, rfl⟩ : ∃ e, d = e + 1 := ⟨d - 1, by omega⟩
    have h2 : e < 4294967295 := by have := HD.out.1; omega
    have HB := Lib.hid (HA.out _ _ s' _ _ hl)
    have HT := Lib.hid (fun w3 s2 (hb : Back w2 w0 w3 g C N m pre s' s2 v post) => (hb.taken hl HI.out HD.out.2.2).back HW.out)
    clear hl HL HA h1
    go_wp2_with fail
    refine HB.out.mono ?_
    rintro e' w3 ⟨rfl, s2, hb⟩
    have HT2 := Lib.hid (HT.out w3 s2 hb)
    clear hb HT HB
    go_wp2
    go_ret
    exact ⟨e, s2, ret_int (by omega), by show e < 4294967296; omega, HT2.out⟩
end Go.Proofs.YtffnjdfmaebmhaaGreatDoor
