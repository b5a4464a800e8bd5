/-
  The program's Levels.
-/
import Derived.Test.YtgffkaconhonlaaGreatQHrG
import Derived.Test.YtgffkaconhonlaaGreatQHrI
import Derived.OwnWalk
namespace Go.Proofs.YtgffkaconhonlaaGreat
set_option maxRecDepth 20000
open Go.RowKit
def lvc (N : Nat) (p : Nat → Rat) (vs : List Kin) (s : Nat) : Nat := (vs.filter fun x => !holB N p x && decide (x.v.s = (s : Int))).length
def levN (N : Nat) (p : Nat → Rat) (vs : List Kin) : List Nat := (List.range 4).map (lvc N p vs)
theorem lvc_le (N : Nat) (p : Nat → Rat) (vs : List Kin) (s : Nat) : lvc N p vs s ≤ vs.length := by unfold lvc; exact List.length_filter_le ..
theorem levN_len (N : Nat) (p : Nat → Rat) (vs : List Kin) : (levN N p vs).length = 4 := by unfold levN; simp
theorem levN_rt {N : Nat} {p : Nat → Rat} {vs : List Kin} {s : Nat} (h : s < 4) : rt (levN N p vs) s = lvc N p vs s := by
 unfold levN
 rw [rt_eq, List.getElem?_map, List.getElem?_range h]
 rfl
theorem lvc_snoc (N : Nat) (p : Nat → Rat) (vs : List Kin) (x : Kin) (s : Nat) : lvc N p (vs ++ [x]) s = lvc N p vs s + (if holB N p x = false ∧ x.v.s = (s : Int) then 1 else 0) := by
 unfold lvc
 rw [List.filter_append, List.length_append]
 by_cases h : holB N p x = false ∧ x.v.s = (s : Int)
 ·
  rw [if_pos h, List.filter_cons_of_pos (by rw [h.1, decide_eq_true h.2]; rfl)]
  rfl
 ·
  rw [if_neg h, List.filter_cons_of_neg]
  · rfl
  ·
   intro h2
   rw [Bool.and_eq_true] at h2
   exact h ⟨by simpa using h2.1, of_decide_eq_true h2.2⟩
theorem levN_no {N : Nat} {p : Nat → Rat} {vs : List Kin} {x : Kin} (h : holB N p x = true ∨ ¬ x.v.s < 4) : levN N p (vs ++ [x]) = levN N p vs := by
 unfold levN
 refine List.map_congr_left fun s hs => ?_
 have h4 := List.mem_range.1 hs
 rw [lvc_snoc, if_neg, Nat.add_zero]
 rintro ⟨h1, h2⟩
 rcases h with h | h
 · rw [h] at h1; cases h1
 · omega
theorem levN_yes {N : Nat} {p : Nat → Rat} {vs : List Kin} {x : Kin} {q : Nat} (h : holB N p x = false) (hq : x.v.s = (q : Int)) (h4 : q < 4) : levN N p (vs ++ [x]) = (levN N p vs).set q (lvc N p vs q + 1) := by
 refine List.ext_getElem? fun s => ?_
 by_cases e : s = q
 ·
  subst e
  rw [List.getElem?_set_self (by rw [levN_len]; exact h4)]
  unfold levN
  rw [List.getElem?_map, List.getElem?_range h4]
  show some (lvc N p (vs ++ [x]) s) = _
  rw [lvc_snoc, if_pos ⟨h, hq⟩]
 ·
  rw [List.getElem?_set_ne (fun e2 => e e2.symm)]
  unfold levN
  by_cases hs : s < 4
  ·
   rw [List.getElem?_map, List.getElem?_map, List.getElem?_range hs]
   show some (lvc N p (vs ++ [x]) s) = some (lvc N p vs s)
   rw [lvc_snoc, if_neg (fun h2 => e (by have := h2.2; omega)), Nat.add_zero]
  · rw [List.getElem?_eq_none (by simp; omega), List.getElem?_eq_none (by simp; omega)]
def LevPost (N : Nat) (p : Nat → Rat) (vs : List Kin) (w : World) (e : Ending) (w' : World) : Prop :=
 e = .returned (.slice (some ⟨w.heap.size, 0, none⟩) 4 4) ∧ OwnN w' w.heap.size (some ⟨w.heap.size, 0, none⟩) 4 4 (levN N p vs) ∧ Below w.heap.size w w'
set_option maxHeartbeats 12800000 in
theorem Levels_c (s0 N : Nat) (A A' : Option Addr) (m c c' : Nat) (vs : List Kin) (lv : List Rv) (V : List Rat) (w : World) (h : Hns N s0 w A m vs) (hs0 : s0 ≤ 150) (hV : Vin N w A' lv V) (hm : m ≤ 1000) :
  Calls Tryz.prog 33 #[.slice A m c, .slice A' N c'] w (LevPost N (ptOf V) vs w) := by
 obtain ⟨i0, hi0, hz0, hz1, hz2⟩ := info_parts Tryz.info3
 have HH := Lib.hid (And.intro h (And.intro hV hs0))
 have m0 : (0 : Int) ≤ (m : Int) := by omega
 have m1 : (m : Int) ≤ 1000 := by omega
 have HLEN : Hid (vs.length = m) := h.len
 clear h hV hs0
 go_enter Tryz.func33, Tryz.ntmps33
 go_wp2_with (at_make; refine wpList_make_full _ rfl _ _ _ rfl w.heap.size 3 i0 (.int .i64 0) 1 Tryz.underlying51 hi0 hz0 hz1 .i64 .i64 _ _ 4 rfl rfl (by first | rfl | omega) (by first | rfl | omega) (by first | omega | (rw [hz2]; omega)) (by unfold maxLen; omega) (Nat.le_refl _) ?_)
 intro w1 ho hg
 have HS0 : Hid (OwnN w1 w.heap.size (some ⟨w.heap.size, 0, none⟩) 4 4 (levN N (ptOf V) (vs.take 0)) ∧ Below w.heap.size w w1) := ⟨OwnN.made ho, below_of_grown hg⟩
 clear ho hg hz0 hz1 hz2 hi0
 go_wp2
 go_loopw [7, 11] (fun _ iv wr => ∃ i : Nat, i ≤ m ∧ iv = .int .i64 i ∧ Hid (OwnN wr w.heap.size (some ⟨w.heap.size, 0, none⟩) 4 4 (levN N (ptOf V) (vs.take i)) ∧ Below w.heap.size w wr)) (fun _ iv _ => m - (intOf iv).toNat)
 case atStart => exact ⟨0, Nat.zero_le _, rfl, HS0⟩
 case round =>
  clear HS0
  obtain ⟨i, hi, rfl, HS⟩ := hrel
  have i0 : (0 : Int) ≤ (i : Int) := by omega
  by_cases hlt : i < m
  ·
   have i1 : (i : Int) < (m : Int) := by omega
   have hil : i < vs.length := by rw [HLEN.out]; exact hlt
   obtain ⟨b, off, hA, hbw, hcc⟩ := HH.out.1.kons.mem (by omega)
   have hx := List.getElem?_eq_getElem hil
   have HXI := Lib.hid (HH.out.1.rd _ (List.getElem_mem hil))
   have h5 := hcc i _ (show (vs.map (·.v))[i]? = some vs[i].v by rw [List.getElem?_map, hx]; rfl)
   have HTK : Hid (vs.take (i + 1) = vs.take i ++ [vs[i]]) := by show _ = _; rw [List.take_add_one, hx]; rfl
   generalize vs[i] = x at *
   obtain ⟨k0, k1, k2, k3, k4⟩ := h5.keep (HS.out.2.block b hbw)
   subst hA
   clear hx hcc hbw h5 hil
   go_upto_region 5 with fail
   clear k0 k1 k2 k3 k4
   have HY0 : Hid (C5 (wr.alloc (.cells #[.int .i64 x.v.s, .slice x.v.A x.v.n x.v.c, .bool x.v.K.s, .slice x.v.K.A x.v.K.n x.v.K.c, .slice x.v.K.B x.v.K.m x.v.K.d] 28)) wr.heap.size (.int .i64 x.v.s) (.slice x.v.A x.v.n x.v.c) (.bool x.v.K.s) (.slice x.v.K.A x.v.K.n x.v.K.c) (.slice x.v.K.B x.v.K.m x.v.K.d) ∧ Below wr.heap.size wr (wr.alloc (.cells #[.int .i64 x.v.s, .slice x.v.A x.v.n x.v.c, .bool x.v.K.s, .slice x.v.K.A x.v.K.n x.v.K.c, .slice x.v.K.B x.v.K.m x.v.K.d] 28))) := ⟨C5.new wr (.int .i64 x.v.s) (.slice x.v.A x.v.n x.v.c) (.bool x.v.K.s) (.slice x.v.K.A x.v.K.n x.v.K.c) (.slice x.v.K.B x.v.K.m x.v.K.d), (Below.refl _ _).alloc (Nat.le_refl _) _⟩
   generalize wr.alloc (.cells #[.int .i64 x.v.s, .slice x.v.A x.v.n x.v.c, .bool x.v.K.s, .slice x.v.K.A x.v.K.n x.v.K.c, .slice x.v.K.B x.v.K.m x.v.K.d] 28) = wa at *
   have HWA : Hid (OwnN wa w.heap.size (some ⟨w.heap.size, 0, none⟩) 4 4 (levN N (ptOf V) (vs.take i)) ∧ Below w.heap.size w wa ∧ C5 wa wr.heap.size (.int .i64 x.v.s) (.slice x.v.A x.v.n x.v.c) (.bool x.v.K.s) (.slice x.v.K.A x.v.K.n x.v.K.c) (.slice x.v.K.B x.v.K.m x.v.K.d)) := ⟨HS.out.1.below HY0.out.2, HS.out.2.trans (HY0.out.2.mono HS.out.2.size), HY0.out.1⟩
   generalize wr.heap.size = Y at *
   clear HY0 HS
   obtain ⟨k0, k1, k2, k3, k4⟩ := HWA.out.2.2.facts
   by_cases hs4 : x.v.s < 4
   ·
    go_wp2_with fail
    refine (holds_c s0 N x A' c' lv V wa (HXI.out.below HWA.out.2.1) HH.out.2.2 (HH.out.2.1.below HWA.out.2.1)).mono ?_
    rintro e w5 ⟨rfl, hb5⟩
    have HS5 : Hid (OwnN w5 w.heap.size (some ⟨w.heap.size, 0, none⟩) 4 4 (levN N (ptOf V) (vs.take i)) ∧ Below w.heap.size w w5 ∧ C5 w5 Y (.int .i64 x.v.s) (.slice x.v.A x.v.n x.v.c) (.bool x.v.K.s) (.slice x.v.K.A x.v.K.n x.v.K.c) (.slice x.v.K.B x.v.K.m x.v.K.d)) := ⟨HWA.out.1.below hb5, HWA.out.2.1.trans (hb5.mono HWA.out.2.1.size), HWA.out.2.2.below hb5⟩
    clear k0 k1 k2 k3 k4 hb5 HWA
    by_cases hq : holB N (ptOf V) x = true
    ·
     have HN : Hid (OwnN w5 w.heap.size (some ⟨w.heap.size, 0, none⟩) 4 4 (levN N (ptOf V) (vs.take (i + 1))) ∧ Below w.heap.size w w5) := by
      rw [HTK.out, levN_no (.inl hq)]
      exact ⟨HS5.out.1, HS5.out.2.1⟩
     rw [hq]
     clear hq HS5
     go_wp2
     go_roundw
     case rel => exact ⟨i + 1, by omega, by go_num, HN⟩
     case measure => simp [intOf]; omega
    ·
     have hq' : holB N (ptOf V) x = false := by simpa using hq
     obtain ⟨la, hla1, hla2⟩ := HXI.out
     have hs5 : 0 ≤ x.v.s ∧ x.v.s ≤ 4 := (hla2.1 (holB_no hq').1).1
     have HQ := Lib.hid hq'
     obtain ⟨va, L_, k_, ok_⟩ := x
     obtain ⟨sI, vA, vn, vc, vK⟩ := va
     obtain ⟨q, rfl⟩ : ∃ q : Nat, sI = (q : Int) := ⟨sI.toNat, by have h0 : 0 ≤ sI := hs5.1; omega⟩
     have hq4 : q < 4 := by have h0 : (q : Int) < 4 := hs4; omega
     have q0 : (0 : Int) ≤ (q : Int) := by omega
     have q4 : (q : Int) < 4 := by omega
     rw [hq']
     clear hq hq' hla1 hla2 hs5
     have HS6 : Hid (OwnN w5 w.heap.size (some ⟨w.heap.size, 0, none⟩) 4 4 (levN N (ptOf V) (vs.take i)) ∧ Below w.heap.size w w5 ∧ C5 w5 Y (.int .i64 (q : Int)) (.slice vA vn vc) (.bool vK.s) (.slice vK.A vK.n vK.c) (.slice vK.B vK.m vK.d)) := HS5.out
     clear HS5 hs4
     obtain ⟨k0, k1, k2, k3, k4⟩ := HS6.out.2.2.facts
     have g0 := HS6.out.1.cell hq4
     have f0 := HS6.out.1.thaw q
     rw [levN_rt hq4] at g0
     have HCN : Hid (lvc N (ptOf V) (vs.take i) q ≤ 1000) := Nat.le_trans (lvc_le _ _ _ _) (by rw [List.length_take]; omega)
     have HN : Hid (OwnN (w5.setCell ⟨w.heap.size, q, none⟩ (.int .i64 ((lvc N (ptOf V) (vs.take i) q + 1 : Nat) : Int))) w.heap.size (some ⟨w.heap.size, 0, none⟩) 4 4 (levN N (ptOf V) (vs.take (i + 1))) ∧ Below w.heap.size w (w5.setCell ⟨w.heap.size, q, none⟩ (.int .i64 ((lvc N (ptOf V) (vs.take i) q + 1 : Nat) : Int)))) := by
      rw [HTK.out, levN_yes HQ.out rfl hq4]
      exact ⟨HS6.out.1.set q _, HS6.out.2.1.trans (below_of_grown_row (set_grown w5 _ q _) (Nat.le_refl _) HS6.out.2.1.size)⟩
     generalize lvc N (ptOf V) (vs.take i) q = cn at *
     have n1 : (cn : Int) ≤ 1000 := by have := HCN.out; omega
     have n0 : (0 : Int) ≤ (cn : Int) := by omega
     have e1 : (((cn + 1 : Nat)) : Int) = (cn : Int) + 1 := by omega
     rw [e1] at HN
     clear e1
     go_wp2
     clear k0 k1 k2 k3 k4 g0 f0
     go_roundw
     case rel => exact ⟨i + 1, by omega, by go_num, HN⟩
     case measure => simp [intOf]; omega
   ·
    have HN : Hid (OwnN wa w.heap.size (some ⟨w.heap.size, 0, none⟩) 4 4 (levN N (ptOf V) (vs.take (i + 1))) ∧ Below w.heap.size w wa) := by
     rw [HTK.out, levN_no (.inr hs4)]
     exact ⟨HWA.out.1, HWA.out.2.1⟩
    clear HWA
    go_wp2
    clear k0 k1 k2 k3 k4
    go_roundw
    case rel => exact ⟨i + 1, by omega, by go_num, HN⟩
    case measure => simp [intOf]; omega
  ·
   have i1 : ¬ (i : Int) < (m : Int) := by omega
   obtain rfl : i = m := by omega
   have HN : Hid (OwnN wr w.heap.size (some ⟨w.heap.size, 0, none⟩) 4 4 (levN N (ptOf V) vs) ∧ Below w.heap.size w wr) := by
    have h1 := HS.out
    rw [List.take_of_length_le (by rw [HLEN.out]; exact Nat.le_refl _)] at h1
    exact h1
   clear HS
   go_wp2
   go_ret
   exact ⟨rfl, HN.out.1, HN.out.2⟩
end Go.Proofs.YtgffkaconhonlaaGreat
