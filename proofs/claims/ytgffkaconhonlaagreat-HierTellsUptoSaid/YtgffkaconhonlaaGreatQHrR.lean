/-
  The document's Levels.
-/
import Derived.Test.YtgffkaconhonlaaGreatQHrO
import Derived.Test.YtgffkaconhonlaaGreatQHrJ
namespace Go.Proofs.YtgffkaconhonlaaGreat
set_option maxRecDepth 20000
open Go.RowKit
set_option maxHeartbeats 12800000 in
theorem rLevels_c (N : Nat) (A A' : Option Addr) (m c c' : Nat) (vs : List Kin) (lv : List Rv) (V : List Rat) (w : World) (h : Hns N 150 w A m vs) (hV : Vin N w A' lv V) (hm : m ≤ 1000) :
  Calls Tryz.prog 34 #[.slice A m c, .slice A' N c'] w (LevPost N (ptOf V) vs w) := by
 obtain ⟨i0, hi0, hz0, hz1, hz2⟩ := info_parts Tryz.info3
 have HH := Lib.hid (And.intro h hV)
 have m0 : (0 : Int) ≤ (m : Int) := by omega
 have m1 : (m : Int) ≤ 1000 := by omega
 have N9 : N ≤ 100 := hV.n
 have HLEN : Hid (vs.length = m) := h.len
 clear h hV
 go_enter Tryz.func34, Tryz.ntmps34
 go_wp2_with (at_make; refine wpList_make_full _ rfl _ _ _ rfl w.heap.size 3 i0 (.int .i64 0) 1 Tryz.underlying51 hi0 hz0 hz1 .i64 .i64 _ _ 4 rfl rfl (by first | rfl | omega) (by first | rfl | omega) (by first | omega | (rw [hz2]; omega)) (by unfold maxLen; omega) (Nat.le_refl _) ?_)
 intro w1 ho hg
 have HS0 : Hid (OwnN w1 w.heap.size (some ⟨w.heap.size, 0, none⟩) 4 4 (levN N (ptOf V) (vs.take 0)) ∧ Below w.heap.size w w1) := ⟨OwnN.made ho, below_of_grown hg⟩
 clear ho hg hz0 hz1 hz2 hi0
 go_wp2
 go_loopw [6] (fun iv wr => ∃ i : Nat, i ≤ m ∧ iv = .int .i64 i ∧ Hid (OwnN wr w.heap.size (some ⟨w.heap.size, 0, none⟩) 4 4 (levN N (ptOf V) (vs.take i)) ∧ Below w.heap.size w wr)) (fun iv _ => m - (intOf iv).toNat)
 case atStart => exact ⟨0, Nat.zero_le _, rfl, HS0⟩
 case round =>
  clear HS0
  obtain ⟨i, hi, rfl, HS⟩ := hrel
  have i0 : (0 : Int) ≤ (i : Int) := by omega
  by_cases hlt : i < m
  ·
   have i1 : (i : Int) < (m : Int) := by omega
   have hil : i < vs.length := by rw [HLEN.out]; exact hlt
   obtain ⟨b, off, hA, hbw, hcc⟩ := HH.out.1.kons.mem (by omega)
   have hx := List.getElem?_eq_getElem hil
   have HXI := Lib.hid (HH.out.1.rd _ (List.getElem_mem hil))
   have h5 := hcc i _ (show (vs.map (·.v))[i]? = some vs[i].v by rw [List.getElem?_map, hx]; rfl)
   have HTK : Hid (vs.take (i + 1) = vs.take i ++ [vs[i]]) := by show _ = _; rw [List.take_add_one, hx]; rfl
   generalize vs[i] = x at *
   have H5 : Hid (∀ wz, Below w.heap.size w wz → At5 wz b (off + i * 5) x.v) := fun wz hz => h5.keep (hz.block b hbw)
   obtain ⟨k0, k1, k2, k3, k4⟩ := H5.out _ HS.out.2
   subst hA
   clear hx hcc hbw h5 hil
   go_wp2_with fail
   refine (rIsH_c 150 N x _ rfl N9 wr (HXI.out.below HS.out.2) (by omega)).mono ?_
   rintro e w4 ⟨rfl, hb⟩
   have H4 : Hid (OwnN w4 w.heap.size (some ⟨w.heap.size, 0, none⟩) 4 4 (levN N (ptOf V) (vs.take i)) ∧ Below w.heap.size w w4) := ⟨HS.out.1.below hb, HS.out.2.trans (hb.mono HS.out.2.size)⟩
   clear hb k0 k1 k2 k3 k4 HS
   cases ho : x.ok with
   |
    false =>
    have HN : Hid (OwnN w4 w.heap.size (some ⟨w.heap.size, 0, none⟩) 4 4 (levN N (ptOf V) (vs.take (i + 1))) ∧ Below w.heap.size w w4) := by
     rw [HTK.out, levN_no (.inl (by unfold holB; rw [ho]; rfl))]
     exact H4.out
    clear ho H4
    go_wp2
    go_roundw
    case rel => exact ⟨i + 1, by omega, by go_num, HN⟩
    case measure => simp [intOf]; omega
   |
    true =>
    have HO := Lib.hid ho
    clear ho
    obtain ⟨k0, k1, k2, k3, k4⟩ := H5.out _ H4.out.2
    by_cases hs4 : x.v.s < 4
    ·
     go_wp2_with fail
     refine (rHoldsH_c 150 N x A' c' lv V w4 (HXI.out.below H4.out.2) HO.out (by omega) (HH.out.2.below H4.out.2)).mono ?_
     rintro e w5 ⟨rfl, hb⟩
     have HS5 : Hid (OwnN w5 w.heap.size (some ⟨w.heap.size, 0, none⟩) 4 4 (levN N (ptOf V) (vs.take i)) ∧ Below w.heap.size w w5) := ⟨H4.out.1.below hb, H4.out.2.trans (hb.mono H4.out.2.size)⟩
     clear hb k0 k1 k2 k3 k4 H4
     cases hh : hlB N (ptOf V) x with
     |
      true =>
      have HN : Hid (OwnN w5 w.heap.size (some ⟨w.heap.size, 0, none⟩) 4 4 (levN N (ptOf V) (vs.take (i + 1))) ∧ Below w.heap.size w w5) := by
       rw [HTK.out, levN_no (.inl (by rw [holB_ok HO.out]; exact hh))]
       exact HS5.out
      clear hh HS5
      go_wp2
      go_roundw
      case rel => exact ⟨i + 1, by omega, by go_num, HN⟩
      case measure => simp [intOf]; omega
     |
      false =>
      have hhol : holB N (ptOf V) x = false := by rw [holB_ok HO.out]; exact hh
      obtain ⟨la, hla1, hla2⟩ := HXI.out
      have hs5 : 0 ≤ x.v.s ∧ x.v.s ≤ 4 := (hla2.1 HO.out).1
      have HQ := Lib.hid hhol
      obtain ⟨va, L_, k_, ok_⟩ := x
      obtain ⟨sI, vA, vn, vc, vK⟩ := va
      obtain ⟨q, rfl⟩ : ∃ q : Nat, sI = (q : Int) := ⟨sI.toNat, by have h0 : 0 ≤ sI := hs5.1; omega⟩
      have hq4 : q < 4 := by have h0 : (q : Int) < 4 := hs4; omega
      have q0 : (0 : Int) ≤ (q : Int) := by omega
      have q4 : (q : Int) < 4 := by omega
      clear hh hhol hla1 hla2 hs5 hs4
      have H6 : Hid (At5 w5 b (off + i * 5) ⟨(q : Int), vA, vn, vc, vK⟩) := H5.out _ HS5.out.2
      obtain ⟨k0, k1, k2, k3, k4⟩ := H6.out
      have g0 := HS5.out.1.cell hq4
      have f0 := HS5.out.1.thaw q
      rw [levN_rt hq4] at g0
      have HCN : Hid (lvc N (ptOf V) (vs.take i) q ≤ 1000) := Nat.le_trans (lvc_le _ _ _ _) (by rw [List.length_take]; omega)
      have HN : Hid (OwnN (w5.setCell ⟨w.heap.size, q, none⟩ (.int .i64 ((lvc N (ptOf V) (vs.take i) q + 1 : Nat) : Int))) w.heap.size (some ⟨w.heap.size, 0, none⟩) 4 4 (levN N (ptOf V) (vs.take (i + 1))) ∧ Below w.heap.size w (w5.setCell ⟨w.heap.size, q, none⟩ (.int .i64 ((lvc N (ptOf V) (vs.take i) q + 1 : Nat) : Int)))) := by
       rw [HTK.out, levN_yes HQ.out rfl hq4]
       exact ⟨HS5.out.1.set q _, HS5.out.2.trans (below_of_grown_row (set_grown w5 _ q _) (Nat.le_refl _) HS5.out.2.size)⟩
      generalize lvc N (ptOf V) (vs.take i) q = cn at *
      have n1 : (cn : Int) ≤ 1000 := by have := HCN.out; omega
      have n0 : (0 : Int) ≤ (cn : Int) := by omega
      have e1 : (((cn + 1 : Nat)) : Int) = (cn : Int) + 1 := by omega
      rw [e1] at HN
      clear e1
      go_wp2
      clear k0 k1 k2 k3 k4 g0 f0
      go_roundw
      case rel => exact ⟨i + 1, by omega, by go_num, HN⟩
      case measure => simp [intOf]; omega
    ·
     have HN : Hid (OwnN w4 w.heap.size (some ⟨w.heap.size, 0, none⟩) 4 4 (levN N (ptOf V) (vs.take (i + 1))) ∧ Below w.heap.size w w4) := by
      rw [HTK.out, levN_no (.inr hs4)]
      exact H4.out
     clear H4
     go_wp2
     clear k0 k1 k2 k3 k4
     go_roundw
     case rel => exact ⟨i + 1, by omega, by go_num, HN⟩
     case measure => simp [intOf]; omega
  ·
   have i1 : ¬ (i : Int) < (m : Int) := by omega
   obtain rfl : i = m := by omega
   have HN : Hid (OwnN wr w.heap.size (some ⟨w.heap.size, 0, none⟩) 4 4 (levN N (ptOf V) vs) ∧ Below w.heap.size w wr) := by
    have h1 := HS.out
    rw [List.take_of_length_le (by rw [HLEN.out]; exact Nat.le_refl _)] at h1
    exact h1
   clear HS
   go_wp2
   go_ret
   exact ⟨rfl, HN.out.1, HN.out.2⟩
end Go.Proofs.YtgffkaconhonlaaGreat
