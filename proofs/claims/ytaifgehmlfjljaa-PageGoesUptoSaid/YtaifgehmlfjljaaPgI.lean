/-
  Which pages count, by the document.
-/
import Derived.Test.YtaifgehmlfjljaaPgH
namespace Go.Proofs.Ytaifgehmlfjljaa
set_option maxRecDepth 20000
open Go.RowKit Go.Maps Go.WideMaps

/-- Whether the first switch of a name is on. -/
def onv (its : List SwI) (on : List Bool) (s : ByteArray) : Bool := match pl s its with
  | none => false
  | some p => on[p]?.getD false
theorem relv_on (its : List SwI) (on : List Bool) (s : ByteArray) : relv its on s = if s.toList = [] then true else onv its on s := rfl
theorem pl_drop {s : ByteArray} {its : List SwI} {i : Nat} {x : SwI} (hx : its[i]? = some x) : pl s (its.drop i) = if x.1.2.1.data.toList = s.data.toList then some x.1.1 else pl s (its.drop (i + 1)) := by
  obtain ⟨h, e⟩ := List.getElem?_eq_some_iff.1 hx
  rw [List.drop_eq_getElem_cons h, e]
  rfl
theorem seq_true {x s : ByteArray} (h : x.data.toList = s.data.toList) : (x.toList == s.toList) = true := by
  rw [ByteArray.toList_eq, ByteArray.toList_eq, h]; exact beq_self_eq_true _
theorem seq_false {x s : ByteArray} (h : ¬ x.data.toList = s.data.toList) : (x.toList == s.toList) = false := by
  rw [ByteArray.toList_eq, ByteArray.toList_eq]; exact beq_eq_false_iff_ne.2 h
set_option maxHeartbeats 6400000 in
theorem rOn_c (f : Fv) (its : List SwI) (pg : List (ByteArray × ByteArray)) (O : Option Addr) (on oc : Nat) (ol : List Bool) (s : ByteArray) (w : World) (hf : Frm w f its pg) (ho : Bls w O on ol) (hon : on ≤ 1500000) :
    Calls Try.prog 39 #[.agg #[.slice f.a1 f.n1 f.c1, .slice f.a2 f.n2 f.c2, .slice f.a3 f.n3 f.c3, .slice f.a4 f.n4 f.c4, .slice f.a5 f.n5 f.c5, .slice f.a6 f.n6 f.c6], .slice O on oc, .string s] w fun e w' => e = .returned (.bool (onv its ol s)) ∧ Below w.heap.size w w' := by
  have HB : Hid (Below w.heap.size w (w.alloc (.cells #[.slice f.a1 f.n1 f.c1, .slice f.a2 f.n2 f.c2, .slice f.a3 f.n3 f.c3, .slice f.a4 f.n4 f.c4, .slice f.a5 f.n5 f.c5, .slice f.a6 f.n6 f.c6] 44))) := below_alloc _ _
  have HF := Lib.hid (And.intro (F6.newAt (w := w) f rfl) (And.intro (hf.below HB.out) (ho.below HB.out)))
  have n0 : (0 : Int) ≤ (f.n1 : Int) := by omega
  have n9 : (f.n1 : Int) ≤ 1500000 := by have := hf.n1; omega
  have o0 : (0 : Int) ≤ (on : Int) := by omega
  have HL := Lib.hid (And.intro hf.sw.len ho.len)
  obtain ⟨a0, a1, a2, a3, a4, a5⟩ := HF.out.1.facts
  clear hf ho
  go_enter Try.func39, Try.ntmps39
  go_wp2_with fail
  generalize w.alloc (.cells #[.slice f.a1 f.n1 f.c1, .slice f.a2 f.n2 f.c2, .slice f.a3 f.n3 f.c3, .slice f.a4 f.n4 f.c4, .slice f.a5 f.n5 f.c5, .slice f.a6 f.n6 f.c6] 44) = W at *
  go_loopw [7] (fun iv wr => wr = W ∧ ∃ i : Nat, i ≤ f.n1 ∧ iv = .int .i64 i ∧ Hid (pl s its = pl s (its.drop i))) (fun iv _ => f.n1 - (intOf iv).toNat)
  case atStart => exact ⟨rfl, 0, Nat.zero_le _, rfl, (show pl s its = pl s (its.drop 0) from rfl)⟩
  case round =>
    obtain ⟨hw9, i, hi, rfl, HI⟩ := hrel
    obtain rfl : W = wr := hw9.symm
    have i0 : (0 : Int) ≤ (i : Int) := by omega
    by_cases hlt : i < f.n1
    · have i1 : (i : Int) < (f.n1 : Int) := by omega
      obtain ⟨b, off, ea, hbl, hc⟩ := HF.out.2.1.sw.mem (by omega)
      obtain ⟨x, hx⟩ : ∃ x, its[i]? = some x := ⟨_, List.getElem?_eq_getElem (by rw [HL.out.1]; omega)⟩
      obtain ⟨hxi, c0, c1⟩ := hc i _ hx
      have hd := pl_drop (s := s) hx
      rw [hxi] at hd
      clear hc hx hbl
      rw [ea] at a0
      by_cases hs : x.1.2.1.data.toList = s.data.toList
      · have HV : Hid (onv its ol s = ol[i]?.getD false) := by
          show _ = _; unfold onv; rw [HI.out, hd, if_pos hs]
        have hs2 := seq_true hs
        clear hd
        by_cases hio : i < on
        · have o1 : (i : Int) < (on : Int) := by omega
          obtain ⟨B, of2, rfl, hbl, hc⟩ := HF.out.2.2.mem (by omega)
          obtain ⟨y, hy⟩ : ∃ y, ol[i]? = some y := ⟨_, List.getElem?_eq_getElem (by rw [HL.out.2]; omega)⟩
          have e0 := hc i _ hy
          have HY : Hid (ol[i]?.getD false = y) := by show _ = _; rw [hy]; rfl
          clear hc hbl hy
          cases y with
          | true => go_wp2; go_ret; exact ⟨congrArg (fun b : Bool => Ending.returned (.bool b)) (HV.out.trans HY.out).symm, HB.out⟩
          | false => go_wp2; go_ret; exact ⟨congrArg (fun b : Bool => Ending.returned (.bool b)) (HV.out.trans HY.out).symm, HB.out⟩
        · have o1 : ¬ (i : Int) < (on : Int) := by omega
          have HY : Hid (ol[i]?.getD false = false) := by
            show _ = _; rw [List.getElem?_eq_none (by rw [HL.out.2]; omega)]; rfl
          go_wp2; go_ret; exact ⟨congrArg (fun b : Bool => Ending.returned (.bool b)) (HV.out.trans HY.out).symm, HB.out⟩
      · have HN : Hid (pl s its = pl s (its.drop (i + 1))) := by
          show _ = _; rw [HI.out, hd, if_neg hs]
        have hs2 := seq_false hs
        clear hd
        go_wp2
        go_roundw
        case rel => exact ⟨by first | exact rfl | trivial, i + 1, by omega, by go_num, HN⟩
        case measure => simp [intOf]; omega
    · have i1 : ¬ (i : Int) < (f.n1 : Int) := by omega
      have HV : Hid (onv its ol s = false) := by
        show _ = _; unfold onv; rw [HI.out, List.drop_eq_nil_of_le (by rw [HL.out.1]; omega)]; rfl
      go_wp2
      go_ret
      exact ⟨congrArg (fun b : Bool => Ending.returned (.bool b)) HV.out.symm, HB.out⟩
end Go.Proofs.Ytaifgehmlfjljaa
