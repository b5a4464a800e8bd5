/-
  Expressions as texts: what a Builder holds; rows; signs.
  Expressions as texts: the program's own Print.
  Expressions as texts: Print; the brackets that are needed.
  The brackets that are needed, called; the document's Same of two that are one.
  The document's Same: two that read as one tree are one.
  How deep a tree is: the program's own Depth.
-/
import Derived.Test.YtcmkgoikmleanaaGreatDoorMEc
import Derived.Test.YtcmkgoikmleanaaGreatDoorShelfW
import Derived.Test.YtcmkgoikmleanaaGreatDoorMDc
import Derived.Test.YtcmkgoikmleanaaGreatDoorMRs
import Derived.Deep.RegionHeld3
namespace Go.Proofs.YtcmkgoikmleanaaGreatDoor
set_option maxRecDepth 20000
open Go.RowKit

def Ex.row : Ex → Nat
  | .bin k _ _ => if k = 3 ∨ k = 4 then 1 else 2
  | .neg _ => 3
  | _ => 4
def sgnK (k : Nat) : List UInt8 := if k = 3 then [32, 43, 32] else if k = 4 then [32, 45, 32] else if k = 5 then [32, 42, 32] else [32, 47, 32]
noncomputable def dxt (r : Rat) : List UInt8 := open Classical in if h : ∃ F, ExW F true r then h.choose.data.toList else []
/-- A kid at a place that asks for a row. -/
def wrapK (n k : Nat) (l : List UInt8) : List UInt8 := if n ≤ k then l else 40 :: (l ++ [41])
noncomputable def Ex.pr : Ex → List UInt8
  | .bad => []
  | .num r => dxt r
  | .nm s => s.data.toList
  | .neg a => 45 :: wrapK 3 a.row a.pr
  | .bin k a b => wrapK (if k = 3 ∨ k = 4 then 1 else 2) a.row a.pr ++ sgnK k ++ wrapK ((if k = 3 ∨ k = 4 then 1 else 2) + 1) b.row b.pr
theorem dxt_of {r : Rat} (h : NumOk r) : ∃ F : ByteArray, ExW F true r ∧ F.data.toList = dxt r := by
  have h' := h.2.2.2
  unfold dxt
  rw [dif_pos h']
  exact ⟨_, h'.choose_spec, rfl⟩
/-- What a Builder holds, over a world that stands as it stood below it. -/
def WR (w0 w : World) (l : List UInt8) : Prop := Lib.IsBuilderF 47 5 w0.heap.size w0.heap.size (Lib.byteCells l) w ∧ Below w0.heap.size w0 w
def Oth (w0 w w' : World) : Prop := Lib.OthersKept 5 (some w0.heap.size) w w'
theorem ownsRowF_below {w w' : World} {B : Nat} {e : TypeId} {v : Value} {n : Nat} {xs : List Value} (h : w.ownsRowF B e 1 v n xs) (hb : Below w.heap.size w w') : w'.ownsRowF B e 1 v n xs := by
  refine ⟨h.1, ?_⟩
  rcases h.2 with hn | ⟨g, cap, cur, fz, hv, hB, hg, rest⟩
  · exact .inl hn
  · refine .inr ⟨g, cap, cur, fz, hv, hB, (hb.block g ?_).trans hg, rest⟩
    rcases Nat.lt_or_ge g w.heap.size with h1 | h1
    · exact h1
    · rw [Array.getElem?_eq_none h1] at hg; cases hg
theorem BuilderAtF_below {T e : TypeId} {B b : Nat} {p : Value} {bs : List Value} {w w' : World} (h : Lib.BuilderAtF T e B b p bs w) (hb : Below w.heap.size w w') : Lib.BuilderAtF T e B b p bs w' := by
  have hlt := h.lt
  obtain ⟨hB, v, hc, ho, hne⟩ := h
  exact ⟨hB, v, (hb.block b hlt).trans hc, ownsRowF_below ho hb, hne⟩
theorem WR.below {w0 w w' : World} {l : List UInt8} (h : WR w0 w l) (hb : Below w.heap.size w w') : WR w0 w' l := by
  refine ⟨?_, h.2.trans (hb.mono h.2.size)⟩
  rcases h.1 with h1 | h1
  · exact .inl (BuilderAtF_below h1 hb)
  · exact .inr (BuilderAtF_below h1 hb)
theorem WR.lt {w0 w : World} {l : List UInt8} (h : WR w0 w l) : w0.heap.size < w.heap.size := by
  rcases h.1 with h1 | h1
  · exact h1.lt
  · exact h1.lt
theorem WR.alloc {w0 w : World} {l : List UInt8} (h : WR w0 w l) (o : Obj) : WR w0 (w.alloc o) l := h.below ((Below.refl _ _).alloc (Nat.le_refl _) o)
theorem Oth.refl (w0 w : World) : Oth w0 w w := fun _ _ h _ _ => h
theorem Oth.trans {w0 a b c : World} (h : Oth w0 a b) (k : Oth w0 b c) : Oth w0 a c := Lib.OthersKept.trans h k
theorem Oth.below {w0 a b c : World} (h : Oth w0 a b) (hb : Below b.heap.size b c) : Oth w0 a c := by
  refine h.trans fun k o hk _ _ => (hb.block k ?_).trans hk
  rcases Nat.lt_or_ge k b.heap.size with h1 | h1
  · exact h1
  · rw [Array.getElem?_eq_none h1] at hk; cases hk
theorem Oth.alloc {w0 a b : World} (h : Oth w0 a b) (o : Obj) : Oth w0 a (b.alloc o) := Lib.OthersKept.alloc h o
theorem C6.oth {w0 w w' : World} {b : Nat} {x0 x1 x2 x3 x4 x5 : Value} (h : C6 w b x0 x1 x2 x3 x4 x5) (ho : Oth w0 w w') (hb : b ≠ w0.heap.size) : C6 w' b x0 x1 x2 x3 x4 x5 :=
  ho b _ h (fun e => hb (Option.some.inj e)) (fun c fz e => by injection e with e1 e2; exact absurd e2 (by decide))
theorem WriteString_c (s : ByteArray) (w0 w : World) (l : List UInt8) (h : WR w0 w l) (hl : l.length + s.size ≤ 100000000) :
    Calls Tryz.prog 35 #[.pointer (some ⟨w0.heap.size, 0, none⟩), .string s] w fun e w' => e = .returned (.tuple #[.int .i64 s.size, .nilIface]) ∧ WR w0 w' (l ++ s.data.toList) ∧ Oth w0 w w' := by
  refine (Tryz.Builder_WriteString_k w0.heap.size w0.heap.size (Lib.byteCells l) s w h.1 ?_ h.2.size).mono ?_
  · have : (Lib.byteCells l).length = l.length := by simp [Lib.byteCells]
    omega
  · rintro e w' ⟨rfl, h1, h2, h3⟩
    refine ⟨rfl, ⟨.inr ?_, h.2.trans h2⟩, h3⟩
    have e1 : Lib.byteCells (l ++ s.data.toList) = Lib.byteCells l ++ Lib.strCells s := by simp [Lib.byteCells, Lib.strCells]
    rw [e1]; exact h1
end Go.Proofs.YtcmkgoikmleanaaGreatDoor

namespace Go.Proofs.YtcmkgoikmleanaaGreatDoor
set_option maxRecDepth 20000
open Go.RowKit

theorem rowOf1 (w : World) : Calls Tryz.prog 37 #[.int .i64 1] w fun e w' => e = .returned (.int .i64 4) ∧ w = w' := by
  go_enter Tryz.func37, Tryz.ntmps37
  go_wp2
  go_ret
  exact ⟨rfl, rfl⟩
theorem rowOf2 (w : World) : Calls Tryz.prog 37 #[.int .i64 2] w fun e w' => e = .returned (.int .i64 4) ∧ w = w' := by
  go_enter Tryz.func37, Tryz.ntmps37
  go_wp2
  go_ret
  exact ⟨rfl, rfl⟩
theorem rowOf3 (w : World) : Calls Tryz.prog 37 #[.int .i64 3] w fun e w' => e = .returned (.int .i64 1) ∧ w = w' := by
  go_enter Tryz.func37, Tryz.ntmps37
  go_wp2
  go_ret
  exact ⟨rfl, rfl⟩
theorem rowOf4 (w : World) : Calls Tryz.prog 37 #[.int .i64 4] w fun e w' => e = .returned (.int .i64 1) ∧ w = w' := by
  go_enter Tryz.func37, Tryz.ntmps37
  go_wp2
  go_ret
  exact ⟨rfl, rfl⟩
theorem rowOf5 (w : World) : Calls Tryz.prog 37 #[.int .i64 5] w fun e w' => e = .returned (.int .i64 2) ∧ w = w' := by
  go_enter Tryz.func37, Tryz.ntmps37
  go_wp2
  go_ret
  exact ⟨rfl, rfl⟩
theorem rowOf6 (w : World) : Calls Tryz.prog 37 #[.int .i64 6] w fun e w' => e = .returned (.int .i64 2) ∧ w = w' := by
  go_enter Tryz.func37, Tryz.ntmps37
  go_wp2
  go_ret
  exact ⟨rfl, rfl⟩
theorem rowOf7 (w : World) : Calls Tryz.prog 37 #[.int .i64 7] w fun e w' => e = .returned (.int .i64 3) ∧ w = w' := by
  go_enter Tryz.func37, Tryz.ntmps37
  go_wp2
  go_ret
  exact ⟨rfl, rfl⟩
theorem signOf3 (w : World) : Calls Tryz.prog 38 #[.int .i64 3] w fun e w' => e = .returned (.string ⟨#[32, 43, 32]⟩) ∧ w = w' := by
  go_enter Tryz.func38, Tryz.ntmps38
  go_wp2
  go_ret
  exact ⟨rfl, rfl⟩
theorem signOf4 (w : World) : Calls Tryz.prog 38 #[.int .i64 4] w fun e w' => e = .returned (.string ⟨#[32, 45, 32]⟩) ∧ w = w' := by
  go_enter Tryz.func38, Tryz.ntmps38
  go_wp2
  go_ret
  exact ⟨rfl, rfl⟩
theorem signOf5 (w : World) : Calls Tryz.prog 38 #[.int .i64 5] w fun e w' => e = .returned (.string ⟨#[32, 42, 32]⟩) ∧ w = w' := by
  go_enter Tryz.func38, Tryz.ntmps38
  go_wp2
  go_ret
  exact ⟨rfl, rfl⟩
theorem signOf6 (w : World) : Calls Tryz.prog 38 #[.int .i64 6] w fun e w' => e = .returned (.string ⟨#[32, 47, 32]⟩) ∧ w = w' := by
  go_enter Tryz.func38, Tryz.ntmps38
  go_wp2
  go_ret
  exact ⟨rfl, rfl⟩

theorem rowOf_c {w0 : World} {P : Nat → Prop} (t : Ex) (v : Ev) (w : World) (hw : t.wf) (hf : t.fine) (hv : Tw w0 P t v) : Calls Tryz.prog 37 #[.int .i64 v.k] w fun e w' => e = .returned (.int .i64 (t.row : Nat)) ∧ w = w' := by
  cases t with
  | bad => exact hf.elim
  | num r => obtain ⟨hv, _⟩ := hv; rw [hv]; exact rowOf1 w
  | nm s => have hv' : v = ⟨2, Rz, s, none, 0, 0⟩ := hv; rw [hv']; exact rowOf2 w
  | bin k a b =>
    obtain ⟨b0, x, y, rfl, _⟩ := hv
    rcases hw.1 with rfl | rfl | rfl | rfl
    · exact rowOf3 w
    · exact rowOf4 w
    · exact rowOf5 w
    · exact rowOf6 w
  | neg a => obtain ⟨b0, x, rfl, _⟩ := hv; exact rowOf7 w

/-- What is written. -/
def WP (w0 w : World) (l m : List UInt8) (e : Ending) (w' : World) : Prop := e = .returned (.tuple #[]) ∧ WR w0 w' (l ++ m) ∧ Oth w0 w w'
def Writes (w0 : World) (t : Ex) (v : Ev) : Prop := ∀ (w : World) (l : List UInt8), WR w0 w l → l.length + t.pr.length ≤ 10000000 →
  Calls Tryz.prog 20 #[.pointer (some ⟨w0.heap.size, 0, none⟩), .agg #[.int .i64 v.k, .bool v.r.s, .slice v.r.A v.r.n v.r.c, .slice v.r.B v.r.m v.r.d, .string v.s, .slice v.K v.n v.c]] w (WP w0 w l t.pr)
set_option maxHeartbeats 1600000 in
theorem writeKid_c {w0 : World} {P : Nat → Prop} (t : Ex) (v : Ev) (n : Nat) (hw : t.wf) (hf : t.fine) (hv : Tw w0 P t v) (HW : Hid (Writes w0 t v)) (_ : n ≤ 4) (w : World) (l : List UInt8) (h : WR w0 w l) (hl : l.length + (wrapK n t.row t.pr).length ≤ 10000000) :
    Calls Tryz.prog 36 #[.pointer (some ⟨w0.heap.size, 0, none⟩), .agg #[.int .i64 v.k, .bool v.r.s, .slice v.r.A v.r.n v.r.c, .slice v.r.B v.r.m v.r.d, .string v.s, .slice v.K v.n v.c], .int .i64 n] w (WP w0 w l (wrapK n t.row t.pr)) := by
  have h' := h.alloc (.cells #[.int .i64 v.k, .bool v.r.s, .slice v.r.A v.r.n v.r.c, .slice v.r.B v.r.m v.r.d, .string v.s, .slice v.K v.n v.c] 27)
  have ho := (Oth.refl w0 w).alloc (.cells #[.int .i64 v.k, .bool v.r.s, .slice v.r.A v.r.n v.r.c, .slice v.r.B v.r.m v.r.d, .string v.s, .slice v.K v.n v.c] 27)
  have k_e := C6.new w (.int .i64 v.k) (.bool v.r.s) (.slice v.r.A v.r.n v.r.c) (.slice v.r.B v.r.m v.r.d) (.string v.s) (.slice v.K v.n v.c)
  have hz := h.lt
  have HRW := Lib.hid (fun w => rowOf_c t v w hw hf hv)
  have hrow : t.row ≤ 4 := by unfold Ex.row; split <;> (try split) <;> omega
  obtain ⟨e0, e1, e2, e3, e4, e5⟩ := k_e.facts
  go_enter Tryz.func36, Tryz.ntmps36
  by_cases hc : n ≤ t.row
  · have hwr : wrapK n t.row t.pr = t.pr := if_pos hc
    rw [hwr] at hl ⊢
    have i1 : (n : Int) ≤ (t.row : Int) := by omega
    clear hc hwr
    generalize t.row = rr at *
    go_wp2_with fail
    refine (HRW.out _).mono ?_
    rintro e w1 ⟨rfl, rfl⟩
    go_wp2_with fail
    refine (HW.out _ l h' hl).mono ?_
    rintro e w2 ⟨rfl, h2, ho2⟩
    go_wp2
    go_end0
    exact ⟨rfl, h2, ho.trans ho2⟩
  · have hwr : wrapK n t.row t.pr = 40 :: (t.pr ++ [41]) := if_neg hc
    rw [hwr] at hl ⊢
    simp only [List.length_cons, List.length_append, List.length_nil] at hl
    have i1 : ¬ (n : Int) ≤ (t.row : Int) := by omega
    clear hc hwr
    generalize t.row = rr at *
    go_wp2_with fail
    refine (HRW.out _).mono ?_
    rintro e w1 ⟨rfl, rfl⟩
    go_wp2_with fail
    refine (WriteString_c ⟨#[40]⟩ w0 _ l h' (by show l.length + 1 ≤ _; omega)).mono ?_
    rintro e w2 ⟨rfl, h2, ho2⟩
    replace k_e := k_e.oth ho2 (by omega)
    replace ho := ho.trans ho2
    clear e0 e1 e2 e3 e4 e5 ho2
    obtain ⟨e0, e1, e2, e3, e4, e5⟩ := k_e.facts
    go_wp2_with fail
    refine (HW.out _ _ h2 (by simp only [List.length_append]; show l.length + 1 + _ ≤ _; omega)).mono ?_
    rintro e w3 ⟨rfl, h3, ho3⟩
    replace ho := ho.trans ho3
    clear e0 e1 e2 e3 e4 e5
    go_wp2_with fail
    refine (WriteString_c ⟨#[41]⟩ w0 _ _ h3 (by simp only [List.length_append]; show l.length + 1 + _ + 1 ≤ _; omega)).mono ?_
    rintro e w4 ⟨rfl, h4, ho4⟩
    go_wp2
    go_end0
    refine ⟨rfl, ?_, ho.trans ho4⟩
    have e1 : l ++ (⟨#[40]⟩ : ByteArray).data.toList ++ t.pr ++ (⟨#[41]⟩ : ByteArray).data.toList = l ++ 40 :: (t.pr ++ [41]) := by
      show l ++ [40] ++ t.pr ++ [41] = _
      simp
    rw [e1] at h4
    exact h4

set_option maxHeartbeats 1600000 in
theorem write_num {w0 : World} (y : Rv) (r : Rat) (hy : Rt w0 0 y r) (hr : NumOk r) (ht : Tb w0) (w : World) (l : List UInt8) (h : WR w0 w l) (hl : l.length + (dxt r).length ≤ 10000000) :
    Calls Tryz.prog 20 #[.pointer (some ⟨w0.heap.size, 0, none⟩), .agg #[.int .i64 1, .bool y.s, .slice y.A y.n y.c, .slice y.B y.m y.d, .string ⟨#[]⟩, .slice none 0 0]] w (WP w0 w l (dxt r)) := by
  obtain ⟨G, hE, hG⟩ := dxt_of hr
  have HE := Lib.hid hE
  have hsz : Sz r 16 := ⟨Bd.ofL hr.1, Bd.ofL hr.2.1⟩
  have hyw := ((hy.rw hsz).more (show 16 ≤ 400 by omega))
  have hgs : G.size = (dxt r).length := by rw [← hG, data_size]
  clear hE hsz
  have h' := h.alloc (.cells #[.int .i64 1, .bool y.s, .slice y.A y.n y.c, .slice y.B y.m y.d, .string ⟨#[]⟩, .slice none 0 0] 27)
  have ho := (Oth.refl w0 w).alloc (.cells #[.int .i64 1, .bool y.s, .slice y.A y.n y.c, .slice y.B y.m y.d, .string ⟨#[]⟩, .slice none 0 0] 27)
  have k_e := C6.new w (.int .i64 1) (.bool y.s) (.slice y.A y.n y.c) (.slice y.B y.m y.d) (.string ⟨#[]⟩) (.slice none 0 0)
  have hz := h.lt
  obtain ⟨e0, e1, e2, e3, e4, e5⟩ := k_e.facts
  replace hyw := hyw.below (h'.2)
  replace ht := ht.below (h'.2)
  go_enter Tryz.func20, Tryz.ntmps20
  go_wp2_with fail
  refine (dExact_v G true y r _ HE.out hyw ht).mono ?_
  rintro e w1 ⟨rfl, hb⟩
  replace h' := h'.below hb
  replace ho := ho.below hb
  clear e0 e1 e2 e3 e4 e5
  go_wp2_with fail
  refine (WriteString_c G w0 _ l h' (by omega)).mono ?_
  rintro e w2 ⟨rfl, h2, ho2⟩
  rw [hG] at h2
  go_wp2
  go_end0
  exact ⟨rfl, h2, ho.trans ho2⟩

set_option maxHeartbeats 1600000 in
theorem write_nm {w0 : World} (s : ByteArray) (w : World) (l : List UInt8) (h : WR w0 w l) (hl : l.length + s.data.toList.length ≤ 10000000) :
    Calls Tryz.prog 20 #[.pointer (some ⟨w0.heap.size, 0, none⟩), .agg #[.int .i64 2, .bool false, .slice none 0 0, .slice none 0 0, .string s, .slice none 0 0]] w (WP w0 w l s.data.toList) := by
  rw [data_size] at hl
  have h' := h.alloc (.cells #[.int .i64 2, .bool false, .slice none 0 0, .slice none 0 0, .string s, .slice none 0 0] 27)
  have ho := (Oth.refl w0 w).alloc (.cells #[.int .i64 2, .bool false, .slice none 0 0, .slice none 0 0, .string s, .slice none 0 0] 27)
  have k_e := C6.new w (.int .i64 2) (.bool false) (.slice none 0 0) (.slice none 0 0) (.string s) (.slice none 0 0)
  have hz := h.lt
  obtain ⟨e0, e1, e2, e3, e4, e5⟩ := k_e.facts
  go_enter Tryz.func20, Tryz.ntmps20
  go_wp2_with fail
  refine (WriteString_c s w0 _ l h' (by omega)).mono ?_
  rintro e w2 ⟨rfl, h2, ho2⟩
  go_wp2
  go_end0
  exact ⟨rfl, h2, ho.trans ho2⟩

set_option maxHeartbeats 3200000 in
theorem write_neg {w0 : World} {P : Nat → Prop} (a : Ex) (x : Ev) (b0 : Nat) (hb0 : b0 < w0.heap.size) (hx : At6 w0 b0 0 x) (hw : a.wf) (hf : a.fine) (hv : Tw w0 P a x) (HW : Hid (Writes w0 a x)) (w : World) (l : List UInt8) (h : WR w0 w l) (hl : l.length + (45 :: wrapK 3 a.row a.pr).length ≤ 10000000) :
    Calls Tryz.prog 20 #[.pointer (some ⟨w0.heap.size, 0, none⟩), .agg #[.int .i64 7, .bool false, .slice none 0 0, .slice none 0 0, .string ⟨#[]⟩, .slice (some ⟨b0, 0, none⟩) 1 1]] w (WP w0 w l (45 :: wrapK 3 a.row a.pr)) := by
  simp only [List.length_cons] at hl
  have h' := h.alloc (.cells #[.int .i64 7, .bool false, .slice none 0 0, .slice none 0 0, .string ⟨#[]⟩, .slice (some ⟨b0, 0, none⟩) 1 1] 27)
  have ho := (Oth.refl w0 w).alloc (.cells #[.int .i64 7, .bool false, .slice none 0 0, .slice none 0 0, .string ⟨#[]⟩, .slice (some ⟨b0, 0, none⟩) 1 1] 27)
  have k_e := C6.new w (.int .i64 7) (.bool false) (.slice none 0 0) (.slice none 0 0) (.string ⟨#[]⟩) (.slice (some ⟨b0, 0, none⟩) 1 1)
  have hz := h.lt
  obtain ⟨e0, e1, e2, e3, e4, e5⟩ := k_e.facts
  go_enter Tryz.func20, Tryz.ntmps20
  go_wp2_with fail
  refine (WriteString_c ⟨#[45]⟩ w0 _ l h' (by show l.length + 1 ≤ _; omega)).mono ?_
  rintro e w1 ⟨rfl, h1, ho1⟩
  replace k_e := k_e.oth ho1 (by omega)
  replace ho := ho.trans ho1
  clear e0 e1 e2 e3 e4 e5 ho1
  obtain ⟨e0, e1, e2, e3, e4, e5⟩ := k_e.facts
  obtain ⟨y0, y1, y2, y3, y4, y5⟩ := hx.keep (h1.2.block b0 hb0)
  go_wp2_with fail
  refine (writeKid_c a x 3 hw hf hv HW (by omega) _ _ h1 (by simp only [List.length_append]; show l.length + 1 + _ ≤ _; omega)).mono ?_
  rintro e w2 ⟨rfl, h2, ho2⟩
  go_wp2
  go_end0
  refine ⟨rfl, ?_, ho.trans ho2⟩
  have e1 : l ++ (⟨#[45]⟩ : ByteArray).data.toList ++ wrapK 3 a.row a.pr = l ++ 45 :: wrapK 3 a.row a.pr := by
    show l ++ [45] ++ _ = _
    simp
  rw [e1] at h2
  exact h2

set_option maxHeartbeats 6400000 in
theorem write_bin3 {w0 : World} {P : Nat → Prop} (a b : Ex) (x y : Ev) (b0 : Nat) (hb0 : b0 < w0.heap.size) (hx : At6 w0 b0 0 x) (hy : At6 w0 b0 6 y) (wa : a.wf) (wb : b.wf) (fa : a.fine) (fb : b.fine) (ha : Tw w0 P a x) (hb : Tw w0 P b y) (HA : Hid (Writes w0 a x)) (HB : Hid (Writes w0 b y))
    (w : World) (l : List UInt8) (h : WR w0 w l) (hl : l.length + (wrapK 1 a.row a.pr ++ [32, 43, 32] ++ wrapK 2 b.row b.pr).length ≤ 10000000) :
    Calls Tryz.prog 20 #[.pointer (some ⟨w0.heap.size, 0, none⟩), .agg #[.int .i64 3, .bool false, .slice none 0 0, .slice none 0 0, .string ⟨#[]⟩, .slice (some ⟨b0, 0, none⟩) 2 2]] w (WP w0 w l (wrapK 1 a.row a.pr ++ [32, 43, 32] ++ wrapK 2 b.row b.pr)) := by
  simp only [List.length_append, List.length_cons, List.length_nil] at hl
  have h' := h.alloc (.cells #[.int .i64 3, .bool false, .slice none 0 0, .slice none 0 0, .string ⟨#[]⟩, .slice (some ⟨b0, 0, none⟩) 2 2] 27)
  have ho := (Oth.refl w0 w).alloc (.cells #[.int .i64 3, .bool false, .slice none 0 0, .slice none 0 0, .string ⟨#[]⟩, .slice (some ⟨b0, 0, none⟩) 2 2] 27)
  have k_e := C6.new w (.int .i64 3) (.bool false) (.slice none 0 0) (.slice none 0 0) (.string ⟨#[]⟩) (.slice (some ⟨b0, 0, none⟩) 2 2)
  have hz := h.lt
  obtain ⟨e0, e1, e2, e3, e4, e5⟩ := k_e.facts
  obtain ⟨x0, x1, x2, x3, x4, x5⟩ := hx.keep (h'.2.block b0 hb0)
  go_enter Tryz.func20, Tryz.ntmps20
  go_wp2_with fail
  refine (rowOf3 _).mono ?_
  rintro e w1 ⟨rfl, rfl⟩
  go_wp2_with fail
  refine (writeKid_c a x 1 wa fa ha HA (by omega) _ _ h' (by omega)).mono ?_
  rintro e w2 ⟨rfl, h2, ho2⟩
  replace k_e := k_e.oth ho2 (by omega)
  replace ho := ho.trans ho2
  clear e0 e1 e2 e3 e4 e5 ho2 x0 x1 x2 x3 x4 x5
  obtain ⟨e0, e1, e2, e3, e4, e5⟩ := k_e.facts
  go_wp2_with fail
  refine (signOf3 _).mono ?_
  rintro e w3 ⟨rfl, rfl⟩
  go_wp2_with fail
  refine (WriteString_c ⟨#[32, 43, 32]⟩ w0 _ _ h2 (by simp only [List.length_append]; show _ + 3 ≤ _; omega)).mono ?_
  rintro e w4 ⟨rfl, h4, ho4⟩
  replace k_e := k_e.oth ho4 (by omega)
  replace ho := ho.trans ho4
  clear e0 e1 e2 e3 e4 e5 ho4
  obtain ⟨e0, e1, e2, e3, e4, e5⟩ := k_e.facts
  obtain ⟨y0, y1, y2, y3, y4, y5⟩ := hy.keep (h4.2.block b0 hb0)
  go_wp2_with fail
  refine (writeKid_c b y 2 wb fb hb HB (by omega) _ _ h4 (by simp only [List.length_append]; show _ + 3 + _ ≤ _; omega)).mono ?_
  rintro e w5 ⟨rfl, h5, ho5⟩
  go_wp2
  go_end0
  refine ⟨rfl, ?_, ho.trans ho5⟩
  have e1 : l ++ wrapK 1 a.row a.pr ++ (⟨#[32, 43, 32]⟩ : ByteArray).data.toList ++ wrapK 2 b.row b.pr = l ++ (wrapK 1 a.row a.pr ++ [32, 43, 32] ++ wrapK 2 b.row b.pr) := by
    show l ++ _ ++ [32, 43, 32] ++ _ = _
    simp only [List.append_assoc]
  rw [e1] at h5
  exact h5

set_option maxHeartbeats 6400000 in
theorem write_bin4 {w0 : World} {P : Nat → Prop} (a b : Ex) (x y : Ev) (b0 : Nat) (hb0 : b0 < w0.heap.size) (hx : At6 w0 b0 0 x) (hy : At6 w0 b0 6 y) (wa : a.wf) (wb : b.wf) (fa : a.fine) (fb : b.fine) (ha : Tw w0 P a x) (hb : Tw w0 P b y) (HA : Hid (Writes w0 a x)) (HB : Hid (Writes w0 b y))
    (w : World) (l : List UInt8) (h : WR w0 w l) (hl : l.length + (wrapK 1 a.row a.pr ++ [32, 45, 32] ++ wrapK 2 b.row b.pr).length ≤ 10000000) :
    Calls Tryz.prog 20 #[.pointer (some ⟨w0.heap.size, 0, none⟩), .agg #[.int .i64 4, .bool false, .slice none 0 0, .slice none 0 0, .string ⟨#[]⟩, .slice (some ⟨b0, 0, none⟩) 2 2]] w (WP w0 w l (wrapK 1 a.row a.pr ++ [32, 45, 32] ++ wrapK 2 b.row b.pr)) := by
  simp only [List.length_append, List.length_cons, List.length_nil] at hl
  have h' := h.alloc (.cells #[.int .i64 4, .bool false, .slice none 0 0, .slice none 0 0, .string ⟨#[]⟩, .slice (some ⟨b0, 0, none⟩) 2 2] 27)
  have ho := (Oth.refl w0 w).alloc (.cells #[.int .i64 4, .bool false, .slice none 0 0, .slice none 0 0, .string ⟨#[]⟩, .slice (some ⟨b0, 0, none⟩) 2 2] 27)
  have k_e := C6.new w (.int .i64 4) (.bool false) (.slice none 0 0) (.slice none 0 0) (.string ⟨#[]⟩) (.slice (some ⟨b0, 0, none⟩) 2 2)
  have hz := h.lt
  obtain ⟨e0, e1, e2, e3, e4, e5⟩ := k_e.facts
  obtain ⟨x0, x1, x2, x3, x4, x5⟩ := hx.keep (h'.2.block b0 hb0)
  go_enter Tryz.func20, Tryz.ntmps20
  go_wp2_with fail
  refine (rowOf4 _).mono ?_
  rintro e w1 ⟨rfl, rfl⟩
  go_wp2_with fail
  refine (writeKid_c a x 1 wa fa ha HA (by omega) _ _ h' (by omega)).mono ?_
  rintro e w2 ⟨rfl, h2, ho2⟩
  replace k_e := k_e.oth ho2 (by omega)
  replace ho := ho.trans ho2
  clear e0 e1 e2 e3 e4 e5 ho2 x0 x1 x2 x3 x4 x5
  obtain ⟨e0, e1, e2, e3, e4, e5⟩ := k_e.facts
  go_wp2_with fail
  refine (signOf4 _).mono ?_
  rintro e w3 ⟨rfl, rfl⟩
  go_wp2_with fail
  refine (WriteString_c ⟨#[32, 45, 32]⟩ w0 _ _ h2 (by simp only [List.length_append]; show _ + 3 ≤ _; omega)).mono ?_
  rintro e w4 ⟨rfl, h4, ho4⟩
  replace k_e := k_e.oth ho4 (by omega)
  replace ho := ho.trans ho4
  clear e0 e1 e2 e3 e4 e5 ho4
  obtain ⟨e0, e1, e2, e3, e4, e5⟩ := k_e.facts
  obtain ⟨y0, y1, y2, y3, y4, y5⟩ := hy.keep (h4.2.block b0 hb0)
  go_wp2_with fail
  refine (writeKid_c b y 2 wb fb hb HB (by omega) _ _ h4 (by simp only [List.length_append]; show _ + 3 + _ ≤ _; omega)).mono ?_
  rintro e w5 ⟨rfl, h5, ho5⟩
  go_wp2
  go_end0
  refine ⟨rfl, ?_, ho.trans ho5⟩
  have e1 : l ++ wrapK 1 a.row a.pr ++ (⟨#[32, 45, 32]⟩ : ByteArray).data.toList ++ wrapK 2 b.row b.pr = l ++ (wrapK 1 a.row a.pr ++ [32, 45, 32] ++ wrapK 2 b.row b.pr) := by
    show l ++ _ ++ [32, 45, 32] ++ _ = _
    simp only [List.append_assoc]
  rw [e1] at h5
  exact h5

set_option maxHeartbeats 6400000 in
theorem write_bin5 {w0 : World} {P : Nat → Prop} (a b : Ex) (x y : Ev) (b0 : Nat) (hb0 : b0 < w0.heap.size) (hx : At6 w0 b0 0 x) (hy : At6 w0 b0 6 y) (wa : a.wf) (wb : b.wf) (fa : a.fine) (fb : b.fine) (ha : Tw w0 P a x) (hb : Tw w0 P b y) (HA : Hid (Writes w0 a x)) (HB : Hid (Writes w0 b y))
    (w : World) (l : List UInt8) (h : WR w0 w l) (hl : l.length + (wrapK 2 a.row a.pr ++ [32, 42, 32] ++ wrapK 3 b.row b.pr).length ≤ 10000000) :
    Calls Tryz.prog 20 #[.pointer (some ⟨w0.heap.size, 0, none⟩), .agg #[.int .i64 5, .bool false, .slice none 0 0, .slice none 0 0, .string ⟨#[]⟩, .slice (some ⟨b0, 0, none⟩) 2 2]] w (WP w0 w l (wrapK 2 a.row a.pr ++ [32, 42, 32] ++ wrapK 3 b.row b.pr)) := by
  simp only [List.length_append, List.length_cons, List.length_nil] at hl
  have h' := h.alloc (.cells #[.int .i64 5, .bool false, .slice none 0 0, .slice none 0 0, .string ⟨#[]⟩, .slice (some ⟨b0, 0, none⟩) 2 2] 27)
  have ho := (Oth.refl w0 w).alloc (.cells #[.int .i64 5, .bool false, .slice none 0 0, .slice none 0 0, .string ⟨#[]⟩, .slice (some ⟨b0, 0, none⟩) 2 2] 27)
  have k_e := C6.new w (.int .i64 5) (.bool false) (.slice none 0 0) (.slice none 0 0) (.string ⟨#[]⟩) (.slice (some ⟨b0, 0, none⟩) 2 2)
  have hz := h.lt
  obtain ⟨e0, e1, e2, e3, e4, e5⟩ := k_e.facts
  obtain ⟨x0, x1, x2, x3, x4, x5⟩ := hx.keep (h'.2.block b0 hb0)
  go_enter Tryz.func20, Tryz.ntmps20
  go_wp2_with fail
  refine (rowOf5 _).mono ?_
  rintro e w1 ⟨rfl, rfl⟩
  go_wp2_with fail
  refine (writeKid_c a x 2 wa fa ha HA (by omega) _ _ h' (by omega)).mono ?_
  rintro e w2 ⟨rfl, h2, ho2⟩
  replace k_e := k_e.oth ho2 (by omega)
  replace ho := ho.trans ho2
  clear e0 e1 e2 e3 e4 e5 ho2 x0 x1 x2 x3 x4 x5
  obtain ⟨e0, e1, e2, e3, e4, e5⟩ := k_e.facts
  go_wp2_with fail
  refine (signOf5 _).mono ?_
  rintro e w3 ⟨rfl, rfl⟩
  go_wp2_with fail
  refine (WriteString_c ⟨#[32, 42, 32]⟩ w0 _ _ h2 (by simp only [List.length_append]; show _ + 3 ≤ _; omega)).mono ?_
  rintro e w4 ⟨rfl, h4, ho4⟩
  replace k_e := k_e.oth ho4 (by omega)
  replace ho := ho.trans ho4
  clear e0 e1 e2 e3 e4 e5 ho4
  obtain ⟨e0, e1, e2, e3, e4, e5⟩ := k_e.facts
  obtain ⟨y0, y1, y2, y3, y4, y5⟩ := hy.keep (h4.2.block b0 hb0)
  go_wp2_with fail
  refine (writeKid_c b y 3 wb fb hb HB (by omega) _ _ h4 (by simp only [List.length_append]; show _ + 3 + _ ≤ _; omega)).mono ?_
  rintro e w5 ⟨rfl, h5, ho5⟩
  go_wp2
  go_end0
  refine ⟨rfl, ?_, ho.trans ho5⟩
  have e1 : l ++ wrapK 2 a.row a.pr ++ (⟨#[32, 42, 32]⟩ : ByteArray).data.toList ++ wrapK 3 b.row b.pr = l ++ (wrapK 2 a.row a.pr ++ [32, 42, 32] ++ wrapK 3 b.row b.pr) := by
    show l ++ _ ++ [32, 42, 32] ++ _ = _
    simp only [List.append_assoc]
  rw [e1] at h5
  exact h5

set_option maxHeartbeats 6400000 in
theorem write_bin6 {w0 : World} {P : Nat → Prop} (a b : Ex) (x y : Ev) (b0 : Nat) (hb0 : b0 < w0.heap.size) (hx : At6 w0 b0 0 x) (hy : At6 w0 b0 6 y) (wa : a.wf) (wb : b.wf) (fa : a.fine) (fb : b.fine) (ha : Tw w0 P a x) (hb : Tw w0 P b y) (HA : Hid (Writes w0 a x)) (HB : Hid (Writes w0 b y))
    (w : World) (l : List UInt8) (h : WR w0 w l) (hl : l.length + (wrapK 2 a.row a.pr ++ [32, 47, 32] ++ wrapK 3 b.row b.pr).length ≤ 10000000) :
    Calls Tryz.prog 20 #[.pointer (some ⟨w0.heap.size, 0, none⟩), .agg #[.int .i64 6, .bool false, .slice none 0 0, .slice none 0 0, .string ⟨#[]⟩, .slice (some ⟨b0, 0, none⟩) 2 2]] w (WP w0 w l (wrapK 2 a.row a.pr ++ [32, 47, 32] ++ wrapK 3 b.row b.pr)) := by
  simp only [List.length_append, List.length_cons, List.length_nil] at hl
  have h' := h.alloc (.cells #[.int .i64 6, .bool false, .slice none 0 0, .slice none 0 0, .string ⟨#[]⟩, .slice (some ⟨b0, 0, none⟩) 2 2] 27)
  have ho := (Oth.refl w0 w).alloc (.cells #[.int .i64 6, .bool false, .slice none 0 0, .slice none 0 0, .string ⟨#[]⟩, .slice (some ⟨b0, 0, none⟩) 2 2] 27)
  have k_e := C6.new w (.int .i64 6) (.bool false) (.slice none 0 0) (.slice none 0 0) (.string ⟨#[]⟩) (.slice (some ⟨b0, 0, none⟩) 2 2)
  have hz := h.lt
  obtain ⟨e0, e1, e2, e3, e4, e5⟩ := k_e.facts
  obtain ⟨x0, x1, x2, x3, x4, x5⟩ := hx.keep (h'.2.block b0 hb0)
  go_enter Tryz.func20, Tryz.ntmps20
  go_wp2_with fail
  refine (rowOf6 _).mono ?_
  rintro e w1 ⟨rfl, rfl⟩
  go_wp2_with fail
  refine (writeKid_c a x 2 wa fa ha HA (by omega) _ _ h' (by omega)).mono ?_
  rintro e w2 ⟨rfl, h2, ho2⟩
  replace k_e := k_e.oth ho2 (by omega)
  replace ho := ho.trans ho2
  clear e0 e1 e2 e3 e4 e5 ho2 x0 x1 x2 x3 x4 x5
  obtain ⟨e0, e1, e2, e3, e4, e5⟩ := k_e.facts
  go_wp2_with fail
  refine (signOf6 _).mono ?_
  rintro e w3 ⟨rfl, rfl⟩
  go_wp2_with fail
  refine (WriteString_c ⟨#[32, 47, 32]⟩ w0 _ _ h2 (by simp only [List.length_append]; show _ + 3 ≤ _; omega)).mono ?_
  rintro e w4 ⟨rfl, h4, ho4⟩
  replace k_e := k_e.oth ho4 (by omega)
  replace ho := ho.trans ho4
  clear e0 e1 e2 e3 e4 e5 ho4
  obtain ⟨e0, e1, e2, e3, e4, e5⟩ := k_e.facts
  obtain ⟨y0, y1, y2, y3, y4, y5⟩ := hy.keep (h4.2.block b0 hb0)
  go_wp2_with fail
  refine (writeKid_c b y 3 wb fb hb HB (by omega) _ _ h4 (by simp only [List.length_append]; show _ + 3 + _ ≤ _; omega)).mono ?_
  rintro e w5 ⟨rfl, h5, ho5⟩
  go_wp2
  go_end0
  refine ⟨rfl, ?_, ho.trans ho5⟩
  have e1 : l ++ wrapK 2 a.row a.pr ++ (⟨#[32, 47, 32]⟩ : ByteArray).data.toList ++ wrapK 3 b.row b.pr = l ++ (wrapK 2 a.row a.pr ++ [32, 47, 32] ++ wrapK 3 b.row b.pr) := by
    show l ++ _ ++ [32, 47, 32] ++ _ = _
    simp only [List.append_assoc]
  rw [e1] at h5
  exact h5
end Go.Proofs.YtcmkgoikmleanaaGreatDoor

namespace Go.Proofs.YtcmkgoikmleanaaGreatDoor
set_option maxRecDepth 20000
open Go.RowKit

theorem write_c {w0 : World} (ht : Tb w0) {P : Nat → Prop} : ∀ (t : Ex) (v : Ev), t.wf → t.fine → Tw w0 P t v → Writes w0 t v := by
  intro t
  induction t with
  | bad => exact fun v _ hf _ => hf.elim
  | num r =>
    intro v _ hf hv w l h hl
    obtain ⟨hv, hr, _⟩ := hv
    generalize v.r = y at *
    subst hv
    exact write_num y r hr hf ht w l h hl
  | nm s =>
    intro v _ hf hv w l h hl
    have hv' : v = ⟨2, Rz, s, none, 0, 0⟩ := hv
    subst hv'
    exact write_nm s w l h hl
  | bin k a b iha ihb =>
    intro v hw hf hv w l h hl
    obtain ⟨b0, x, y, rfl, hp, hb0, hblk, ha, hb⟩ := hv
    obtain ⟨h6a, h6b⟩ := at6_two hblk
    have HA := Lib.hid (iha x hw.2.1 hf.1 ha)
    have HB := Lib.hid (ihb y hw.2.2 hf.2 hb)
    rcases hw.1 with rfl | rfl | rfl | rfl
    · exact write_bin3 a b x y b0 hb0 h6a h6b hw.2.1 hw.2.2 hf.1 hf.2 ha hb HA HB w l h hl
    · exact write_bin4 a b x y b0 hb0 h6a h6b hw.2.1 hw.2.2 hf.1 hf.2 ha hb HA HB w l h hl
    · exact write_bin5 a b x y b0 hb0 h6a h6b hw.2.1 hw.2.2 hf.1 hf.2 ha hb HA HB w l h hl
    · exact write_bin6 a b x y b0 hb0 h6a h6b hw.2.1 hw.2.2 hf.1 hf.2 ha hb HA HB w l h hl
  | neg a iha =>
    intro v hw hf hv w l h hl
    obtain ⟨b0, x, rfl, hp, hb0, hblk, ha⟩ := hv
    exact write_neg a x b0 hb0 (at6_one hblk) hw hf ha (Lib.hid (iha x hw hf ha)) w l h hl

theorem wrapK_len (n k : Nat) (l : List UInt8) : (wrapK n k l).length ≤ l.length + 2 := by
  unfold wrapK; split
  · omega
  · simp
theorem sgnK_len (k : Nat) : (sgnK k).length = 3 := by unfold sgnK; split; rfl; split; rfl; split <;> rfl
theorem pr_len : ∀ (t : Ex), t.fine → t.pr.length ≤ 410 * t.nodes := by
  intro t
  induction t with
  | bad => exact fun h => h.elim
  | num r =>
    intro h
    obtain ⟨F, hE, hF⟩ := dxt_of h
    have := (txt_ext hE ⟨Bd.ofL h.1, Bd.ofL h.2.1⟩).1
    show (dxt r).length ≤ 410 * 1
    rw [← hF, data_size]; omega
  | nm s =>
    intro h
    have := (isName_iff.1 h).2.1
    show s.data.toList.length ≤ 410 * 1
    rw [data_size]; omega
  | bin k a b iha ihb =>
    intro h
    have h1 := iha h.1
    have h2 := ihb h.2
    have h3 := wrapK_len (if k = 3 ∨ k = 4 then 1 else 2) a.row a.pr
    have h4 := wrapK_len ((if k = 3 ∨ k = 4 then 1 else 2) + 1) b.row b.pr
    have h5 := sgnK_len k
    simp only [Ex.pr, Ex.nodes, List.length_append]
    omega
  | neg a iha =>
    intro h
    have h1 := iha h
    have h3 := wrapK_len 3 a.row a.pr
    simp only [Ex.pr, Ex.nodes, List.length_cons]
    omega

set_option maxHeartbeats 3200000 in
theorem ePrint_c {w : World} {P : Nat → Prop} {t : Ex} {v : Ev} (hm : t.may 32 256) (hw : t.wf) (hv : Tw w P t v) (ht : Tb w) :
    Calls Tryz.prog 9 #[.agg #[.int .i64 v.k, .bool v.r.s, .slice v.r.A v.r.n v.r.c, .slice v.r.B v.r.m v.r.d, .string v.s, .slice v.K v.n v.c]] w fun e w' => e = .returned (.string ⟨t.pr.toArray⟩) ∧ Below w.heap.size w w' := by
  have hl := pr_len t hm.1
  have hnn := hm.2.2
  have k_e := C6.new w (.int .i64 v.k) (.bool v.r.s) (.slice v.r.A v.r.n v.r.c) (.slice v.r.B v.r.m v.r.d) (.string v.s) (.slice v.K v.n v.c)
  have hb0 := (Below.refl w.heap.size w).alloc (Nat.le_refl _) (.cells #[.int .i64 v.k, .bool v.r.s, .slice v.r.A v.r.n v.r.c, .slice v.r.B v.r.m v.r.d, .string v.s, .slice v.K v.n v.c] 27)
  replace hv := hv.alloc (.cells #[.int .i64 v.k, .bool v.r.s, .slice v.r.A v.r.n v.r.c, .slice v.r.B v.r.m v.r.d, .string v.s, .slice v.K v.n v.c] 27)
  replace ht := ht.below hb0
  obtain ⟨e0, e1, e2, e3, e4, e5⟩ := k_e.facts
  go_enter Tryz.func9, Tryz.ntmps9
  go_wp2_with fail
  refine (eIs_c true ⟨fun _ => hm, fun _ => rfl⟩ hw hv ht).mono ?_
  rintro e w2 ⟨rfl, hb⟩
  replace hv := hv.below hb
  replace ht := ht.below hb
  replace k_e := k_e.below hb
  replace hb0 := hb0.trans (hb.mono hb0.size)
  clear hb e0 e1 e2 e3 e4 e5
  have k_e2 := k_e.alloc (.cells #[.pointer none, .slice none 0 0] 47)
  have hWR : WR w2 (w2.alloc (.cells #[.pointer none, .slice none 0 0] 47)) [] := ⟨.of (Lib.fresh_isBuilder _ _ w2), (Below.refl _ _).alloc (Nat.le_refl _) _⟩
  obtain ⟨e0, e1, e2, e3, e4, e5⟩ := k_e2.facts
  go_wp2_with fail
  refine (write_c ht t v hw hm.1 hv _ [] hWR (by simp only [List.length_nil]; omega)).mono ?_
  rintro e w3 ⟨rfl, h3, _⟩
  rw [List.nil_append] at h3
  clear e0 e1 e2 e3 e4 e5
  go_wp2_with fail
  refine (Tryz.Builder_String_any_k w2.heap.size w2.heap.size t.pr _ h3.1 h3.2.size).mono ?_
  rintro e w4 ⟨rfl, _, hb4, _⟩
  go_wp2
  go_ret
  exact ⟨rfl, hb0.trans ((h3.2.trans hb4).mono hb0.size)⟩

theorem exW_same {F G : ByteArray} {r : Rat} (h : ExW F true r) (h' : ExW G true r) : F.data.toList = G.data.toList := by
  rcases h with ⟨_, K, _, hE, hF⟩ | ⟨h, _⟩
  · rcases h' with ⟨_, L, _, hE', hG⟩ | ⟨h', _⟩
    · rw [hF, hG, hE.same hE']
    · cases h'
  · cases h
theorem two_exW : ExW ⟨#[50]⟩ true 2 := int_exW rfl (by decide +kernel)
theorem two_ok : NumOk 2 := ⟨by decide +kernel, by decide +kernel, by decide +kernel, _, two_exW⟩
theorem two_dxt : dxt 2 = [50] := by
  obtain ⟨F, hE, hF⟩ := dxt_of two_ok
  rw [← hF, exW_same hE two_exW]
theorem two_tv : tv ⟨#[50]⟩ = 2 := by
  have h : Txt ⟨#[50]⟩ 2 := ⟨by decide, false, ⟨#[50]⟩, 2, 1, ⟨fun h => Bool.noConfusion h, fun _ => ⟨rfl, by decide⟩⟩, .whole ⟨by decide, fun c hc => by simp at hc; subst hc; decide⟩, by decide +kernel⟩
  exact (tv_of ⟨2, h⟩).one h (by decide)
def kS : ByteArray := ⟨#[97, 45, 40, 98, 45, 99, 41, 42, 50]⟩
def kT (r : Rat) : Ex := .bin 4 (.nm ⟨#[97]⟩) (.bin 5 (.bin 4 (.nm ⟨#[98]⟩) (.nm ⟨#[99]⟩)) (.num r))
theorem k_parse (f : ByteArray → Rat) : parse f kS = .ok (kT (f ⟨#[50]⟩)) (kT (f ⟨#[50]⟩)) 9 7 false := by rfl
theorem k_may : (kT 2).may 32 256 := by
  refine ⟨⟨?_, ⟨⟨?_, ?_⟩, two_ok⟩⟩, by decide, by decide⟩ <;> show isName _ = true <;> decide
theorem k_fin : fin kS = .ok (kT 2) := by
  unfold fin
  rw [k_parse, two_tv]
  exact fin1_yes k_may
theorem k_pr : (kT 2).pr = [97, 32, 45, 32, 40, 98, 32, 45, 32, 99, 41, 32, 42, 32, 50] := by
  have h : (kT 2).pr = [97, 32, 45, 32, 40, 98, 32, 45, 32, 99, 41, 32, 42, 32] ++ dxt 2 := rfl
  rw [h, two_dxt]; rfl
end Go.Proofs.YtcmkgoikmleanaaGreatDoor

namespace Go.Proofs.YtcmkgoikmleanaaGreatDoor
set_option maxRecDepth 20000
open Go.RowKit

theorem ba_lit {l m : List UInt8} (h : l = m) : (⟨l.toArray⟩ : ByteArray) = ⟨m.toArray⟩ := by rw [h]
set_option maxHeartbeats 3200000 in
theorem known5_any (w : World) (ht : Tb w) (hm : Mx w) : Calls Tryz.prog 11 #[] w fun e w' => e = .returned (.bool true) ∧ Below w.heap.size w w' := by
  have HC := eParse_c kS w (by decide) hm ht
  rw [k_fin] at HC
  have hpr : (⟨(kT 2).pr.toArray⟩ : ByteArray) = ⟨#[97, 32, 45, 32, 40, 98, 32, 45, 32, 99, 41, 32, 42, 32, 50]⟩ := ba_lit k_pr
  go_enter Tryz.func11, Tryz.ntmps11
  go_wp2_with fail
  refine HC.mono ?_
  clear HC
  rintro e w1 ⟨v, rfl, hv, hb⟩
  have k_e := C6.new w1 (.int .i64 v.k) (.bool v.r.s) (.slice v.r.A v.r.n v.r.c) (.slice v.r.B v.r.m v.r.d) (.string v.s) (.slice v.K v.n v.c)
  have hb1 := hb.trans (((Below.refl w1.heap.size w1).alloc (Nat.le_refl _) (.cells #[.int .i64 v.k, .bool v.r.s, .slice v.r.A v.r.n v.r.c, .slice v.r.B v.r.m v.r.d, .string v.s, .slice v.K v.n v.c] 27)).mono hb.size)
  replace hv := hv.alloc (.cells #[.int .i64 v.k, .bool v.r.s, .slice v.r.A v.r.n v.r.c, .slice v.r.B v.r.m v.r.d, .string v.s, .slice v.K v.n v.c] 27)
  have ht1 := ht.below hb1
  obtain ⟨e0, e1, e2, e3, e4, e5⟩ := k_e.facts
  go_wp2_with fail
  refine (ePrint_c k_may ⟨by omega, trivial, ⟨by omega, ⟨by omega, trivial, trivial⟩, trivial⟩⟩ hv ht1).mono ?_
  rintro e w2 ⟨rfl, hb2⟩
  rw [hpr]
  go_wp2
  go_ret
  exact ⟨rfl, hb1.trans (hb2.mono hb1.size)⟩
end Go.Proofs.YtcmkgoikmleanaaGreatDoor

namespace Go.Proofs.YtcmkgoikmleanaaGreatDoor
set_option maxRecDepth 20000
open Go.RowKit

def SameR (w : World) (x y : Ev) : Prop := ∀ w1, Below w.heap.size w w1 → Calls Tryz.prog 10 #[.agg #[.int .i64 x.k, .bool x.r.s, .slice x.r.A x.r.n x.r.c, .slice x.r.B x.r.m x.r.d, .string x.s, .slice x.K x.n x.c], .agg #[.int .i64 y.k, .bool y.r.s, .slice y.r.A y.r.n y.r.c, .slice y.r.B y.r.m y.r.d, .string y.s, .slice y.K y.n y.c]] w1 fun e w' => e = .returned (.bool true) ∧ Below w1.heap.size w1 w'

set_option maxHeartbeats 3200000 in
theorem Same_leaf {w : World} (k : Int) (y z : Rv) (s : ByteArray) (hrat : ∀ w', Below w.heap.size w w' → Calls Tryz.prog 22 #[.agg #[.bool y.s, .slice y.A y.n y.c, .slice y.B y.m y.d], .agg #[.bool z.s, .slice z.A z.n z.c, .slice z.B z.m z.d]] w' fun e w'' => e = .returned (.bool true) ∧ Below w'.heap.size w' w'') :
    Calls Tryz.prog 10 #[.agg #[.int .i64 k, .bool y.s, .slice y.A y.n y.c, .slice y.B y.m y.d, .string s, .slice none 0 0], .agg #[.int .i64 k, .bool z.s, .slice z.A z.n z.c, .slice z.B z.m z.d, .string s, .slice none 0 0]] w fun e w' => e = .returned (.bool true) ∧ Below w.heap.size w w' := by
  have k_1 := (C6.new w (.int .i64 k) (.bool y.s) (.slice y.A y.n y.c) (.slice y.B y.m y.d) (.string s) (.slice none 0 0)).alloc (.cells #[.int .i64 k, .bool z.s, .slice z.A z.n z.c, .slice z.B z.m z.d, .string s, .slice none 0 0] 27)
  have k_2 := C6.newAt (w := w.alloc (.cells #[.int .i64 k, .bool y.s, .slice y.A y.n y.c, .slice y.B y.m y.d, .string s, .slice none 0 0] 27)) (b := w.heap.size + 1) (.int .i64 k) (.bool z.s) (.slice z.A z.n z.c) (.slice z.B z.m z.d) (.string s) (.slice none 0 0) (by simp)
  have hb0 := ((Below.refl w.heap.size w).alloc (Nat.le_refl _) (.cells #[.int .i64 k, .bool y.s, .slice y.A y.n y.c, .slice y.B y.m y.d, .string s, .slice none 0 0] 27)).alloc (by simp) (.cells #[.int .i64 k, .bool z.s, .slice z.A z.n z.c, .slice z.B z.m z.d, .string s, .slice none 0 0] 27)
  obtain ⟨e0, e1, e2, e3, e4, e5⟩ := k_1.facts
  obtain ⟨d0, d1, d2, d3, d4, d5⟩ := k_2.facts
  have HR := hrat _ hb0
  go_enter Tryz.func10, Tryz.ntmps10
  go_wp2_with fail
  refine HR.mono ?_
  clear HR
  rintro e w1 ⟨rfl, hb⟩
  replace k_1 := k_1.below hb
  replace k_2 := k_2.below hb
  replace hb0 := hb0.trans (hb.mono hb0.size)
  clear hb e0 e1 e2 e3 e4 e5 d0 d1 d2 d3 d4 d5
  obtain ⟨e0, e1, e2, e3, e4, e5⟩ := k_1.facts
  obtain ⟨d0, d1, d2, d3, d4, d5⟩ := k_2.facts
  go_wp2
  go_loopw [5] (fun iv wr => iv = .int .i64 0 ∧ wr = w1) (fun _ _ => 0)
  case atStart => exact ⟨rfl, rfl⟩
  case round =>
    obtain ⟨rfl, rfl⟩ := hrel
    go_wp2
    go_ret
    exact ⟨rfl, hb0⟩
set_option maxHeartbeats 6400000 in
theorem Same_step {w : World} (k : Int) (y z : Rv) (s : ByteArray) (b0 c0 n : Nat) (xs ys : Nat → Ev) (hn : n ≤ 2) (hpos : 0 < n) (hb : b0 < w.heap.size) (hc : c0 < w.heap.size)
    (hx : ∀ i, i < n → At6 w b0 (i * 6) (xs i)) (hy : ∀ i, i < n → At6 w c0 (i * 6) (ys i)) (IH : ∀ i, i < n → SameR w (xs i) (ys i))
    (hrat : ∀ w', Below w.heap.size w w' → Calls Tryz.prog 22 #[.agg #[.bool y.s, .slice y.A y.n y.c, .slice y.B y.m y.d], .agg #[.bool z.s, .slice z.A z.n z.c, .slice z.B z.m z.d]] w' fun e w'' => e = .returned (.bool true) ∧ Below w'.heap.size w' w'') :
    Calls Tryz.prog 10 #[.agg #[.int .i64 k, .bool y.s, .slice y.A y.n y.c, .slice y.B y.m y.d, .string s, .slice (some ⟨b0, 0, none⟩) n n], .agg #[.int .i64 k, .bool z.s, .slice z.A z.n z.c, .slice z.B z.m z.d, .string s, .slice (some ⟨c0, 0, none⟩) n n]] w fun e w' => e = .returned (.bool true) ∧ Below w.heap.size w w' := by
  have k_1 := (C6.new w (.int .i64 k) (.bool y.s) (.slice y.A y.n y.c) (.slice y.B y.m y.d) (.string s) (.slice (some ⟨b0, 0, none⟩) n n)).alloc (.cells #[.int .i64 k, .bool z.s, .slice z.A z.n z.c, .slice z.B z.m z.d, .string s, .slice (some ⟨c0, 0, none⟩) n n] 27)
  have k_2 := C6.newAt (w := w.alloc (.cells #[.int .i64 k, .bool y.s, .slice y.A y.n y.c, .slice y.B y.m y.d, .string s, .slice (some ⟨b0, 0, none⟩) n n] 27)) (b := w.heap.size + 1) (.int .i64 k) (.bool z.s) (.slice z.A z.n z.c) (.slice z.B z.m z.d) (.string s) (.slice (some ⟨c0, 0, none⟩) n n) (by simp)
  have hb0 := ((Below.refl w.heap.size w).alloc (Nat.le_refl _) (.cells #[.int .i64 k, .bool y.s, .slice y.A y.n y.c, .slice y.B y.m y.d, .string s, .slice (some ⟨b0, 0, none⟩) n n] 27)).alloc (by simp) (.cells #[.int .i64 k, .bool z.s, .slice z.A z.n z.c, .slice z.B z.m z.d, .string s, .slice (some ⟨c0, 0, none⟩) n n] 27)
  obtain ⟨e0, e1, e2, e3, e4, e5⟩ := k_1.facts
  obtain ⟨d0, d1, d2, d3, d4, d5⟩ := k_2.facts
  have HR := hrat _ hb0
  go_enter Tryz.func10, Tryz.ntmps10
  go_wp2_with fail
  refine HR.mono ?_
  clear HR
  rintro e w1 ⟨rfl, hb⟩
  replace k_1 := k_1.below hb
  replace k_2 := k_2.below hb
  replace hb0 := hb0.trans (hb.mono hb0.size)
  clear hb e0 e1 e2 e3 e4 e5 d0 d1 d2 d3 d4 d5
  obtain ⟨e0, e1, e2, e3, e4, e5⟩ := k_1.facts
  obtain ⟨d0, d1, d2, d3, d4, d5⟩ := k_2.facts
  go_wp2
  have hz1 := hb0.size
  clear e0 e1 e2 e3 e4 e5 d0 d1 d2 d3 d4 d5
  go_loopw [5] (fun iv wr => ∃ i : Nat, i ≤ n ∧ iv = .int .i64 i ∧ Below w.heap.size w wr ∧ C6 wr w.heap.size (.int .i64 k) (.bool y.s) (.slice y.A y.n y.c) (.slice y.B y.m y.d) (.string s) (.slice (some ⟨b0, 0, none⟩) n n) ∧ C6 wr (w.heap.size + 1) (.int .i64 k) (.bool z.s) (.slice z.A z.n z.c) (.slice z.B z.m z.d) (.string s) (.slice (some ⟨c0, 0, none⟩) n n)) (fun iv _ => n - (intOf iv).toNat)
  case atStart => exact ⟨0, Nat.zero_le _, rfl, hb0, k_1, k_2⟩
  case round =>
    clear k_1 k_2 hb0
    obtain ⟨i, hi, rfl, hb0, k_1, k_2⟩ := hrel
    obtain ⟨e0, e1, e2, e3, e4, e5⟩ := k_1.facts
    obtain ⟨d0, d1, d2, d3, d4, d5⟩ := k_2.facts
    have a0 : (0 : Int) ≤ (i : Int) := by omega
    by_cases hlt : i < n
    · have a1 : (i : Int) < (n : Int) := by omega
      have a2 : (i : Int) ≤ 2 := by omega
      have HC := Lib.hid (IH i hlt wr.drew (hb0.drew))
      have hx6 := (hx i hlt).keep (hb0.block b0 hb)
      have hy6 := (hy i hlt).keep (hb0.block c0 hc)
      generalize xs i = p at *
      generalize ys i = q at *
      obtain ⟨x0, x1, x2, x3, x4, x5⟩ := hx6
      obtain ⟨y0, y1, y2, y3, y4, y5⟩ := hy6
      go_wp2_with fail
      have hx7 : At6 wr.drew b0 (i * 6) p := ⟨x0, x1, x2, x3, x4, x5⟩
      have hy7 : At6 wr.drew c0 (i * 6) q := ⟨y0, y1, y2, y3, y4, y5⟩
      have hbw : b0 < wr.drew.heap.size := Nat.lt_of_lt_of_le hb hb0.size
      have hcw : c0 < wr.drew.heap.size := Nat.lt_of_lt_of_le hc hb0.size
      replace k_1 := k_1.drew
      replace k_2 := k_2.drew
      replace hb0 := hb0.drew
      go_region_held3 (fun w' => w'.cell? ⟨w.heap.size, 5, none⟩ = some (.slice (some ⟨b0, 0, none⟩) n n) ∧ w'.cell? ⟨w.heap.size + 1, 5, none⟩ = some (.slice (some ⟨c0, 0, none⟩) n n) ∧ w'.cell? ⟨b0, i * 6, none⟩ = some (.int .i64 p.k) ∧ w'.cell? ⟨b0, i * 6 + 1, none⟩ = some (.bool p.r.s) ∧ w'.cell? ⟨b0, i * 6 + 2, none⟩ = some (.slice p.r.A p.r.n p.r.c) ∧ w'.cell? ⟨b0, i * 6 + 3, none⟩ = some (.slice p.r.B p.r.m p.r.d) ∧ w'.cell? ⟨b0, i * 6 + 4, none⟩ = some (.string p.s) ∧ w'.cell? ⟨b0, i * 6 + 5, none⟩ = some (.slice p.K p.n p.c) ∧ w'.cell? ⟨c0, i * 6, none⟩ = some (.int .i64 q.k) ∧ w'.cell? ⟨c0, i * 6 + 1, none⟩ = some (.bool q.r.s) ∧ w'.cell? ⟨c0, i * 6 + 2, none⟩ = some (.slice q.r.A q.r.n q.r.c) ∧ w'.cell? ⟨c0, i * 6 + 3, none⟩ = some (.slice q.r.B q.r.m q.r.d) ∧ w'.cell? ⟨c0, i * 6 + 4, none⟩ = some (.string q.s) ∧ w'.cell? ⟨c0, i * 6 + 5, none⟩ = some (.slice q.K q.n q.c)) (go_keep)
        (first
        | (go_at_call 10
           refine HC.out.mono ?_
           rintro e w2 ⟨rfl, hbx⟩
           replace k_1 := k_1.below hbx
           replace k_2 := k_2.below hbx
           replace hb0 := hb0.trans (hbx.mono hb0.size)
           have hx8 := hx7.keep (hbx.block b0 hbw)
           have hy8 := hy7.keep (hbx.block c0 hcw)
           clear hbx hx7 hy7 e0 e1 e2 e3 e4 e5 d0 d1 d2 d3 d4 d5 x0 x1 x2 x3 x4 x5 y0 y1 y2 y3 y4 y5
           obtain ⟨x0, x1, x2, x3, x4, x5⟩ := hx8
           obtain ⟨y0, y1, y2, y3, y4, y5⟩ := hy8
           obtain ⟨e0, e1, e2, e3, e4, e5⟩ := k_1.facts
           obtain ⟨d0, d1, d2, d3, d4, d5⟩ := k_2.facts))
      go_wp2
      go_roundw
      case rel => exact ⟨i + 1, by omega, by go_num, hb0, k_1, k_2⟩
      case measure => simp [intOf]; omega
    · have e : i = n := by omega
      have a1 : ¬ (i : Int) < (n : Int) := by omega
      go_wp2
      go_ret
      exact ⟨rfl, hb0⟩

theorem rz_same (w : World) : ∀ w', Below w.heap.size w w' → Calls Tryz.prog 22 #[.agg #[.bool false, .slice none 0 0, .slice none 0 0], .agg #[.bool false, .slice none 0 0, .slice none 0 0]] w' fun e w'' => e = .returned (.bool true) ∧ Below w'.heap.size w' w'' :=
  fun w' _ => rSame_v Rz Rz 0 0 true w' ((Rw.zero w').more (by omega)) ((Rw.zero w').more (by omega)) (decide_eq_true rfl)
theorem Same_bad (w : World) : Calls Tryz.prog 10 #[.agg #[.int .i64 0, .bool false, .slice none 0 0, .slice none 0 0, .string ⟨#[]⟩, .slice none 0 0], .agg #[.int .i64 0, .bool false, .slice none 0 0, .slice none 0 0, .string ⟨#[]⟩, .slice none 0 0]] w fun e w' => e = .returned (.bool true) ∧ Below w.heap.size w w' :=
  Same_leaf 0 Rz Rz ⟨#[]⟩ (rz_same w)
/-- Two that read as one tree are one. -/
theorem eSame_c {P Q : Nat → Prop} : ∀ (t : Ex) (v u : Ev) (w : World), t.fine → Tw w P t v → Tw w Q t u → Calls Tryz.prog 10 #[.agg #[.int .i64 v.k, .bool v.r.s, .slice v.r.A v.r.n v.r.c, .slice v.r.B v.r.m v.r.d, .string v.s, .slice v.K v.n v.c], .agg #[.int .i64 u.k, .bool u.r.s, .slice u.r.A u.r.n u.r.c, .slice u.r.B u.r.m u.r.d, .string u.s, .slice u.K u.n u.c]] w fun e w' => e = .returned (.bool true) ∧ Below w.heap.size w w' := by
  intro t
  induction t with
  | bad => exact fun v u w hf => hf.elim
  | num r =>
    intro v u w hf hv hu
    obtain ⟨hv, h1, _⟩ := hv
    obtain ⟨hu, h2, _⟩ := hu
    generalize v.r = y at *
    generalize u.r = z at *
    subst hv; subst hu
    have hsz : Sz r 16 := ⟨Bd.ofL hf.1, Bd.ofL hf.2.1⟩
    exact Same_leaf 1 y z ⟨#[]⟩ fun w' hb => rSame_v y z r r true w' (((h1.below hb).rw hsz).more (by omega)) (((h2.below hb).rw hsz).more (by omega)) (decide_eq_true rfl)
  | nm s =>
    intro v u w _ hv hu
    have hv' : v = ⟨2, Rz, s, none, 0, 0⟩ := hv
    have hu' : u = ⟨2, Rz, s, none, 0, 0⟩ := hu
    subst hv'; subst hu'
    exact Same_leaf 2 Rz Rz s (rz_same w)
  | bin k a b iha ihb =>
    intro v u w hf hv hu
    obtain ⟨b0, x, y, rfl, _, hb0, hbl, ha, hb⟩ := hv
    obtain ⟨c0, p, q, rfl, _, hc0, hcl, hp, hq⟩ := hu
    obtain ⟨x6, y6⟩ := at6_two hbl
    obtain ⟨p6, q6⟩ := at6_two hcl
    refine Same_step (k : Int) Rz Rz ⟨#[]⟩ b0 c0 2 (two_ x y) (two_ p q) (by omega) (by omega) hb0 hc0 ?_ ?_ ?_ (rz_same w)
    · intro i hi
      rcases i with _ | _ | i
      · exact x6
      · exact y6
      · omega
    · intro i hi
      rcases i with _ | _ | i
      · exact p6
      · exact q6
      · omega
    · intro i hi w1 hb1
      rcases i with _ | _ | i
      · exact iha x p w1 hf.1 (ha.below hb1) (hp.below hb1)
      · exact ihb y q w1 hf.2 (hb.below hb1) (hq.below hb1)
      · omega
  | neg a iha =>
    intro v u w hf hv hu
    obtain ⟨b0, x, rfl, _, hb0, hbl, ha⟩ := hv
    obtain ⟨c0, p, rfl, _, hc0, hcl, hp⟩ := hu
    refine Same_step 7 Rz Rz ⟨#[]⟩ b0 c0 1 (fun _ => x) (fun _ => p) (by omega) (by omega) hb0 hc0 ?_ ?_ ?_ (rz_same w)
    · intro i hi
      rcases i with _ | i
      · exact at6_one hbl
      · omega
    · intro i hi
      rcases i with _ | i
      · exact at6_one hcl
      · omega
    · intro i hi w1 hb1
      exact iha x p w1 hf (ha.below hb1) (hp.below hb1)
end Go.Proofs.YtcmkgoikmleanaaGreatDoor

namespace Go.Proofs.YtcmkgoikmleanaaGreatDoor
set_option maxRecDepth 20000
open Go.RowKit

def maxN (ds : Nat → Nat) : Nat → Nat
  | 0 => 0
  | i + 1 => max (maxN ds i) (ds i)
theorem maxN_le (ds : Nat → Nat) (h : ∀ i, ds i ≤ 100000) : ∀ n, maxN ds n ≤ 100000 := by
  intro n
  induction n with
  | zero => exact Nat.zero_le _
  | succ n ih => exact Nat.max_le.2 ⟨ih, h n⟩
theorem deep_le : ∀ t : Ex, t.deep ≤ t.nodes := by
  intro t
  induction t with
  | bad => exact Nat.le_refl _
  | num r => exact Nat.le_refl _
  | nm s => exact Nat.le_refl _
  | bin k a b iha ihb => simp only [Ex.deep, Ex.nodes]; omega
  | neg a iha => simp only [Ex.deep, Ex.nodes]; omega
end Go.Proofs.YtcmkgoikmleanaaGreatDoor
