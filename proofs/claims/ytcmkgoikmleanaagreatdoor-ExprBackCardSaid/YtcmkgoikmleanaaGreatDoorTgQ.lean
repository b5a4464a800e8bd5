/-
  The program's text of a tree that came in.
-/
import Derived.Test.YtcmkgoikmleanaaGreatDoorTgP
namespace Go.Proofs.YtcmkgoikmleanaaGreatDoor
set_option maxRecDepth 20000
open Go.RowKit

theorem gRow_c {w0 : World} (t : Ex) (v : Ev) (w : World) (hw : t.wf) (hf : t.fine) (hv : Tg w0 t v) : Calls Tryz.prog 37 #[.int .i64 v.k] w fun e w' => e = .returned (.int .i64 (t.row : Nat)) ∧ w = w' := by
  cases t with
  | bad => exact hf.elim
  | num r => rw [hv.1]; exact rowOf1 w
  | nm s => rw [hv.1]; exact rowOf2 w
  | bin k a b =>
    rw [hv.1]
    rcases hw.1 with rfl | rfl | rfl | rfl
    · exact rowOf3 w
    · exact rowOf4 w
    · exact rowOf5 w
    · exact rowOf6 w
  | neg a => rw [hv.1]; exact rowOf7 w
set_option maxHeartbeats 1600000 in
theorem gKid_c {w0 : World} (t : Ex) (v : Ev) (n : Nat) (hw : t.wf) (hf : t.fine) (hv : Tg w0 t v) (HW : Hid (Writes w0 t v)) (_ : n ≤ 4) (w : World) (l : List UInt8) (h : WR w0 w l) (hl : l.length + (wrapK n t.row t.pr).length ≤ 10000000) :
    Calls Tryz.prog 36 #[.pointer (some ⟨w0.heap.size, 0, none⟩), .agg #[.int .i64 v.k, .bool v.r.s, .slice v.r.A v.r.n v.r.c, .slice v.r.B v.r.m v.r.d, .string v.s, .slice v.K v.n v.c], .int .i64 n] w (WP w0 w l (wrapK n t.row t.pr)) := by
  have h' := h.alloc (.cells #[.int .i64 v.k, .bool v.r.s, .slice v.r.A v.r.n v.r.c, .slice v.r.B v.r.m v.r.d, .string v.s, .slice v.K v.n v.c] 27)
  have ho := (Oth.refl w0 w).alloc (.cells #[.int .i64 v.k, .bool v.r.s, .slice v.r.A v.r.n v.r.c, .slice v.r.B v.r.m v.r.d, .string v.s, .slice v.K v.n v.c] 27)
  have k_e := C6.new w (.int .i64 v.k) (.bool v.r.s) (.slice v.r.A v.r.n v.r.c) (.slice v.r.B v.r.m v.r.d) (.string v.s) (.slice v.K v.n v.c)
  have hz := h.lt
  have HRW := Lib.hid (fun w => gRow_c t v w hw hf hv)
  have hrow : t.row ≤ 4 := by unfold Ex.row; split <;> (try split) <;> omega
  obtain ⟨e0, e1, e2, e3, e4, e5⟩ := k_e.facts
  go_enter Tryz.func36, Tryz.ntmps36
  by_cases hc : n ≤ t.row
  · have hwr : wrapK n t.row t.pr = t.pr := if_pos hc
    rw [hwr] at hl ⊢
    have i1 : (n : Int) ≤ (t.row : Int) := by omega
    clear hc hwr
    generalize t.row = rr at *
    go_wp2_with fail
    refine (HRW.out _).mono ?_
    rintro e w1 ⟨rfl, rfl⟩
    go_wp2_with fail
    refine (HW.out _ l h' hl).mono ?_
    rintro e w2 ⟨rfl, h2, ho2⟩
    go_wp2
    go_end0
    exact ⟨rfl, h2, ho.trans ho2⟩
  · have hwr : wrapK n t.row t.pr = 40 :: (t.pr ++ [41]) := if_neg hc
    rw [hwr] at hl ⊢
    simp only [List.length_cons, List.length_append, List.length_nil] at hl
    have i1 : ¬ (n : Int) ≤ (t.row : Int) := by omega
    clear hc hwr
    generalize t.row = rr at *
    go_wp2_with fail
    refine (HRW.out _).mono ?_
    rintro e w1 ⟨rfl, rfl⟩
    go_wp2_with fail
    refine (WriteString_c ⟨#[40]⟩ w0 _ l h' (by show l.length + 1 ≤ _; omega)).mono ?_
    rintro e w2 ⟨rfl, h2, ho2⟩
    replace k_e := k_e.oth ho2 (by omega)
    replace ho := ho.trans ho2
    clear e0 e1 e2 e3 e4 e5 ho2
    obtain ⟨e0, e1, e2, e3, e4, e5⟩ := k_e.facts
    go_wp2_with fail
    refine (HW.out _ _ h2 (by simp only [List.length_append]; show l.length + 1 + _ ≤ _; omega)).mono ?_
    rintro e w3 ⟨rfl, h3, ho3⟩
    replace ho := ho.trans ho3
    clear e0 e1 e2 e3 e4 e5
    go_wp2_with fail
    refine (WriteString_c ⟨#[41]⟩ w0 _ _ h3 (by simp only [List.length_append]; show l.length + 1 + _ + 1 ≤ _; omega)).mono ?_
    rintro e w4 ⟨rfl, h4, ho4⟩
    go_wp2
    go_end0
    refine ⟨rfl, ?_, ho.trans ho4⟩
    have e1 : l ++ (⟨#[40]⟩ : ByteArray).data.toList ++ t.pr ++ (⟨#[41]⟩ : ByteArray).data.toList = l ++ 40 :: (t.pr ++ [41]) := by
      show l ++ [40] ++ t.pr ++ [41] = _
      simp
    rw [e1] at h4
    exact h4

set_option maxHeartbeats 1600000 in
theorem gwrite_num {w0 : World} (y : Rv) (K : Option Addr) (c : Nat) (r : Rat) (hy : Rt w0 0 y r) (hr : NumOk r) (ht : Tb w0) (w : World) (l : List UInt8) (h : WR w0 w l) (hl : l.length + (dxt r).length ≤ 10000000) :
    Calls Tryz.prog 20 #[.pointer (some ⟨w0.heap.size, 0, none⟩), .agg #[.int .i64 1, .bool y.s, .slice y.A y.n y.c, .slice y.B y.m y.d, .string ⟨#[]⟩, .slice K 0 c]] w (WP w0 w l (dxt r)) := by
  obtain ⟨G, hE, hG⟩ := dxt_of hr
  have HE := Lib.hid hE
  have hsz : Sz r 16 := ⟨Bd.ofL hr.1, Bd.ofL hr.2.1⟩
  have hyw := ((hy.rw hsz).more (show 16 ≤ 400 by omega))
  have hgs : G.size = (dxt r).length := by rw [← hG, data_size]
  clear hE hsz
  have h' := h.alloc (.cells #[.int .i64 1, .bool y.s, .slice y.A y.n y.c, .slice y.B y.m y.d, .string ⟨#[]⟩, .slice K 0 c] 27)
  have ho := (Oth.refl w0 w).alloc (.cells #[.int .i64 1, .bool y.s, .slice y.A y.n y.c, .slice y.B y.m y.d, .string ⟨#[]⟩, .slice K 0 c] 27)
  have k_e := C6.new w (.int .i64 1) (.bool y.s) (.slice y.A y.n y.c) (.slice y.B y.m y.d) (.string ⟨#[]⟩) (.slice K 0 c)
  have hz := h.lt
  obtain ⟨e0, e1, e2, e3, e4, e5⟩ := k_e.facts
  replace hyw := hyw.below (h'.2)
  replace ht := ht.below (h'.2)
  go_enter Tryz.func20, Tryz.ntmps20
  go_wp2_with fail
  refine (dExact_v G true y r _ HE.out hyw ht).mono ?_
  rintro e w1 ⟨rfl, hb⟩
  replace h' := h'.below hb
  replace ho := ho.below hb
  clear e0 e1 e2 e3 e4 e5
  go_wp2_with fail
  refine (WriteString_c G w0 _ l h' (by omega)).mono ?_
  rintro e w2 ⟨rfl, h2, ho2⟩
  rw [hG] at h2
  go_wp2
  go_end0
  exact ⟨rfl, h2, ho.trans ho2⟩

set_option maxHeartbeats 1600000 in
theorem gwrite_nm {w0 : World} (y : Rv) (s : ByteArray) (K : Option Addr) (c : Nat) (w : World) (l : List UInt8) (h : WR w0 w l) (hl : l.length + s.data.toList.length ≤ 10000000) :
    Calls Tryz.prog 20 #[.pointer (some ⟨w0.heap.size, 0, none⟩), .agg #[.int .i64 2, .bool y.s, .slice y.A y.n y.c, .slice y.B y.m y.d, .string s, .slice K 0 c]] w (WP w0 w l s.data.toList) := by
  rw [data_size] at hl
  have h' := h.alloc (.cells #[.int .i64 2, .bool y.s, .slice y.A y.n y.c, .slice y.B y.m y.d, .string s, .slice K 0 c] 27)
  have ho := (Oth.refl w0 w).alloc (.cells #[.int .i64 2, .bool y.s, .slice y.A y.n y.c, .slice y.B y.m y.d, .string s, .slice K 0 c] 27)
  have k_e := C6.new w (.int .i64 2) (.bool y.s) (.slice y.A y.n y.c) (.slice y.B y.m y.d) (.string s) (.slice K 0 c)
  have hz := h.lt
  obtain ⟨e0, e1, e2, e3, e4, e5⟩ := k_e.facts
  go_enter Tryz.func20, Tryz.ntmps20
  go_wp2_with fail
  refine (WriteString_c s w0 _ l h' (by omega)).mono ?_
  rintro e w2 ⟨rfl, h2, ho2⟩
  go_wp2
  go_end0
  exact ⟨rfl, h2, ho.trans ho2⟩

set_option maxHeartbeats 3200000 in
theorem gwrite_neg {w0 : World} (a : Ex) (x : Ev) (r : Rv) (b0 off c : Nat) (hb0 : b0 < w0.heap.size) (hx : At6 w0 b0 off x) (hw : a.wf) (hf : a.fine) (hv : Tg w0 a x) (HW : Hid (Writes w0 a x)) (w : World) (l : List UInt8) (h : WR w0 w l) (hl : l.length + (45 :: wrapK 3 a.row a.pr).length ≤ 10000000) :
    Calls Tryz.prog 20 #[.pointer (some ⟨w0.heap.size, 0, none⟩), .agg #[.int .i64 7, .bool r.s, .slice r.A r.n r.c, .slice r.B r.m r.d, .string ⟨#[]⟩, .slice (some ⟨b0, off, none⟩) 1 c]] w (WP w0 w l (45 :: wrapK 3 a.row a.pr)) := by
  simp only [List.length_cons] at hl
  have h' := h.alloc (.cells #[.int .i64 7, .bool r.s, .slice r.A r.n r.c, .slice r.B r.m r.d, .string ⟨#[]⟩, .slice (some ⟨b0, off, none⟩) 1 c] 27)
  have ho := (Oth.refl w0 w).alloc (.cells #[.int .i64 7, .bool r.s, .slice r.A r.n r.c, .slice r.B r.m r.d, .string ⟨#[]⟩, .slice (some ⟨b0, off, none⟩) 1 c] 27)
  have k_e := C6.new w (.int .i64 7) (.bool r.s) (.slice r.A r.n r.c) (.slice r.B r.m r.d) (.string ⟨#[]⟩) (.slice (some ⟨b0, off, none⟩) 1 c)
  have hz := h.lt
  obtain ⟨e0, e1, e2, e3, e4, e5⟩ := k_e.facts
  go_enter Tryz.func20, Tryz.ntmps20
  go_wp2_with fail
  refine (WriteString_c ⟨#[45]⟩ w0 _ l h' (by show l.length + 1 ≤ _; omega)).mono ?_
  rintro e w1 ⟨rfl, h1, ho1⟩
  replace k_e := k_e.oth ho1 (by omega)
  replace ho := ho.trans ho1
  clear e0 e1 e2 e3 e4 e5 ho1
  obtain ⟨e0, e1, e2, e3, e4, e5⟩ := k_e.facts
  obtain ⟨y0, y1, y2, y3, y4, y5⟩ := hx.keep (h1.2.block b0 hb0)
  go_wp2_with fail
  refine (gKid_c a x 3 hw hf hv HW (by omega) _ _ h1 (by simp only [List.length_append]; show l.length + 1 + _ ≤ _; omega)).mono ?_
  rintro e w2 ⟨rfl, h2, ho2⟩
  go_wp2
  go_end0
  refine ⟨rfl, ?_, ho.trans ho2⟩
  have e1 : l ++ (⟨#[45]⟩ : ByteArray).data.toList ++ wrapK 3 a.row a.pr = l ++ 45 :: wrapK 3 a.row a.pr := by
    show l ++ [45] ++ _ = _
    simp
  rw [e1] at h2
  exact h2

set_option maxHeartbeats 6400000 in
theorem gwrite_bin3 {w0 : World} (a b : Ex) (x y : Ev) (r : Rv) (b0 off c : Nat) (hb0 : b0 < w0.heap.size) (hx : At6 w0 b0 off x) (hy : At6 w0 b0 (off + 6) y) (wa : a.wf) (wb : b.wf) (fa : a.fine) (fb : b.fine) (ha : Tg w0 a x) (hb : Tg w0 b y) (HA : Hid (Writes w0 a x)) (HB : Hid (Writes w0 b y))
    (w : World) (l : List UInt8) (h : WR w0 w l) (hl : l.length + (wrapK 1 a.row a.pr ++ [32, 43, 32] ++ wrapK 2 b.row b.pr).length ≤ 10000000) :
    Calls Tryz.prog 20 #[.pointer (some ⟨w0.heap.size, 0, none⟩), .agg #[.int .i64 3, .bool r.s, .slice r.A r.n r.c, .slice r.B r.m r.d, .string ⟨#[]⟩, .slice (some ⟨b0, off, none⟩) 2 c]] w (WP w0 w l (wrapK 1 a.row a.pr ++ [32, 43, 32] ++ wrapK 2 b.row b.pr)) := by
  simp only [List.length_append, List.length_cons, List.length_nil] at hl
  have h' := h.alloc (.cells #[.int .i64 3, .bool r.s, .slice r.A r.n r.c, .slice r.B r.m r.d, .string ⟨#[]⟩, .slice (some ⟨b0, off, none⟩) 2 c] 27)
  have ho := (Oth.refl w0 w).alloc (.cells #[.int .i64 3, .bool r.s, .slice r.A r.n r.c, .slice r.B r.m r.d, .string ⟨#[]⟩, .slice (some ⟨b0, off, none⟩) 2 c] 27)
  have k_e := C6.new w (.int .i64 3) (.bool r.s) (.slice r.A r.n r.c) (.slice r.B r.m r.d) (.string ⟨#[]⟩) (.slice (some ⟨b0, off, none⟩) 2 c)
  have hz := h.lt
  obtain ⟨e0, e1, e2, e3, e4, e5⟩ := k_e.facts
  obtain ⟨x0, x1, x2, x3, x4, x5⟩ := hx.keep (h'.2.block b0 hb0)
  go_enter Tryz.func20, Tryz.ntmps20
  go_wp2_with fail
  refine (rowOf3 _).mono ?_
  rintro e w1 ⟨rfl, rfl⟩
  go_wp2_with fail
  refine (gKid_c a x 1 wa fa ha HA (by omega) _ _ h' (by omega)).mono ?_
  rintro e w2 ⟨rfl, h2, ho2⟩
  replace k_e := k_e.oth ho2 (by omega)
  replace ho := ho.trans ho2
  clear e0 e1 e2 e3 e4 e5 ho2 x0 x1 x2 x3 x4 x5
  obtain ⟨e0, e1, e2, e3, e4, e5⟩ := k_e.facts
  go_wp2_with fail
  refine (signOf3 _).mono ?_
  rintro e w3 ⟨rfl, rfl⟩
  go_wp2_with fail
  refine (WriteString_c ⟨#[32, 43, 32]⟩ w0 _ _ h2 (by simp only [List.length_append]; show _ + 3 ≤ _; omega)).mono ?_
  rintro e w4 ⟨rfl, h4, ho4⟩
  replace k_e := k_e.oth ho4 (by omega)
  replace ho := ho.trans ho4
  clear e0 e1 e2 e3 e4 e5 ho4
  obtain ⟨e0, e1, e2, e3, e4, e5⟩ := k_e.facts
  obtain ⟨y0, y1, y2, y3, y4, y5⟩ := hy.keep (h4.2.block b0 hb0)
  go_wp2_with fail
  refine (gKid_c b y 2 wb fb hb HB (by omega) _ _ h4 (by simp only [List.length_append]; show _ + 3 + _ ≤ _; omega)).mono ?_
  rintro e w5 ⟨rfl, h5, ho5⟩
  go_wp2
  go_end0
  refine ⟨rfl, ?_, ho.trans ho5⟩
  have e1 : l ++ wrapK 1 a.row a.pr ++ (⟨#[32, 43, 32]⟩ : ByteArray).data.toList ++ wrapK 2 b.row b.pr = l ++ (wrapK 1 a.row a.pr ++ [32, 43, 32] ++ wrapK 2 b.row b.pr) := by
    show l ++ _ ++ [32, 43, 32] ++ _ = _
    simp only [List.append_assoc]
  rw [e1] at h5
  exact h5

set_option maxHeartbeats 6400000 in
theorem gwrite_bin4 {w0 : World} (a b : Ex) (x y : Ev) (r : Rv) (b0 off c : Nat) (hb0 : b0 < w0.heap.size) (hx : At6 w0 b0 off x) (hy : At6 w0 b0 (off + 6) y) (wa : a.wf) (wb : b.wf) (fa : a.fine) (fb : b.fine) (ha : Tg w0 a x) (hb : Tg w0 b y) (HA : Hid (Writes w0 a x)) (HB : Hid (Writes w0 b y))
    (w : World) (l : List UInt8) (h : WR w0 w l) (hl : l.length + (wrapK 1 a.row a.pr ++ [32, 45, 32] ++ wrapK 2 b.row b.pr).length ≤ 10000000) :
    Calls Tryz.prog 20 #[.pointer (some ⟨w0.heap.size, 0, none⟩), .agg #[.int .i64 4, .bool r.s, .slice r.A r.n r.c, .slice r.B r.m r.d, .string ⟨#[]⟩, .slice (some ⟨b0, off, none⟩) 2 c]] w (WP w0 w l (wrapK 1 a.row a.pr ++ [32, 45, 32] ++ wrapK 2 b.row b.pr)) := by
  simp only [List.length_append, List.length_cons, List.length_nil] at hl
  have h' := h.alloc (.cells #[.int .i64 4, .bool r.s, .slice r.A r.n r.c, .slice r.B r.m r.d, .string ⟨#[]⟩, .slice (some ⟨b0, off, none⟩) 2 c] 27)
  have ho := (Oth.refl w0 w).alloc (.cells #[.int .i64 4, .bool r.s, .slice r.A r.n r.c, .slice r.B r.m r.d, .string ⟨#[]⟩, .slice (some ⟨b0, off, none⟩) 2 c] 27)
  have k_e := C6.new w (.int .i64 4) (.bool r.s) (.slice r.A r.n r.c) (.slice r.B r.m r.d) (.string ⟨#[]⟩) (.slice (some ⟨b0, off, none⟩) 2 c)
  have hz := h.lt
  obtain ⟨e0, e1, e2, e3, e4, e5⟩ := k_e.facts
  obtain ⟨x0, x1, x2, x3, x4, x5⟩ := hx.keep (h'.2.block b0 hb0)
  go_enter Tryz.func20, Tryz.ntmps20
  go_wp2_with fail
  refine (rowOf4 _).mono ?_
  rintro e w1 ⟨rfl, rfl⟩
  go_wp2_with fail
  refine (gKid_c a x 1 wa fa ha HA (by omega) _ _ h' (by omega)).mono ?_
  rintro e w2 ⟨rfl, h2, ho2⟩
  replace k_e := k_e.oth ho2 (by omega)
  replace ho := ho.trans ho2
  clear e0 e1 e2 e3 e4 e5 ho2 x0 x1 x2 x3 x4 x5
  obtain ⟨e0, e1, e2, e3, e4, e5⟩ := k_e.facts
  go_wp2_with fail
  refine (signOf4 _).mono ?_
  rintro e w3 ⟨rfl, rfl⟩
  go_wp2_with fail
  refine (WriteString_c ⟨#[32, 45, 32]⟩ w0 _ _ h2 (by simp only [List.length_append]; show _ + 3 ≤ _; omega)).mono ?_
  rintro e w4 ⟨rfl, h4, ho4⟩
  replace k_e := k_e.oth ho4 (by omega)
  replace ho := ho.trans ho4
  clear e0 e1 e2 e3 e4 e5 ho4
  obtain ⟨e0, e1, e2, e3, e4, e5⟩ := k_e.facts
  obtain ⟨y0, y1, y2, y3, y4, y5⟩ := hy.keep (h4.2.block b0 hb0)
  go_wp2_with fail
  refine (gKid_c b y 2 wb fb hb HB (by omega) _ _ h4 (by simp only [List.length_append]; show _ + 3 + _ ≤ _; omega)).mono ?_
  rintro e w5 ⟨rfl, h5, ho5⟩
  go_wp2
  go_end0
  refine ⟨rfl, ?_, ho.trans ho5⟩
  have e1 : l ++ wrapK 1 a.row a.pr ++ (⟨#[32, 45, 32]⟩ : ByteArray).data.toList ++ wrapK 2 b.row b.pr = l ++ (wrapK 1 a.row a.pr ++ [32, 45, 32] ++ wrapK 2 b.row b.pr) := by
    show l ++ _ ++ [32, 45, 32] ++ _ = _
    simp only [List.append_assoc]
  rw [e1] at h5
  exact h5

set_option maxHeartbeats 6400000 in
theorem gwrite_bin5 {w0 : World} (a b : Ex) (x y : Ev) (r : Rv) (b0 off c : Nat) (hb0 : b0 < w0.heap.size) (hx : At6 w0 b0 off x) (hy : At6 w0 b0 (off + 6) y) (wa : a.wf) (wb : b.wf) (fa : a.fine) (fb : b.fine) (ha : Tg w0 a x) (hb : Tg w0 b y) (HA : Hid (Writes w0 a x)) (HB : Hid (Writes w0 b y))
    (w : World) (l : List UInt8) (h : WR w0 w l) (hl : l.length + (wrapK 2 a.row a.pr ++ [32, 42, 32] ++ wrapK 3 b.row b.pr).length ≤ 10000000) :
    Calls Tryz.prog 20 #[.pointer (some ⟨w0.heap.size, 0, none⟩), .agg #[.int .i64 5, .bool r.s, .slice r.A r.n r.c, .slice r.B r.m r.d, .string ⟨#[]⟩, .slice (some ⟨b0, off, none⟩) 2 c]] w (WP w0 w l (wrapK 2 a.row a.pr ++ [32, 42, 32] ++ wrapK 3 b.row b.pr)) := by
  simp only [List.length_append, List.length_cons, List.length_nil] at hl
  have h' := h.alloc (.cells #[.int .i64 5, .bool r.s, .slice r.A r.n r.c, .slice r.B r.m r.d, .string ⟨#[]⟩, .slice (some ⟨b0, off, none⟩) 2 c] 27)
  have ho := (Oth.refl w0 w).alloc (.cells #[.int .i64 5, .bool r.s, .slice r.A r.n r.c, .slice r.B r.m r.d, .string ⟨#[]⟩, .slice (some ⟨b0, off, none⟩) 2 c] 27)
  have k_e := C6.new w (.int .i64 5) (.bool r.s) (.slice r.A r.n r.c) (.slice r.B r.m r.d) (.string ⟨#[]⟩) (.slice (some ⟨b0, off, none⟩) 2 c)
  have hz := h.lt
  obtain ⟨e0, e1, e2, e3, e4, e5⟩ := k_e.facts
  obtain ⟨x0, x1, x2, x3, x4, x5⟩ := hx.keep (h'.2.block b0 hb0)
  go_enter Tryz.func20, Tryz.ntmps20
  go_wp2_with fail
  refine (rowOf5 _).mono ?_
  rintro e w1 ⟨rfl, rfl⟩
  go_wp2_with fail
  refine (gKid_c a x 2 wa fa ha HA (by omega) _ _ h' (by omega)).mono ?_
  rintro e w2 ⟨rfl, h2, ho2⟩
  replace k_e := k_e.oth ho2 (by omega)
  replace ho := ho.trans ho2
  clear e0 e1 e2 e3 e4 e5 ho2 x0 x1 x2 x3 x4 x5
  obtain ⟨e0, e1, e2, e3, e4, e5⟩ := k_e.facts
  go_wp2_with fail
  refine (signOf5 _).mono ?_
  rintro e w3 ⟨rfl, rfl⟩
  go_wp2_with fail
  refine (WriteString_c ⟨#[32, 42, 32]⟩ w0 _ _ h2 (by simp only [List.length_append]; show _ + 3 ≤ _; omega)).mono ?_
  rintro e w4 ⟨rfl, h4, ho4⟩
  replace k_e := k_e.oth ho4 (by omega)
  replace ho := ho.trans ho4
  clear e0 e1 e2 e3 e4 e5 ho4
  obtain ⟨e0, e1, e2, e3, e4, e5⟩ := k_e.facts
  obtain ⟨y0, y1, y2, y3, y4, y5⟩ := hy.keep (h4.2.block b0 hb0)
  go_wp2_with fail
  refine (gKid_c b y 3 wb fb hb HB (by omega) _ _ h4 (by simp only [List.length_append]; show _ + 3 + _ ≤ _; omega)).mono ?_
  rintro e w5 ⟨rfl, h5, ho5⟩
  go_wp2
  go_end0
  refine ⟨rfl, ?_, ho.trans ho5⟩
  have e1 : l ++ wrapK 2 a.row a.pr ++ (⟨#[32, 42, 32]⟩ : ByteArray).data.toList ++ wrapK 3 b.row b.pr = l ++ (wrapK 2 a.row a.pr ++ [32, 42, 32] ++ wrapK 3 b.row b.pr) := by
    show l ++ _ ++ [32, 42, 32] ++ _ = _
    simp only [List.append_assoc]
  rw [e1] at h5
  exact h5

set_option maxHeartbeats 6400000 in
theorem gwrite_bin6 {w0 : World} (a b : Ex) (x y : Ev) (r : Rv) (b0 off c : Nat) (hb0 : b0 < w0.heap.size) (hx : At6 w0 b0 off x) (hy : At6 w0 b0 (off + 6) y) (wa : a.wf) (wb : b.wf) (fa : a.fine) (fb : b.fine) (ha : Tg w0 a x) (hb : Tg w0 b y) (HA : Hid (Writes w0 a x)) (HB : Hid (Writes w0 b y))
    (w : World) (l : List UInt8) (h : WR w0 w l) (hl : l.length + (wrapK 2 a.row a.pr ++ [32, 47, 32] ++ wrapK 3 b.row b.pr).length ≤ 10000000) :
    Calls Tryz.prog 20 #[.pointer (some ⟨w0.heap.size, 0, none⟩), .agg #[.int .i64 6, .bool r.s, .slice r.A r.n r.c, .slice r.B r.m r.d, .string ⟨#[]⟩, .slice (some ⟨b0, off, none⟩) 2 c]] w (WP w0 w l (wrapK 2 a.row a.pr ++ [32, 47, 32] ++ wrapK 3 b.row b.pr)) := by
  simp only [List.length_append, List.length_cons, List.length_nil] at hl
  have h' := h.alloc (.cells #[.int .i64 6, .bool r.s, .slice r.A r.n r.c, .slice r.B r.m r.d, .string ⟨#[]⟩, .slice (some ⟨b0, off, none⟩) 2 c] 27)
  have ho := (Oth.refl w0 w).alloc (.cells #[.int .i64 6, .bool r.s, .slice r.A r.n r.c, .slice r.B r.m r.d, .string ⟨#[]⟩, .slice (some ⟨b0, off, none⟩) 2 c] 27)
  have k_e := C6.new w (.int .i64 6) (.bool r.s) (.slice r.A r.n r.c) (.slice r.B r.m r.d) (.string ⟨#[]⟩) (.slice (some ⟨b0, off, none⟩) 2 c)
  have hz := h.lt
  obtain ⟨e0, e1, e2, e3, e4, e5⟩ := k_e.facts
  obtain ⟨x0, x1, x2, x3, x4, x5⟩ := hx.keep (h'.2.block b0 hb0)
  go_enter Tryz.func20, Tryz.ntmps20
  go_wp2_with fail
  refine (rowOf6 _).mono ?_
  rintro e w1 ⟨rfl, rfl⟩
  go_wp2_with fail
  refine (gKid_c a x 2 wa fa ha HA (by omega) _ _ h' (by omega)).mono ?_
  rintro e w2 ⟨rfl, h2, ho2⟩
  replace k_e := k_e.oth ho2 (by omega)
  replace ho := ho.trans ho2
  clear e0 e1 e2 e3 e4 e5 ho2 x0 x1 x2 x3 x4 x5
  obtain ⟨e0, e1, e2, e3, e4, e5⟩ := k_e.facts
  go_wp2_with fail
  refine (signOf6 _).mono ?_
  rintro e w3 ⟨rfl, rfl⟩
  go_wp2_with fail
  refine (WriteString_c ⟨#[32, 47, 32]⟩ w0 _ _ h2 (by simp only [List.length_append]; show _ + 3 ≤ _; omega)).mono ?_
  rintro e w4 ⟨rfl, h4, ho4⟩
  replace k_e := k_e.oth ho4 (by omega)
  replace ho := ho.trans ho4
  clear e0 e1 e2 e3 e4 e5 ho4
  obtain ⟨e0, e1, e2, e3, e4, e5⟩ := k_e.facts
  obtain ⟨y0, y1, y2, y3, y4, y5⟩ := hy.keep (h4.2.block b0 hb0)
  go_wp2_with fail
  refine (gKid_c b y 3 wb fb hb HB (by omega) _ _ h4 (by simp only [List.length_append]; show _ + 3 + _ ≤ _; omega)).mono ?_
  rintro e w5 ⟨rfl, h5, ho5⟩
  go_wp2
  go_end0
  refine ⟨rfl, ?_, ho.trans ho5⟩
  have e1 : l ++ wrapK 2 a.row a.pr ++ (⟨#[32, 47, 32]⟩ : ByteArray).data.toList ++ wrapK 3 b.row b.pr = l ++ (wrapK 2 a.row a.pr ++ [32, 47, 32] ++ wrapK 3 b.row b.pr) := by
    show l ++ _ ++ [32, 47, 32] ++ _ = _
    simp only [List.append_assoc]
  rw [e1] at h5
  exact h5
theorem gwrite_c {w0 : World} (ht : Tb w0) : ∀ (t : Ex) (v : Ev), t.wf → t.fine → Tg w0 t v → Writes w0 t v := by
  intro t
  induction t with
  | bad => exact fun v _ hf _ => hf.elim
  | num r =>
    intro v _ hf hv w l h hl
    obtain ⟨vk, y, st, K, n, c⟩ := v
    obtain ⟨h1, h2, h3, hr⟩ := hv
    dsimp only at h1 h2 h3 hr
    subst h1; subst h2; subst h3
    exact gwrite_num y K c r hr hf ht w l h hl
  | nm s =>
    intro v _ hf hv w l h hl
    obtain ⟨vk, y, st, K, n, c⟩ := v
    obtain ⟨h1, h2, h3, hr⟩ := hv
    dsimp only at h1 h2 h3 hr
    subst h1; subst h2; subst h3
    exact gwrite_nm y st K c w l h hl
  | bin k a b iha ihb =>
    intro v hw hf hv w l h hl
    obtain ⟨vk, y, st, K, n, c⟩ := v
    obtain ⟨h1, h2, h3, hr, b0, off, p, z, h5, h6, h7, h8, h9, h10⟩ := hv
    dsimp only at h1 h2 h3 hr h5
    subst h1; subst h2; subst h3; subst h5
    have HA := Lib.hid (iha p hw.2.1 hf.1 h9)
    have HB := Lib.hid (ihb z hw.2.2 hf.2 h10)
    rcases hw.1 with rfl | rfl | rfl | rfl
    · exact gwrite_bin3 a b p z y b0 off c h6 h7 h8 hw.2.1 hw.2.2 hf.1 hf.2 h9 h10 HA HB w l h hl
    · exact gwrite_bin4 a b p z y b0 off c h6 h7 h8 hw.2.1 hw.2.2 hf.1 hf.2 h9 h10 HA HB w l h hl
    · exact gwrite_bin5 a b p z y b0 off c h6 h7 h8 hw.2.1 hw.2.2 hf.1 hf.2 h9 h10 HA HB w l h hl
    · exact gwrite_bin6 a b p z y b0 off c h6 h7 h8 hw.2.1 hw.2.2 hf.1 hf.2 h9 h10 HA HB w l h hl
  | neg a iha =>
    intro v hw hf hv w l h hl
    obtain ⟨vk, y, st, K, n, c⟩ := v
    obtain ⟨h1, h2, h3, hr, b0, off, p, h5, h6, h7, h8⟩ := hv
    dsimp only at h1 h2 h3 hr h5
    subst h1; subst h2; subst h3; subst h5
    exact gwrite_neg a p y b0 off c h6 h7 hw hf h8 (Lib.hid (iha p hw hf h8)) w l h hl
set_option maxHeartbeats 3200000 in
theorem gPrint_c {w : World} {t : Ex} {v : Ev} (hm : t.may 32 256) (hw : t.wf) (hv : Tg w t v) (ht : Tb w) :
    Calls Tryz.prog 9 #[.agg #[.int .i64 v.k, .bool v.r.s, .slice v.r.A v.r.n v.r.c, .slice v.r.B v.r.m v.r.d, .string v.s, .slice v.K v.n v.c]] w fun e w' => e = .returned (.string ⟨t.pr.toArray⟩) ∧ Below w.heap.size w w' := by
  have hl := pr_len t hm.1
  have hnn := hm.2.2
  have k_e := C6.new w (.int .i64 v.k) (.bool v.r.s) (.slice v.r.A v.r.n v.r.c) (.slice v.r.B v.r.m v.r.d) (.string v.s) (.slice v.K v.n v.c)
  have hb0 := (Below.refl w.heap.size w).alloc (Nat.le_refl _) (.cells #[.int .i64 v.k, .bool v.r.s, .slice v.r.A v.r.n v.r.c, .slice v.r.B v.r.m v.r.d, .string v.s, .slice v.K v.n v.c] 27)
  replace hv := Tg.below hb0 t v hv
  replace ht := ht.below hb0
  obtain ⟨e0, e1, e2, e3, e4, e5⟩ := k_e.facts
  go_enter Tryz.func9, Tryz.ntmps9
  go_wp2_with fail
  refine (gIs_c true ⟨fun _ => hm, fun _ => rfl⟩ hw hv ht).mono ?_
  rintro e w2 ⟨rfl, hb⟩
  replace hv := Tg.below hb t v hv
  replace ht := ht.below hb
  replace k_e := k_e.below hb
  replace hb0 := hb0.trans (hb.mono hb0.size)
  clear hb e0 e1 e2 e3 e4 e5
  have k_e2 := k_e.alloc (.cells #[.pointer none, .slice none 0 0] 47)
  have hWR : WR w2 (w2.alloc (.cells #[.pointer none, .slice none 0 0] 47)) [] := ⟨.of (Lib.fresh_isBuilder _ _ w2), (Below.refl _ _).alloc (Nat.le_refl _) _⟩
  obtain ⟨e0, e1, e2, e3, e4, e5⟩ := k_e2.facts
  go_wp2_with fail
  refine (gwrite_c ht t v hw hm.1 hv _ [] hWR (by simp only [List.length_nil]; omega)).mono ?_
  rintro e w3 ⟨rfl, h3, _⟩
  rw [List.nil_append] at h3
  clear e0 e1 e2 e3 e4 e5
  go_wp2_with fail
  refine (Tryz.Builder_String_any_k w2.heap.size w2.heap.size t.pr _ h3.1 h3.2.size).mono ?_
  rintro e w4 ⟨rfl, _, hb4, _⟩
  go_wp2
  go_ret
  exact ⟨rfl, hb0.trans ((h3.2.trans hb4).mono hb0.size)⟩

end Go.Proofs.YtcmkgoikmleanaaGreatDoor
