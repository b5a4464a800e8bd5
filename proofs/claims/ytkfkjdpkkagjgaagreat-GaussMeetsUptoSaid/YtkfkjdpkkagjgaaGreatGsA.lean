/-
  The program's eliminations: 1, whole numbers.
-/
import Derived.Test.YtkfkjdpkkagjgaaGreatStn
import Derived.Test.YtkfkjdpkkagjgaaGreatMRb
import Derived.Test.YtkfkjdpkkagjgaaGreatMAa
namespace Go.Proofs.YtkfkjdpkkagjgaaGreat
set_option maxRecDepth 20000
open Go.RowKit
theorem one_sz : Sz ((1 : Int) : Rat) 1 := by
 have := Sz.lit (x := 1) (y := 1) (s := false) (by omega) (by omega)
 rw [rn_int] at this
 simpa using this
structure OneAt (W wx : World) (X : Nat) (z : Rv) (q : Rat) : Prop where
 cell : C3 wx X (.bool z.s) (.slice z.A z.n z.c) (.slice z.B z.m z.d)
 below : Below W.heap.size W wx
 lo : W.heap.size ≤ X
 num : Rt wx W.heap.size z q
theorem OneAt.new {W w7 : World} {z : Rv} {q : Rat} {lo : Nat} (hb : Below W.heap.size W w7) (hz : Rt w7 lo z q) (hl : W.heap.size ≤ lo) : OneAt W (w7.alloc (.cells #[.bool z.s, .slice z.A z.n z.c, .slice z.B z.m z.d] 26)) w7.heap.size z q :=
 ⟨C3.new w7 (.bool z.s) (.slice z.A z.n z.c) (.slice z.B z.m z.d), hb.alloc hb.size _, hb.size, (hz.below ((Below.refl _ _).alloc (Nat.le_refl _) _)).lower hl⟩
theorem OneAt.put {W w7 : World} {X lo : Nat} {z : Rv} {q : Rat} (hk : C3 w7 X (.bool false) (.slice none 0 0) (.slice none 0 0)) (hX : W.heap.size ≤ X) (hl : X < lo) (hb : Below W.heap.size W w7) (hz : Rt w7 lo z q) : OneAt W (put3 w7 X (.bool z.s) (.slice z.A z.n z.c) (.slice z.B z.m z.d)) X z q :=
 ⟨hk.put _ _ _, hb.trans (put3_below hX _ _ _), hX, (hz.put hl _ _ _).lower (by omega)⟩
theorem one_al {W w6 : World} (h : Below (W.alloc (.cells #[.bool false, .slice none 0 0, .slice none 0 0] 26)).drew.heap.size (W.alloc (.cells #[.bool false, .slice none 0 0, .slice none 0 0] 26)).drew w6) : Below W.heap.size W w6 ∧ C3 w6 W.heap.size (.bool false) (.slice none 0 0) (.slice none 0 0) ∧ W.heap.size < w6.heap.size := by
 have h0 : Below W.heap.size W (W.alloc (.cells #[.bool false, .slice none 0 0, .slice none 0 0] 26)).drew := ((Below.refl _ _).alloc (Nat.le_refl _) _).drew
 have k0 : C3 (W.alloc (.cells #[.bool false, .slice none 0 0, .slice none 0 0] 26)).drew W.heap.size (.bool false) (.slice none 0 0) (.slice none 0 0) := C3.new W (.bool false) (.slice none 0 0) (.slice none 0 0)
 have k1 := k0.below h
 exact ⟨h0.trans (h.mono h0.size), k1, k1.lt⟩
theorem one_al2 {W w6 w7 : World} (h : Below W.heap.size W w6 ∧ C3 w6 W.heap.size (.bool false) (.slice none 0 0) (.slice none 0 0) ∧ W.heap.size < w6.heap.size) (hb : Below w6.heap.size w6 w7) : Below W.heap.size W w7 ∧ C3 w7 W.heap.size (.bool false) (.slice none 0 0) (.slice none 0 0) :=
 ⟨h.1.trans (hb.mono h.1.size), h.2.1.below hb⟩
theorem one_al3 {W w6 w7 : World} (h : Below W.heap.size W w6) (hb : Below (w6.alloc (.cells #[.bool false, .slice none 0 0, .slice none 0 0] 26)).heap.size (w6.alloc (.cells #[.bool false, .slice none 0 0, .slice none 0 0] 26)) w7) : Below W.heap.size W w7 ∧ C3 w7 w6.heap.size (.bool false) (.slice none 0 0) (.slice none 0 0) := by
 have h0 : Below w6.heap.size w6 (w6.alloc (.cells #[.bool false, .slice none 0 0, .slice none 0 0] 26)) := (Below.refl _ _).alloc (Nat.le_refl _) _
 exact ⟨(h.trans (h0.mono h.size)).trans (hb.mono (Nat.le_trans h.size h0.size)), (C3.new w6 (.bool false) (.slice none 0 0) (.slice none 0 0)).below hb⟩
theorem OneAt.under {W wx w2 : World} {X : Nat} {z : Rv} {q : Rat} (h : OneAt W wx X z q) (hb : Below wx.heap.size wx w2) : OneAt W w2 X z q :=
 ⟨h.cell.below hb, h.below.trans (hb.mono h.below.size), h.lo, h.num.below hb⟩
theorem num_one : ((1 : Int) : Rat).num.natAbs = 1 := rfl
set_option maxHeartbeats 1600000 in
theorem one_c (w : World) : Calls Tryz.prog 86 #[] w fun e w' => ∃ (A : Option Addr) (n c : Nat), e = .returned (.slice A n c) ∧ n ≤ c ∧ n ≤ 2 ∧ Row w' w.heap.size A n (lim 1) ∧ Below w.heap.size w w' := by
 go_enter Tryz.func86, Tryz.ntmps86
 go_wp2_with fail
 refine (Int_any 1 _ (by omega)).mono ?_
 rintro e w1 ⟨z, rfl, hz, hb⟩
 have HZ := Lib.hid (And.intro hz hb)
 clear hz hb
 have hfd : ∀ w : World, (Instr.field 26 (.agg #[.bool z.s, .slice z.A z.n z.c, .slice z.B z.m z.d]) 1).run Tryz.prog w = .ok (.slice z.A z.n z.c) w := fun _ => by kernel_rfl
 go_wp2
 go_ret
 refine ⟨z.A, z.n, z.c, rfl, HZ.out.1.numCap, ?_, ?_, HZ.out.2⟩
 · have := (HZ.out.1.rw one_sz).numLe; omega
 · have := HZ.out.1.num; rw [num_one] at this; exact this
theorem rn_whole (s : Bool) (x : Nat) : rn s x 1 = ((if s then -(x : Int) else (x : Int) : Int) : Rat) := rn_int s x
theorem val_lim1 : val (lim 1) = 1 := val_lim 1
set_option maxHeartbeats 1600000 in
theorem whole_c (B : Option Addr) (m d x : Nat) (b : List Nat) (w : World) (hb : Row w 0 B m b) (hx : val b = x) (hm : m ≤ 40000000000) (hd : m ≤ d) :
  Calls Tryz.prog 85 #[.slice B m d] w fun e w' => ∃ z : Rv, e = .returned (.agg #[.bool z.s, .slice z.A z.n z.c, .slice z.B z.m z.d]) ∧ Rt w' w.heap.size z ((x : Int) : Rat) ∧ Below w.heap.size w w' := by
 have HB := Lib.hid hb
 have HX := Lib.hid hx
 have kz := C3.new w (.bool false) (.slice none 0 0) (.slice none 0 0)
 have hB : Below w.heap.size w (w.alloc (.cells #[.bool false, .slice none 0 0, .slice none 0 0] 26)) := (Below.refl _ _).alloc (Nat.le_refl _) _
 have hs : w.heap.size + 1 ≤ (w.alloc (.cells #[.bool false, .slice none 0 0, .slice none 0 0] 26)).heap.size := by simp
 clear hb hx
 go_enter Tryz.func85, Tryz.ntmps85
 go_wp2_with fail
 generalize w.alloc (.cells #[.bool false, .slice none 0 0, .slice none 0 0] 26) = W at *
 have HW := Lib.hid (And.intro kz (And.intro hB hs))
 clear kz hB hs
 refine (one_c _).mono ?_
 rintro e w1 ⟨A, n, c, rfl, hnc, hn2, hA, hb1⟩
 have H1 := Lib.hid (And.intro hA hb1)
 clear hA hb1
 go_wp2_with fail
 refine (Of_nums false B A m n d c x 1 b (lim 1) (((x : Int)) : Rat) _ HX.out val_lim1 (by omega) (by omega) hd hnc (HB.out.below (HW.out.2.1.trans (H1.out.2.mono HW.out.2.1.size))) (H1.out.1.lower (Nat.zero_le _)) (by rw [rn_whole]; rfl)).mono ?_
 rintro e w2 ⟨z, rfl, hz, hb2⟩
 have k2 := (HW.out.1.below H1.out.2).below hb2
 have H2 : Hid (Rt w2 W.heap.size z (((x : Int)) : Rat) ∧ Below w.heap.size w w2) := ⟨hz.lower H1.out.2.size, (HW.out.2.1.trans (H1.out.2.mono HW.out.2.1.size)).trans (hb2.mono (Nat.le_trans HW.out.2.1.size H1.out.2.size))⟩
 obtain ⟨z0, z1, z2, t0, t1, t2⟩ := k2.facts
 clear hz hb2
 go_wp2
 refine ret3 (fn := Tryz.f85) Tryz.results85 rfl rfl k2 ?_
 exact ⟨z, rfl, (H2.out.1.put (by have := HW.out.2.2; omega) _ _ _).lower (by have := HW.out.2.1.size; omega), H2.out.2.trans (put3_below (Nat.le_refl _) _ _ _)⟩
theorem whole_den (v : Rv) (r : Rat) (lo p : Nat) (w : World) (h : Rt w lo v r) (hz : Sz r p) (hp : p ≤ 40000000000) :
  Calls Tryz.prog 85 #[.slice v.B v.m v.d] w fun e w' => ∃ z : Rv, e = .returned (.agg #[.bool z.s, .slice z.A z.n z.c, .slice z.B z.m z.d]) ∧ Rt w' w.heap.size z (dd r) ∧ Below w.heap.size w w' :=
 whole_c v.B v.m v.d r.den (lim r.den) w (h.den.lower (Nat.zero_le _)) (val_lim _) (by have := (h.rw hz).denLe; omega) h.denCap
end Go.Proofs.YtkfkjdpkkagjgaaGreat
