/-
  The document's rationals, first part: a number normal.
  The document's rationals, second part: what 'x, y := Norm(a), Norm(b)' leaves, whichever way the two variables are made.
  The document's rationals, third part: a number of its parts, whether it is 0.
  The document's rationals: a whole number.
-/
import Derived.Test.YtjbhhccklfddaaaVMRb
import Derived.Test.YtjbhhccklfddaaaVMRq
import Derived.Test.YtjbhhccklfddaaaVMNg
namespace Go.Proofs.Ytjbhhccklfddaaa
set_option maxRecDepth 20000
open Go.RowKit
theorem Rt.nought1 {w : World} {lo : Nat} {A : Option Addr} {c : Nat} (ho : Row w lo A 1 [1]) (hc : 1 ≤ c) : Rt w lo ⟨false, none, 0, 0, A, 1, c⟩ 0 := by
 have hl : lim 1 = [1] := lim_one_limb (by omega) (by omega)
 have h0 : lim (0 : Rat).num.natAbs = [] := by rw [show (0 : Rat).num.natAbs = 0 from rfl, lim_zero]
 refine ⟨rfl, by rw [h0]; rfl, Nat.le_refl _, by rw [h0]; exact Row.nil_ _ _ _, ?_, hc, ?_⟩
 · show 1 = (lim 1).length; rw [hl]; rfl
 · show Row w lo A 1 (lim 1); rw [hl]; exact ho
theorem lim_len_zero {x : Nat} (h : x = 0) : (lim x).length = 0 := by subst h; rw [lim_zero]; rfl
theorem lim_len_pos {x : Nat} (h : x ≠ 0) : 0 < (lim x).length := by rw [lim_pos h]; simp
set_option maxHeartbeats 1600000 in
theorem rNorm_zero2 (v : Rv) (a b : List Nat) (w : World) (h1 : v.n ≤ v.c) (h2 : v.m ≤ v.d) (h3 : v.n ≤ 40000000000) (h4 : v.m ≤ 40000000000) (ha : Row w 0 v.A v.n a) (hb : Row w 0 v.B v.m b) (h0 : Hid (val b = 0)) :
  Calls Try.prog 53 #[.agg #[.bool v.s, .slice v.A v.n v.c, .slice v.B v.m v.d]] w fun e w' => ∃ z : Rv, e = .returned (.agg #[.bool z.s, .slice z.A z.n z.c, .slice z.B z.m z.d]) ∧ Rt w' w.heap.size z 0 ∧ Below w.heap.size w w' := by
 go_enter Try.func53, Try.ntmps53
 go_wp2_with fail
 generalize hW : ((w.alloc (.cells #[.bool v.s, .slice v.A v.n v.c, .slice v.B v.m v.d] 37)).alloc (.cells #[.bool false, .slice none 0 0, .slice none 0 0] 37)) = W
 obtain ⟨ka, kz, HW, hsW⟩ := open1z w v W hW
 clear hW
 replace ha := (ha.below HW).drew
 replace hb := (hb.below HW).drew
 obtain ⟨a0, a1, a2, a3, a4, a5⟩ := ka.facts
 obtain ⟨z0, z1, z2, z3, z4, z5⟩ := kz.facts
 replace ka := ka.drew
 replace kz := kz.drew
 go_region_held3 (fun w' => w'.cell? ⟨w.heap.size, 0, none⟩ = some (.bool v.s) ∧ w'.cell? ⟨w.heap.size, 1, none⟩ = some (.slice v.A v.n v.c) ∧ w'.cell? ⟨w.heap.size, 2, none⟩ = some (.slice v.B v.m v.d)) (go_keep)
   (first
   | (
     go_at_call_of 54 v.A
     refine (rTrim_any v.A v.n v.c a _ (by omega) h1 ha).mono ?_
     rintro e w1 ⟨X1, cx1, rfl, ho1, hb1⟩
     clear a0 a1 a2 a3 a4 a5 z0 z1 z2 z3 z4 z5
     obtain ⟨a0, a1, a2, a3, a4, a5⟩ := (ka.below hb1).facts
     obtain ⟨z0, z1, z2, z3, z4, z5⟩ := (kz.below hb1).facts)
   | (
     go_at_call_of 54 v.B
     refine (rTrim_any v.B v.m v.d b _ (by omega) h2 (hb.below hb1)).mono ?_
     rintro e w2 ⟨X2, cx2, rfl, ho2, hb2⟩
     clear a0 a1 a2 a3 a4 a5 z0 z1 z2 z3 z4 z5
     obtain ⟨a0, a1, a2, a3, a4, a5⟩ := ((ka.below hb1).below hb2).facts
     obtain ⟨z0, z1, z2, z3, z4, z5⟩ := ((kz.below hb1).below hb2).facts))
 rename_i hHeld
 have hsd : W.heap.size ≤ w1.heap.size := hb1.size
 have hs2 := hb2.size
 replace ka := (ka.below hb1).below hb2
 replace kz := (kz.below hb1).below hb2
 have HB : Below w.heap.size w w2 := HW.trans ((below_drewN' w.heap.size W 1).trans ((hb1.mono (by show _ ≤ W.heap.size; omega)).trans (hb2.mono (by omega))))
 have hr1 := (ho1.row.below hb2).lower (Nat.zero_le _)
 have hr2 := ho2.row.lower (Nat.zero_le _)
 have hc1 := ho1.capLe
 have hc2 := ho2.capLe
 have hl1 : (lim (val a)).length ≤ 40000000000 := (ha.bd h3).len
 have hl2 : (lim (val b)).length ≤ 40000000000 := (hb.bd h4).len
 clear ho1 ho2 hb1 hb2 hHeld ha hb HW
 have hlz := lim_len_zero h0.out
 rw [hlz] at hr2 hc2
 generalize hlb : (lim (val b)).length = lb at *
 subst hlz
 clear hlb
 have hlt1 : w.heap.size + 1 < w2.heap.size := by omega
 clear ka
 go_wp2
 have es : (put3 w2 (w.heap.size + 1) (.bool false) (.slice none 0 0) (.slice (some ⟨w2.heap.size, 0, none⟩) 1 1)).heap.size = w2.heap.size := by simp
 have ho := Row.one (w := put3 w2 (w.heap.size + 1) (.bool false) (.slice none 0 0) (.slice (some ⟨w2.heap.size, 0, none⟩) 1 1)) (x := 1) (v := 1) (lo := w.heap.size) rfl (by omega) (by rw [es]; omega)
 rw [es] at ho
 have k3 := (kz.put (.bool false) (.slice none 0 0) (.slice (some ⟨w2.heap.size, 0, none⟩) 1 1)).alloc (.cells #[.int .u32 1] 66)
 refine ret3c (fn := Try.f53) Try.results53 rfl rfl k3 ?_
 have hpb := put3_below (w := w2) (b := w.heap.size + 1) (B := w.heap.size) (by omega) (.bool false) (.slice none 0 0) (.slice (some ⟨w2.heap.size, 0, none⟩) 1 1)
 exact ⟨⟨false, none, 0, 0, some ⟨w2.heap.size, 0, none⟩, 1, 1⟩, rfl, Rt.nought1 ho (Nat.le_refl _), (HB.trans hpb).alloc (by rw [es]; omega) _⟩
set_option maxHeartbeats 1600000 in
theorem rNorm_zero1 (v : Rv) (a b : List Nat) (w : World) (h1 : v.n ≤ v.c) (h2 : v.m ≤ v.d) (h3 : v.n ≤ 40000000000) (h4 : v.m ≤ 40000000000) (ha : Row w 0 v.A v.n a) (hb : Row w 0 v.B v.m b) (h0 : Hid (val a = 0)) (h9 : Hid (val b ≠ 0)) :
  Calls Try.prog 53 #[.agg #[.bool v.s, .slice v.A v.n v.c, .slice v.B v.m v.d]] w fun e w' => ∃ z : Rv, e = .returned (.agg #[.bool z.s, .slice z.A z.n z.c, .slice z.B z.m z.d]) ∧ Rt w' w.heap.size z 0 ∧ Below w.heap.size w w' := by
 go_enter Try.func53, Try.ntmps53
 go_wp2_with fail
 generalize hW : ((w.alloc (.cells #[.bool v.s, .slice v.A v.n v.c, .slice v.B v.m v.d] 37)).alloc (.cells #[.bool false, .slice none 0 0, .slice none 0 0] 37)) = W
 obtain ⟨ka, kz, HW, hsW⟩ := open1z w v W hW
 clear hW
 replace ha := (ha.below HW).drew
 replace hb := (hb.below HW).drew
 obtain ⟨a0, a1, a2, a3, a4, a5⟩ := ka.facts
 obtain ⟨z0, z1, z2, z3, z4, z5⟩ := kz.facts
 replace ka := ka.drew
 replace kz := kz.drew
 go_region_held3 (fun w' => w'.cell? ⟨w.heap.size, 0, none⟩ = some (.bool v.s) ∧ w'.cell? ⟨w.heap.size, 1, none⟩ = some (.slice v.A v.n v.c) ∧ w'.cell? ⟨w.heap.size, 2, none⟩ = some (.slice v.B v.m v.d)) (go_keep)
   (first
   | (
     go_at_call_of 54 v.A
     refine (rTrim_any v.A v.n v.c a _ (by omega) h1 ha).mono ?_
     rintro e w1 ⟨X1, cx1, rfl, ho1, hb1⟩
     clear a0 a1 a2 a3 a4 a5 z0 z1 z2 z3 z4 z5
     obtain ⟨a0, a1, a2, a3, a4, a5⟩ := (ka.below hb1).facts
     obtain ⟨z0, z1, z2, z3, z4, z5⟩ := (kz.below hb1).facts)
   | (
     go_at_call_of 54 v.B
     refine (rTrim_any v.B v.m v.d b _ (by omega) h2 (hb.below hb1)).mono ?_
     rintro e w2 ⟨X2, cx2, rfl, ho2, hb2⟩
     clear a0 a1 a2 a3 a4 a5 z0 z1 z2 z3 z4 z5
     obtain ⟨a0, a1, a2, a3, a4, a5⟩ := ((ka.below hb1).below hb2).facts
     obtain ⟨z0, z1, z2, z3, z4, z5⟩ := ((kz.below hb1).below hb2).facts))
 rename_i hHeld
 have hsd : W.heap.size ≤ w1.heap.size := hb1.size
 have hs2 := hb2.size
 replace ka := (ka.below hb1).below hb2
 replace kz := (kz.below hb1).below hb2
 have HB : Below w.heap.size w w2 := HW.trans ((below_drewN' w.heap.size W 1).trans ((hb1.mono (by show _ ≤ W.heap.size; omega)).trans (hb2.mono (by omega))))
 have hr1 := (ho1.row.below hb2).lower (Nat.zero_le _)
 have hr2 := ho2.row.lower (Nat.zero_le _)
 have hc1 := ho1.capLe
 have hc2 := ho2.capLe
 have hl1 : (lim (val a)).length ≤ 40000000000 := (ha.bd h3).len
 have hl2 : (lim (val b)).length ≤ 40000000000 := (hb.bd h4).len
 clear ho1 ho2 hb1 hb2 hHeld ha hb HW
 have hlz := lim_len_zero h0.out
 have hlp := lim_len_pos h9.out
 generalize hlb : (lim (val b)).length = lb at *
 generalize hla : (lim (val a)).length = la at *
 have hbn : ((lb : Int) == 0) = false := beq_eq_false_iff_ne.2 (by omega)
 subst hlz
 clear hlb hla
 have hlt1 : w.heap.size + 1 < w2.heap.size := by omega
 clear ka
 go_wp2
 have es : (put3 w2 (w.heap.size + 1) (.bool false) (.slice none 0 0) (.slice (some ⟨w2.heap.size, 0, none⟩) 1 1)).heap.size = w2.heap.size := by simp
 have ho := Row.one (w := put3 w2 (w.heap.size + 1) (.bool false) (.slice none 0 0) (.slice (some ⟨w2.heap.size, 0, none⟩) 1 1)) (x := 1) (v := 1) (lo := w.heap.size) rfl (by omega) (by rw [es]; omega)
 rw [es] at ho
 have k3 := (kz.put (.bool false) (.slice none 0 0) (.slice (some ⟨w2.heap.size, 0, none⟩) 1 1)).alloc (.cells #[.int .u32 1] 66)
 refine ret3c (fn := Try.f53) Try.results53 rfl rfl k3 ?_
 have hpb := put3_below (w := w2) (b := w.heap.size + 1) (B := w.heap.size) (by omega) (.bool false) (.slice none 0 0) (.slice (some ⟨w2.heap.size, 0, none⟩) 1 1)
 exact ⟨⟨false, none, 0, 0, some ⟨w2.heap.size, 0, none⟩, 1, 1⟩, rfl, Rt.nought1 ho (Nat.le_refl _), (HB.trans hpb).alloc (by rw [es]; omega) _⟩
set_option maxHeartbeats 1600000 in
theorem rNorm_pos (v : Rv) (a b : List Nat) (w : World) (h1 : v.n ≤ v.c) (h2 : v.m ≤ v.d) (h3 : v.n ≤ 40000000000) (h4 : v.m ≤ 40000000000) (ha : Row w 0 v.A v.n a) (hb : Row w 0 v.B v.m b) (h0 : Hid (val a ≠ 0)) (h9 : Hid (val b ≠ 0)) :
  Calls Try.prog 53 #[.agg #[.bool v.s, .slice v.A v.n v.c, .slice v.B v.m v.d]] w fun e w' => ∃ z : Rv, e = .returned (.agg #[.bool z.s, .slice z.A z.n z.c, .slice z.B z.m z.d]) ∧ Rt w' w.heap.size z (rn v.s (val a) (val b)) ∧ Below w.heap.size w w' := by
 have hg : 0 < Nat.gcd (val a) (val b) := Nat.gcd_pos_of_pos_left _ (Nat.pos_of_ne_zero h0.out)
 have hgl : (lim (Nat.gcd (val a) (val b))).length ≤ 40000000000 := ((ha.bd h3).le (Nat.gcd_le_left _ (Nat.pos_of_ne_zero h0.out))).len
 have hG := Lib.hid hg
 clear hg
 go_enter Try.func53, Try.ntmps53
 go_wp2_with fail
 generalize hW : ((w.alloc (.cells #[.bool v.s, .slice v.A v.n v.c, .slice v.B v.m v.d] 37)).alloc (.cells #[.bool false, .slice none 0 0, .slice none 0 0] 37)) = W
 obtain ⟨ka, kz, HW, hsW⟩ := open1z w v W hW
 clear hW
 replace ha := (ha.below HW).drew
 replace hb := (hb.below HW).drew
 obtain ⟨a0, a1, a2, a3, a4, a5⟩ := ka.facts
 obtain ⟨z0, z1, z2, z3, z4, z5⟩ := kz.facts
 replace ka := ka.drew
 replace kz := kz.drew
 go_region_held3 (fun w' => w'.cell? ⟨w.heap.size, 0, none⟩ = some (.bool v.s) ∧ w'.cell? ⟨w.heap.size, 1, none⟩ = some (.slice v.A v.n v.c) ∧ w'.cell? ⟨w.heap.size, 2, none⟩ = some (.slice v.B v.m v.d)) (go_keep)
   (first
   | (
     go_at_call_of 54 v.A
     refine (rTrim_any v.A v.n v.c a _ (by omega) h1 ha).mono ?_
     rintro e w1 ⟨X1, cx1, rfl, ho1, hb1⟩
     clear a0 a1 a2 a3 a4 a5 z0 z1 z2 z3 z4 z5
     obtain ⟨a0, a1, a2, a3, a4, a5⟩ := (ka.below hb1).facts
     obtain ⟨z0, z1, z2, z3, z4, z5⟩ := (kz.below hb1).facts)
   | (
     go_at_call_of 54 v.B
     refine (rTrim_any v.B v.m v.d b _ (by omega) h2 (hb.below hb1)).mono ?_
     rintro e w2 ⟨X2, cx2, rfl, ho2, hb2⟩
     clear a0 a1 a2 a3 a4 a5 z0 z1 z2 z3 z4 z5
     obtain ⟨a0, a1, a2, a3, a4, a5⟩ := ((ka.below hb1).below hb2).facts
     obtain ⟨z0, z1, z2, z3, z4, z5⟩ := ((kz.below hb1).below hb2).facts))
 rename_i hHeld
 have hsd : W.heap.size ≤ w1.heap.size := hb1.size
 have hs2 := hb2.size
 replace ka := (ka.below hb1).below hb2
 replace kz := (kz.below hb1).below hb2
 have HB : Below w.heap.size w w2 := HW.trans ((below_drewN' w.heap.size W 1).trans ((hb1.mono (by show _ ≤ W.heap.size; omega)).trans (hb2.mono (by omega))))
 have hr1 := (ho1.row.below hb2).lower (Nat.zero_le _)
 have hr2 := ho2.row.lower (Nat.zero_le _)
 have hc1 := ho1.capLe
 have hc2 := ho2.capLe
 have hl1 : (lim (val a)).length ≤ 40000000000 := (ha.bd h3).len
 have hl2 : (lim (val b)).length ≤ 40000000000 := (hb.bd h4).len
 clear ho1 ho2 hb1 hb2 hHeld ha hb HW
 have hlp1 := lim_len_pos h0.out
 have hlp2 := lim_len_pos h9.out
 have hbn1 : (((lim (val a)).length : Int) == 0) = false := beq_eq_false_iff_ne.2 (by omega)
 have hbn2 : (((lim (val b)).length : Int) == 0) = false := beq_eq_false_iff_ne.2 (by omega)
 go_wp2_with fail
 refine (rGcd_any X1 X2 _ _ cx1 cx2 (val a) (val b) _ _ _ (by omega) (by omega) hc1 hc2 hr1 hr2 (val_lim _) (val_lim _)).mono ?_
 rintro e w3 ⟨G, cg, rfl, hog, hb3⟩
 have hs3 := hb3.size
 replace HB := HB.trans (hb3.mono HB.size)
 replace ka := ka.below hb3
 replace kz := kz.below hb3
 replace hr1 := hr1.below hb3
 replace hr2 := hr2.below hb3
 have hrg := hog.row.lower (Nat.zero_le _)
 have hcg := hog.capLe
 clear hog hb3 a0 a1 a2 a3 a4 a5 z0 z1 z2 z3 z4 z5
 go_wp2_with fail
 refine (rDivMod_pos X1 G _ _ cx1 cg (val a) (Nat.gcd (val a) (val b)) _ _ _ (by omega) (by omega) hc1 hcg hr1 hrg (val_lim _) (val_lim _) hG.out).mono ?_
 rintro e w4 ⟨Y1, cy1, Y1', cy1', rfl, hoy, _, hb4⟩
 have hs4 := hb4.size
 replace HB := HB.trans (hb4.mono HB.size)
 replace ka := ka.below hb4
 replace kz := kz.below hb4
 replace hr2 := hr2.below hb4
 replace hrg := hrg.below hb4
 have hry := hoy.row
 have hcy := hoy.capLe
 clear hoy hb4
 go_wp2_with fail
 refine (rDivMod_pos X2 G _ _ cx2 cg (val b) (Nat.gcd (val a) (val b)) _ _ _ (by omega) (by omega) hc2 hcg hr2 hrg (val_lim _) (val_lim _) hG.out).mono ?_
 rintro e w5 ⟨Y2, cy2, Y2', cy2', rfl, hoz, _, hb5⟩
 have hs5 := hb5.size
 replace HB := HB.trans (hb5.mono HB.size)
 replace ka := ka.below hb5
 replace kz := kz.below hb5
 replace hry := hry.below hb5
 have hrz := hoz.row
 have hcz := hoz.capLe
 clear hoz hb5 hr1 hr2 hrg
 obtain ⟨a0, a1, a2, a3, a4, a5⟩ := ka.facts
 obtain ⟨z0, z1, z2, z3, z4, z5⟩ := kz.facts
 go_wp2
 refine ret3 (fn := Try.f53) Try.results53 rfl rfl kz ?_
 refine ⟨⟨v.s, Y1, _, cy1, Y2, _, cy2⟩, rfl, ?_, HB.trans (put3_below (by omega) _ _ _)⟩
 refine Rt.lower (lo := w.heap.size + 2) ?_ (by omega)
 exact Rt.parts h0.out h9.out rfl rfl rfl hcy hcz ((hry.lower (by omega)).put (by omega) _ _ _) ((hrz.lower (by omega)).put (by omega) _ _ _)
theorem rNorm_c (v : Rv) (r : Rat) (w : World) (hv : Rw w v r 40000000000) :
  Calls Try.prog 53 #[.agg #[.bool v.s, .slice v.A v.n v.c, .slice v.B v.m v.d]] w fun e w' => ∃ z : Rv, e = .returned (.agg #[.bool z.s, .slice z.A z.n z.c, .slice z.B z.m z.d]) ∧ Rt w' w.heap.size z r ∧ Below w.heap.size w w' := by
 obtain ⟨h1, h2, h3, h4, a, b, ha, hb, hr⟩ := hv
 subst hr
 by_cases h : val b = 0
 · rw [rn_zero (.inr h)]; exact rNorm_zero2 v a b w h1 h2 h3 h4 ha hb h
 ·
  by_cases h' : val a = 0
  · rw [rn_zero (.inl h')]; exact rNorm_zero1 v a b w h1 h2 h3 h4 ha hb h' h
  · exact rNorm_pos v a b w h1 h2 h3 h4 ha hb h' h
end Go.Proofs.Ytjbhhccklfddaaa
namespace Go.Proofs.Ytjbhhccklfddaaa
set_option maxRecDepth 20000
open Go.RowKit
section
variable {w w2 : World} {zb : Nat} {p q t : Value} {x y : Rv} {r s : Rat}
end
end Go.Proofs.Ytjbhhccklfddaaa
namespace Go.Proofs.Ytjbhhccklfddaaa
set_option maxRecDepth 20000
open Go.RowKit
set_option maxHeartbeats 800000 in
theorem rOf_c (s : Bool) (A B : Option Addr) (n m c d : Nat) (a b : List Nat) (r : Rat) (w : World) (hn : n ≤ 40000000000) (hm : m ≤ 40000000000) (hcn : n ≤ c) (hdm : m ≤ d) (ha : Row w 0 A n a) (hb : Row w 0 B m b) (hr : rn s (val a) (val b) = r) :
  Calls Try.prog 38 #[.bool s, .slice A n c, .slice B m d] w fun e w' => ∃ z : Rv, e = .returned (.agg #[.bool z.s, .slice z.A z.n z.c, .slice z.B z.m z.d]) ∧ Rt w' w.heap.size z r ∧ Below w.heap.size w w' := by
 go_enter Try.func38, Try.ntmps38
 go_wp2_with fail
 refine (rNorm_c ⟨s, A, n, c, B, m, d⟩ r _ ⟨hcn, hdm, hn, hm, a, b, ha.alloc _, hb.alloc _, hr⟩).mono ?_
 rintro e w1 ⟨z, rfl, hz, hb1⟩
 have k := (C3.new w (.bool false) (.slice none 0 0) (.slice none 0 0)).at hb1 (by simp)
 have HB := (((Below.refl w.heap.size w).alloc (Nat.le_refl _) _).trans (hb1.mono (by simp)))
 clear hb1 ha hb
 obtain ⟨q0, q1, q2, g0, g1, g2⟩ := k.facts
 go_wp2
 refine ret3 (fn := Try.f38) Try.results38 rfl rfl k ?_
 exact ⟨z, rfl, (hz.put (by simp) _ _ _).lower (by simp), HB.trans (put3_below (Nat.le_refl _) _ _ _)⟩
theorem rOf_n (s : Bool) (A B : Option Addr) (n m c d x y : Nat) (a b : List Nat) (r : Rat) (w : World) (hx : val a = x) (hy : val b = y) (hn : n ≤ 40000000000) (hm : m ≤ 40000000000) (hcn : n ≤ c) (hdm : m ≤ d) (ha : Row w 0 A n a) (hb : Row w 0 B m b) (hr : rn s x y = r) :
  Calls Try.prog 38 #[.bool s, .slice A n c, .slice B m d] w fun e w' => ∃ z : Rv, e = .returned (.agg #[.bool z.s, .slice z.A z.n z.c, .slice z.B z.m z.d]) ∧ Rt w' w.heap.size z r ∧ Below w.heap.size w w' := by
 subst hx hy; exact rOf_c s A B n m c d a b r w hn hm hcn hdm ha hb hr
end Go.Proofs.Ytjbhhccklfddaaa
namespace Go.Proofs.Ytjbhhccklfddaaa
set_option maxRecDepth 20000
open Go.RowKit
theorem one_row (w : World) (lo : Nat) (h : lo ≤ w.heap.size) : Row (w.alloc (.cells #[.int .u32 1] 66)) lo (some ⟨w.heap.size, 0, none⟩) 1 [1] := Row.one rfl (by omega) h
set_option maxHeartbeats 1600000 in
theorem rInt_true (x : Nat) (i : Int) (w : World) (hi : -9223372036854775808 ≤ i ∧ i ≤ 9223372036854775807) (hx : i = -(x : Int)) (h : i < 0) :
  Calls Try.prog 23 #[.int .i64 i] w fun e w' => ∃ z : Rv, e = .returned (.agg #[.bool z.s, .slice z.A z.n z.c, .slice z.B z.m z.d]) ∧ Rt w' w.heap.size z (i : Rat) ∧ Below w.heap.size w w' := by
 have hw : IntKind.u64.wrap (-IntKind.u64.wrap (-(x : Int))) = (x : Int) := by
  have e64 : ∀ n : Int, IntKind.u64.wrap n = n % 18446744073709551616 := fun _ => rfl
  rw [e64, e64]; omega
 have u_ := h
 clear u_
 have hri : rn true x 1 = (i : Rat) := rn_int_eq _ _ _ (by simp [hx])
 have HR := Lib.hid hri
 clear hri
 have hl1 : (lim x).length ≤ 2 := lim_len_lt (by omega)
 go_enter Try.func23, Try.ntmps23
 go_wp2_with fail
 refine (rOf_any x _ (by omega)).mono ?_
 rintro e w1 ⟨A, c, rfl, ho, hb1⟩
 have hr1 := ho.row.lower (Nat.zero_le _)
 have hc1 := ho.capLe
 have k := (C3.new w (.bool false) (.slice none 0 0) (.slice none 0 0)).at hb1 (by simp)
 have hk1 := k.lt
 have HB := (((Below.refl w.heap.size w).alloc (Nat.le_refl _) (.cells #[.bool false, .slice none 0 0, .slice none 0 0] 37)).trans (hb1.mono (by simp)))
 clear ho hb1
 go_wp2_with fail
 have hr2 := one_row w1 0 (Nat.zero_le _)
 have hbn := (Below.refl w1.heap.size w1).alloc (Nat.le_refl _) (.cells #[.int .u32 1] 66)
 replace hr1 := hr1.below hbn
 replace k := k.below hbn
 replace HB := HB.trans (hbn.mono HB.size)
 refine (rOf_n true A _ _ 1 c 1 x 1 _ [1] (i : Rat) _ (val_lim _) rfl (by omega) (by omega) hc1 (Nat.le_refl _) hr1 hr2 HR.out).mono ?_
 rintro e w3 ⟨u, rfl, hu, hb3⟩
 have hs3 : w1.heap.size + 1 ≤ w3.heap.size := by have := hb3.size; simpa using this
 have hsz : w.heap.size < (w1.alloc (.cells #[.int .u32 1] 66)).heap.size := k.lt
 replace k := k.below hb3
 replace HB := HB.trans (hb3.mono HB.size)
 obtain ⟨q0, q1, q2, g0, g1, g2⟩ := k.facts
 clear hb3 hr1 hr2 hbn
 go_wp2
 refine ret3 (fn := Try.f23) Try.results23 rfl rfl k ?_
 exact ⟨u, rfl, (hu.put hsz _ _ _).lower (Nat.le_of_lt hsz), HB.trans (put3_below (Nat.le_refl _) _ _ _)⟩
set_option maxHeartbeats 1600000 in
theorem rInt_false (x : Nat) (i : Int) (w : World) (hi : -9223372036854775808 ≤ i ∧ i ≤ 9223372036854775807) (hx : i = (x : Int)) (h : ¬ i < 0) :
  Calls Try.prog 23 #[.int .i64 i] w fun e w' => ∃ z : Rv, e = .returned (.agg #[.bool z.s, .slice z.A z.n z.c, .slice z.B z.m z.d]) ∧ Rt w' w.heap.size z (i : Rat) ∧ Below w.heap.size w w' := by
 have u_ := h
 clear u_
 have hri : rn false x 1 = (i : Rat) := rn_int_eq _ _ _ (by simp [hx])
 have HR := Lib.hid hri
 clear hri
 have hl1 : (lim x).length ≤ 2 := lim_len_lt (by omega)
 go_enter Try.func23, Try.ntmps23
 go_wp2_with fail
 refine (rOf_any x _ (by omega)).mono ?_
 rintro e w1 ⟨A, c, rfl, ho, hb1⟩
 have hr1 := ho.row.lower (Nat.zero_le _)
 have hc1 := ho.capLe
 have k := (C3.new w (.bool false) (.slice none 0 0) (.slice none 0 0)).at hb1 (by simp)
 have hk1 := k.lt
 have HB := (((Below.refl w.heap.size w).alloc (Nat.le_refl _) (.cells #[.bool false, .slice none 0 0, .slice none 0 0] 37)).trans (hb1.mono (by simp)))
 clear ho hb1
 go_wp2_with fail
 have hr2 := one_row w1 0 (Nat.zero_le _)
 have hbn := (Below.refl w1.heap.size w1).alloc (Nat.le_refl _) (.cells #[.int .u32 1] 66)
 replace hr1 := hr1.below hbn
 replace k := k.below hbn
 replace HB := HB.trans (hbn.mono HB.size)
 refine (rOf_n false A _ _ 1 c 1 x 1 _ [1] (i : Rat) _ (val_lim _) rfl (by omega) (by omega) hc1 (Nat.le_refl _) hr1 hr2 HR.out).mono ?_
 rintro e w3 ⟨u, rfl, hu, hb3⟩
 have hs3 : w1.heap.size + 1 ≤ w3.heap.size := by have := hb3.size; simpa using this
 have hsz : w.heap.size < (w1.alloc (.cells #[.int .u32 1] 66)).heap.size := k.lt
 replace k := k.below hb3
 replace HB := HB.trans (hb3.mono HB.size)
 obtain ⟨q0, q1, q2, g0, g1, g2⟩ := k.facts
 clear hb3 hr1 hr2 hbn
 go_wp2
 refine ret3 (fn := Try.f23) Try.results23 rfl rfl k ?_
 exact ⟨u, rfl, (hu.put hsz _ _ _).lower (Nat.le_of_lt hsz), HB.trans (put3_below (Nat.le_refl _) _ _ _)⟩
theorem rInt_c (i : Int) (w : World) (hi : -9223372036854775808 ≤ i ∧ i ≤ 9223372036854775807) :
  Calls Try.prog 23 #[.int .i64 i] w fun e w' => ∃ z : Rv, e = .returned (.agg #[.bool z.s, .slice z.A z.n z.c, .slice z.B z.m z.d]) ∧ Rt w' w.heap.size z (i : Rat) ∧ Below w.heap.size w w' := by
 by_cases h : i < 0
 · exact rInt_true i.natAbs i w hi (by omega) h
 · exact rInt_false i.natAbs i w hi (by omega) h
end Go.Proofs.Ytjbhhccklfddaaa
