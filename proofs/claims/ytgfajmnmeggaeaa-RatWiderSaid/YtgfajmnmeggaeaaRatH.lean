/-
  The law's own helpers: whether two rationals are one, the known sum.
-/
import Derived.Test.YtgfajmnmeggaeaaRatG
namespace Go.Proofs.Ytgfajmnmeggaeaa
set_option maxRecDepth 20000
open Go.RowKit

theorem limbs_eq (A A' : Option Addr) (n n' c c' : Nat) (l l' : List Nat) (w : World) (hn : n ≤ 1000000) (hr : Row w 0 A n l) (hr' : Row w 0 A' n' l') (hl : l = l') :
    Calls Try.prog 23 #[.slice A n c, .slice A' n' c'] w fun e w' => e = .returned (.bool true) ∧ Below w.heap.size w w' := by
  subst hl
  have e : n' = n := by rw [← hr.len, ← hr'.len]
  subst e
  refine (limbs_yes A A' n' c c' l w hn hr hr').mono ?_
  rintro e w' ⟨rfl, q, rfl⟩
  exact ⟨rfl, rfl, rfl, rfl, Nat.le_refl _, fun _ _ => rfl⟩

set_option maxHeartbeats 800000 in
/-- Two normal readings of one number. -/
theorem one_yes (v u : Rv) (r s : Rat) (w : World) (lo lo' : Nat) (hv : Rt w lo v r) (hu : Rt w lo' u s) (h : r = s) (hn : v.n ≤ 100000) (hm : v.m ≤ 100000) :
    Calls Try.prog 8 #[.agg #[.bool v.s, .slice v.A v.n v.c, .slice v.B v.m v.d], .agg #[.bool u.s, .slice u.A u.n u.c, .slice u.B u.m u.d]] w fun e w' => e = .returned (.bool true) ∧ Below w.heap.size w w' := by
  subst h
  obtain ⟨h0, h1, h2, h3, h4, h5, h6⟩ := hv
  obtain ⟨g0, g1, g2, g3, g4, g5, g6⟩ := hu
  have hss : v.s = u.s := by rw [h0, g0]
  have hsb : (v.s == u.s) = true := by rw [hss]; simp
  clear h0 g0 h1 g1 h4 g4 hss
  replace h3 := h3.lower (Nat.zero_le lo)
  replace g3 := g3.lower (Nat.zero_le lo')
  replace h6 := h6.lower (Nat.zero_le lo)
  replace g6 := g6.lower (Nat.zero_le lo')
  go_enter Try.func8, Try.ntmps8
  go_wp2_with fail
  generalize hW : ((w.alloc (.cells #[.bool v.s, .slice v.A v.n v.c, .slice v.B v.m v.d] 24)).alloc (.cells #[.bool u.s, .slice u.A u.n u.c, .slice u.B u.m u.d] 24)) = W
  obtain ⟨ka, kb, HW, hsW⟩ := open2 w v u W hW
  clear hW
  refine (limbs_eq v.A u.A v.n u.n v.c u.c _ _ _ (by omega) (h3.below HW) (g3.below HW) rfl).mono ?_
  rintro e w1 ⟨rfl, hb1⟩
  replace ka := ka.below hb1
  replace kb := kb.below hb1
  replace HW := HW.trans (hb1.mono (by omega))
  obtain ⟨a0, a1, a2, a3, a4, a5⟩ := ka.facts
  obtain ⟨b0, b1, b2, b3, b4, b5⟩ := kb.facts
  have hs1 := hb1.size
  clear hb1
  go_wp2_with fail
  refine (limbs_eq v.B u.B v.m u.m v.d u.d _ _ _ (by omega) (h6.below HW) (g6.below HW) rfl).mono ?_
  rintro e w2 ⟨rfl, hb2⟩
  replace HW := HW.trans (hb2.mono (by omega))
  clear hb2
  go_wp2
  go_ret
  exact ⟨rfl, HW⟩

theorem lim_one_limb {x : Nat} (h0 : x ≠ 0) (h1 : x < 4294967296) : lim x = [x] := by
  rw [lim_pos h0, Nat.mod_eq_of_lt h1, Nat.div_eq_of_lt h1, lim_zero]
theorem Rt.lit {w : World} {A B : Option Addr} {c d x y : Nat} (hx0 : x ≠ 0) (hx : x < 4294967296) (hy0 : y ≠ 0) (hy : y < 4294967296) (hg : Nat.gcd x y = 1) (hc : 1 ≤ c) (hd : 1 ≤ d) (h1 : Row w 0 A 1 [x]) (h2 : Row w 0 B 1 [y]) :
    Rt w 0 ⟨false, A, 1, c, B, 1, d⟩ (rn false x y) := by
  refine Rt.parts hx0 hy0 rfl ?_ ?_ hc hd ?_ ?_
  · rw [hg, Nat.div_one, lim_one_limb hx0 hx]; rfl
  · rw [hg, Nat.div_one, lim_one_limb hy0 hy]; rfl
  · rw [hg, Nat.div_one, lim_one_limb hx0 hx]; exact h1
  · rw [hg, Nat.div_one, lim_one_limb hy0 hy]; exact h2
theorem Sz.lit {x y : Nat} {s : Bool} (hx : x < 4294967296) (hy : y < 4294967296) : Sz (Go.Proofs.Ytgfajmnmeggaeaa.rn s x y) 1 :=
  Sz.ofRn rfl (show x < 4294967296 ^ 1 by omega) (show y < 4294967296 ^ 1 by omega) (by omega)
theorem known_sum : rn false 1 2 + rn false 1 3 = rn false 5 6 := rn_add false (by omega) (by omega)

/-- A row of one limb, of a literal of the call's own. -/
theorem Row.lit (w : World) (x : Nat) (v : Int) (hv : v = (x : Int)) (hx : x < 4294967296) : Row (w.alloc (.cells #[.int .u32 v] 25)) 0 (some ⟨w.heap.size, 0, none⟩) 1 [x] := Row.one hv hx (Nat.zero_le _)

set_option maxHeartbeats 1600000 in
theorem known_any (w : World) : Calls Try.prog 12 #[] w fun e w' => e = .returned (.bool true) ∧ Below w.heap.size w w' := by
  obtain ⟨W4, hW4⟩ : ∃ W, W = ((((w.alloc (.cells #[.int .u32 1] 25)).alloc (.cells #[.int .u32 2] 25)).alloc (.cells #[.int .u32 1] 25)).alloc (.cells #[.int .u32 3] 25)) := ⟨_, rfl⟩
  have e1 : (w.alloc (.cells #[.int .u32 1] 25)).heap.size = w.heap.size + 1 := by simp
  have e2 : ((w.alloc (.cells #[.int .u32 1] 25)).alloc (.cells #[.int .u32 2] 25)).heap.size = w.heap.size + 1 + 1 := by simp
  have e3 : (((w.alloc (.cells #[.int .u32 1] 25)).alloc (.cells #[.int .u32 2] 25)).alloc (.cells #[.int .u32 1] 25)).heap.size = w.heap.size + 1 + 1 + 1 := by simp
  have r1 : Row W4 0 (some ⟨w.heap.size, 0, none⟩) 1 [1] := by rw [hW4]; exact (((Row.lit w 1 1 rfl (by omega)).alloc _).alloc _).alloc _
  have r2 : Row W4 0 (some ⟨w.heap.size + 1, 0, none⟩) 1 [2] := by
    rw [hW4]; have := Row.lit (w.alloc (.cells #[.int .u32 1] 25)) 2 2 rfl (by omega)
    rw [e1] at this; exact (this.alloc _).alloc _
  have r3 : Row W4 0 (some ⟨w.heap.size + 1 + 1, 0, none⟩) 1 [1] := by
    rw [hW4]; have := Row.lit ((w.alloc (.cells #[.int .u32 1] 25)).alloc (.cells #[.int .u32 2] 25)) 1 1 rfl (by omega)
    rw [e2] at this; exact this.alloc _
  have r4 : Row W4 0 (some ⟨w.heap.size + 1 + 1 + 1, 0, none⟩) 1 [3] := by
    rw [hW4]; have := Row.lit (((w.alloc (.cells #[.int .u32 1] 25)).alloc (.cells #[.int .u32 2] 25)).alloc (.cells #[.int .u32 1] 25)) 3 3 rfl (by omega)
    rw [e3] at this; exact this
  have v1 : Rt W4 0 ⟨false, some ⟨w.heap.size, 0, none⟩, 1, 1, some ⟨w.heap.size + 1, 0, none⟩, 1, 1⟩ (rn false 1 2) := Rt.lit (by omega) (by omega) (by omega) (by omega) (by decide) (by omega) (by omega) r1 r2
  have v2 : Rt W4 0 ⟨false, some ⟨w.heap.size + 1 + 1, 0, none⟩, 1, 1, some ⟨w.heap.size + 1 + 1 + 1, 0, none⟩, 1, 1⟩ (rn false 1 3) := Rt.lit (by omega) (by omega) (by omega) (by omega) (by decide) (by omega) (by omega) r3 r4
  have HW : Below w.heap.size w W4 := by
    rw [hW4]; exact ((((Below.refl w.heap.size w).alloc (Nat.le_refl _) _).alloc (by simp) _).alloc (by simp; omega) _).alloc (by simp; omega) _
  have h4 : W4.heap.size = w.heap.size + 4 := by rw [hW4]; simp
  clear r1 r2 r3 r4 e1 e2 e3
  go_enter Try.func12, Try.ntmps12
  go_wp2_with fail
  rw [← hW4]
  clear hW4
  have w1 := (v1.rw (Sz.lit (x := 1) (y := 2) (by omega) (by omega))).more (show 1 ≤ 2000 by omega)
  have w2 := (v2.rw (Sz.lit (x := 1) (y := 3) (by omega) (by omega))).more (show 1 ≤ 2000 by omega)
  clear v1 v2
  refine (Add_c ⟨false, some ⟨w.heap.size, 0, none⟩, 1, 1, some ⟨w.heap.size + 1, 0, none⟩, 1, 1⟩ ⟨false, some ⟨w.heap.size + 1 + 1, 0, none⟩, 1, 1, some ⟨w.heap.size + 1 + 1 + 1, 0, none⟩, 1, 1⟩ _ _ _ ((w1.alloc _).alloc _) ((w2.alloc _).alloc _)).mono ?_
  rintro e w3 ⟨z, rfl, hz, hb1⟩
  have hb0 : Below w.heap.size w w3 := (((HW.alloc (by omega) _).alloc (by simp; omega) _).trans (hb1.mono (by simp; omega)))
  have hs3 := hb1.size
  rw [known_sum] at hz
  clear hb1 w1 w2
  go_wp2_with fail
  have hzs := hz.rw (Sz.lit (x := 5) (y := 6) (by omega) (by omega))
  have hzn := hzs.numLe
  have hzm := hzs.denLe
  have r5 : Row ((w3.alloc (.cells #[.int .u32 5] 25)).alloc (.cells #[.int .u32 6] 25)) 0 (some ⟨w3.heap.size, 0, none⟩) 1 [5] := (Row.lit w3 5 5 rfl (by omega)).alloc _
  have e5 : (w3.alloc (.cells #[.int .u32 5] 25)).heap.size = w3.heap.size + 1 := by simp
  have r6 : Row ((w3.alloc (.cells #[.int .u32 5] 25)).alloc (.cells #[.int .u32 6] 25)) 0 (some ⟨w3.heap.size + 1, 0, none⟩) 1 [6] := by
    have := Row.lit (w3.alloc (.cells #[.int .u32 5] 25)) 6 6 rfl (by omega)
    rw [e5] at this; exact this
  have HB5 := ((hb0.alloc (by simp at hs3; omega) (.cells #[.int .u32 5] 25)).alloc (by simp at hs3 ⊢; omega) (.cells #[.int .u32 6] 25))
  have hz5 := (hz.below ((Below.refl _ _).alloc (Nat.le_refl _) (.cells #[.int .u32 5] 25))).below ((Below.refl _ _).alloc (Nat.le_refl _) (.cells #[.int .u32 6] 25))
  have v5 := Rt.lit (w := (w3.alloc (.cells #[.int .u32 5] 25)).alloc (.cells #[.int .u32 6] 25)) (by omega) (by omega) (by omega) (by omega) (by decide) (Nat.le_refl _) (Nat.le_refl _) r5 r6
  have hsz5 : w.heap.size ≤ ((w3.alloc (.cells #[.int .u32 5] 25)).alloc (.cells #[.int .u32 6] 25)).heap.size := HB5.size
  refine (one_yes z ⟨false, some ⟨w3.heap.size, 0, none⟩, 1, 1, some ⟨w3.heap.size + 1, 0, none⟩, 1, 1⟩ _ _ _ _ _ hz5 v5 rfl (by omega) (by omega)).mono ?_
  rintro e w6 ⟨rfl, hb6⟩
  have HB := HB5.trans (hb6.mono hsz5)
  clear hb6 HB5 v5 r5 r6 hz hz5 hzs e5 hsz5 hs3
  go_wp2
  go_ret
  exact ⟨rfl, HB⟩
end Go.Proofs.Ytgfajmnmeggaeaa
