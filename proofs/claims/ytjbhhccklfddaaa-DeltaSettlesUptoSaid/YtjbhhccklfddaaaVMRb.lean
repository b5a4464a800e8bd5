/-
  The program's rationals, sixth part: quotients, differences, the other sign, comparisons, floors.
  The program's rationals, seventh part: the whole number below, whether one is too large, whether it is normal.
  The law's own helpers: whether two rationals are one, the known sum.
  big: are some rationals more limbs than is looked at?
  What a law's walk over rationals keeps: sizes of sums, products; the world behind the parameters' blocks and the row that 'big' is handed.
-/
import Derived.Test.YtjbhhccklfddaaaVMRa
namespace Go.Proofs.Ytjbhhccklfddaaa
set_option maxRecDepth 20000
open Go.RowKit
end Go.Proofs.Ytjbhhccklfddaaa
namespace Go.Proofs.Ytjbhhccklfddaaa
set_option maxRecDepth 20000
open Go.RowKit
end Go.Proofs.Ytjbhhccklfddaaa
namespace Go.Proofs.Ytjbhhccklfddaaa
set_option maxRecDepth 20000
open Go.RowKit
theorem lim_one_limb {x : Nat} (h0 : x ≠ 0) (h1 : x < 4294967296) : lim x = [x] := by
 rw [lim_pos h0, Nat.mod_eq_of_lt h1, Nat.div_eq_of_lt h1, lim_zero]
theorem Rt.lit {w : World} {A B : Option Addr} {c d x y : Nat} (hx0 : x ≠ 0) (hx : x < 4294967296) (hy0 : y ≠ 0) (hy : y < 4294967296) (hg : Nat.gcd x y = 1) (hc : 1 ≤ c) (hd : 1 ≤ d) (h1 : Row w 0 A 1 [x]) (h2 : Row w 0 B 1 [y]) :
  Rt w 0 ⟨false, A, 1, c, B, 1, d⟩ (rn false x y) := by
 refine Rt.parts hx0 hy0 rfl ?_ ?_ hc hd ?_ ?_
 · rw [hg, Nat.div_one, lim_one_limb hx0 hx]; rfl
 · rw [hg, Nat.div_one, lim_one_limb hy0 hy]; rfl
 · rw [hg, Nat.div_one, lim_one_limb hx0 hx]; exact h1
 · rw [hg, Nat.div_one, lim_one_limb hy0 hy]; exact h2
theorem Sz.lit {x y : Nat} {s : Bool} (hx : x < 4294967296) (hy : y < 4294967296) : Sz (Go.Proofs.Ytjbhhccklfddaaa.rn s x y) 1 :=
 Sz.ofRn rfl (show x < 4294967296 ^ 1 by omega) (show y < 4294967296 ^ 1 by omega) (by omega)
theorem Row.lit (w : World) (x : Nat) (v : Int) (hv : v = (x : Int)) (hx : x < 4294967296) : Row (w.alloc (.cells #[.int .u32 v] 66)) 0 (some ⟨w.heap.size, 0, none⟩) 1 [x] := Row.one hv hx (Nat.zero_le _)
end Go.Proofs.Ytjbhhccklfddaaa
namespace Go.Proofs.Ytjbhhccklfddaaa
set_option maxRecDepth 20000
open Go.RowKit
end Go.Proofs.Ytjbhhccklfddaaa
namespace Go.Proofs.Ytjbhhccklfddaaa
set_option maxRecDepth 20000
open Go.RowKit
theorem Sz.more {r : Rat} {p q : Nat} (h : Sz r p) (hq : p ≤ q) : Sz r q := ⟨h.num.more hq, h.den.more hq⟩
theorem Sz.pos {r : Rat} {p : Nat} (h : Sz r p) : 0 < p := by
 have h1 := h.den
 unfold Bd at h1
 have := r.den_pos
 rcases Nat.eq_zero_or_pos p with rfl | h2
 · simp at h1; omega
 · exact h2
theorem Sz.add {r s : Rat} {p q : Nat} (hr : Sz r p) (hs : Sz s q) : Sz (r + s) (p + q + 1) := by
 have er := rn_self r
 have es := rn_self s
 have hy := r.den_nz
 have hv := s.den_nz
 have bx := hr.num
 have bY := hr.den
 have bu := hs.num
 have bv := hs.den
 generalize decide (r.num < 0) = a at *
 generalize decide (s.num < 0) = b at *
 generalize r.num.natAbs = x at *
 generalize r.den = y at *
 generalize s.num.natAbs = u at *
 generalize s.den = v at *
 have hxv : Bd (x * v) (p + q) := bx.mul bv
 have huy : Bd (u * y) (q + p) := bu.mul bY
 have hd : Bd (y * v) (p + q + 1) := (bY.mul bv).more (by omega)
 have hsum : Bd (x * v + u * y) (p + q + 1) := (hxv.add huy).more (by omega)
 subst er es
 by_cases hab : b = a
 ·
  subst hab
  exact Sz.ofRn (rn_add b hy hv).symm hsum hd (by omega)
 ·
  have hab' : b = !a := by cases a <;> cases b <;> simp at hab ⊢
  rcases Nat.le_total (u * y) (x * v) with h | h
  · exact Sz.ofRn (rn_sub hab' hy hv h).symm (hsum.le (by omega)) hd (by omega)
  · exact Sz.ofRn (rn_sub' hab' hy hv h).symm (hsum.le (by omega)) hd (by omega)
theorem Sz.neg {r : Rat} {p : Nat} (hr : Sz r p) : Sz (-r) p := by
 refine ⟨?_, ?_⟩
 · rw [Rat.neg_num, Int.natAbs_neg]; exact hr.num
 · rw [Rat.neg_den]; exact hr.den
theorem Sz.sub {r s : Rat} {p q : Nat} (hr : Sz r p) (hs : Sz s q) : Sz (r - s) (p + q + 1) := by
 rw [Rat.sub_eq_add_neg]; exact hr.add hs.neg
theorem Below.drew {B : Nat} {w w' : World} (h : Below B w w') : Below B w w'.drew := h.trans (below_drewN' B w' 1)
theorem Rt.len {w : World} {lo : Nat} {v : Rv} {r : Rat} {p : Nat} (h : Rt w lo v r) (hz : Sz r p) (hp : p ≤ 1000000000000) : v.n ≤ 1000000000000 ∧ v.m ≤ 1000000000000 := by
 have := (h.rw hz).numLe
 have := (h.rw hz).denLe
 omega
def pick (v u t : Rv) : Nat → Rv
 | 0 => v
 | 1 => u
 | _ => t
end Go.Proofs.Ytjbhhccklfddaaa
