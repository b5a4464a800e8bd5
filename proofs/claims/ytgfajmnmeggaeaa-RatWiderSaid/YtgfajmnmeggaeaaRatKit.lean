/-
  What a law's walk over rationals keeps: sizes of sums, products; the world behind the parameters' blocks and the row that 'big' is handed.
-/
import Derived.Test.YtgfajmnmeggaeaaRatBig
namespace Go.Proofs.Ytgfajmnmeggaeaa
set_option maxRecDepth 20000
open Go.RowKit

theorem Sz.more {r : Rat} {p q : Nat} (h : Sz r p) (hq : p ≤ q) : Sz r q := ⟨h.num.more hq, h.den.more hq⟩
theorem Sz.pos {r : Rat} {p : Nat} (h : Sz r p) : 0 < p := by
  have h1 := h.den
  unfold Bd at h1
  have := r.den_pos
  rcases Nat.eq_zero_or_pos p with rfl | h2
  · simp at h1; omega
  · exact h2
theorem Sz.add {r s : Rat} {p q : Nat} (hr : Sz r p) (hs : Sz s q) : Sz (r + s) (p + q + 1) := by
  have er := rn_self r
  have es := rn_self s
  have hy := r.den_nz
  have hv := s.den_nz
  have bx := hr.num
  have bY := hr.den
  have bu := hs.num
  have bv := hs.den
  generalize decide (r.num < 0) = a at *
  generalize decide (s.num < 0) = b at *
  generalize r.num.natAbs = x at *
  generalize r.den = y at *
  generalize s.num.natAbs = u at *
  generalize s.den = v at *
  have hxv : Bd (x * v) (p + q) := bx.mul bv
  have huy : Bd (u * y) (q + p) := bu.mul bY
  have hd : Bd (y * v) (p + q + 1) := (bY.mul bv).more (by omega)
  have hsum : Bd (x * v + u * y) (p + q + 1) := (hxv.add huy).more (by omega)
  subst er es
  by_cases hab : b = a
  · subst hab
    exact Sz.ofRn (rn_add b hy hv).symm hsum hd (by omega)
  · have hab' : b = !a := by cases a <;> cases b <;> simp at hab ⊢
    rcases Nat.le_total (u * y) (x * v) with h | h
    · exact Sz.ofRn (rn_sub hab' hy hv h).symm (hsum.le (by omega)) hd (by omega)
    · exact Sz.ofRn (rn_sub' hab' hy hv h).symm (hsum.le (by omega)) hd (by omega)
theorem Sz.mul {r s : Rat} {p q : Nat} (hr : Sz r p) (hs : Sz s q) : Sz (r * s) (p + q) := by
  have e : r * s = Go.Proofs.Ytgfajmnmeggaeaa.rn (decide (r.num < 0) != decide (s.num < 0)) (r.num.natAbs * s.num.natAbs) (r.den * s.den) := by
    rw [← rn_mul, rn_self, rn_self]
  exact Sz.ofRn e.symm (hr.num.mul hs.num) (hr.den.mul hs.den) (by have := hr.pos; omega)
theorem Sz.neg {r : Rat} {p : Nat} (hr : Sz r p) : Sz (-r) p := by
  refine ⟨?_, ?_⟩
  · rw [Rat.neg_num, Int.natAbs_neg]; exact hr.num
  · rw [Rat.neg_den]; exact hr.den
theorem Sz.sub {r s : Rat} {p q : Nat} (hr : Sz r p) (hs : Sz s q) : Sz (r - s) (p + q + 1) := by
  rw [Rat.sub_eq_add_neg]; exact hr.add hs.neg
theorem Sz.div {r s : Rat} {p q : Nat} (hr : Sz r p) (hs : Sz s q) (h0 : s ≠ 0) : Sz (r / s) (p + q) := by
  have hn : s.num.natAbs ≠ 0 := by have := num_ne h0; omega
  have e : r / s = Go.Proofs.Ytgfajmnmeggaeaa.rn (decide (r.num < 0) != decide (s.num < 0)) (r.num.natAbs * s.den) (r.den * s.num.natAbs) := by
    rw [← rn_div _ _ hn s.den_nz, rn_self, rn_self]
  exact Sz.ofRn e.symm (hr.num.mul hs.den) (hr.den.mul hs.num) (by have := hr.pos; omega)

theorem Below.drew {B : Nat} {w w' : World} (h : Below B w w') : Below B w w'.drew := h.trans (below_drewN' B w' 1)
theorem Rt.len {w : World} {lo : Nat} {v : Rv} {r : Rat} {p : Nat} (h : Rt w lo v r) (hz : Sz r p) (hp : p ≤ 100000) : v.n ≤ 100000 ∧ v.m ≤ 100000 := by
  have := (h.rw hz).numLe
  have := (h.rw hz).denLe
  omega

def pick (v u t : Rv) : Nat → Rv
  | 0 => v
  | 1 => u
  | _ => t

/-- Three parameters' blocks, and the row that 'big' is handed. -/
theorem open3b (w : World) (v u t : Rv) (W : World)
    (h : (((w.alloc (.cells #[.bool v.s, .slice v.A v.n v.c, .slice v.B v.m v.d] 24)).alloc (.cells #[.bool u.s, .slice u.A u.n u.c, .slice u.B u.m u.d] 24)).alloc (.cells #[.bool t.s, .slice t.A t.n t.c, .slice t.B t.m t.d] 24)).alloc (.cells #[.bool v.s, .slice v.A v.n v.c, .slice v.B v.m v.d, .bool u.s, .slice u.A u.n u.c, .slice u.B u.m u.d, .bool t.s, .slice t.A t.n t.c, .slice t.B t.m t.d] 24) = W) :
    C3 W w.heap.size (.bool v.s) (.slice v.A v.n v.c) (.slice v.B v.m v.d) ∧ C3 W (w.heap.size + 1) (.bool u.s) (.slice u.A u.n u.c) (.slice u.B u.m u.d) ∧ C3 W (w.heap.size + 1 + 1) (.bool t.s) (.slice t.A t.n t.c) (.slice t.B t.m t.d) ∧ Below w.heap.size w W ∧ W.heap.size = w.heap.size + 4 ∧
      ∀ i, i < 3 → W.cell? ⟨w.heap.size + 1 + 1 + 1, i * 3 + 1, none⟩ = some (.slice (pick v u t i).A (pick v u t i).n (pick v u t i).c) ∧ W.cell? ⟨w.heap.size + 1 + 1 + 1, i * 3 + 2, none⟩ = some (.slice (pick v u t i).B (pick v u t i).m (pick v u t i).d) := by
  subst h
  have e1 : (w.alloc (.cells #[.bool v.s, .slice v.A v.n v.c, .slice v.B v.m v.d] 24)).heap.size = w.heap.size + 1 := by simp
  have e2 : ((w.alloc (.cells #[.bool v.s, .slice v.A v.n v.c, .slice v.B v.m v.d] 24)).alloc (.cells #[.bool u.s, .slice u.A u.n u.c, .slice u.B u.m u.d] 24)).heap.size = w.heap.size + 1 + 1 := by simp
  have e3 : (((w.alloc (.cells #[.bool v.s, .slice v.A v.n v.c, .slice v.B v.m v.d] 24)).alloc (.cells #[.bool u.s, .slice u.A u.n u.c, .slice u.B u.m u.d] 24)).alloc (.cells #[.bool t.s, .slice t.A t.n t.c, .slice t.B t.m t.d] 24)).heap.size = w.heap.size + 1 + 1 + 1 := by simp
  refine ⟨((C3.new w (.bool v.s) (.slice v.A v.n v.c) (.slice v.B v.m v.d)).alloc _).alloc _ |>.alloc _, ?_, ?_, ?_, by simp, fun i hi => ?_⟩
  · have := C3.new (w.alloc (.cells #[.bool v.s, .slice v.A v.n v.c, .slice v.B v.m v.d] 24)) (.bool u.s) (.slice u.A u.n u.c) (.slice u.B u.m u.d)
    rw [e1] at this; exact (this.alloc _).alloc _
  · have := C3.new ((w.alloc (.cells #[.bool v.s, .slice v.A v.n v.c, .slice v.B v.m v.d] 24)).alloc (.cells #[.bool u.s, .slice u.A u.n u.c, .slice u.B u.m u.d] 24)) (.bool t.s) (.slice t.A t.n t.c) (.slice t.B t.m t.d)
    rw [e2] at this; exact this.alloc _
  · exact ((((Below.refl w.heap.size w).alloc (Nat.le_refl _) _).alloc (by simp) _).alloc (by simp; omega) _).alloc (by simp; omega) _
  · rw [← e3]
    have : i = 0 ∨ i = 1 ∨ i = 2 := by omega
    rcases this with rfl | rfl | rfl <;> exact ⟨by rw [World.cell?_alloc_at _ _ _ _ rfl]; rfl, by rw [World.cell?_alloc_at _ _ _ _ rfl]; rfl⟩
theorem open2b (w : World) (v u : Rv) (W : World)
    (h : ((w.alloc (.cells #[.bool v.s, .slice v.A v.n v.c, .slice v.B v.m v.d] 24)).alloc (.cells #[.bool u.s, .slice u.A u.n u.c, .slice u.B u.m u.d] 24)).alloc (.cells #[.bool v.s, .slice v.A v.n v.c, .slice v.B v.m v.d, .bool u.s, .slice u.A u.n u.c, .slice u.B u.m u.d] 24) = W) :
    C3 W w.heap.size (.bool v.s) (.slice v.A v.n v.c) (.slice v.B v.m v.d) ∧ C3 W (w.heap.size + 1) (.bool u.s) (.slice u.A u.n u.c) (.slice u.B u.m u.d) ∧ Below w.heap.size w W ∧ W.heap.size = w.heap.size + 3 ∧
      ∀ i, i < 2 → W.cell? ⟨w.heap.size + 1 + 1, i * 3 + 1, none⟩ = some (.slice (pick v u u i).A (pick v u u i).n (pick v u u i).c) ∧ W.cell? ⟨w.heap.size + 1 + 1, i * 3 + 2, none⟩ = some (.slice (pick v u u i).B (pick v u u i).m (pick v u u i).d) := by
  subst h
  have e1 : (w.alloc (.cells #[.bool v.s, .slice v.A v.n v.c, .slice v.B v.m v.d] 24)).heap.size = w.heap.size + 1 := by simp
  have e2 : ((w.alloc (.cells #[.bool v.s, .slice v.A v.n v.c, .slice v.B v.m v.d] 24)).alloc (.cells #[.bool u.s, .slice u.A u.n u.c, .slice u.B u.m u.d] 24)).heap.size = w.heap.size + 1 + 1 := by simp
  refine ⟨((C3.new w (.bool v.s) (.slice v.A v.n v.c) (.slice v.B v.m v.d)).alloc _).alloc _, ?_, ?_, by simp, fun i hi => ?_⟩
  · have := C3.new (w.alloc (.cells #[.bool v.s, .slice v.A v.n v.c, .slice v.B v.m v.d] 24)) (.bool u.s) (.slice u.A u.n u.c) (.slice u.B u.m u.d)
    rw [e1] at this; exact this.alloc _
  · exact (((Below.refl w.heap.size w).alloc (Nat.le_refl _) _).alloc (by simp) _).alloc (by simp; omega) _
  · rw [← e2]
    have : i = 0 ∨ i = 1 := by omega
    rcases this with rfl | rfl <;> exact ⟨by rw [World.cell?_alloc_at _ _ _ _ rfl]; rfl, by rw [World.cell?_alloc_at _ _ _ _ rfl]; rfl⟩
theorem open1b (w : World) (v : Rv) (W : World)
    (h : (w.alloc (.cells #[.bool v.s, .slice v.A v.n v.c, .slice v.B v.m v.d] 24)).alloc (.cells #[.bool v.s, .slice v.A v.n v.c, .slice v.B v.m v.d] 24) = W) :
    C3 W w.heap.size (.bool v.s) (.slice v.A v.n v.c) (.slice v.B v.m v.d) ∧ Below w.heap.size w W ∧ W.heap.size = w.heap.size + 2 ∧
      ∀ i, i < 1 → W.cell? ⟨w.heap.size + 1, i * 3 + 1, none⟩ = some (.slice (pick v v v i).A (pick v v v i).n (pick v v v i).c) ∧ W.cell? ⟨w.heap.size + 1, i * 3 + 2, none⟩ = some (.slice (pick v v v i).B (pick v v v i).m (pick v v v i).d) := by
  subst h
  have e1 : (w.alloc (.cells #[.bool v.s, .slice v.A v.n v.c, .slice v.B v.m v.d] 24)).heap.size = w.heap.size + 1 := by simp
  refine ⟨(C3.new w (.bool v.s) (.slice v.A v.n v.c) (.slice v.B v.m v.d)).alloc _, ?_, by simp, fun i hi => ?_⟩
  · exact ((Below.refl w.heap.size w).alloc (Nat.le_refl _) _).alloc (by simp) _
  · rw [← e1]
    have : i = 0 := by omega
    subst this
    exact ⟨by rw [World.cell?_alloc_at _ _ _ _ rfl]; rfl, by rw [World.cell?_alloc_at _ _ _ _ rfl]; rfl⟩

theorem Cmp_v (v u : Rv) (r s : Rat) (k : Int) (w : World) (hv : Rw w v r 2000) (hu : Rw w u s 2000) (hk : sgn (r - s) = k) :
    Calls Try.prog 27 #[.agg #[.bool v.s, .slice v.A v.n v.c, .slice v.B v.m v.d], .agg #[.bool u.s, .slice u.A u.n u.c, .slice u.B u.m u.d]] w fun e w' => e = .returned (.int .i64 k) ∧ Below w.heap.size w w' := by
  subst hk; exact Cmp_c v u r s w hv hu
theorem Same_v (v u : Rv) (r s : Rat) (b : Bool) (w : World) (hv : Rw w v r 2000) (hu : Rw w u s 2000) (hk : decide (r = s) = b) :
    Calls Try.prog 10 #[.agg #[.bool v.s, .slice v.A v.n v.c, .slice v.B v.m v.d], .agg #[.bool u.s, .slice u.A u.n u.c, .slice u.B u.m u.d]] w fun e w' => e = .returned (.bool b) ∧ Below w.heap.size w w' := by
  subst hk; exact Same_c v u r s w hv hu
end Go.Proofs.Ytgfajmnmeggaeaa
