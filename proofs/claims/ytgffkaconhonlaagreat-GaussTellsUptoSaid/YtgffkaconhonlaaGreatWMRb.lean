/-
  The program's rationals, sixth part: quotients, differences, the other sign, comparisons, floors.
  The program's rationals, seventh part: the whole number below, whether one is too large, whether it is normal.
  The law's own helpers: whether two rationals are one, the known sum.
  big: are some rationals more limbs than is looked at?
  What a law's walk over rationals keeps: sizes of sums, products; the world behind the parameters' blocks and the row that 'big' is handed.
-/
import Derived.Test.YtgffkaconhonlaaGreatWMRa
namespace Go.Proofs.YtgffkaconhonlaaGreat
set_option maxRecDepth 20000
open Go.RowKit
theorem ret3t {fn : Func} {t s : Tmp} {R : Ending → World → Prop} {a : Act} {w : World} {b : Nat} {x y z u : Value} (hres : fn.results = #[.cell t 26, .tmp s]) (ht : a.tmps.getD t undef = .pointer (some ⟨b, 0, none⟩)) (hu : a.tmps.getD s undef = u) (hd : a.defers = [])
  (hk : C3 w b x y z) (hR : R (.returned (.tuple #[.agg #[x, y, z], u])) w) : bodyPost Tryz.prog fn R .ret a w := by
 obtain ⟨q0, q1, q2, g0, g1, g2⟩ := hk.facts
 have ht' : (a.tmps[t]?.getD undef) = .pointer (some ⟨b, 0, none⟩) := by simpa using ht
 have hu' : (a.tmps[s]?.getD undef) = u := by simpa using hu
 refine bodyPost_ret (v := .tuple #[.agg #[x, y, z], u]) ?_ hd hR
 simp [results, hres, go_sem, ht', hu', q0, q1, q2]
set_option maxHeartbeats 1600000 in
theorem Div_c (v u : Rv) (r s : Rat) (w : World) (hv : Rw w v r 30000000000) (hu : Rw w u s 30000000000) (hs0 : s ≠ 0) :
  Calls Tryz.prog 42 #[.agg #[.bool v.s, .slice v.A v.n v.c, .slice v.B v.m v.d], .agg #[.bool u.s, .slice u.A u.n u.c, .slice u.B u.m u.d]] w fun e w' => ∃ v : Rv, e = .returned (.tuple #[.agg #[.bool v.s, .slice v.A v.n v.c, .slice v.B v.m v.d], .bool true]) ∧ Rt w' w.heap.size v (r / s) ∧ Below w.heap.size w w' := by
 go_enter Tryz.func42, Tryz.ntmps42
 go_wp2_with fail
 generalize hW : (((w.alloc (.cells #[.bool v.s, .slice v.A v.n v.c, .slice v.B v.m v.d] 26)).alloc (.cells #[.bool u.s, .slice u.A u.n u.c, .slice u.B u.m u.d] 26)).alloc (.cells #[.bool false, .slice none 0 0, .slice none 0 0] 26)) = W
 obtain ⟨ka, kb, kz, HW, hsW⟩ := open2z w v u W hW
 clear hW
 refine (Zero_any u s _ ((hu.below HW).more (by omega))).mono ?_
 rintro e w0 ⟨rfl, hb0⟩
 have hsW2 := hb0.size
 replace ka := ka.below hb0
 replace kb := kb.below hb0
 replace kz := kz.below hb0
 replace HW := HW.trans (hb0.mono (by omega))
 clear hb0
 rw [decide_eq_false hs0]
 obtain ⟨a0, a1, a2, a3, a4, a5⟩ := ka.facts
 obtain ⟨b0, b1, b2, b3, b4, b5⟩ := kb.facts
 obtain ⟨z0, z1, z2, z3, z4, z5⟩ := kz.facts
 go_wp2_with fail
 obtain ⟨h1, h2, h3, h4, a, b, ha, hb, hr⟩ := hv.below HW
 obtain ⟨g1, g2, g3, g4, c, d, hc, hd, hs⟩ := hu.below HW
 have hcd : val c ≠ 0 ∧ val d ≠ 0 := by
  refine ⟨fun h => hs0 (by rw [← hs]; exact rn_zero (.inl h)), fun h => hs0 (by rw [← hs]; exact rn_zero (.inr h))⟩
 have hrs : rn (v.s != u.s) (val a * val d) (val b * val c) = r / s := by rw [← hr, ← hs, rn_div _ _ hcd.1 hcd.2]
 have hl1 : (lim (val a * val d)).length ≤ 60000000000 := ((ha.bd h3).mul (hd.bd g4)).len
 have hl2 : (lim (val b * val c)).length ≤ 60000000000 := ((hb.bd h4).mul (hc.bd g3)).len
 obtain ⟨a0, a1, a2, a3, a4, a5⟩ := ka.facts
 obtain ⟨b0, b1, b2, b3, b4, b5⟩ := kb.facts
 obtain ⟨z0, z1, z2, z3, z4, z5⟩ := kz.facts
 have hn1 : ¬ w.heap.size = w.heap.size + 1 + 1 := by omega
 have hn2 : ¬ w.heap.size + 1 + 1 = w.heap.size := by omega
 go_region_held3 (fun w' => w'.cell? ⟨w.heap.size, 0, none⟩ = some (.bool v.s) ∧ w'.cell? ⟨w.heap.size, 1, none⟩ = some (.slice v.A v.n v.c) ∧ w'.cell? ⟨w.heap.size, 2, none⟩ = some (.slice v.B v.m v.d) ∧ w'.cell? ⟨w.heap.size + 1, 0, none⟩ = some (.bool u.s) ∧ w'.cell? ⟨w.heap.size + 1, 1, none⟩ = some (.slice u.A u.n u.c) ∧ w'.cell? ⟨w.heap.size + 1, 2, none⟩ = some (.slice u.B u.m u.d)) (go_keep)
   (first
   | (
     go_at_call_of 80 v.A
     refine (Mul_any v.A u.B v.n u.m v.c u.d a d _ (by omega) (by omega) h1 g2 ha.drew hd.drew).mono ?_
     rintro e w1 ⟨X1, cx1, rfl, ho1, hb1⟩
     obtain ⟨a0, a1, a2, a3, a4, a5⟩ := (ka.drew.below hb1).facts
     obtain ⟨b0, b1, b2, b3, b4, b5⟩ := (kb.drew.below hb1).facts
     obtain ⟨z0, z1, z2, z3, z4, z5⟩ := (kz.drew.below hb1).facts)
   | (
     go_at_call_of 80 v.B
     refine (Mul_any v.B u.A v.m u.n v.d u.c b c _ (by omega) (by omega) h2 g1 (hb.drew.below hb1) (hc.drew.below hb1)).mono ?_
     rintro e w2 ⟨X2, cx2, rfl, ho2, hb2⟩
     obtain ⟨a0, a1, a2, a3, a4, a5⟩ := ((ka.drew.below hb1).below hb2).facts
     obtain ⟨b0, b1, b2, b3, b4, b5⟩ := ((kb.drew.below hb1).below hb2).facts
     obtain ⟨z0, z1, z2, z3, z4, z5⟩ := ((kz.drew.below hb1).below hb2).facts)
   | (
     go_at_call_of 76 X1
     refine (Of_nums (v.s != u.s) X1 X2 _ _ cx1 cx2 (val a * val d) (val b * val c) _ _ (r / s) _ (val_lim _) (val_lim _) (by omega) (by omega) ho1.capLe ho2.capLe ((ho1.row.below hb2).lower (Nat.zero_le _)) (ho2.row.lower (Nat.zero_le _)) hrs).mono ?_
     rintro e w3 ⟨z, rfl, hz, hb3⟩
     obtain ⟨a0, a1, a2, a3, a4, a5⟩ := (((ka.drew.below hb1).below hb2).below hb3).facts
     obtain ⟨b0, b1, b2, b3, b4, b5⟩ := (((kb.drew.below hb1).below hb2).below hb3).facts
     obtain ⟨z0, z1, z2, z3, z4, z5⟩ := (((kz.drew.below hb1).below hb2).below hb3).facts))
 have hs1 : w0.heap.size ≤ w1.heap.size := hb1.size
 have hs2 := hb2.size
 have hs3 := hb3.size
 have kz3 := ((kz.drew.below hb1).below hb2).below hb3
 have HB3 : Below w.heap.size w w3 := HW.trans ((below_drewN' w.heap.size w0 1).trans ((hb1.mono (by show _ ≤ w0.heap.size; omega)).trans ((hb2.mono (by omega)).trans (hb3.mono (by omega)))))
 clear hb1 hb2 hb3 ka kb
 go_wp2
 refine ret3t (fn := Tryz.f42) Tryz.results42 rfl rfl rfl (kz3.put _ _ _) ?_
 exact ⟨z, rfl, (hz.put (by omega) _ _ _).lower (by omega), HB3.trans (put3_below (by omega) _ _ _)⟩
set_option maxHeartbeats 800000 in
theorem Neg_c (v : Rv) (r : Rat) (w : World) (hv : Rw w v r 30000000000) :
  Calls Tryz.prog 43 #[.agg #[.bool v.s, .slice v.A v.n v.c, .slice v.B v.m v.d]] w fun e w' => ∃ v : Rv, e = .returned (.agg #[.bool v.s, .slice v.A v.n v.c, .slice v.B v.m v.d]) ∧ Rt w' w.heap.size v (-r) ∧ Below w.heap.size w w' := by
 go_enter Tryz.func43, Tryz.ntmps43
 go_wp2_with fail
 generalize hW : ((w.alloc (.cells #[.bool v.s, .slice v.A v.n v.c, .slice v.B v.m v.d] 26)).alloc (.cells #[.bool false, .slice none 0 0, .slice none 0 0] 26)) = W
 obtain ⟨ka, kz, HW, hsW⟩ := open1z w v W hW
 clear hW
 refine (turned_any v r 30000000000 _ (hv.below HW)).mono ?_
 rintro e w1 ⟨u, rfl, hu, hb1⟩
 have hs1 := hb1.size
 replace kz := kz.below hb1
 replace HW := HW.trans (hb1.mono (by omega))
 clear hb1 ka
 go_wp2_with fail
 refine (Norm_any u (-r) _ (hu.more (by omega))).mono ?_
 rintro e w2 ⟨z, rfl, hz, hb2⟩
 have hs2 := hb2.size
 replace kz := kz.below hb2
 replace HW := HW.trans (hb2.mono (by omega))
 obtain ⟨q0, q1, q2, g0, g1, g2⟩ := kz.facts
 clear hb2
 go_wp2
 refine ret3 (fn := Tryz.f43) Tryz.results43 rfl rfl kz ?_
 exact ⟨z, rfl, (hz.put (by omega) _ _ _).lower (by omega), HW.trans (put3_below (by omega) _ _ _)⟩
end Go.Proofs.YtgffkaconhonlaaGreat
namespace Go.Proofs.YtgffkaconhonlaaGreat
set_option maxRecDepth 20000
open Go.RowKit
end Go.Proofs.YtgffkaconhonlaaGreat
namespace Go.Proofs.YtgffkaconhonlaaGreat
set_option maxRecDepth 20000
open Go.RowKit
theorem lim_one_limb {x : Nat} (h0 : x ≠ 0) (h1 : x < 4294967296) : lim x = [x] := by
 rw [lim_pos h0, Nat.mod_eq_of_lt h1, Nat.div_eq_of_lt h1, lim_zero]
theorem Rt.lit {w : World} {A B : Option Addr} {c d x y : Nat} (hx0 : x ≠ 0) (hx : x < 4294967296) (hy0 : y ≠ 0) (hy : y < 4294967296) (hg : Nat.gcd x y = 1) (hc : 1 ≤ c) (hd : 1 ≤ d) (h1 : Row w 0 A 1 [x]) (h2 : Row w 0 B 1 [y]) :
  Rt w 0 ⟨false, A, 1, c, B, 1, d⟩ (rn false x y) := by
 refine Rt.parts hx0 hy0 rfl ?_ ?_ hc hd ?_ ?_
 · rw [hg, Nat.div_one, lim_one_limb hx0 hx]; rfl
 · rw [hg, Nat.div_one, lim_one_limb hy0 hy]; rfl
 · rw [hg, Nat.div_one, lim_one_limb hx0 hx]; exact h1
 · rw [hg, Nat.div_one, lim_one_limb hy0 hy]; exact h2
theorem Sz.lit {x y : Nat} {s : Bool} (hx : x < 4294967296) (hy : y < 4294967296) : Sz (Go.Proofs.YtgffkaconhonlaaGreat.rn s x y) 1 :=
 Sz.ofRn rfl (show x < 4294967296 ^ 1 by omega) (show y < 4294967296 ^ 1 by omega) (by omega)
theorem Row.lit (w : World) (x : Nat) (v : Int) (hv : v = (x : Int)) (hx : x < 4294967296) : Row (w.alloc (.cells #[.int .u32 v] 79)) 0 (some ⟨w.heap.size, 0, none⟩) 1 [x] := Row.one hv hx (Nat.zero_le _)
end Go.Proofs.YtgffkaconhonlaaGreat
namespace Go.Proofs.YtgffkaconhonlaaGreat
set_option maxRecDepth 20000
open Go.RowKit
end Go.Proofs.YtgffkaconhonlaaGreat
namespace Go.Proofs.YtgffkaconhonlaaGreat
set_option maxRecDepth 20000
open Go.RowKit
theorem Sz.more {r : Rat} {p q : Nat} (h : Sz r p) (hq : p ≤ q) : Sz r q := ⟨h.num.more hq, h.den.more hq⟩
theorem Sz.pos {r : Rat} {p : Nat} (h : Sz r p) : 0 < p := by
 have h1 := h.den
 unfold Bd at h1
 have := r.den_pos
 rcases Nat.eq_zero_or_pos p with rfl | h2
 · simp at h1; omega
 · exact h2
theorem Sz.add {r s : Rat} {p q : Nat} (hr : Sz r p) (hs : Sz s q) : Sz (r + s) (p + q + 1) := by
 have er := rn_self r
 have es := rn_self s
 have hy := r.den_nz
 have hv := s.den_nz
 have bx := hr.num
 have bY := hr.den
 have bu := hs.num
 have bv := hs.den
 generalize decide (r.num < 0) = a at *
 generalize decide (s.num < 0) = b at *
 generalize r.num.natAbs = x at *
 generalize r.den = y at *
 generalize s.num.natAbs = u at *
 generalize s.den = v at *
 have hxv : Bd (x * v) (p + q) := bx.mul bv
 have huy : Bd (u * y) (q + p) := bu.mul bY
 have hd : Bd (y * v) (p + q + 1) := (bY.mul bv).more (by omega)
 have hsum : Bd (x * v + u * y) (p + q + 1) := (hxv.add huy).more (by omega)
 subst er es
 by_cases hab : b = a
 ·
  subst hab
  exact Sz.ofRn (rn_add b hy hv).symm hsum hd (by omega)
 ·
  have hab' : b = !a := by cases a <;> cases b <;> simp at hab ⊢
  rcases Nat.le_total (u * y) (x * v) with h | h
  · exact Sz.ofRn (rn_sub hab' hy hv h).symm (hsum.le (by omega)) hd (by omega)
  · exact Sz.ofRn (rn_sub' hab' hy hv h).symm (hsum.le (by omega)) hd (by omega)
theorem Sz.mul {r s : Rat} {p q : Nat} (hr : Sz r p) (hs : Sz s q) : Sz (r * s) (p + q) := by
 have e : r * s = Go.Proofs.YtgffkaconhonlaaGreat.rn (decide (r.num < 0) != decide (s.num < 0)) (r.num.natAbs * s.num.natAbs) (r.den * s.den) := by
  rw [← rn_mul, rn_self, rn_self]
 exact Sz.ofRn e.symm (hr.num.mul hs.num) (hr.den.mul hs.den) (by have := hr.pos; omega)
theorem Sz.neg {r : Rat} {p : Nat} (hr : Sz r p) : Sz (-r) p := by
 refine ⟨?_, ?_⟩
 · rw [Rat.neg_num, Int.natAbs_neg]; exact hr.num
 · rw [Rat.neg_den]; exact hr.den
theorem Sz.sub {r s : Rat} {p q : Nat} (hr : Sz r p) (hs : Sz s q) : Sz (r - s) (p + q + 1) := by
 rw [Rat.sub_eq_add_neg]; exact hr.add hs.neg
theorem Sz.div {r s : Rat} {p q : Nat} (hr : Sz r p) (hs : Sz s q) (h0 : s ≠ 0) : Sz (r / s) (p + q) := by
 have hn : s.num.natAbs ≠ 0 := by have := num_ne h0; omega
 have e : r / s = Go.Proofs.YtgffkaconhonlaaGreat.rn (decide (r.num < 0) != decide (s.num < 0)) (r.num.natAbs * s.den) (r.den * s.num.natAbs) := by
  rw [← rn_div _ _ hn s.den_nz, rn_self, rn_self]
 exact Sz.ofRn e.symm (hr.num.mul hs.den) (hr.den.mul hs.num) (by have := hr.pos; omega)
theorem Below.drew {B : Nat} {w w' : World} (h : Below B w w') : Below B w w'.drew := h.trans (below_drewN' B w' 1)
theorem Rt.len {w : World} {lo : Nat} {v : Rv} {r : Rat} {p : Nat} (h : Rt w lo v r) (hz : Sz r p) (hp : p ≤ 1500000000000) : v.n ≤ 1500000000000 ∧ v.m ≤ 1500000000000 := by
 have := (h.rw hz).numLe
 have := (h.rw hz).denLe
 omega
def pick (v u t : Rv) : Nat → Rv
 | 0 => v
 | 1 => u
 | _ => t
end Go.Proofs.YtgffkaconhonlaaGreat
