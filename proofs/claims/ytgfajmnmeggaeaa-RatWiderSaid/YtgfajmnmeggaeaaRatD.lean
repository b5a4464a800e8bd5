/-
  The program's rationals, fourth part: sums, products, quotients, comparisons, floors.
-/
import Derived.Test.YtgfajmnmeggaeaaRatC
import Derived.Sort.AtCall
import Derived.Deep.RegionHeld3
namespace Go.Proofs.Ytgfajmnmeggaeaa
set_option maxRecDepth 20000
open Go.RowKit

set_option maxHeartbeats 400000 in
theorem addSigned_same (s : Bool) (A B : Option Addr) (n m c d : Nat) (a b : List Nat) (w : World) (hn : n ≤ 20000) (hm : m ≤ 20000) (hcn : n ≤ c) (hdm : m ≤ d) (ha : Row w 0 A n a) (hb : Row w 0 B m b) :
    Calls Try.prog 47 #[.bool s, .slice A n c, .bool s, .slice B m d] w fun e w' => ∃ X cx, e = .returned (.tuple #[.bool s, .slice X (lim (val a + val b)).length cx]) ∧ Own w' w.heap.size X cx (lim (val a + val b)).length (lim (val a + val b)) ∧ Below w.heap.size w w' := by
  go_enter Try.func47, Try.ntmps47
  go_wp2_with fail
  refine (Add_any A B n m c d a b _ (by omega) (by omega) hcn hdm ha hb).mono ?_
  rintro e w1 ⟨X, cx, rfl, ho, hb1⟩
  go_wp2
  go_ret2
  exact ⟨X, cx, rfl, ho, hb1⟩
set_option maxHeartbeats 400000 in
theorem addSigned_less (s t : Bool) (A B : Option Addr) (n m c d : Nat) (a b : List Nat) (w : World) (hst : t = !s) (hn : n ≤ 20000) (hm : m ≤ 20000) (hcn : n ≤ c) (hdm : m ≤ d) (ha : Row w 0 A n a) (hb : Row w 0 B m b) (hle : val b ≤ val a) :
    Calls Try.prog 47 #[.bool s, .slice A n c, .bool t, .slice B m d] w fun e w' => ∃ X cx, e = .returned (.tuple #[.bool s, .slice X (lim (val a - val b)).length cx]) ∧ Own w' w.heap.size X cx (lim (val a - val b)).length (lim (val a - val b)) ∧ Below w.heap.size w w' := by
  subst hst
  have hs : (s == !s) = false := by cases s <;> rfl
  go_enter Try.func47, Try.ntmps47
  go_wp2_with fail
  refine (Sub_yes A B n m c d a b _ (by omega) (by omega) hcn hdm ha hb hle).mono ?_
  rintro e w1 ⟨X, cx, rfl, ho, hb1⟩
  go_wp2
  go_ret2
  exact ⟨X, cx, rfl, ho, hb1⟩
set_option maxHeartbeats 400000 in
theorem addSigned_more (s t : Bool) (A B : Option Addr) (n m c d : Nat) (a b : List Nat) (w : World) (hst : t = !s) (hn : n ≤ 20000) (hm : m ≤ 20000) (hcn : n ≤ c) (hdm : m ≤ d) (ha : Row w 0 A n a) (hb : Row w 0 B m b) (hlt : val a < val b) :
    Calls Try.prog 47 #[.bool s, .slice A n c, .bool t, .slice B m d] w fun e w' => ∃ X cx, e = .returned (.tuple #[.bool t, .slice X (lim (val b - val a)).length cx]) ∧ Own w' w.heap.size X cx (lim (val b - val a)).length (lim (val b - val a)) ∧ Below w.heap.size w w' := by
  subst hst
  have hs : (s == !s) = false := by cases s <;> rfl
  go_enter Try.func47, Try.ntmps47
  go_wp2_with fail
  refine (Sub_no A B n m c d a b _ (by omega) (by omega) hcn hdm ha hb hlt).mono ?_
  rintro e w1 ⟨rfl, hb1⟩
  go_wp2_with fail
  refine (Sub_yes B A m n d c b a _ (by omega) (by omega) hdm hcn (hb.below hb1) (ha.below hb1) (by omega)).mono ?_
  rintro e w2 ⟨X, cx, rfl, ho, hb2⟩
  go_wp2
  go_ret2
  exact ⟨X, cx, rfl, ho.lower hb1.size, hb1.trans (hb2.mono hb1.size)⟩

/-- A sum of two numbers with signs. -/
theorem addSigned_any (s t : Bool) (A B : Option Addr) (n m c d x y u v : Nat) (a b : List Nat) (w : World) (hn : n ≤ 20000) (hm : m ≤ 20000) (hcn : n ≤ c) (hdm : m ≤ d) (ha : Row w 0 A n a) (hb : Row w 0 B m b)
    (hx : val a = x * v) (hu : val b = u * y) (hy : y ≠ 0) (hv : v ≠ 0) :
    Calls Try.prog 47 #[.bool s, .slice A n c, .bool t, .slice B m d] w fun e w' => ∃ q z X cx, e = .returned (.tuple #[.bool q, .slice X (lim z).length cx]) ∧ Own w' w.heap.size X cx (lim z).length (lim z) ∧ rn s x y + rn t u v = rn q z (y * v) ∧ z ≤ val a + val b ∧ Below w.heap.size w w' := by
  by_cases hst : t = s
  · subst hst
    refine (addSigned_same t A B n m c d a b w hn hm hcn hdm ha hb).mono ?_
    rintro e w1 ⟨X, cx, rfl, ho, hb1⟩
    exact ⟨_, _, X, cx, rfl, ho, by rw [rn_add t hy hv, hx, hu], Nat.le_refl _, hb1⟩
  · have hst' : t = !s := by cases s <;> cases t <;> simp at hst ⊢
    by_cases hle : val b ≤ val a
    · refine (addSigned_less s t A B n m c d a b w hst' hn hm hcn hdm ha hb hle).mono ?_
      rintro e w1 ⟨X, cx, rfl, ho, hb1⟩
      exact ⟨_, _, X, cx, rfl, ho, by rw [rn_sub hst' hy hv (by omega), hx, hu], by omega, hb1⟩
    · refine (addSigned_more s t A B n m c d a b w hst' hn hm hcn hdm ha hb (by omega)).mono ?_
      rintro e w1 ⟨X, cx, rfl, ho, hb1⟩
      exact ⟨_, _, X, cx, rfl, ho, by rw [rn_sub' hst' hy hv (by omega), hx, hu], by omega, hb1⟩

theorem Rd.putC {w : World} {b p : Nat} {r : Rat} {u : Rv} (h : Rd w u r p) {v : Rv} (k : C3 w b (.bool v.s) (.slice v.A v.n v.c) (.slice v.B v.m v.d)) (x y z : Value) : Rd (put3 w b x y z) u r p := by
  obtain ⟨h1, h2, h3, h4, a, b', ha, hb', hr⟩ := h
  exact ⟨h1, h2, h3, h4, a, b', ha.putC k x y z, hb'.putC k x y z, hr⟩
theorem C3.drew {w : World} {b : Nat} {x y z : Value} (h : C3 w b x y z) : C3 w.drew b x y z := h
theorem Rw.drew {w : World} {v : Rv} {r : Rat} {p : Nat} (h : Rw w v r p) : Rw w.drew v r p := h.below ⟨rfl, rfl, rfl, Nat.le_refl _, fun _ _ => rfl⟩

set_option maxHeartbeats 1600000 in
theorem crosswise_any (v u : Rv) (r s : Rat) (w : World) (hv : Rw w v r 4000) (hu : Rw w u s 4000) :
    Calls Try.prog 28 #[.agg #[.bool v.s, .slice v.A v.n v.c, .slice v.B v.m v.d], .agg #[.bool u.s, .slice u.A u.n u.c, .slice u.B u.m u.d]] w fun e w' => ∃ q x y X cx Y cy, e = .returned (.tuple #[.bool q, .slice X (lim x).length cx, .slice Y (lim y).length cy]) ∧ (lim x).length ≤ cx ∧ (lim y).length ≤ cy ∧ (lim x).length ≤ 8001 ∧ (lim y).length ≤ 8000 ∧ y ≠ 0 ∧ Row w' w.heap.size X (lim x).length (lim x) ∧ Row w' w.heap.size Y (lim y).length (lim y) ∧ rn q x y = r + s ∧ Below w.heap.size w w' := by
  have ka := (C3.new w (.bool v.s) (.slice v.A v.n v.c) (.slice v.B v.m v.d)).alloc (.cells #[.bool u.s, .slice u.A u.n u.c, .slice u.B u.m u.d] 24)
  have kb := C3.new (w.alloc (.cells #[.bool v.s, .slice v.A v.n v.c, .slice v.B v.m v.d] 24)) (.bool u.s) (.slice u.A u.n u.c) (.slice u.B u.m u.d)
  have HW := ((Below.refl w.heap.size w).alloc (Nat.le_refl _) (.cells #[.bool v.s, .slice v.A v.n v.c, .slice v.B v.m v.d] 24)).alloc (by simp) (.cells #[.bool u.s, .slice u.A u.n u.c, .slice u.B u.m u.d] 24)
  have e1 : (w.alloc (.cells #[.bool v.s, .slice v.A v.n v.c, .slice v.B v.m v.d] 24)).heap.size = w.heap.size + 1 := by simp
  rw [e1] at kb
  go_enter Try.func28, Try.ntmps28
  go_wp2_with fail
  generalize (w.alloc (.cells #[.bool v.s, .slice v.A v.n v.c, .slice v.B v.m v.d] 24)).alloc (.cells #[.bool u.s, .slice u.A u.n u.c, .slice u.B u.m u.d] 24) = W at *
  replace hv := hv.below HW
  replace hu := hu.below HW
  have hlt := kb.lt
  clear e1
  go_cut [] from 7 to 10 (fun wx => ∃ v1 u1 : Rv, Hid (C3 wx w.heap.size (.bool v1.s) (.slice v1.A v1.n v1.c) (.slice v1.B v1.m v1.d) ∧ C3 wx (w.heap.size + 1) (.bool u1.s) (.slice u1.A u1.n u1.c) (.slice u1.B u1.m u1.d) ∧ Rd wx v1 r 4000 ∧ Rd wx u1 s 4000 ∧ Below w.heap.size w wx))
  case first =>
    obtain ⟨a0, a1, a2, a3, a4, a5⟩ := ka.facts
    obtain ⟨b0, b1, b2, b3, b4, b5⟩ := kb.facts
    go_region_with (first
      | (go_at_call_of 46 v
         refine (withDenominator_any v r 4000 _ hv.drew (by omega) (by omega)).mono ?_
         rintro e w1 ⟨v1, rfl, hv1, hb1⟩
         obtain ⟨a0, a1, a2, a3, a4, a5⟩ := (ka.drew.below hb1).facts
         obtain ⟨b0, b1, b2, b3, b4, b5⟩ := (kb.drew.below hb1).facts)
      | (go_at_call_of 46 u
         refine (withDenominator_any u s 4000 _ (hu.drew.below hb1) (by omega) (by omega)).mono ?_
         rintro e w2 ⟨u1, rfl, hu1, hb2⟩
         obtain ⟨a0, a1, a2, a3, a4, a5⟩ := ((ka.drew.below hb1).below hb2).facts
         obtain ⟨b0, b1, b2, b3, b4, b5⟩ := ((kb.drew.below hb1).below hb2).facts))
    all_goals (
      go_wp2_with fail
      go_meet
      have hbb := HW.trans ((below_drewN' w.heap.size W 1).trans ((hb1.mono (by show _ ≤ W.heap.size; omega)).trans (hb2.mono (by have := hb1.size; have h3 : W.drew.heap.size = W.heap.size := rfl; omega))))
      have ka2 := (ka.drew.below hb1).below hb2
      have kb2 := (kb.drew.below hb1).below hb2
      have hv2 := hv1.below hb2
      have kb3 := kb2.putOther (b := w.heap.size) (by omega) (.bool v1.s) (.slice v1.A v1.n v1.c) (.slice v1.B v1.m v1.d)
      have ka3 := (ka2.put (.bool v1.s) (.slice v1.A v1.n v1.c) (.slice v1.B v1.m v1.d)).putOther (b := w.heap.size + 1) (by omega) (.bool u1.s) (.slice u1.A u1.n u1.c) (.slice u1.B u1.m u1.d)
      exact ⟨v1, u1, ka3, kb3.put _ _ _, (hv2.putC ka2 _ _ _).putC kb3 _ _ _, (hu1.putC ka2 _ _ _).putC kb3 _ _ _, hbb.trans ((put3_below (Nat.le_refl _) _ _ _).trans (put3_below (by omega) _ _ _))⟩)
  case rest =>
    obtain ⟨v1, u1, HC⟩ := hcut
    obtain ⟨ka1, kb1, hv1, hu1, HB⟩ := HC.out
    clear HC ka kb hv hu HW hlt
    obtain ⟨a0, a1, a2, a3, a4, a5⟩ := ka1.facts
    obtain ⟨b0, b1, b2, b3, b4, b5⟩ := kb1.facts
    obtain ⟨h1, h2, h3, h4, a, b, ha, hb, hr, hy⟩ := hv1
    obtain ⟨g1, g2, g3, g4, c, d, hc, hd, hs, hz⟩ := hu1
    go_wp2_with fail
    go_region_held3 (fun w' => w'.cell? ⟨w.heap.size, 0, none⟩ = some (.bool v1.s) ∧ w'.cell? ⟨w.heap.size, 1, none⟩ = some (.slice v1.A v1.n v1.c) ∧ w'.cell? ⟨w.heap.size, 2, none⟩ = some (.slice v1.B v1.m v1.d) ∧ w'.cell? ⟨w.heap.size + 1, 0, none⟩ = some (.bool u1.s) ∧ w'.cell? ⟨w.heap.size + 1, 1, none⟩ = some (.slice u1.A u1.n u1.c) ∧ w'.cell? ⟨w.heap.size + 1, 2, none⟩ = some (.slice u1.B u1.m u1.d)) (go_keep)
      (first
      | (go_at_call_of 22 v1.A
         refine (Mul_any v1.A u1.B v1.n u1.m v1.c u1.d a d _ (by omega) (by omega) h1 g2 ha.drew hd.drew).mono ?_
         rintro e w1 ⟨X1, cx1, rfl, ho1, hb1⟩
         obtain ⟨a0, a1, a2, a3, a4, a5⟩ := (ka1.drew.below hb1).facts
         obtain ⟨b0, b1, b2, b3, b4, b5⟩ := (kb1.drew.below hb1).facts)
      | (go_at_call_of 22 u1.A
         refine (Mul_any u1.A v1.B u1.n v1.m u1.c v1.d c b _ (by omega) (by omega) g1 h2 (hc.drew.below hb1) (hb.drew.below hb1)).mono ?_
         rintro e w2 ⟨X2, cx2, rfl, ho2, hb2⟩
         obtain ⟨a0, a1, a2, a3, a4, a5⟩ := ((ka1.drew.below hb1).below hb2).facts
         obtain ⟨b0, b1, b2, b3, b4, b5⟩ := ((kb1.drew.below hb1).below hb2).facts)
      | (go_at_call_of 47 X1
         refine (addSigned_any v1.s u1.s X1 X2 _ _ cx1 cx2 (val a) (val b) (val c) (val d) _ _ _ ?_ ?_ ho1.capLe ho2.capLe ((ho1.row.below hb2).lower (Nat.zero_le _)) (ho2.row.lower (Nat.zero_le _)) (val_lim _) (val_lim _) hy hz).mono ?_
         · exact Nat.le_trans ((ha.bd h3).mul (hd.bd g4)).len (by omega)
         · exact Nat.le_trans ((hc.bd g3).mul (hb.bd h4)).len (by omega)
         rintro e w3 ⟨q, z, X3, cx3, rfl, ho3, hsum, hz3, hb3⟩
         obtain ⟨a0, a1, a2, a3, a4, a5⟩ := (((ka1.drew.below hb1).below hb2).below hb3).facts
         obtain ⟨b0, b1, b2, b3, b4, b5⟩ := (((kb1.drew.below hb1).below hb2).below hb3).facts))
    rename_i hHeld
    have hszw : w.heap.size ≤ wc.heap.size := HB.size
    have hs1 : wc.heap.size ≤ w1.heap.size := hb1.size
    have hs2 := hb2.size
    have HB3 : Below w.heap.size w w3 := HB.trans ((below_drewN' w.heap.size wc 1).trans ((hb1.mono (by show _ ≤ wc.heap.size; omega)).trans ((hb2.mono (by omega)).trans (hb3.mono (by omega)))))
    replace hb := ((hb.drew.below hb1).below hb2).below hb3
    replace hd := ((hd.drew.below hb1).below hb2).below hb3
    have hrz := ho3.row
    have hcz := ho3.capLe
    have hzl : (lim z).length ≤ 8001 := by
      have h8 : Bd (val (lim (val a * val d)) + val (lim (val c * val b))) 8001 := by
        rw [val_lim, val_lim]
        exact (((ha.bd h3).mul (hd.bd g4)).add ((hc.bd g3).mul (hb.bd h4))).more (by omega)
      exact (h8.le hz3).len
    have hyl : (lim (val b * val d)).length ≤ 8000 := ((hb.bd h4).mul (hd.bd g4)).len
    have hne : val b * val d ≠ 0 := Nat.mul_ne_zero hy hz
    rw [hr, hs] at hsum
    clear ho3 ho1 ho2 hb1 hb2 hb3 ka1 kb1 hz3 ha hc hHeld HB hy hz hr hs
    go_wp2_with fail
    refine (Mul_any v1.B u1.B v1.m u1.m v1.d u1.d b d _ (by omega) (by omega) h2 g2 hb hd).mono ?_
    rintro e w4 ⟨Y, cy, rfl, ho4, hb4⟩
    have hry := ho4.row
    have hcy := ho4.capLe
    have hs4 := hb4.size
    have hs3 := HB3.size
    go_wp2
    go_ret3
    exact ⟨q, z, val b * val d, X3, cx3, Y, cy, rfl, hcz, hcy, hzl, hyl, hne, (hrz.lower (by omega)).below hb4, hry.lower (by omega), hsum.symm, HB3.trans (hb4.mono (by omega))⟩
end Go.Proofs.Ytgfajmnmeggaeaa
