/-
  What the document's Consistent, Rank and Implies answer.
  What the document's Fixed answers.
  Sums that come in, as the document's solve reads them.
  Sums that come in, of at most 12 variables: the document's answers about them, told by the sums' rows.
-/
import Derived.Test.YtgffkaconhonlaaGreatWGSol
import Derived.Test.YtgffkaconhonlaaGreatWStp
import Derived.Test.YtgffkaconhonlaaGreatWRIgz
import Derived.Test.YtgffkaconhonlaaGreatWGsK
namespace Go.Proofs.YtgffkaconhonlaaGreat
set_option maxRecDepth 20000
open Go.RowKit
structure SolIn (w : World) (A : Option Addr) (m n : Nat) (Pe : (Nat → Rat) → Prop) (vs : List Cin) : Prop where
 cns : Cns w A m n Pe vs
 n6 : n ≤ 60
 m9 : m ≤ 900
 sz : SolSz n Pe vs
theorem SolIn.inv {w : World} {A : Option Addr} {m n : Nat} {Pe : (Nat → Rat) → Prop} {vs : List Cin} (h : SolIn w A m n Pe vs) : Inv n (rowsOf n vs) (solTo n vs m).1 (solTo n vs m).2 := by
 have := solTo_inv n vs m
 rwa [List.take_of_length_le (Nat.le_of_eq h.cns.len)] at this
theorem Cns.below {w w' : World} {A : Option Addr} {m n : Nat} {Pe : (Nat → Rat) → Prop} {vs : List Cin} (h : Cns w A m n Pe vs) (hb : Below w.heap.size w w') : Cns w' A m n Pe vs :=
 ⟨h.len, fun hm => by
  obtain ⟨b, o, e, h1, hc⟩ := h.mem hm
  exact ⟨b, o, e, Nat.lt_of_lt_of_le h1 hb.size, fun i x hx => (hc i x hx).keep (hb.block b h1)⟩, fun x hx => ⟨(h.rd x hx).1.below hb, (h.rd x hx).2⟩, h.fit, fun x hx w9 h9 => h.is_ x hx w9 (hb.trans (h9.mono hb.size))⟩
theorem SolIn.below {w w' : World} {A : Option Addr} {m n : Nat} {Pe : (Nat → Rat) → Prop} {vs : List Cin} (h : SolIn w A m n Pe vs) (hb : Below w.heap.size w w') : SolIn w' A m n Pe vs :=
 ⟨h.cns.below hb, h.n6, h.m9, h.sz⟩
structure CinIn (w : World) (n : Nat) (Pe : (Nat → Rat) → Prop) (x : Cin) : Prop where
 rd : Cw w x.v x.L x.k 28500000000 ∧ x.v.n ≤ 1000
 fit : x.ok = true → (∀ y ∈ x.L, 0 ≤ y.1 ∧ y.1 < (n : Int)) ∧ Pe (rowF n x.L x.k)
 is_ : ∀ w', Below w.heap.size w w' → Calls Tryz.prog 26 #[.agg #[.int .i64 x.v.s, .slice x.v.A x.v.n x.v.c, .bool x.v.K.s, .slice x.v.K.A x.v.K.n x.v.K.c, .slice x.v.K.B x.v.K.m x.v.K.d], .int .i64 (n : Int)] w' fun e w2 => e = .returned (.bool x.ok) ∧ Below w'.heap.size w' w2
set_option maxHeartbeats 1600000 in
theorem rHold_c (n : Int) (N : Nat) (w : World) (hN : min (max n 0) 64 = (N : Int)) : Calls Tryz.prog 44 #[.int .i64 n] w fun e w' => e = .returned (.int .i64 (N : Int)) ∧ w = w' := by
 have HN := Lib.hid hN
 clear hN
 go_enter Tryz.func44, Tryz.ntmps44
 go_wp2
 go_ret
 first
  | exact ⟨by rw [← HN.out]; rfl, rfl⟩
  | exact ⟨by rw [HN.out], rfl⟩
  | exact ⟨by simp [HN.out], rfl⟩
def RConsPost (n : Nat) (vs : List Cin) (w : World) (e : Ending) (w' : World) : Prop := ∃ b : Bool, e = .returned (.bool b) ∧ (b = true ↔ ∃ x, Sat n (rowsOf n vs) x) ∧ Below w.heap.size w w'
set_option maxHeartbeats 3200000 in
theorem rConsistent_c (n0 : Int) (n : Nat) (Pe : (Nat → Rat) → Prop) (A : Option Addr) (m c : Nat) (vs : List Cin) (w : World) (hN : min (max n0 0) 64 = (n : Int)) (h : SolIn w A m n Pe vs) :
  Calls Tryz.prog 18 #[.slice A m c, .int .i64 n0] w (RConsPost n vs w) := by
 have HH := Lib.hid h
 have HN := Lib.hid hN
 clear h hN
 go_enter Tryz.func18, Tryz.ntmps18
 go_wp2_with fail
 refine (rHold_c n0 n _ HN.out).mono ?_
 rintro e w1 ⟨rfl, rfl⟩
 go_wp2_with fail
 refine (rSolve_c A m c n (n + 1) Pe vs _ HH.out.cns rfl HH.out.n6 HH.out.m9 HH.out.sz).mono ?_
 rintro e w2 ⟨B, d, p, R, rfl, hs⟩
 have HS := Lib.hid hs
 clear hs
 go_wp2
 go_ret
 exact ⟨_, rfl, HH.out.inv.cons, HS.out.below⟩
def RRankPost (n : Nat) (vs : List Cin) (w : World) (e : Ending) (w' : World) : Prop := ∃ R : List (Nat → Rat), e = .returned (.int .i64 (R.length : Int)) ∧ Basis n (rowsOf n vs) R ∧ Below w.heap.size w w'
set_option maxHeartbeats 3200000 in
theorem rRank_c (n0 : Int) (n : Nat) (Pe : (Nat → Rat) → Prop) (A : Option Addr) (m c : Nat) (vs : List Cin) (w : World) (hN : min (max n0 0) 64 = (n : Int)) (h : SolIn w A m n Pe vs) :
  Calls Tryz.prog 20 #[.slice A m c, .int .i64 n0] w (RRankPost n vs w) := by
 have HH := Lib.hid h
 have HN := Lib.hid hN
 clear h hN
 go_enter Tryz.func20, Tryz.ntmps20
 go_wp2_with fail
 refine (rHold_c n0 n _ HN.out).mono ?_
 rintro e w1 ⟨rfl, rfl⟩
 go_wp2_with fail
 refine (rSolve_c A m c n (n + 1) Pe vs _ HH.out.cns rfl HH.out.n6 HH.out.m9 HH.out.sz).mono ?_
 rintro e w2 ⟨B, d, p, R, rfl, hs⟩
 have HS := Lib.hid hs
 clear hs
 go_wp2
 go_ret
 exact ⟨_, by rw [HS.out.len]; rfl, HH.out.inv.basis, HS.out.below⟩
def RImpPost (n : Nat) (vs : List Cin) (x : Cin) (w : World) (e : Ending) (w' : World) : Prop :=
 ∃ b : Bool, e = .returned (.bool b) ∧ (b = true ↔ ((∃ y, Sat n (rowsOf n vs) y) → x.ok = true ∧ ∀ y, Sat n (rowsOf n vs) y → dot n (rowF n x.L x.k) y = 0)) ∧ Below w.heap.size w w'
theorem imp_bad {n m : Nat} {Pe : (Nat → Rat) → Prop} {w : World} {A : Option Addr} {vs : List Cin} {x : Cin} (h : SolIn w A m n Pe vs) (ho : (solTo n vs m).2 = false) : (true = true ↔ ((∃ y, Sat n (rowsOf n vs) y) → x.ok = true ∧ ∀ y, Sat n (rowsOf n vs) y → dot n (rowF n x.L x.k) y = 0)) :=
 ⟨fun _ g => by
  have := h.inv.cons.2 g
  rw [ho] at this
  exact absurd this (by decide), fun _ => rfl⟩
theorem imp_not {n m : Nat} {Pe : (Nat → Rat) → Prop} {w : World} {A : Option Addr} {vs : List Cin} {x : Cin} (h : SolIn w A m n Pe vs) (ho : (solTo n vs m).2 = true) (hx : x.ok = false) : (false = true ↔ ((∃ y, Sat n (rowsOf n vs) y) → x.ok = true ∧ ∀ y, Sat n (rowsOf n vs) y → dot n (rowF n x.L x.k) y = 0)) :=
 ⟨fun g => (by cases g), fun g => by
  have := (g (h.inv.cons.1 ho)).1
  rw [hx] at this
  exact absurd this (by decide)⟩
theorem imp_yes {n m : Nat} {Pe : (Nat → Rat) → Prop} {w : World} {A : Option Addr} {vs : List Cin} {x : Cin} {b : Bool} (h : SolIn w A m n Pe vs) (ho : (solTo n vs m).2 = true) (hx : x.ok = true) (hb : b = true ↔ (lead n (red n (solTo n vs m).1 (rowF n x.L x.k)) = n ∧ red n (solTo n vs m).1 (rowF n x.L x.k) n = 0)) :
  (b = true ↔ ((∃ y, Sat n (rowsOf n vs) y) → x.ok = true ∧ ∀ y, Sat n (rowsOf n vs) y → dot n (rowF n x.L x.k) y = 0)) := by
 rw [hb, h.inv.implies ho]
 exact ⟨fun g _ => ⟨hx, g⟩, fun g => (g (h.inv.cons.1 ho)).2⟩
set_option maxHeartbeats 6400000 in
theorem rImplies_c (n0 : Int) (n : Nat) (Pe : (Nat → Rat) → Prop) (A : Option Addr) (m c : Nat) (vs : List Cin) (x : Cin) (w : World) (hN : min (max n0 0) 64 = (n : Int)) (h : SolIn w A m n Pe vs) (hx : CinIn w n Pe x) :
  Calls Tryz.prog 22 #[.slice A m c, .agg #[.int .i64 x.v.s, .slice x.v.A x.v.n x.v.c, .bool x.v.K.s, .slice x.v.K.A x.v.K.n x.v.K.c, .slice x.v.K.B x.v.K.m x.v.K.d], .int .i64 n0] w (RImpPost n vs x w) := by
 have HH := Lib.hid h
 have HN := Lib.hid hN
 have HX := Lib.hid hx
 have n6 : (n : Int) ≤ 60 := by have := h.n6; omega
 have nn : (0 : Int) ≤ (n : Int) := by omega
 have kc := C5.new w (.int .i64 x.v.s) (.slice x.v.A x.v.n x.v.c) (.bool x.v.K.s) (.slice x.v.K.A x.v.K.n x.v.K.c) (.slice x.v.K.B x.v.K.m x.v.K.d)
 have hB : Below w.heap.size w (w.alloc (.cells #[.int .i64 x.v.s, .slice x.v.A x.v.n x.v.c, .bool x.v.K.s, .slice x.v.K.A x.v.K.n x.v.K.c, .slice x.v.K.B x.v.K.m x.v.K.d] 28)) := (Below.refl _ _).alloc (Nat.le_refl _) _
 clear h hN hx
 go_enter Tryz.func22, Tryz.ntmps22
 go_wp2_with fail
 generalize w.alloc (.cells #[.int .i64 x.v.s, .slice x.v.A x.v.n x.v.c, .bool x.v.K.s, .slice x.v.K.A x.v.K.n x.v.K.c, .slice x.v.K.B x.v.K.m x.v.K.d] 28) = W0 at *
 have HZ0 := Lib.hid (And.intro kc hB)
 clear kc hB
 refine (rHold_c n0 n _ HN.out).mono ?_
 rintro e w1 ⟨rfl, rfl⟩
 go_wp2_with fail
 have HH0 := Lib.hid (HH.out.below HZ0.out.2)
 refine (rSolve_c A m c n (n + 1) Pe vs _ HH0.out.cns rfl HH.out.n6 HH.out.m9 HH.out.sz).mono ?_
 rintro e w2 ⟨B, d, p, R, rfl, hs⟩
 have HS := Lib.hid hs
 clear hs
 have HZ2 : Hid (C5 w2 w.heap.size (.int .i64 x.v.s) (.slice x.v.A x.v.n x.v.c) (.bool x.v.K.s) (.slice x.v.K.A x.v.K.n x.v.K.c) (.slice x.v.K.B x.v.K.m x.v.K.d) ∧ Below w.heap.size w w2) := ⟨HZ0.out.1.below HS.out.below, HZ0.out.2.trans (HS.out.below.mono HZ0.out.2.size)⟩
 clear HZ0
 obtain ⟨ok, hok⟩ : ∃ ok, ok = (solTo n vs m).2 := ⟨_, rfl⟩
 rw [← hok]
 have HO := Lib.hid hok
 clear hok
 cases ok with
 |
  false =>
  go_wp2
  go_ret
  exact ⟨true, rfl, imp_bad HH.out HO.out.symm, HZ2.out.2⟩
 |
  true =>
  obtain ⟨c0, c1, c2, c3, c4⟩ := HZ2.out.1.facts
  go_wp2_with fail
  refine (HX.out.is_ _ HZ2.out.2).mono ?_
  rintro e w3 ⟨rfl, hb3⟩
  have HZ3 : Hid (C5 w3 w.heap.size (.int .i64 x.v.s) (.slice x.v.A x.v.n x.v.c) (.bool x.v.K.s) (.slice x.v.K.A x.v.K.n x.v.K.c) (.slice x.v.K.B x.v.K.m x.v.K.d) ∧ Below w.heap.size w w3 ∧ Below w2.heap.size w2 w3) := ⟨HZ2.out.1.below hb3, HZ2.out.2.trans (hb3.mono HZ2.out.2.size), hb3⟩
  clear c0 c1 c2 c3 c4 hb3
  obtain ⟨okc, hokc⟩ : ∃ okc, okc = x.ok := ⟨_, rfl⟩
  rw [← hokc]
  have HOC := Lib.hid hokc
  clear hokc
  cases okc with
  |
   false =>
   go_wp2
   go_ret
   exact ⟨false, rfl, imp_not HH.out HO.out.symm HOC.out.symm, HZ3.out.2.1⟩
  |
   true =>
   obtain ⟨c0, c1, c2, c3, c4⟩ := HZ3.out.1.facts
   have HF := Lib.hid (HX.out.fit HOC.out.symm)
   go_wp2_with fail
   refine (rRow_c x.v x.L x.k n (n + 1) _ (HX.out.rd.1.below HZ3.out.2.1) HF.out.1 HX.out.rd.2 rfl (by omega)).mono ?_
   rintro e w4 ⟨A3, c3', l3, rfl, hg3, hb4⟩
   have HG3 := Lib.hid hg3
   have HB34 := Lib.hid hb4
   have HB24 := Lib.hid (HZ3.out.2.2.trans (hb4.mono HZ3.out.2.2.size))
   have HB4 := Lib.hid (HZ3.out.2.1.trans (hb4.mono HZ3.out.2.1.size))
   clear hg3 hb4 c0 c1 c2 c3 c4
   go_wp2_with fail
   refine (rReduce_c B A3 p n (n + 1) d c3' w3.heap.size R l3 (rowF n x.L x.k) _ (HS.out.mat.below HB24.out).mat HG3.out rfl (by omega) (by have := HS.out.le; omega) HB34.out.size (HS.out.sizes rfl HH.out.sz HF.out.2)).mono ?_
   rintro e w5 ⟨A4, c4, l4, rfl, hg4, hb5⟩
   obtain ⟨fa, hfa⟩ : ∃ fa, fa = red n (R.map (·.f)) (rowF n x.L x.k) := ⟨_, rfl⟩
   rw [← hfa] at hg4
   have HFA : Hid (fa = red n (solTo n vs m).1 (rowF n x.L x.k)) := by rw [← HS.out.eq]; exact hfa
   have HG4 := Lib.hid hg4
   have HB5 := Lib.hid (HB4.out.trans (hb5.mono HB4.out.size))
   clear hfa hg4 hb5
   go_wp2_with fail
   refine (rLead_c A4 (n + 1) n c4 l4 fa 28500000000 _ HG4.out.vec rfl (by omega) (by omega)).mono ?_
   rintro e w6 ⟨he, hb6⟩
   obtain ⟨k, hk⟩ : ∃ k, k = lead n fa := ⟨_, rfl⟩
   rw [← hk] at he
   subst he
   have HK := Lib.hid hk
   have HG6 := Lib.hid (HG4.out.below hb6)
   have HB6 := Lib.hid (HB5.out.trans (hb6.mono HB5.out.size))
   clear hk hb6
   by_cases hkn : k = n
   ·
    subst hkn
    have k1 : (k : Int) < ((k + 1 : Nat) : Int) := by omega
    obtain ⟨ba, oa, y, hA4, hba, hy, hyr⟩ := HG6.out.vec.at_ (i := k) (by omega)
    subst hA4
    obtain ⟨y0, y1, y2⟩ := hy
    have HYR := Lib.hid hyr
    clear hyr
    go_wp2_with fail
    refine (rZero_v y (fa k) (decide (fa k = 0)) _ (HYR.out.more (by omega)) rfl).mono ?_
    rintro e w7 ⟨rfl, hb7⟩
    have HB7 := Lib.hid (HB6.out.trans (hb7.mono HB6.out.size))
    clear y0 y1 y2 hb7
    go_wp2
    go_ret
    refine ⟨decide (fa k = 0), rfl, imp_yes HH.out HO.out.symm HOC.out.symm ?_, HB7.out⟩
    rw [decide_eq_true_iff, ← HFA.out, ← HK.out]
    exact ⟨fun g => ⟨rfl, g⟩, fun g => g.2⟩
   ·
    have k2 : ¬ (k : Int) = (n : Int) := by omega
    have k3 : ((k : Int) == (n : Int)) = false := by rw [beq_eq_false_iff_ne]; exact k2
    go_wp2
    go_ret
    refine ⟨false, rfl, imp_yes HH.out HO.out.symm HOC.out.symm ?_, HB6.out⟩
    rw [← HFA.out, ← HK.out]
    exact ⟨fun g => (by cases g), fun g => absurd g.1 hkn⟩
end Go.Proofs.YtgffkaconhonlaaGreat

namespace Go.Proofs.YtgffkaconhonlaaGreat
set_option maxRecDepth 20000
open Go.RowKit
def RFixPost (n : Nat) (vs : List Cin) (v : Int) (w : World) (e : Ending) (w' : World) : Prop :=
 ∃
  (z : Rv) (b : Bool) (q : Rat), e = .returned (.tuple #[.agg #[.bool z.s, .slice z.A z.n z.c, .slice z.B z.m z.d], .bool b]) ∧ Rw w' z q 28500000000 ∧ Below w.heap.size w w' ∧
  (b = true → (∃ x, Sat n (rowsOf n vs) x) ∧ 0 ≤ v ∧ v < (n : Int) ∧ ∀ x, Sat n (rowsOf n vs) x → x v.toNat = q) ∧ (b = false → q = 0 ∧ ¬ ((∃ x, Sat n (rowsOf n vs) x) ∧ 0 ≤ v ∧ v < (n : Int) ∧ ∃ t, ∀ x, Sat n (rowsOf n vs) x → x v.toNat = t))
theorem nil_sz : Sz ((0 : Int) : Rat) 1 := by
 have := Sz.lit (x := 0) (y := 1) (s := false) (by omega) (by omega)
 rw [rn_zero (.inl rfl)] at this
 exact this
theorem RFixPost.no {n lo : Nat} {vs : List Cin} {v : Int} {w w5 : World} {z : Rv} (hz : Rt w5 lo z ((0 : Int) : Rat)) (hlo : w.heap.size < lo) (hb : Below w.heap.size w w5) (h : ¬ ((∃ x, Sat n (rowsOf n vs) x) ∧ 0 ≤ v ∧ v < (n : Int) ∧ ∃ t, ∀ x, Sat n (rowsOf n vs) x → x v.toNat = t)) :
  RFixPost n vs v w (.returned (.tuple #[.agg #[.bool z.s, .slice z.A z.n z.c, .slice z.B z.m z.d], .bool false])) (put3 w5 w.heap.size (.bool z.s) (.slice z.A z.n z.c) (.slice z.B z.m z.d)) :=
 ⟨z, false, ((0 : Int) : Rat), rfl, ((hz.put hlo _ _ _).rw nil_sz).more (by omega), hb.trans (put3_below (Nat.le_refl _) _ _ _), fun e => (by cases e), fun _ => ⟨rfl, h⟩⟩
theorem only_lead {n i : Nat} {R : List (Nat → Rat)} (hg : Good n R) {r : Nat → Rat} (hi : R[i]? = some r) : ∀ s ∈ R, lead n s = lead n r → s = r := by
 intro s hs e
 obtain ⟨j, hj, rfl⟩ := List.getElem_of_mem hs
 obtain ⟨hi', rfl⟩ := List.getElem?_eq_some_iff.1 hi
 have h1 := hg.one R[j] hs
 have hp := List.pairwise_iff_getElem.1 hg.two
 rcases Nat.lt_trichotomy i j with h | h | h
 ·
  have h2 := (hp i j hi' hj h).1
  rw [← e, h1] at h2
  exact absurd h2 (by decide)
 · subst h; rfl
 ·
  have h2 := (hp j i hj hi' h).2
  rw [← e, h1] at h2
  exact absurd h2 (by decide)
theorem fix_not {n m i u k : Nat} {Pe : (Nat → Rat) → Prop} {w : World} {A : Option Addr} {vs : List Cin} {R : List Rov} {r : Rov} (h : SolIn w A m n Pe vs) (hR : R.map (·.f) = (solTo n vs m).1) (hok : (solTo n vs m).2 = true) (hr : R[i]? = some r) (hl : lead n r.f = u) (hu : u < n) (h1 : u < k) (h2 : k < n) (h3 : r.f k ≠ 0) :
  ¬ ((∃ x, Sat n (rowsOf n vs) x) ∧ (0 : Int) ≤ (u : Int) ∧ (u : Int) < (n : Int) ∧ ∃ t, ∀ x, Sat n (rowsOf n vs) x → x (u : Int).toNat = t) := by
 rintro ⟨_, _, _, q, hq⟩
 refine h.inv.untold hok hu ?_ ⟨q, hq⟩
 rintro ⟨s, hs, hs1, hs2⟩
 have hr1 : (solTo n vs m).1[i]? = some r.f := by rw [← hR, List.getElem?_map, hr]; rfl
 have := only_lead h.inv.good hr1 s hs (by rw [hs1, hl])
 subst this
 exact h3 (hs2 k h1 h2)
theorem fix_none {n m u : Nat} {Pe : (Nat → Rat) → Prop} {w : World} {A : Option Addr} {vs : List Cin} {R : List Rov} (h : SolIn w A m n Pe vs) (hR : R.map (·.f) = (solTo n vs m).1) (hok : (solTo n vs m).2 = true) (hu : u < n) (hno : ∀ (i : Nat) (r : Rov), i < R.length → R[i]? = some r → lead n r.f ≠ u) :
  ¬ ((∃ x, Sat n (rowsOf n vs) x) ∧ (0 : Int) ≤ (u : Int) ∧ (u : Int) < (n : Int) ∧ ∃ t, ∀ x, Sat n (rowsOf n vs) x → x (u : Int).toNat = t) := by
 rintro ⟨_, _, _, q, hq⟩
 refine h.inv.untold hok hu ?_ ⟨q, hq⟩
 rintro ⟨s, hs, hs1, _⟩
 rw [← hR] at hs
 obtain ⟨r, hr, rfl⟩ := List.mem_map.1 hs
 obtain ⟨i, hi, rfl⟩ := List.getElem_of_mem hr
 exact hno i _ hi (List.getElem?_eq_getElem hi) hs1
theorem RFixPost.yes {n m lo i u : Nat} {Pe : (Nat → Rat) → Prop} {vs : List Cin} {w w1 w5 : World} {A : Option Addr} {R : List Rov} {r : Rov} {z : Rv} (h : SolIn w1 A m n Pe vs) (hR : R.map (·.f) = (solTo n vs m).1) (hok : (solTo n vs m).2 = true) (hr : R[i]? = some r) (hl : lead n r.f = u) (hu : u < n) (hz0 : ∀ k, u < k → k < n → r.f k = 0)
  (hz : Rt w5 lo z (-(r.f n))) (hlo : w.heap.size < lo) (hb : Below w.heap.size w w5) : RFixPost n vs (u : Int) w (.returned (.tuple #[.agg #[.bool z.s, .slice z.A z.n z.c, .slice z.B z.m z.d], .bool true])) (put3 w5 w.heap.size (.bool z.s) (.slice z.A z.n z.c) (.slice z.B z.m z.d)) := by
 have hm : r.f ∈ (solTo n vs m).1 := by rw [← hR]; exact List.mem_map.2 ⟨r, List.mem_of_getElem? hr, rfl⟩
 have hs := h.sz.rows m r.f hm n (Nat.le_refl _)
 exact ⟨z, true, -(r.f n), rfl, ((hz.put hlo _ _ _).rw hs.neg).more (by omega), hb.trans (put3_below (Nat.le_refl _) _ _ _), fun _ => ⟨h.inv.cons.1 hok, by omega, by omega, fun x hx => h.inv.told hm hl hz0 x hx⟩, fun e => (by cases e)⟩
set_option maxHeartbeats 12800000 in
theorem rFixed_c (n0 v : Int) (n : Nat) (Pe : (Nat → Rat) → Prop) (A : Option Addr) (m c : Nat) (vs : List Cin) (w : World) (hN : min (max n0 0) 64 = (n : Int)) (h : SolIn w A m n Pe vs) :
  Calls Tryz.prog 14 #[.slice A m c, .int .i64 v, .int .i64 n0] w (RFixPost n vs v w) := by
 have HH := Lib.hid h
 have HN := Lib.hid hN
 have n6 : (n : Int) ≤ 60 := by have := h.n6; omega
 have nn : (0 : Int) ≤ (n : Int) := by omega
 have kz := C3.new w (.bool false) (.slice none 0 0) (.slice none 0 0)
 have hB : Below w.heap.size w (w.alloc (.cells #[.bool false, .slice none 0 0, .slice none 0 0] 26)) := (Below.refl _ _).alloc (Nat.le_refl _) _
 clear h hN
 go_enter Tryz.func14, Tryz.ntmps14
 go_wp2_with fail
 generalize w.alloc (.cells #[.bool false, .slice none 0 0, .slice none 0 0] 26) = W0 at *
 have HZ0 := Lib.hid (And.intro kz hB)
 clear kz hB
 refine (rHold_c n0 n _ HN.out).mono ?_
 rintro e w1 ⟨rfl, rfl⟩
 go_wp2_with fail
 have HH0 := Lib.hid (HH.out.below HZ0.out.2)
 refine (rSolve_c A m c n (n + 1) Pe vs _ HH0.out.cns rfl HH.out.n6 HH.out.m9 HH.out.sz).mono ?_
 rintro e W ⟨B, d, p, R, rfl, hs⟩
 have HS := Lib.hid hs
 clear hs
 have HZW : Hid (C3 W w.heap.size (.bool false) (.slice none 0 0) (.slice none 0 0) ∧ Below w.heap.size w W) := ⟨HZ0.out.1.below HS.out.below, HZ0.out.2.trans (HS.out.below.mono HZ0.out.2.size)⟩
 clear HZ0
 have HRET : Hid (∀ (w4 w5 : World) (z : Rv), Below W.heap.size W w4 → Below w4.heap.size w4 w5 → Rt w5 w4.heap.size z ((0 : Int) : Rat) → ¬ ((∃ x, Sat n (rowsOf n vs) x) ∧ 0 ≤ v ∧ v < (n : Int) ∧ ∃ t, ∀ x, Sat n (rowsOf n vs) x → x v.toNat = t) → C3 w5 w.heap.size (.bool false) (.slice none 0 0) (.slice none 0 0) ∧ RFixPost n vs v w (.returned (.tuple #[.agg #[.bool z.s, .slice z.A z.n z.c, .slice z.B z.m z.d], .bool false])) (put3 w5 w.heap.size (.bool z.s) (.slice z.A z.n z.c) (.slice z.B z.m z.d))) := fun w4 w5 z h4 h5 hz hno => by
  have h45 : Below W.heap.size W w5 := h4.trans (h5.mono h4.size)
  exact ⟨HZW.out.1.below h45, RFixPost.no hz (HZW.out.1.below h4).lt (HZW.out.2.trans (h45.mono HZW.out.2.size)) hno⟩
 obtain ⟨ok, hok⟩ : ∃ ok, ok = (solTo n vs m).2 := ⟨_, rfl⟩
 rw [← hok]
 have HO := Lib.hid hok
 clear hok
 obtain ⟨z0, z1, z2, t0, t1, t2⟩ := HZW.out.1.facts
 cases ok with
 |
  false =>
  go_wp2_with fail
  refine (rInt_c 0 _ (by omega)).mono ?_
  rintro e w5 ⟨z, rfl, hz, hb5⟩
  have HE := Lib.hid (HRET.out _ _ _ (Below.refl _ _) hb5 hz (fun g => by
   have := HH.out.inv.cons.2 g.1
   rw [← HO.out] at this
   exact absurd this (by decide)))
  clear hz hb5 z0 z1 z2 t0 t1 t2
  obtain ⟨z0, z1, z2, t0, t1, t2⟩ := HE.out.1.facts
  go_wp2
  exact ret3t (fn := Tryz.f14) Tryz.results14 rfl rfl rfl (HE.out.1.put _ _ _) HE.out.2
 |
  true =>
  by_cases hv0 : v < 0
  ·
   go_wp2_with fail
   refine (rInt_c 0 _ (by omega)).mono ?_
   rintro e w5 ⟨z, rfl, hz, hb5⟩
   have HE := Lib.hid (HRET.out _ _ _ (Below.refl _ _) hb5 hz (fun g => by have := g.2.1; omega))
   clear hz hb5 z0 z1 z2 t0 t1 t2
   obtain ⟨z0, z1, z2, t0, t1, t2⟩ := HE.out.1.facts
   go_wp2
   exact ret3t (fn := Tryz.f14) Tryz.results14 rfl rfl rfl (HE.out.1.put _ _ _) HE.out.2
  by_cases hvn : (n : Int) ≤ v
  ·
   go_wp2_with fail
   refine (rInt_c 0 _ (by omega)).mono ?_
   rintro e w5 ⟨z, rfl, hz, hb5⟩
   have HE := Lib.hid (HRET.out _ _ _ (Below.refl _ _) hb5 hz (fun g => by have := g.2.2.1; omega))
   clear hz hb5 z0 z1 z2 t0 t1 t2
   obtain ⟨z0, z1, z2, t0, t1, t2⟩ := HE.out.1.facts
   go_wp2
   exact ret3t (fn := Tryz.f14) Tryz.results14 rfl rfl rfl (HE.out.1.put _ _ _) HE.out.2
  obtain ⟨u, rfl⟩ : ∃ u : Nat, v = (u : Int) := ⟨v.toNat, by omega⟩
  have hun : u < n := by omega
  have HUN := Lib.hid hun
  have p9 : (p : Int) ≤ 60 := by have := HS.out.le; omega
  have hd1 : decide ((u : Int) < 0) = false := by simp
  have hd2 : decide (n ≤ u) = false := by simp; omega
  have hd3 : ¬ n ≤ u := by omega
  have hd4 : ¬ (n : Int) ≤ (u : Int) := by omega
  clear z0 z1 z2 t0 t1 t2
  go_wp2
  go_loopw [10] (fun iv wr => ∃ i : Nat, i ≤ p ∧ iv = .int .i64 i ∧ Hid (MatO wr W0.heap.size B d p (n + 1) R ∧ Below W.heap.size W wr ∧ ∀ (j : Nat) (r : Rov), j < i → R[j]? = some r → lead n r.f ≠ u)) (fun iv _ => p - (intOf iv).toNat)
  case atStart => exact ⟨0, by omega, rfl, Lib.hid ⟨HS.out.mat, Below.refl _ _, fun j r hj => absurd hj (by omega)⟩⟩
  case round =>
   obtain ⟨i, hi, rfl, HI⟩ := hrel
   have i0 : (0 : Int) ≤ (i : Int) := by omega
   by_cases hlt : i < p
   ·
    have i1 : (i : Int) < (p : Int) := by omega
    obtain ⟨r, hr⟩ : ∃ r, R[i]? = some r := ⟨_, List.getElem?_eq_getElem (by rw [HI.out.1.len]; exact hlt)⟩
    obtain ⟨g, eB, hg0, hg1, hcell⟩ := HI.out.1.form (by omega)
    subst eB
    have HR := Lib.hid hr
    have HCE : Hid (∀ w', Below wr.heap.size wr w' → w'.cell? ⟨g, i, none⟩ = some (.slice r.A (n + 1 : Nat) r.c)) := fun w' h => (World.cell?_of_block (h.block g hg1)).trans (hcell i r hr)
    have HVR := Lib.hid (HI.out.1.rd r (List.mem_of_getElem? hr)).vec
    clear hr hcell
    have c0 := HCE.out _ (Below.refl _ _)
    go_wp2_with fail
    refine (rLead_c r.A (n + 1) n r.c r.l r.f 28500000000 _ HVR.out rfl (by omega) (by omega)).mono ?_
    rintro e w3 ⟨he, hb3⟩
    obtain ⟨q, hq⟩ : ∃ q, q = lead n r.f := ⟨_, rfl⟩
    rw [← hq] at he
    subst he
    have HQ := Lib.hid hq
    have HB3 := Lib.hid hb3
    have HBW3 := Lib.hid (HI.out.2.1.trans (hb3.mono HI.out.2.1.size))
    have HCE3 : Hid (∀ w', Below w3.heap.size w3 w' → w'.cell? ⟨g, i, none⟩ = some (.slice r.A (n + 1 : Nat) r.c) ∧ Vec w' r.A (n + 1) r.l r.f 28500000000) := fun w' h => ⟨HCE.out _ (HB3.out.trans (h.mono HB3.out.size)), HVR.out.below (HB3.out.trans (h.mono HB3.out.size))⟩
    clear hq hb3 c0
    by_cases hqu : q = u
    ·
     subst hqu
     go_wp2
     go_loopw [11] (fun kv wr => ∃ k : Nat, q < k ∧ k ≤ n ∧ kv = .int .i64 k ∧ Hid (Below w3.heap.size w3 wr ∧ ∀ j, q < j → j < k → r.f j = 0)) (fun kv _ => n - (intOf kv).toNat)
     case atStart => exact ⟨q + 1, by omega, by have := HUN.out; omega, by go_num, Lib.hid ⟨Below.refl _ _, fun j h1 h2 => absurd h1 (by omega)⟩⟩
     case round =>
      obtain ⟨k, hk0, hk1, rfl, HK⟩ := hrel
      have k0 : (0 : Int) ≤ (k : Int) := by omega
      have HBWQ : Hid (Below W.heap.size W wr) := HBW3.out.trans (HK.out.1.mono HBW3.out.size)
      obtain ⟨rb, ro, y, eA, hrb, hy, hyr⟩ := (HCE3.out _ HK.out.1).2.at_ (i := k) (by omega)
      have c0 := (HCE3.out _ HK.out.1).1
      rw [eA] at c0
      obtain ⟨y0, y1, y2⟩ := hy
      have HYR := Lib.hid hyr
      have k3 : (k : Int) < ((n + 1 : Nat) : Int) := by omega
      clear hyr eA
      by_cases hkn : k < n
      ·
       have k1 : (k : Int) < (n : Int) := by omega
       by_cases hz : r.f k = 0
       ·
        have HZ := Lib.hid hz
        clear hz
        go_wp2_with fail
        refine (rZero_v y (r.f k) true _ (HYR.out.more (by omega)) (by simp [HZ.out])).mono ?_
        rintro e w8 ⟨rfl, hb8⟩
        have HE : Hid (Below w3.heap.size w3 w8 ∧ ∀ j, q < j → j < k + 1 → r.f j = 0) := ⟨HK.out.1.trans (hb8.mono HK.out.1.size), fun j h1 h2 => by
         rcases Nat.lt_or_eq_of_le (Nat.le_of_lt_succ h2) with h | h
         · exact HK.out.2 j h1 h
         · rw [h]; exact HZ.out⟩
        clear c0 y0 y1 y2 hb8
        go_wp2
        go_roundw
        case rel => exact ⟨k + 1, by omega, by omega, by go_num, HE⟩
        case measure => simp [intOf]; omega
       ·
        have HZ := Lib.hid hz
        clear hz
        go_wp2_with fail
        refine (rZero_v y (r.f k) false _ (HYR.out.more (by omega)) (by simp [HZ.out])).mono ?_
        rintro e w8 ⟨rfl, hb8⟩
        have HBW8 := Lib.hid (HBWQ.out.trans (hb8.mono HBWQ.out.size))
        clear c0 y0 y1 y2 hb8
        go_wp2_with fail
        refine (rInt_c 0 _ (by omega)).mono ?_
        rintro e w5 ⟨z, rfl, hz, hb5⟩
        have HE := Lib.hid (HRET.out _ _ _ HBW8.out hb5 hz (fix_not HH.out HS.out.eq HO.out.symm HR.out HQ.out.symm HUN.out hk0 hkn HZ.out))
        clear hz hb5
        obtain ⟨z0, z1, z2, t0, t1, t2⟩ := HE.out.1.facts
        go_wp2
        exact ret3t (fn := Tryz.f14) Tryz.results14 rfl rfl rfl (HE.out.1.put _ _ _) HE.out.2
      ·
       obtain rfl : k = n := by omega
       have k1 : ¬ (k : Int) < (k : Int) := by omega
       go_wp2_with fail
       refine (rNeg_c y (r.f k) _ (HYR.out.more (by omega))).mono ?_
       rintro e w8 ⟨z, rfl, hz, hb8⟩
       have HBW8 := Lib.hid (HBWQ.out.trans (hb8.mono HBWQ.out.size))
       have HC8 := Lib.hid (HZW.out.1.below HBW8.out)
       have HE := Lib.hid (RFixPost.yes (w := w) HH.out HS.out.eq HO.out.symm HR.out HQ.out.symm HUN.out (fun j h1 h2 => HK.out.2 j h1 h2) hz (HZW.out.1.below HBWQ.out).lt (HZW.out.2.trans (HBW8.out.mono HZW.out.2.size)))
       clear c0 y0 y1 y2 hb8 hz
       obtain ⟨z0, z1, z2, t0, t1, t2⟩ := HC8.out.facts
       go_wp2
       exact ret3t (fn := Tryz.f14) Tryz.results14 rfl rfl rfl (HC8.out.put _ _ _) HE.out
    ·
     have q2 : ¬ (q : Int) = (u : Int) := by omega
     have q3 : ((q : Int) == (u : Int)) = false := by rw [beq_eq_false_iff_ne]; exact q2
     have HE : Hid (MatO w3 W0.heap.size (some ⟨g, 0, none⟩) d p (n + 1) R ∧ Below W.heap.size W w3 ∧ ∀ (j : Nat) (r : Rov), j < i + 1 → R[j]? = some r → lead n r.f ≠ u) := ⟨HI.out.1.below HB3.out, HBW3.out, fun j r1 h1 h2 => by
      by_cases e : j = i
      ·
       subst e
       have h3 := HR.out
       rw [h2] at h3
       injection h3 with h3
       subst h3
       rw [← HQ.out]; exact hqu
      · exact HI.out.2.2 j r1 (by omega) h2⟩
     go_wp2
     go_roundw
     case rel => exact ⟨i + 1, by omega, by go_num, HE⟩
     case measure => simp [intOf]; omega
   ·
    obtain rfl : i = p := by omega
    have i1 : ¬ (i : Int) < (i : Int) := by omega
    go_wp2_with fail
    refine (rInt_c 0 _ (by omega)).mono ?_
    rintro e w5 ⟨z, rfl, hz, hb5⟩
    have HE := Lib.hid (HRET.out _ _ _ HI.out.2.1 hb5 hz (fix_none HH.out HS.out.eq HO.out.symm HUN.out (by rw [HI.out.1.len]; exact HI.out.2.2)))
    clear hz hb5
    obtain ⟨z0, z1, z2, t0, t1, t2⟩ := HE.out.1.facts
    go_wp2
    exact ret3t (fn := Tryz.f14) Tryz.results14 rfl rfl rfl (HE.out.1.put _ _ _) HE.out.2
end Go.Proofs.YtgffkaconhonlaaGreat

namespace Go.Proofs.YtgffkaconhonlaaGreat
set_option maxRecDepth 20000
open Go.RowKit
theorem rowT_co {N : Int} : ∀ (L : List (Int × Rat)) (lo : Int) (f : Nat → Rat), Asc N lo L → 0 ≤ lo → (∀ i : Nat, lo ≤ (i : Int) → f i = 0) → ∀ j : Nat, (L.foldl (fun f x => upd f x.1.toNat x.2) f) j = f j + co L (j : Int)
 |
  [], _, f, _, _, _, j => by
  show f j = f j + 0
  rw [Rat.add_zero]
 |
  (v, q) :: l, lo, f, h, h0, hf, j => by
  have h1 := h.1
  have ih := rowT_co l (v + 1) (upd f v.toNat q) h.2.2.2 (by omega) (fun i hi => by
   unfold upd
   rw [if_neg (by omega)]
   exact hf i (by omega)) j
  show (l.foldl (fun f x => upd f x.1.toNat x.2) (upd f v.toNat q)) j = _
  rw [ih, co]
  unfold upd
  by_cases e : j = v.toNat
  · rw [if_pos e, if_pos (by omega), hf j (by omega), Rat.zero_add]
  · rw [if_neg e, if_neg (by omega), Rat.zero_add]
theorem rowF_fn {n : Nat} {L : List (Int × Rat)} {k : Rat} (h : Asc (n : Int) 0 L) : rowF n L k = fn n L k := by
 funext j
 unfold rowF upd fn
 by_cases e : j = n
 · rw [if_pos e, if_pos e]
 ·
  rw [if_neg e, if_neg e]
  have := rowT_co L 0 (fun _ => 0) h (Int.le_refl _) (fun _ _ => rfl) j
  rw [Rat.zero_add] at this
  exact this
def cinOf (x : Kin) : Cin := ⟨x.v, x.L, x.k, x.ok⟩
theorem rows_sums {n : Nat} {vs : List Kin} (h : ∀ x ∈ vs, x.ok = true → Asc (n : Int) 0 x.L) : rowsOf n (vs.map cinOf) = sums n vs := by
 unfold rowsOf sums
 rw [List.filter_map, List.map_map]
 refine List.map_congr_left fun x hx => ?_
 have hm := List.mem_filter.1 hx
 exact rowF_fn (h x hm.1 hm.2)
theorem Kns.asc {n s : Nat} {w : World} {A : Option Addr} {m : Nat} {vs : List Kin} (h : Kns n s w A m vs) : ∀ x ∈ vs, x.ok = true → Asc (n : Int) 0 x.L := fun x hx hk => by
 obtain ⟨_, _, _, la, _, h5, h6⟩ := h.rd x hx
 exact (h6.1 hk).asc h5
theorem Kns.rows {n s : Nat} {w : World} {A : Option Addr} {m : Nat} {vs : List Kin} (h : Kns n s w A m vs) : rowsOf n (vs.map cinOf) = sums n vs := rows_sums h.asc
theorem co_fd {d E : Nat} {N : Int} : ∀ {L : List (Int × Rat)} {lo : Int}, Asc N lo L → AllN (Fd d E) L → ∀ j, Fd d E (co L j)
 | [], _, _, _, j => Fd.zero d E
 |
  (v, q) :: l, lo, h, hz, j => by
  rw [co]
  by_cases e : v = j
  ·
   rw [if_pos e, h.2.2.2.zero (by omega), Rat.add_zero]
   exact hz _ List.mem_cons_self
  ·
   rw [if_neg e, Rat.zero_add]
   exact co_fd h.2.2.2 hz.tail j
theorem Fr.row {n E : Nat} {L : List (Int × Rat)} {k : Rat} (h : Fr E L k) (ha : Asc (n : Int) 0 L) : FrR n E (rowF n L k) := by
 obtain ⟨d, h1, h2, h3, h4⟩ := h
 refine ⟨d, h1, h2, fun j _ => ?_⟩
 rw [rowF_fn ha]
 unfold fn
 split
 · exact h4
 · exact co_fd ha h3 _
theorem cin_in {n s E : Nat} {w : World} {x : Kin} (hs9 : s ≤ 10000000) (h1 : x.v.n ≤ x.v.c) (h2 : x.v.n ≤ 1000) (h3 : Rw w x.v.K x.k s) {la : List Tv} (h4 : Tms w 0 x.v.A x.v.n la) (h5 : Rds w s la x.L) (h6 : x.ok = true ↔ IsS w x.v la (n : Int)) (hn : n ≤ 1000) (hF : x.ok = true → Fr E x.L x.k) : CinIn w n (FrR n E) (cinOf x) := by
 refine ⟨⟨⟨h1, ⟨la, h4, h5.more (by omega)⟩, h3.more (by omega)⟩, h2⟩, fun hk => ?_, fun w' hb => ?_⟩
 ·
  have ha := (h6.1 hk).asc h5
  exact ⟨fun y hy => ⟨(ha.nz y hy).1, (ha.nz y hy).2.1⟩, (hF hk).row ha⟩
 · exact rIsK_c x.v (n : Int) la x.L x.k w' (.inl ⟨by omega, by omega⟩) h1 (h4.below hb) ((h5.below hb).more (by omega)) ((h3.below hb).more (by omega)) h2 x.ok (h6.trans (IsS.turn h5 h3 hb))
theorem Kns.cns {n s E : Nat} {w : World} {A : Option Addr} {m : Nat} {vs : List Kin} (h : Kns n s w A m vs) (hs9 : s ≤ 10000000) (hn : n ≤ 1000) (hF : ∀ x ∈ vs, x.ok = true → Fr E x.L x.k) : Cns w A m n (FrR n E) (vs.map cinOf) := by
 have hc : ∀ x ∈ vs.map cinOf, CinIn w n (FrR n E) x := fun x hx => by
  obtain ⟨y, hy, rfl⟩ := List.mem_map.1 hx
  obtain ⟨h1, h2, h3, la, h4, h5, h6⟩ := h.rd y hy
  exact cin_in hs9 h1 h2 h3 h4 h5 h6 hn (hF y hy)
 refine ⟨?_, fun hm => ?_, fun x hx => (hc x hx).rd, fun x hx => (hc x hx).fit, fun x hx => (hc x hx).is_⟩
 ·
  have := h.kons.len
  rw [List.length_map] at this
  rw [List.length_map, this]
 ·
  obtain ⟨b, off, e, h1, h2⟩ := h.kons.mem hm
  refine ⟨b, off, e, h1, fun i x hx => ?_⟩
  rw [List.getElem?_map] at hx
  obtain ⟨y, hy, rfl⟩ := Option.map_eq_some_iff.1 hx
  exact h2 i y.v (by rw [List.getElem?_map, hy]; rfl)
end Go.Proofs.YtgffkaconhonlaaGreat

namespace Go.Proofs.YtgffkaconhonlaaGreat
set_option maxRecDepth 20000
open Go.RowKit
def dE (n : Nat) : Nat := 4294967296 ^ (150 * (n + 1))
theorem Kns.frE {n : Nat} {w : World} {A : Option Addr} {m : Nat} {vs : List Kin} (h : Kns n 150 w A m vs) : ∀ x ∈ vs, x.ok = true → Fr (dE n) x.L x.k := h.fr (by omega) h.lens
theorem Kns.sol {n : Nat} {w : World} {A : Option Addr} {m : Nat} {vs : List Kin} (h : Kns n 150 w A m vs) (hn : n ≤ 12) (hm : m ≤ 900) : SolIn w A m n (FrR n (dE n)) (vs.map cinOf) := by
 have h1 : 2 ^ n ≤ 4096 := Nat.pow_le_pow_right (n := 2) (by omega) hn
 have h2 := Nat.mul_le_mul h1 (show 150 * (n + 1) + 1 ≤ 1951 by omega)
 have hc := h.cns (E := dE n) (by omega) (by omega) h.frE
 exact ⟨hc, by omega, hm, SolSz.fr (by omega) (Nat.one_le_pow _ _ (by omega)) (Nat.le_refl _) (by omega) hc.fit2⟩
def DConsPost (n : Nat) (vs : List Kin) (w : World) (e : Ending) (w' : World) : Prop := ∃ b : Bool, e = .returned (.bool b) ∧ (b = true ↔ ∃ x, Sat n (sums n vs) x) ∧ Below w.heap.size w w'
theorem dConsistent_c (n0 : Int) (n : Nat) (A : Option Addr) (m c : Nat) (vs : List Kin) (w : World) (hN : min (max n0 0) 64 = (n : Int)) (h : Kns n 150 w A m vs) (hn : n ≤ 12) (hm : m ≤ 900) :
  Calls Tryz.prog 18 #[.slice A m c, .int .i64 n0] w (DConsPost n vs w) := by
 have := rConsistent_c n0 n _ A m c (vs.map cinOf) w hN (h.sol hn hm)
 unfold RConsPost at this
 rw [h.rows] at this
 exact this
theorem dRank_c (n0 : Int) (n : Nat) (A : Option Addr) (m c : Nat) (vs : List Kin) (w : World) (hN : min (max n0 0) 64 = (n : Int)) (h : Kns n 150 w A m vs) (hn : n ≤ 12) (hm : m ≤ 900) :
  Calls Tryz.prog 20 #[.slice A m c, .int .i64 n0] w (RankPost n vs w) := by
 have := rRank_c n0 n _ A m c (vs.map cinOf) w hN (h.sol hn hm)
 unfold RRankPost at this
 rw [h.rows] at this
 exact this
theorem dImplies_c (n0 : Int) (n : Nat) (A : Option Addr) (m c : Nat) (vs : List Kin) (va : Cv) (L : List (Int × Rat)) (k : Rat) (okc : Bool) (w : World) (hN : min (max n0 0) 64 = (n : Int)) (h : Kns n 150 w A m vs) (hx : KinOf n 150 w ⟨va, L, k, okc⟩) (hn : n ≤ 12) (hm : m ≤ 900) :
  Calls Tryz.prog 22 #[.slice A m c, .agg #[.int .i64 va.s, .slice va.A va.n va.c, .bool va.K.s, .slice va.K.A va.K.n va.K.c, .slice va.K.B va.K.m va.K.d], .int .i64 n0] w (ImpPost n vs L k okc w) := by
 obtain ⟨h1, h2, h3, la, h4, h5, h6⟩ := hx
 have hF : okc = true → Asc (n : Int) 0 L := fun ho => (h6.1 ho).asc h5
 have := rImplies_c n0 n _ A m c (vs.map cinOf) (cinOf ⟨va, L, k, okc⟩) w hN (h.sol hn hm) (cin_in (E := dE n) (by omega) h1 h2 h3 h4 h5 h6 (by omega) (fun ho => by
  have ha := hF ho
  have hl := ha.len (by omega)
  exact (fr_init 150 k (h3.sz (by omega)) L (h5.sz (by omega))).le (Nat.pow_le_pow_right (by omega) (Nat.mul_le_mul (Nat.le_refl _) (by omega)))))
 refine this.mono fun e w' ⟨b, he, hb, hB⟩ => ⟨b, he, hb.trans ?_, hB⟩
 rw [h.rows]
 constructor
 ·
  intro g
  by_cases hs : ∃ y, Sat n (sums n vs) y
  ·
   obtain ⟨g1, g2⟩ := g hs
   have g1 : okc = true := g1
   refine .inr ⟨g1, fun y hy => ?_⟩
   have := g2 y hy
   rw [show rowF n (cinOf ⟨va, L, k, okc⟩).L (cinOf ⟨va, L, k, okc⟩).k = fn n L k from rowF_fn (hF g1)] at this
   exact this
  · exact .inl hs
 ·
  rintro (g | ⟨g1, g2⟩) hs
  · exact absurd hs g
  ·
   refine ⟨g1, fun y hy => ?_⟩
   rw [show rowF n (cinOf ⟨va, L, k, okc⟩).L (cinOf ⟨va, L, k, okc⟩).k = fn n L k from rowF_fn (hF g1)]
   exact g2 y hy
def DFixPost (n : Nat) (vs : List Kin) (v : Int) (w : World) (e : Ending) (w' : World) : Prop :=
 ∃
  (z : Rv) (b : Bool) (q : Rat), e = .returned (.tuple #[.agg #[.bool z.s, .slice z.A z.n z.c, .slice z.B z.m z.d], .bool b]) ∧ Rw w' z q 28500000000 ∧ Below w.heap.size w w' ∧
  (b = true → (∃ x, Sat n (sums n vs) x) ∧ 0 ≤ v ∧ v < (n : Int) ∧ ∀ x, Sat n (sums n vs) x → x v.toNat = q) ∧ (b = false → q = 0 ∧ ¬ ((∃ x, Sat n (sums n vs) x) ∧ 0 ≤ v ∧ v < (n : Int) ∧ ∃ t, ∀ x, Sat n (sums n vs) x → x v.toNat = t))
theorem dFixed_c (n0 v : Int) (n : Nat) (A : Option Addr) (m c : Nat) (vs : List Kin) (w : World) (hN : min (max n0 0) 64 = (n : Int)) (h : Kns n 150 w A m vs) (hn : n ≤ 12) (hm : m ≤ 900) :
  Calls Tryz.prog 14 #[.slice A m c, .int .i64 v, .int .i64 n0] w (DFixPost n vs v w) := by
 have := rFixed_c n0 v n _ A m c (vs.map cinOf) w hN (h.sol hn hm)
 unfold RFixPost at this
 rw [h.rows] at this
 exact this
end Go.Proofs.YtgffkaconhonlaaGreat
