/-
  What the document's Consistent, Rank and Implies answer.
  What the document's Fixed answers.
  Sums that come in, as the document's solve reads them.
  Sums that come in, of at most 8 variables: the document's answers about them, told by the sums' rows.
-/
import Derived.Test.YtgffkaconhonlaaGreatVGSol
import Derived.Test.YtgffkaconhonlaaGreatVStp
import Derived.Test.YtgffkaconhonlaaGreatVRIgz
namespace Go.Proofs.YtgffkaconhonlaaGreat
set_option maxRecDepth 20000
open Go.RowKit
structure SolIn (w : World) (A : Option Addr) (m n t : Nat) (vs : List Cin) : Prop where
 cns : Cns w A m n t vs
 n6 : n ≤ 60
 m9 : m ≤ 900
 bd : bdS t n ≤ 5000000000
 t9 : t ≤ 1000000000
 nt : n * (t + bdS t n + 1) ≤ 22500000000
theorem SolIn.inv {w : World} {A : Option Addr} {m n t : Nat} {vs : List Cin} (h : SolIn w A m n t vs) : Inv n (rowsOf n vs) (solTo n vs m).1 (solTo n vs m).2 := by
 have := solTo_inv n vs m
 rwa [List.take_of_length_le (Nat.le_of_eq h.cns.len)] at this
theorem Cns.below {w w' : World} {A : Option Addr} {m n t : Nat} {vs : List Cin} (h : Cns w A m n t vs) (hb : Below w.heap.size w w') : Cns w' A m n t vs :=
 ⟨h.len, fun hm => by
  obtain ⟨b, o, e, h1, hc⟩ := h.mem hm
  exact ⟨b, o, e, Nat.lt_of_lt_of_le h1 hb.size, fun i x hx => (hc i x hx).keep (hb.block b h1)⟩, fun x hx => ⟨(h.rd x hx).1.below hb, (h.rd x hx).2⟩, h.fit, fun x hx w9 h9 => h.is_ x hx w9 (hb.trans (h9.mono hb.size))⟩
theorem SolIn.below {w w' : World} {A : Option Addr} {m n t : Nat} {vs : List Cin} (h : SolIn w A m n t vs) (hb : Below w.heap.size w w') : SolIn w' A m n t vs :=
 ⟨h.cns.below hb, h.n6, h.m9, h.bd, h.t9, h.nt⟩
structure CinIn (w : World) (n t : Nat) (x : Cin) : Prop where
 rd : Cw w x.v x.L x.k 28500000000 ∧ x.v.n ≤ 1000
 fit : x.ok = true → (∀ y ∈ x.L, 0 ≤ y.1 ∧ y.1 < (n : Int)) ∧ SzR n t (rowF n x.L x.k)
 is_ : ∀ w', Below w.heap.size w w' → Calls Tryz.prog 26 #[.agg #[.int .i64 x.v.s, .slice x.v.A x.v.n x.v.c, .bool x.v.K.s, .slice x.v.K.A x.v.K.n x.v.K.c, .slice x.v.K.B x.v.K.m x.v.K.d], .int .i64 (n : Int)] w' fun e w2 => e = .returned (.bool x.ok) ∧ Below w'.heap.size w' w2
set_option maxHeartbeats 1600000 in
theorem rHold_c (n : Int) (N : Nat) (w : World) (hN : min (max n 0) 64 = (N : Int)) : Calls Tryz.prog 44 #[.int .i64 n] w fun e w' => e = .returned (.int .i64 (N : Int)) ∧ w = w' := by
 have HN := Lib.hid hN
 clear hN
 go_enter Tryz.func44, Tryz.ntmps44
 go_wp2
 go_ret
 first
  | exact ⟨by rw [← HN.out]; rfl, rfl⟩
  | exact ⟨by rw [HN.out], rfl⟩
  | exact ⟨by simp [HN.out], rfl⟩
def RConsPost (n : Nat) (vs : List Cin) (w : World) (e : Ending) (w' : World) : Prop := ∃ b : Bool, e = .returned (.bool b) ∧ (b = true ↔ ∃ x, Sat n (rowsOf n vs) x) ∧ Below w.heap.size w w'
set_option maxHeartbeats 3200000 in
theorem rConsistent_c (n0 : Int) (n t : Nat) (A : Option Addr) (m c : Nat) (vs : List Cin) (w : World) (hN : min (max n0 0) 64 = (n : Int)) (h : SolIn w A m n t vs) :
  Calls Tryz.prog 18 #[.slice A m c, .int .i64 n0] w (RConsPost n vs w) := by
 have HH := Lib.hid h
 have HN := Lib.hid hN
 clear h hN
 go_enter Tryz.func18, Tryz.ntmps18
 go_wp2_with fail
 refine (rHold_c n0 n _ HN.out).mono ?_
 rintro e w1 ⟨rfl, rfl⟩
 go_wp2_with fail
 refine (rSolve_c A m c n (n + 1) t vs _ HH.out.cns rfl HH.out.n6 HH.out.m9 HH.out.bd HH.out.t9 HH.out.nt).mono ?_
 rintro e w2 ⟨B, d, p, R, rfl, hs⟩
 have HS := Lib.hid hs
 clear hs
 go_wp2
 go_ret
 exact ⟨_, rfl, HH.out.inv.cons, HS.out.below⟩
end Go.Proofs.YtgffkaconhonlaaGreat

namespace Go.Proofs.YtgffkaconhonlaaGreat
set_option maxRecDepth 20000
open Go.RowKit
def RFixPost (n : Nat) (vs : List Cin) (v : Int) (w : World) (e : Ending) (w' : World) : Prop :=
 ∃
  (z : Rv) (b : Bool) (q : Rat), e = .returned (.tuple #[.agg #[.bool z.s, .slice z.A z.n z.c, .slice z.B z.m z.d], .bool b]) ∧ Rw w' z q 28500000000 ∧ Below w.heap.size w w' ∧
  (b = true → (∃ x, Sat n (rowsOf n vs) x) ∧ 0 ≤ v ∧ v < (n : Int) ∧ ∀ x, Sat n (rowsOf n vs) x → x v.toNat = q) ∧ (b = false → q = 0 ∧ ¬ ((∃ x, Sat n (rowsOf n vs) x) ∧ 0 ≤ v ∧ v < (n : Int) ∧ ∃ t, ∀ x, Sat n (rowsOf n vs) x → x v.toNat = t))
theorem nil_sz : Sz ((0 : Int) : Rat) 1 := by
 have := Sz.lit (x := 0) (y := 1) (s := false) (by omega) (by omega)
 rw [rn_zero (.inl rfl)] at this
 exact this
theorem RFixPost.no {n lo : Nat} {vs : List Cin} {v : Int} {w w5 : World} {z : Rv} (hz : Rt w5 lo z ((0 : Int) : Rat)) (hlo : w.heap.size < lo) (hb : Below w.heap.size w w5) (h : ¬ ((∃ x, Sat n (rowsOf n vs) x) ∧ 0 ≤ v ∧ v < (n : Int) ∧ ∃ t, ∀ x, Sat n (rowsOf n vs) x → x v.toNat = t)) :
  RFixPost n vs v w (.returned (.tuple #[.agg #[.bool z.s, .slice z.A z.n z.c, .slice z.B z.m z.d], .bool false])) (put3 w5 w.heap.size (.bool z.s) (.slice z.A z.n z.c) (.slice z.B z.m z.d)) :=
 ⟨z, false, ((0 : Int) : Rat), rfl, ((hz.put hlo _ _ _).rw nil_sz).more (by omega), hb.trans (put3_below (Nat.le_refl _) _ _ _), fun e => (by cases e), fun _ => ⟨rfl, h⟩⟩
theorem only_lead {n i : Nat} {R : List (Nat → Rat)} (hg : Good n R) {r : Nat → Rat} (hi : R[i]? = some r) : ∀ s ∈ R, lead n s = lead n r → s = r := by
 intro s hs e
 obtain ⟨j, hj, rfl⟩ := List.getElem_of_mem hs
 obtain ⟨hi', rfl⟩ := List.getElem?_eq_some_iff.1 hi
 have h1 := hg.one R[j] hs
 have hp := List.pairwise_iff_getElem.1 hg.two
 rcases Nat.lt_trichotomy i j with h | h | h
 ·
  have h2 := (hp i j hi' hj h).1
  rw [← e, h1] at h2
  exact absurd h2 (by decide)
 · subst h; rfl
 ·
  have h2 := (hp j i hj hi' h).2
  rw [← e, h1] at h2
  exact absurd h2 (by decide)
theorem fix_not {n m t i u k : Nat} {w : World} {A : Option Addr} {vs : List Cin} {R : List Rov} {r : Rov} (h : SolIn w A m n t vs) (hR : R.map (·.f) = (solTo n vs m).1) (hok : (solTo n vs m).2 = true) (hr : R[i]? = some r) (hl : lead n r.f = u) (hu : u < n) (h1 : u < k) (h2 : k < n) (h3 : r.f k ≠ 0) :
  ¬ ((∃ x, Sat n (rowsOf n vs) x) ∧ (0 : Int) ≤ (u : Int) ∧ (u : Int) < (n : Int) ∧ ∃ t, ∀ x, Sat n (rowsOf n vs) x → x (u : Int).toNat = t) := by
 rintro ⟨_, _, _, q, hq⟩
 refine h.inv.untold hok hu ?_ ⟨q, hq⟩
 rintro ⟨s, hs, hs1, hs2⟩
 have hr1 : (solTo n vs m).1[i]? = some r.f := by rw [← hR, List.getElem?_map, hr]; rfl
 have := only_lead h.inv.good hr1 s hs (by rw [hs1, hl])
 subst this
 exact h3 (hs2 k h1 h2)
theorem fix_none {n m t u : Nat} {w : World} {A : Option Addr} {vs : List Cin} {R : List Rov} (h : SolIn w A m n t vs) (hR : R.map (·.f) = (solTo n vs m).1) (hok : (solTo n vs m).2 = true) (hu : u < n) (hno : ∀ (i : Nat) (r : Rov), i < R.length → R[i]? = some r → lead n r.f ≠ u) :
  ¬ ((∃ x, Sat n (rowsOf n vs) x) ∧ (0 : Int) ≤ (u : Int) ∧ (u : Int) < (n : Int) ∧ ∃ t, ∀ x, Sat n (rowsOf n vs) x → x (u : Int).toNat = t) := by
 rintro ⟨_, _, _, q, hq⟩
 refine h.inv.untold hok hu ?_ ⟨q, hq⟩
 rintro ⟨s, hs, hs1, _⟩
 rw [← hR] at hs
 obtain ⟨r, hr, rfl⟩ := List.mem_map.1 hs
 obtain ⟨i, hi, rfl⟩ := List.getElem_of_mem hr
 exact hno i _ hi (List.getElem?_eq_getElem hi) hs1
theorem RFixPost.yes {n m t lo i u : Nat} {vs : List Cin} {w w1 w5 : World} {A : Option Addr} {R : List Rov} {r : Rov} {z : Rv} (h : SolIn w1 A m n t vs) (hR : R.map (·.f) = (solTo n vs m).1) (hok : (solTo n vs m).2 = true) (hr : R[i]? = some r) (hl : lead n r.f = u) (hu : u < n) (hz0 : ∀ k, u < k → k < n → r.f k = 0)
  (hz : Rt w5 lo z (-(r.f n))) (hlo : w.heap.size < lo) (hb : Below w.heap.size w w5) : RFixPost n vs (u : Int) w (.returned (.tuple #[.agg #[.bool z.s, .slice z.A z.n z.c, .slice z.B z.m z.d], .bool true])) (put3 w5 w.heap.size (.bool z.s) (.slice z.A z.n z.c) (.slice z.B z.m z.d)) := by
 have hm : r.f ∈ (solTo n vs m).1 := by rw [← hR]; exact List.mem_map.2 ⟨r, List.mem_of_getElem? hr, rfl⟩
 have hs := solTo_sz h.cns.fit2 m r.f hm n (Nat.le_refl _)
 have hp : bdS t (solTo n vs m).1.length ≤ bdS t n := bdS_mono h.inv.good.len
 have hbd := h.bd
 exact ⟨z, true, -(r.f n), rfl, ((hz.put hlo _ _ _).rw hs.neg).more (by omega), hb.trans (put3_below (Nat.le_refl _) _ _ _), fun _ => ⟨h.inv.cons.1 hok, by omega, by omega, fun x hx => h.inv.told hm hl hz0 x hx⟩, fun e => (by cases e)⟩
set_option maxHeartbeats 12800000 in
theorem rFixed_c (n0 v : Int) (n t : Nat) (A : Option Addr) (m c : Nat) (vs : List Cin) (w : World) (hN : min (max n0 0) 64 = (n : Int)) (h : SolIn w A m n t vs) :
  Calls Tryz.prog 14 #[.slice A m c, .int .i64 v, .int .i64 n0] w (RFixPost n vs v w) := by
 have HH := Lib.hid h
 have HN := Lib.hid hN
 have n6 : (n : Int) ≤ 60 := by have := h.n6; omega
 have nn : (0 : Int) ≤ (n : Int) := by omega
 have kz := C3.new w (.bool false) (.slice none 0 0) (.slice none 0 0)
 have hB : Below w.heap.size w (w.alloc (.cells #[.bool false, .slice none 0 0, .slice none 0 0] 26)) := (Below.refl _ _).alloc (Nat.le_refl _) _
 clear h hN
 go_enter Tryz.func14, Tryz.ntmps14
 go_wp2_with fail
 generalize w.alloc (.cells #[.bool false, .slice none 0 0, .slice none 0 0] 26) = W0 at *
 have HZ0 := Lib.hid (And.intro kz hB)
 clear kz hB
 refine (rHold_c n0 n _ HN.out).mono ?_
 rintro e w1 ⟨rfl, rfl⟩
 go_wp2_with fail
 have HH0 := Lib.hid (HH.out.below HZ0.out.2)
 refine (rSolve_c A m c n (n + 1) t vs _ HH0.out.cns rfl HH.out.n6 HH.out.m9 HH.out.bd HH.out.t9 HH.out.nt).mono ?_
 rintro e W ⟨B, d, p, R, rfl, hs⟩
 have HS := Lib.hid hs
 clear hs
 have HZW : Hid (C3 W w.heap.size (.bool false) (.slice none 0 0) (.slice none 0 0) ∧ Below w.heap.size w W) := ⟨HZ0.out.1.below HS.out.below, HZ0.out.2.trans (HS.out.below.mono HZ0.out.2.size)⟩
 clear HZ0
 have HRET : Hid (∀ (w4 w5 : World) (z : Rv), Below W.heap.size W w4 → Below w4.heap.size w4 w5 → Rt w5 w4.heap.size z ((0 : Int) : Rat) → ¬ ((∃ x, Sat n (rowsOf n vs) x) ∧ 0 ≤ v ∧ v < (n : Int) ∧ ∃ t, ∀ x, Sat n (rowsOf n vs) x → x v.toNat = t) → C3 w5 w.heap.size (.bool false) (.slice none 0 0) (.slice none 0 0) ∧ RFixPost n vs v w (.returned (.tuple #[.agg #[.bool z.s, .slice z.A z.n z.c, .slice z.B z.m z.d], .bool false])) (put3 w5 w.heap.size (.bool z.s) (.slice z.A z.n z.c) (.slice z.B z.m z.d))) := fun w4 w5 z h4 h5 hz hno => by
  have h45 : Below W.heap.size W w5 := h4.trans (h5.mono h4.size)
  exact ⟨HZW.out.1.below h45, RFixPost.no hz (HZW.out.1.below h4).lt (HZW.out.2.trans (h45.mono HZW.out.2.size)) hno⟩
 obtain ⟨ok, hok⟩ : ∃ ok, ok = (solTo n vs m).2 := ⟨_, rfl⟩
 rw [← hok]
 have HO := Lib.hid hok
 clear hok
 obtain ⟨z0, z1, z2, t0, t1, t2⟩ := HZW.out.1.facts
 cases ok with
 |
  false =>
  go_wp2_with fail
  refine (rInt_c 0 _ (by omega)).mono ?_
  rintro e w5 ⟨z, rfl, hz, hb5⟩
  have HE := Lib.hid (HRET.out _ _ _ (Below.refl _ _) hb5 hz (fun g => by
   have := HH.out.inv.cons.2 g.1
   rw [← HO.out] at this
   exact absurd this (by decide)))
  clear hz hb5 z0 z1 z2 t0 t1 t2
  obtain ⟨z0, z1, z2, t0, t1, t2⟩ := HE.out.1.facts
  go_wp2
  exact ret3t (fn := Tryz.f14) Tryz.results14 rfl rfl rfl (HE.out.1.put _ _ _) HE.out.2
 |
  true =>
  by_cases hv0 : v < 0
  ·
   go_wp2_with fail
   refine (rInt_c 0 _ (by omega)).mono ?_
   rintro e w5 ⟨z, rfl, hz, hb5⟩
   have HE := Lib.hid (HRET.out _ _ _ (Below.refl _ _) hb5 hz (fun g => by have := g.2.1; omega))
   clear hz hb5 z0 z1 z2 t0 t1 t2
   obtain ⟨z0, z1, z2, t0, t1, t2⟩ := HE.out.1.facts
   go_wp2
   exact ret3t (fn := Tryz.f14) Tryz.results14 rfl rfl rfl (HE.out.1.put _ _ _) HE.out.2
  by_cases hvn : (n : Int) ≤ v
  ·
   go_wp2_with fail
   refine (rInt_c 0 _ (by omega)).mono ?_
   rintro e w5 ⟨z, rfl, hz, hb5⟩
   have HE := Lib.hid (HRET.out _ _ _ (Below.refl _ _) hb5 hz (fun g => by have := g.2.2.1; omega))
   clear hz hb5 z0 z1 z2 t0 t1 t2
   obtain ⟨z0, z1, z2, t0, t1, t2⟩ := HE.out.1.facts
   go_wp2
   exact ret3t (fn := Tryz.f14) Tryz.results14 rfl rfl rfl (HE.out.1.put _ _ _) HE.out.2
  obtain ⟨u, rfl⟩ : ∃ u : Nat, v = (u : Int) := ⟨v.toNat, by omega⟩
  have hun : u < n := by omega
  have HUN := Lib.hid hun
  have p9 : (p : Int) ≤ 60 := by have := HS.out.le; omega
  have hd1 : decide ((u : Int) < 0) = false := by simp
  have hd2 : decide (n ≤ u) = false := by simp; omega
  have hd3 : ¬ n ≤ u := by omega
  have hd4 : ¬ (n : Int) ≤ (u : Int) := by omega
  clear z0 z1 z2 t0 t1 t2
  go_wp2
  go_loopw [10] (fun iv wr => ∃ i : Nat, i ≤ p ∧ iv = .int .i64 i ∧ Hid (MatO wr W0.heap.size B d p (n + 1) R ∧ Below W.heap.size W wr ∧ ∀ (j : Nat) (r : Rov), j < i → R[j]? = some r → lead n r.f ≠ u)) (fun iv _ => p - (intOf iv).toNat)
  case atStart => exact ⟨0, by omega, rfl, Lib.hid ⟨HS.out.mat, Below.refl _ _, fun j r hj => absurd hj (by omega)⟩⟩
  case round =>
   obtain ⟨i, hi, rfl, HI⟩ := hrel
   have i0 : (0 : Int) ≤ (i : Int) := by omega
   by_cases hlt : i < p
   ·
    have i1 : (i : Int) < (p : Int) := by omega
    obtain ⟨r, hr⟩ : ∃ r, R[i]? = some r := ⟨_, List.getElem?_eq_getElem (by rw [HI.out.1.len]; exact hlt)⟩
    obtain ⟨g, eB, hg0, hg1, hcell⟩ := HI.out.1.form (by omega)
    subst eB
    have HR := Lib.hid hr
    have HCE : Hid (∀ w', Below wr.heap.size wr w' → w'.cell? ⟨g, i, none⟩ = some (.slice r.A (n + 1 : Nat) r.c)) := fun w' h => (World.cell?_of_block (h.block g hg1)).trans (hcell i r hr)
    have HVR := Lib.hid (HI.out.1.rd r (List.mem_of_getElem? hr)).vec
    clear hr hcell
    have c0 := HCE.out _ (Below.refl _ _)
    go_wp2_with fail
    refine (rLead_c r.A (n + 1) n r.c r.l r.f 28500000000 _ HVR.out rfl (by omega) (by omega)).mono ?_
    rintro e w3 ⟨he, hb3⟩
    obtain ⟨q, hq⟩ : ∃ q, q = lead n r.f := ⟨_, rfl⟩
    rw [← hq] at he
    subst he
    have HQ := Lib.hid hq
    have HB3 := Lib.hid hb3
    have HBW3 := Lib.hid (HI.out.2.1.trans (hb3.mono HI.out.2.1.size))
    have HCE3 : Hid (∀ w', Below w3.heap.size w3 w' → w'.cell? ⟨g, i, none⟩ = some (.slice r.A (n + 1 : Nat) r.c) ∧ Vec w' r.A (n + 1) r.l r.f 28500000000) := fun w' h => ⟨HCE.out _ (HB3.out.trans (h.mono HB3.out.size)), HVR.out.below (HB3.out.trans (h.mono HB3.out.size))⟩
    clear hq hb3 c0
    by_cases hqu : q = u
    ·
     subst hqu
     go_wp2
     go_loopw [11] (fun kv wr => ∃ k : Nat, q < k ∧ k ≤ n ∧ kv = .int .i64 k ∧ Hid (Below w3.heap.size w3 wr ∧ ∀ j, q < j → j < k → r.f j = 0)) (fun kv _ => n - (intOf kv).toNat)
     case atStart => exact ⟨q + 1, by omega, by have := HUN.out; omega, by go_num, Lib.hid ⟨Below.refl _ _, fun j h1 h2 => absurd h1 (by omega)⟩⟩
     case round =>
      obtain ⟨k, hk0, hk1, rfl, HK⟩ := hrel
      have k0 : (0 : Int) ≤ (k : Int) := by omega
      have HBWQ : Hid (Below W.heap.size W wr) := HBW3.out.trans (HK.out.1.mono HBW3.out.size)
      obtain ⟨rb, ro, y, eA, hrb, hy, hyr⟩ := (HCE3.out _ HK.out.1).2.at_ (i := k) (by omega)
      have c0 := (HCE3.out _ HK.out.1).1
      rw [eA] at c0
      obtain ⟨y0, y1, y2⟩ := hy
      have HYR := Lib.hid hyr
      have k3 : (k : Int) < ((n + 1 : Nat) : Int) := by omega
      clear hyr eA
      by_cases hkn : k < n
      ·
       have k1 : (k : Int) < (n : Int) := by omega
       by_cases hz : r.f k = 0
       ·
        have HZ := Lib.hid hz
        clear hz
        go_wp2_with fail
        refine (rZero_v y (r.f k) true _ (HYR.out.more (by omega)) (by simp [HZ.out])).mono ?_
        rintro e w8 ⟨rfl, hb8⟩
        have HE : Hid (Below w3.heap.size w3 w8 ∧ ∀ j, q < j → j < k + 1 → r.f j = 0) := ⟨HK.out.1.trans (hb8.mono HK.out.1.size), fun j h1 h2 => by
         rcases Nat.lt_or_eq_of_le (Nat.le_of_lt_succ h2) with h | h
         · exact HK.out.2 j h1 h
         · rw [h]; exact HZ.out⟩
        clear c0 y0 y1 y2 hb8
        go_wp2
        go_roundw
        case rel => exact ⟨k + 1, by omega, by omega, by go_num, HE⟩
        case measure => simp [intOf]; omega
       ·
        have HZ := Lib.hid hz
        clear hz
        go_wp2_with fail
        refine (rZero_v y (r.f k) false _ (HYR.out.more (by omega)) (by simp [HZ.out])).mono ?_
        rintro e w8 ⟨rfl, hb8⟩
        have HBW8 := Lib.hid (HBWQ.out.trans (hb8.mono HBWQ.out.size))
        clear c0 y0 y1 y2 hb8
        go_wp2_with fail
        refine (rInt_c 0 _ (by omega)).mono ?_
        rintro e w5 ⟨z, rfl, hz, hb5⟩
        have HE := Lib.hid (HRET.out _ _ _ HBW8.out hb5 hz (fix_not HH.out HS.out.eq HO.out.symm HR.out HQ.out.symm HUN.out hk0 hkn HZ.out))
        clear hz hb5
        obtain ⟨z0, z1, z2, t0, t1, t2⟩ := HE.out.1.facts
        go_wp2
        exact ret3t (fn := Tryz.f14) Tryz.results14 rfl rfl rfl (HE.out.1.put _ _ _) HE.out.2
      ·
       obtain rfl : k = n := by omega
       have k1 : ¬ (k : Int) < (k : Int) := by omega
       go_wp2_with fail
       refine (rNeg_c y (r.f k) _ (HYR.out.more (by omega))).mono ?_
       rintro e w8 ⟨z, rfl, hz, hb8⟩
       have HBW8 := Lib.hid (HBWQ.out.trans (hb8.mono HBWQ.out.size))
       have HC8 := Lib.hid (HZW.out.1.below HBW8.out)
       have HE := Lib.hid (RFixPost.yes (w := w) HH.out HS.out.eq HO.out.symm HR.out HQ.out.symm HUN.out (fun j h1 h2 => HK.out.2 j h1 h2) hz (HZW.out.1.below HBWQ.out).lt (HZW.out.2.trans (HBW8.out.mono HZW.out.2.size)))
       clear c0 y0 y1 y2 hb8 hz
       obtain ⟨z0, z1, z2, t0, t1, t2⟩ := HC8.out.facts
       go_wp2
       exact ret3t (fn := Tryz.f14) Tryz.results14 rfl rfl rfl (HC8.out.put _ _ _) HE.out
    ·
     have q2 : ¬ (q : Int) = (u : Int) := by omega
     have q3 : ((q : Int) == (u : Int)) = false := by rw [beq_eq_false_iff_ne]; exact q2
     have HE : Hid (MatO w3 W0.heap.size (some ⟨g, 0, none⟩) d p (n + 1) R ∧ Below W.heap.size W w3 ∧ ∀ (j : Nat) (r : Rov), j < i + 1 → R[j]? = some r → lead n r.f ≠ u) := ⟨HI.out.1.below HB3.out, HBW3.out, fun j r1 h1 h2 => by
      by_cases e : j = i
      ·
       subst e
       have h3 := HR.out
       rw [h2] at h3
       injection h3 with h3
       subst h3
       rw [← HQ.out]; exact hqu
      · exact HI.out.2.2 j r1 (by omega) h2⟩
     go_wp2
     go_roundw
     case rel => exact ⟨i + 1, by omega, by go_num, HE⟩
     case measure => simp [intOf]; omega
   ·
    obtain rfl : i = p := by omega
    have i1 : ¬ (i : Int) < (i : Int) := by omega
    go_wp2_with fail
    refine (rInt_c 0 _ (by omega)).mono ?_
    rintro e w5 ⟨z, rfl, hz, hb5⟩
    have HE := Lib.hid (HRET.out _ _ _ HI.out.2.1 hb5 hz (fix_none HH.out HS.out.eq HO.out.symm HUN.out (by rw [HI.out.1.len]; exact HI.out.2.2)))
    clear hz hb5
    obtain ⟨z0, z1, z2, t0, t1, t2⟩ := HE.out.1.facts
    go_wp2
    exact ret3t (fn := Tryz.f14) Tryz.results14 rfl rfl rfl (HE.out.1.put _ _ _) HE.out.2
end Go.Proofs.YtgffkaconhonlaaGreat

namespace Go.Proofs.YtgffkaconhonlaaGreat
set_option maxRecDepth 20000
open Go.RowKit
theorem rowT_co {N : Int} : ∀ (L : List (Int × Rat)) (lo : Int) (f : Nat → Rat), Asc N lo L → 0 ≤ lo → (∀ i : Nat, lo ≤ (i : Int) → f i = 0) → ∀ j : Nat, (L.foldl (fun f x => upd f x.1.toNat x.2) f) j = f j + co L (j : Int)
 |
  [], _, f, _, _, _, j => by
  show f j = f j + 0
  rw [Rat.add_zero]
 |
  (v, q) :: l, lo, f, h, h0, hf, j => by
  have h1 := h.1
  have ih := rowT_co l (v + 1) (upd f v.toNat q) h.2.2.2 (by omega) (fun i hi => by
   unfold upd
   rw [if_neg (by omega)]
   exact hf i (by omega)) j
  show (l.foldl (fun f x => upd f x.1.toNat x.2) (upd f v.toNat q)) j = _
  rw [ih, co]
  unfold upd
  by_cases e : j = v.toNat
  · rw [if_pos e, if_pos (by omega), hf j (by omega), Rat.zero_add]
  · rw [if_neg e, if_neg (by omega), Rat.zero_add]
theorem rowF_fn {n : Nat} {L : List (Int × Rat)} {k : Rat} (h : Asc (n : Int) 0 L) : rowF n L k = fn n L k := by
 funext j
 unfold rowF upd fn
 by_cases e : j = n
 · rw [if_pos e, if_pos e]
 ·
  rw [if_neg e, if_neg e]
  have := rowT_co L 0 (fun _ => 0) h (Int.le_refl _) (fun _ _ => rfl) j
  rw [Rat.zero_add] at this
  exact this
def cinOf (x : Kin) : Cin := ⟨x.v, x.L, x.k, x.ok⟩
theorem rows_sums {n : Nat} {vs : List Kin} (h : ∀ x ∈ vs, x.ok = true → Asc (n : Int) 0 x.L) : rowsOf n (vs.map cinOf) = sums n vs := by
 unfold rowsOf sums
 rw [List.filter_map, List.map_map]
 refine List.map_congr_left fun x hx => ?_
 have hm := List.mem_filter.1 hx
 exact rowF_fn (h x hm.1 hm.2)
theorem co_sz {N : Int} {s : Nat} (hs : 1 ≤ s) : ∀ {L : List (Int × Rat)} {lo : Int}, Asc N lo L → (∀ y ∈ L, Sz y.2 s) → ∀ j, Sz (co L j) s
 | [], _, _, _, j => nil_sz.more hs
 |
  (v, q) :: l, lo, h, hz, j => by
  rw [co]
  by_cases e : v = j
  ·
   rw [if_pos e, h.2.2.2.zero (by omega), Rat.add_zero]
   exact hz _ List.mem_cons_self
  ·
   rw [if_neg e, Rat.zero_add]
   exact co_sz hs h.2.2.2 (fun y hy => hz y (List.mem_cons_of_mem _ hy)) j
theorem Kns.asc {n s : Nat} {w : World} {A : Option Addr} {m : Nat} {vs : List Kin} (h : Kns n s w A m vs) : ∀ x ∈ vs, x.ok = true → Asc (n : Int) 0 x.L := fun x hx hk => by
 obtain ⟨_, _, _, la, _, h5, h6⟩ := h.rd x hx
 exact (h6.1 hk).asc h5
theorem Kns.rows {n s : Nat} {w : World} {A : Option Addr} {m : Nat} {vs : List Kin} (h : Kns n s w A m vs) : rowsOf n (vs.map cinOf) = sums n vs := rows_sums h.asc
theorem cin_in {n s : Nat} {w : World} {x : Kin} (hs : 1 ≤ s) (hs9 : s ≤ 1000) (h1 : x.v.n ≤ x.v.c) (h2 : x.v.n ≤ 1000) (h3 : Rw w x.v.K x.k s) {la : List Tv} (h4 : Tms w 0 x.v.A x.v.n la) (h5 : Rds w s la x.L) (h6 : x.ok = true ↔ IsS w x.v la (n : Int)) (hn : n ≤ 1000) : CinIn w n s (cinOf x) := by
 refine ⟨⟨⟨h1, ⟨la, h4, h5.more (by omega)⟩, h3.more (by omega)⟩, h2⟩, fun hk => ?_, fun w' hb => ?_⟩
 ·
  have ha := (h6.1 hk).asc h5
  refine ⟨fun y hy => ⟨(ha.nz y hy).1, (ha.nz y hy).2.1⟩, ?_⟩
  show SzR n s (rowF n x.L x.k)
  rw [rowF_fn ha]
  intro j _
  unfold fn
  split
  · exact h3.sz (by omega)
  · exact co_sz hs ha (h5.sz (by omega)) _
 · exact rIsK_c x.v (n : Int) la x.L x.k w' (.inl ⟨by omega, by omega⟩) h1 (h4.below hb) ((h5.below hb).more (by omega)) ((h3.below hb).more (by omega)) h2 x.ok (h6.trans (IsS.turn h5 h3 hb))
theorem Kns.cns {n s : Nat} {w : World} {A : Option Addr} {m : Nat} {vs : List Kin} (h : Kns n s w A m vs) (hs : 1 ≤ s) (hs9 : s ≤ 1000) (hn : n ≤ 1000) : Cns w A m n s (vs.map cinOf) := by
 have hc : ∀ x ∈ vs.map cinOf, CinIn w n s x := fun x hx => by
  obtain ⟨y, hy, rfl⟩ := List.mem_map.1 hx
  obtain ⟨h1, h2, h3, la, h4, h5, h6⟩ := h.rd y hy
  exact cin_in hs hs9 h1 h2 h3 h4 h5 h6 hn
 refine ⟨?_, fun hm => ?_, fun x hx => (hc x hx).rd, fun x hx => (hc x hx).fit, fun x hx => (hc x hx).is_⟩
 ·
  have := h.kons.len
  rw [List.length_map] at this
  rw [List.length_map, this]
 ·
  obtain ⟨b, off, e, h1, h2⟩ := h.kons.mem hm
  refine ⟨b, off, e, h1, fun i x hx => ?_⟩
  rw [List.getElem?_map] at hx
  obtain ⟨y, hy, rfl⟩ := Option.map_eq_some_iff.1 hx
  exact h2 i y.v (by rw [List.getElem?_map, hy]; rfl)
end Go.Proofs.YtgffkaconhonlaaGreat

namespace Go.Proofs.YtgffkaconhonlaaGreat
set_option maxRecDepth 20000
open Go.RowKit
theorem bdS_8n : 8 * (150 + bdS 150 8 + 1) ≤ 22500000000 := by decide +kernel
theorem Kns.sol {n : Nat} {w : World} {A : Option Addr} {m : Nat} {vs : List Kin} (h : Kns n 150 w A m vs) (hn : n ≤ 8) (hm : m ≤ 900) : SolIn w A m n 150 (vs.map cinOf) := by
 have h1 : bdS 150 n ≤ bdS 150 8 := bdS_mono hn
 have h2 := bdS_8
 have h3 := Nat.mul_le_mul hn (show 150 + bdS 150 n + 1 ≤ 150 + bdS 150 8 + 1 by omega)
 exact ⟨h.cns (by omega) (by omega) (by omega), by omega, hm, by omega, by omega, Nat.le_trans h3 bdS_8n⟩
def DConsPost (n : Nat) (vs : List Kin) (w : World) (e : Ending) (w' : World) : Prop := ∃ b : Bool, e = .returned (.bool b) ∧ (b = true ↔ ∃ x, Sat n (sums n vs) x) ∧ Below w.heap.size w w'
theorem dConsistent_c (n0 : Int) (n : Nat) (A : Option Addr) (m c : Nat) (vs : List Kin) (w : World) (hN : min (max n0 0) 64 = (n : Int)) (h : Kns n 150 w A m vs) (hn : n ≤ 8) (hm : m ≤ 900) :
  Calls Tryz.prog 18 #[.slice A m c, .int .i64 n0] w (DConsPost n vs w) := by
 have := rConsistent_c n0 n 150 A m c (vs.map cinOf) w hN (h.sol hn hm)
 unfold RConsPost at this
 rw [h.rows] at this
 exact this
def DFixPost (n : Nat) (vs : List Kin) (v : Int) (w : World) (e : Ending) (w' : World) : Prop :=
 ∃
  (z : Rv) (b : Bool) (q : Rat), e = .returned (.tuple #[.agg #[.bool z.s, .slice z.A z.n z.c, .slice z.B z.m z.d], .bool b]) ∧ Rw w' z q 28500000000 ∧ Below w.heap.size w w' ∧
  (b = true → (∃ x, Sat n (sums n vs) x) ∧ 0 ≤ v ∧ v < (n : Int) ∧ ∀ x, Sat n (sums n vs) x → x v.toNat = q) ∧ (b = false → q = 0 ∧ ¬ ((∃ x, Sat n (sums n vs) x) ∧ 0 ≤ v ∧ v < (n : Int) ∧ ∃ t, ∀ x, Sat n (sums n vs) x → x v.toNat = t))
theorem dFixed_c (n0 v : Int) (n : Nat) (A : Option Addr) (m c : Nat) (vs : List Kin) (w : World) (hN : min (max n0 0) 64 = (n : Int)) (h : Kns n 150 w A m vs) (hn : n ≤ 8) (hm : m ≤ 900) :
  Calls Tryz.prog 14 #[.slice A m c, .int .i64 v, .int .i64 n0] w (DFixPost n vs v w) := by
 have := rFixed_c n0 v n 150 A m c (vs.map cinOf) w hN (h.sol hn hm)
 unfold RFixPost at this
 rw [h.rows] at this
 exact this
end Go.Proofs.YtgffkaconhonlaaGreat
