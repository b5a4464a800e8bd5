/-
  Sums that come in.
-/
import Derived.Test.YtgffkaconhonlaaGreatWHvG
import Derived.Test.YtgffkaconhonlaaGreatWGsJ
namespace Go.Proofs.YtgffkaconhonlaaGreat
set_option maxRecDepth 20000
open Go.RowKit
def RdR (w : World) (v : Rv) : Prop := v.n ≤ v.c ∧ v.m ≤ v.d ∧ ∃ a b, Row w 0 v.A v.n a ∧ Row w 0 v.B v.m b
theorem RdR.rw {w : World} {v : Rv} {p : Nat} (h : RdR w v) (hn : v.n ≤ p) (hm : v.m ≤ p) : ∃ r, Rw w v r p := by
 obtain ⟨h1, h2, a, b, ha, hb⟩ := h
 exact ⟨_, h1, h2, hn, hm, a, b, ha, hb, rfl⟩
theorem rds_ex {w : World} {p : Nat} : ∀ (l : List Tv), (∀ x ∈ l, RdR w x.r ∧ x.r.n ≤ p ∧ x.r.m ≤ p) → ∃ L, Rds w p l L
 | [], _ => ⟨[], trivial⟩
 |
  x :: l, h => by
  obtain ⟨r, hr⟩ := (h x List.mem_cons_self).1.rw (h x List.mem_cons_self).2.1 (h x List.mem_cons_self).2.2
  obtain ⟨L, hL⟩ := rds_ex l fun y hy => h y (List.mem_cons_of_mem _ hy)
  exact ⟨(x.v, r) :: L, ⟨rfl, hr⟩, hL⟩
structure Raw (w : World) (v : Cv) (l : List Tv) : Prop where
 fit : Fit w v l
 k : RdR w v.K
 t : ∀ x ∈ l, RdR w x.r
def KinOf (N s : Nat) (w : World) (x : Kin) : Prop := x.v.n ≤ x.v.c ∧ x.v.n ≤ 1000 ∧ Rw w x.v.K x.k s ∧ ∃ la, Tms w 0 x.v.A x.v.n la ∧ Rds w s la x.L ∧ (x.ok = true ↔ IsS w x.v la (N : Int))
theorem Raw.kin (N : Nat) {w : World} {v : Cv} {l : List Tv} (h : Raw w v l) (hc : cost v l ≤ 150) : ∃ x : Kin, x.v = v ∧ KinOf N 150 w x := by
 have hl := h.fit.row.len
 obtain ⟨L, hL⟩ := rds_ex (p := 150) l fun x hx => by
  obtain ⟨i, hi, e⟩ := List.getElem_of_mem hx
  have := cost_get (v := v) hl (show l[i]? = some x by rw [List.getElem?_eq_getElem hi, e])
  exact ⟨h.t x hx, by omega, by omega⟩
 obtain ⟨k, hk⟩ := h.k.rw (p := 150) (by unfold cost at hc; omega) (by unfold cost at hc; omega)
 have hn : v.n ≤ 150 := by
  have := costK_len l v.n (by omega)
  unfold cost at hc; omega
 classical
 exact ⟨⟨v, L, k, decide (IsS w v l (N : Int))⟩, rfl, h.fit.cap, show v.n ≤ 1000 by omega, hk, l, h.fit.row, hL, decide_eq_true_iff⟩
theorem kin_list (N : Nat) {w : World} : ∀ ps : List (Cv × List Tv), (∀ x ∈ ps, Raw w x.1 x.2 ∧ cost x.1 x.2 ≤ 150) → ∃ vs : List Kin, vs.map (·.v) = ps.map (·.1) ∧ ∀ x ∈ vs, KinOf N 150 w x
 | [], _ => ⟨[], rfl, fun x hx => (by cases hx)⟩
 |
  p :: ps, h => by
  obtain ⟨x, hx, hk⟩ := (h p List.mem_cons_self).1.kin N (h p List.mem_cons_self).2
  obtain ⟨vs, hv, hks⟩ := kin_list N ps fun y hy => h y (List.mem_cons_of_mem _ hy)
  exact ⟨x :: vs, by rw [List.map_cons, List.map_cons, hx, hv], fun y hy => by
   rcases List.mem_cons.1 hy with rfl | hy
   · exact hk
   · exact hks y hy⟩
theorem kns_of (N : Nat) {w : World} {A : Option Addr} {m : Nat} {ps : List (Cv × List Tv)} (hk : Kons w A m (ps.map (·.1))) (hf : ∀ x ∈ ps, Raw w x.1 x.2) (hc : costA ps m ≤ 150) : m ≤ 75 ∧ ∃ vs : List Kin, vs.map (·.v) = ps.map (·.1) ∧ Kns N 150 w A m vs := by
 have hl : ps.length = m := by have := hk.len; rwa [List.length_map] at this
 have h2 := costA_len ps m (by omega)
 obtain ⟨vs, hv, hks⟩ := kin_list N (w := w) ps fun x hx => by
  obtain ⟨i, hi, e⟩ := List.getElem_of_mem hx
  have := costA_get (show ps[i]? = some x by rw [List.getElem?_eq_getElem hi, e])
  rw [hl] at this
  exact ⟨hf x hx, by omega⟩
 exact ⟨by omega, vs, hv, ⟨by rw [hv]; exact hk, hks⟩⟩
theorem room150 {N : Nat} (h : N ≤ 12) : Room 150 N := by
 refine ⟨by omega, by omega, by omega, ?_⟩
 have h1 : 2 ^ N ≤ 2 ^ 12 := Nat.pow_le_pow_right (by omega) h
 have h2 : 150 * (N + 1) + 1 ≤ 1951 := by omega
 have := Nat.mul_le_mul h2 h1
 omega
theorem fix_same {N : Nat} {us vs : List Kin} {v : Int} {b b' : Bool} {q q' : Rat} (hm : ∀ f, f ∈ sums N us ↔ f ∈ sums N vs)
  (h1 : b = true → (∃ x, Sat N (sums N vs) x) ∧ 0 ≤ v ∧ v < (N : Int) ∧ ∀ x, Sat N (sums N vs) x → x v.toNat = q) (h2 : b = false → q = 0 ∧ ¬ ((∃ x, Sat N (sums N vs) x) ∧ 0 ≤ v ∧ v < (N : Int) ∧ ∃ t, ∀ x, Sat N (sums N vs) x → x v.toNat = t))
  (g1 : b' = true → (∃ x, Sat N (sums N us) x) ∧ 0 ≤ v ∧ v < (N : Int) ∧ ∀ x, Sat N (sums N us) x → x v.toNat = q') (g2 : b' = false → q' = 0 ∧ ¬ ((∃ x, Sat N (sums N us) x) ∧ 0 ≤ v ∧ v < (N : Int) ∧ ∃ t, ∀ x, Sat N (sums N us) x → x v.toNat = t)) : b = b' ∧ q = q' := by
 have hs : ∀ x, Sat N (sums N us) x ↔ Sat N (sums N vs) x := fun x => ⟨fun g f hf => g f ((hm f).2 hf), fun g f hf => g f ((hm f).1 hf)⟩
 cases b with
 |
  true =>
  obtain ⟨⟨x, hx⟩, v0, vN, hq⟩ := h1 rfl
  cases b' with
  | true => exact ⟨rfl, (hq x hx).symm.trans ((g1 rfl).2.2.2 x ((hs x).2 hx))⟩
  | false => exact absurd ⟨⟨x, (hs x).2 hx⟩, v0, vN, q, fun y hy => hq y ((hs y).1 hy)⟩ (g2 rfl).2
 |
  false =>
  cases b' with
  |
   true =>
   obtain ⟨⟨x, hx⟩, v0, vN, hq⟩ := g1 rfl
   exact absurd ⟨⟨x, (hs x).1 hx⟩, v0, vN, q', fun y hy => hq y ((hs y).2 hy)⟩ (h2 rfl).2
  | false => exact ⟨rfl, (h2 rfl).1.trans (g2 rfl).1.symm⟩
end Go.Proofs.YtgffkaconhonlaaGreat
