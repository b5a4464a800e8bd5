/-
  Sums that come in.
  Rows of sums stand in later worlds.
-/
import Derived.Test.YtjbhhccklfddaaaVHvH
import Derived.Test.YtjbhhccklfddaaaVGrD
namespace Go.Proofs.Ytjbhhccklfddaaa
set_option maxRecDepth 20000
open Go.RowKit
def RdR (w : World) (v : Rv) : Prop := v.n ≤ v.c ∧ v.m ≤ v.d ∧ ∃ a b, Row w 0 v.A v.n a ∧ Row w 0 v.B v.m b
theorem RdR.rw {w : World} {v : Rv} {p : Nat} (h : RdR w v) (hn : v.n ≤ p) (hm : v.m ≤ p) : ∃ r, Rw w v r p := by
 obtain ⟨h1, h2, a, b, ha, hb⟩ := h
 exact ⟨_, h1, h2, hn, hm, a, b, ha, hb, rfl⟩
theorem rds_ex {w : World} {p : Nat} : ∀ (l : List Tv), (∀ x ∈ l, RdR w x.r ∧ x.r.n ≤ p ∧ x.r.m ≤ p) → ∃ L, Rds w p l L
 | [], _ => ⟨[], trivial⟩
 |
  x :: l, h => by
  obtain ⟨r, hr⟩ := (h x List.mem_cons_self).1.rw (h x List.mem_cons_self).2.1 (h x List.mem_cons_self).2.2
  obtain ⟨L, hL⟩ := rds_ex l fun y hy => h y (List.mem_cons_of_mem _ hy)
  exact ⟨(x.v, r) :: L, ⟨rfl, hr⟩, hL⟩
structure Raw (w : World) (v : Cv) (l : List Tv) : Prop where
 fit : Fit w v l
 k : RdR w v.K
 t : ∀ x ∈ l, RdR w x.r
theorem RdR.below {w w' : World} {v : Rv} (h : RdR w v) (hb : Below w.heap.size w w') : RdR w' v := by
 obtain ⟨h1, h2, a, b, ha, hb'⟩ := h
 exact ⟨h1, h2, a, b, ha.below hb, hb'.below hb⟩
theorem Raw.below {w w' : World} {v : Cv} {l : List Tv} (h : Raw w v l) (hb : Below w.heap.size w w') : Raw w' v l :=
 ⟨⟨h.fit.row.below hb, h.fit.n, h.fit.kn, h.fit.km, h.fit.cap, h.fit.each⟩, h.k.below hb, fun x hx => (h.t x hx).below hb⟩
theorem Raw.gin {w : World} {v : Cv} {l : List Tv} (h : Raw w v l) (hc : cost v l ≤ 150) : Gin w (v, l) := by
 have hl := h.fit.row.len
 obtain ⟨L, hL⟩ := rds_ex (p := 150) l fun x hx => by
  obtain ⟨i, hi, e⟩ := List.getElem_of_mem hx
  have := cost_get (v := v) hl (show l[i]? = some x by rw [List.getElem?_eq_getElem hi, e])
  exact ⟨h.t x hx, by omega, by omega⟩
 obtain ⟨k, hk⟩ := h.k.rw (p := 150) (by unfold cost at hc; omega) (by unfold cost at hc; omega)
 have hn : v.n ≤ 150 := by
  have := costK_len l v.n (by omega)
  unfold cost at hc; omega
 exact ⟨h.fit.cap, show v.n ≤ 1000 by omega, h.fit.row, ⟨L, hL⟩, k, hk⟩
theorem gns_of {w : World} {A : Option Addr} {m : Nat} {ps : List (Cv × List Tv)} (hk : Kons w A m (ps.map (·.1))) (hf : ∀ x ∈ ps, Raw w x.1 x.2) (hc : costA ps m ≤ 150) : m ≤ 75 ∧ Gns w A m ps := by
 have hl : ps.length = m := by have := hk.len; rwa [List.length_map] at this
 have h2 := costA_len ps m (by omega)
 refine ⟨by omega, ⟨hk, fun x hx => ?_, by omega⟩⟩
 obtain ⟨i, hi, e⟩ := List.getElem_of_mem hx
 have := costA_get (show ps[i]? = some x by rw [List.getElem?_eq_getElem hi, e])
 rw [hl] at this
 exact (hf x hx).gin (by omega)
end Go.Proofs.Ytjbhhccklfddaaa

namespace Go.Proofs.Ytjbhhccklfddaaa
set_option maxRecDepth 20000
open Go.RowKit
theorem Gns.below {w w' : World} {A : Option Addr} {m : Nat} {ps : List (Cv × List Tv)} (h : Gns w A m ps) (hb : Below w.heap.size w w') : Gns w' A m ps :=
 ⟨h.kons.below hb, fun x hx => (h.each x hx).below hb, h.le⟩
end Go.Proofs.Ytjbhhccklfddaaa
