/-
  A row of rationals copied; a number and one more.
-/
import Derived.Test.YtgffkaconhonlaaGreatQHrB
import Derived.Test.YtgffkaconhonlaaGreatQGLead
namespace Go.Proofs.YtgffkaconhonlaaGreat
set_option maxRecDepth 20000
open Go.RowKit
theorem sz_plus1 {r : Rat} {p : Nat} (hr : Sz r p) : Sz (r + ((1 : Int) : Rat)) (p + 1) := by
 have er := rn_self r
 have hy := r.den_nz
 have hp := hr.pos
 have bx := hr.num
 have bY := hr.den
 have e1 : ((1 : Int) : Rat) = rn false 1 1 := by decide +kernel
 rw [e1]
 generalize decide (r.num < 0) = a at *
 generalize r.num.natAbs = x at *
 generalize r.den = y at *
 have hsum : Bd (x * 1 + 1 * y) (p + 1) := by
  have h1 := bx.add bY
  rw [Nat.mul_one, Nat.one_mul]
  exact h1.more (by omega)
 have hd : Bd (y * 1) (p + 1) := by rw [Nat.mul_one]; exact bY.more (by omega)
 subst er
 cases a with
 | false => exact Sz.ofRn (rn_add false hy (by omega)).symm hsum hd (by omega)
 |
  true =>
  rcases Nat.le_total (1 * y) (x * 1) with h | h
  · exact Sz.ofRn (rn_sub (by rfl) hy (by omega) h).symm (hsum.le (by omega)) hd (by omega)
  · exact Sz.ofRn (rn_sub' (by rfl) hy (by omega) h).symm (hsum.le (by omega)) hd (by omega)
theorem wpr_appends {w : World} {ops : Array Oper} {rest : List Oper} {o : Oper} {a : Act} {Q : Exit → Act → World → Prop} (hgd : o.guard = none) (s x : Operand)
  (ho : o.op = .call { callee := .builtin .append, args := #[s, x], argTypes := #[29, 29] })
  {A : Option Addr} {ad : Addr} {lo n c m c' : Nat} {l k : List Rv} (hs : a.eval s = .slice A n c) (hx : a.eval x = .slice (some ad) m c')
  (h1 : OwnR w lo A c n l) (h2 : Nums w (some ad) m k) (h0 : 0 < m) (hm : n + m ≤ 2000000) (hlo : lo ≤ w.heap.size)
  (h : ∀ g c2 w', OwnR w' lo (some ⟨g, 0, none⟩) c2 (n + m) (l ++ k) → w.grownBy w' (A.map (·.block)) → wpList Tryz.prog ops Q rest (a.put o.dst (.slice (some ⟨g, 0, none⟩) (n + m) c2)) w') :
  wpList Tryz.prog ops Q (o :: rest) a w := by
 obtain ⟨i0, hi, hsz⟩ := Option.map_eq_some_iff.1 Tryz.info26
 have hz : i0.zero = some (.agg #[.bool false, .slice none 0 0, .slice none 0 0]) := by
  have := Tryz.zero26
  rw [hi] at this
  exact this
 injection hsz with hsz1 hsz2
 have hk := h2.len
 have eb : (Value.slice A n c).ownBlock = A.map (·.block) := by cases A <;> rfl
 refine wpList_append_lies (w := w) hgd s x _ ho lo 26 i0 _ 3 56 Tryz.underlying29 hi hz hsz1 hsz2 rfl (by omega) _ n _ hs h1.own ad m c' (k.flatMap rcells) hx (by rw [flatR_len, hk]) ?_ ?_ h0 (by unfold maxLen; omega) (by omega) hlo w.heap.size rfl ?_
 ·
  intro j u hu
  have hj : j < m * 3 := by
   have h9 := (List.getElem?_eq_some_iff.1 hu).1
   rw [flatR_len, hk] at h9
   exact h9
  obtain ⟨b, off, e, _, hc⟩ := h2.mem (by omega)
  injection e with e
  subst e
  have hjm : j / 3 < k.length := by rw [hk]; omega
  have hx' : k[j / 3]? = some k[j / 3] := List.getElem?_eq_getElem hjm
  have ha := hc (j / 3) _ hx'
  have hcell : ∀ i, i < 3 → w.cell? ⟨b, off + j / 3 * 3 + i, none⟩ = (rcells k[j / 3])[i]? := by
   intro i hi3
   have : i = 0 ∨ i = 1 ∨ i = 2 := by omega
   rcases this with rfl | rfl | rfl
   · exact ha.h0
   · exact ha.h1
   · exact ha.h2
  have e1 := flatR_get k (j / 3) (j % 3) _ hx' (by omega)
  rw [show j / 3 * 3 + j % 3 = j by omega] at e1
  rw [e1] at hu
  rw [show (⟨b, off, none⟩ : Addr).add j = ⟨b, off + j, none⟩ by unfold Addr.add; split <;> simp_all]
  rw [← hu, ← hcell (j % 3) (by omega), show off + j / 3 * 3 + j % 3 = off + j by omega]
 ·
  intro u hu
  obtain ⟨t, _, ht⟩ := List.mem_flatMap.1 hu
  simp only [rcells, List.mem_cons, List.not_mem_nil, or_false] at ht
  rcases ht with rfl | rfl | rfl <;> rfl
 ·
  intro g cap w' ho' hg' _ _
  rw [eb] at hg'
  rw [← List.flatMap_append] at ho'
  exact h g cap w' ⟨by rw [List.length_append, h1.len, hk], ho'⟩ hg'
end Go.Proofs.YtgffkaconhonlaaGreat
