/-
  Rows of rationals that a call makes: what they hold, what they read as, append.
  The document's less: a row less so often another one.
  The document's lead: the first place of a row that is not 0.
-/
import Derived.Test.YtgffkaconhonlaaGreatWMAa
import Derived.Test.YtgffkaconhonlaaGreatWPick
import Derived.Laws.AppendOwn
import Derived.Deep.AppendLies
import Derived.Test.YtgffkaconhonlaaGreatWMRr
import Derived.Test.YtgffkaconhonlaaGreatWMRh
import Derived.Test.YtgffkaconhonlaaGreatWRgn
import Derived.Test.YtgffkaconhonlaaGreatWEch
namespace Go.Proofs.YtgffkaconhonlaaGreat
set_option maxRecDepth 20000
open Go.RowKit
def rcells (r : Rv) : List Value := [.bool r.s, .slice r.A r.n r.c, .slice r.B r.m r.d]
theorem Tryz.info26 : (Tryz.prog.info? 26).map (fun i => (i.size, i.bytes)) = some (3, 56) := by kernel_rfl
theorem Tryz.zero26 : (Tryz.prog.info? 26).bind (·.zero) = some (.agg #[.bool false, .slice none 0 0, .slice none 0 0]) := by kernel_rfl
structure OwnR (w : World) (lo : Nat) (A : Option Addr) (c n : Nat) (l : List Rv) : Prop where
 len : l.length = n
 own : w.ownsRow lo 26 3 (.slice A n c) n (l.flatMap rcells)
theorem flatR_get : ∀ (l : List Rv) (i j : Nat) (x : Rv), l[i]? = some x → j < 3 → (l.flatMap rcells)[i * 3 + j]? = (rcells x)[j]?
 | [], _, _, _, h, _ => by simp at h
 |
  y :: l, 0, j, x, h, hj => by
  simp at h
  subst h
  rw [List.flatMap_cons, Nat.zero_mul, Nat.zero_add, List.getElem?_append_left (by show j < 3; exact hj)]
 |
  y :: l, i + 1, j, x, h, hj => by
  rw [List.flatMap_cons, List.getElem?_append_right (by show 3 ≤ _; omega)]
  rw [show (i + 1) * 3 + j - (rcells y).length = i * 3 + j by show _ - 3 = _; omega]
  exact flatR_get l i j x (by simpa using h) hj
theorem OwnR.mem {w : World} {lo c n : Nat} {A : Option Addr} {l : List Rv} (h : OwnR w lo A c n l) (hn : 0 < n) : ∃ b, A = some ⟨b, 0, none⟩ ∧ lo ≤ b ∧ b < w.heap.size ∧ ∀ i x, l[i]? = some x → At3 w b (0 + i * 3) x := by
 rcases h.own.2 with ⟨hv, h0⟩ | ⟨g, cap, cur, hv, hb, hh, hc, hm, hs, ht⟩
 · omega
 ·
  injection hv with hA _ _
  refine ⟨g, hA, hb, ?_, fun i x hx => ?_⟩
  ·
   rcases Nat.lt_or_ge g w.heap.size with h1 | h1
   · exact h1
   ·
    have : w.heap[g]? = none := Array.getElem?_eq_none h1
    rw [this] at hh; cases hh
  ·
   have hi : i < n := by rw [← h.len]; exact (List.getElem?_eq_some_iff.1 hx).1
   have hg : ∀ j, j < 3 → w.cell? ⟨g, i * 3 + j, none⟩ = (rcells x)[j]? := fun j hj => by
    have e1 : w.cell? ⟨g, i * 3 + j, none⟩ = cur[i * 3 + j]? := by simp [World.cell?, hh]
    rw [e1, ← flatR_get l i j x hx hj, ← ht, List.getElem?_take, if_pos (by omega), Array.getElem?_toList]
   rw [Nat.zero_add]
   exact ⟨hg 0 (by omega), hg 1 (by omega), hg 2 (by omega)⟩
theorem OwnR.nums {w : World} {lo c n : Nat} {A : Option Addr} {l : List Rv} (h : OwnR w lo A c n l) : Nums w A n l := by
 refine ⟨h.len, fun hn => ?_⟩
 obtain ⟨b, e, _, h1, hc⟩ := h.mem hn
 exact ⟨b, 0, e, h1, hc⟩
theorem OwnR.nil_ (w : World) (lo : Nat) : OwnR w lo none 0 0 [] := ⟨rfl, World.ownsRow_nil w lo _ 3⟩
theorem OwnR.grown {w w' : World} {lo c n : Nat} {A : Option Addr} {l : List Rv} (h : OwnR w lo A c n l) {row : Option Nat} (hg : w.grownBy w' row) (hne : ∀ ad, A = some ad → some ad.block ≠ row) : OwnR w' lo A c n l := by
 refine ⟨h.len, h.own.kept hg ?_⟩
 cases A with
 | none => left; rfl
 | some ad => right; exact hne ad rfl
theorem OwnR.below {w w' : World} {lo c n : Nat} {A : Option Addr} {l : List Rv} (h : OwnR w lo A c n l) (hb : Below w.heap.size w w') : OwnR w' lo A c n l := h.grown (grown_of_below hb) (fun _ _ => by simp)
theorem OwnR.lower {w : World} {lo lo' c n : Nat} {A : Option Addr} {l : List Rv} (h : OwnR w lo A c n l) (hl : lo' ≤ lo) : OwnR w lo' A c n l := by
 refine ⟨h.len, h.own.1, ?_⟩
 rcases h.own.2 with hn | ⟨g, cap, cur, hv, hb, rest⟩
 · exact .inl hn
 · exact .inr ⟨g, cap, cur, hv, by omega, rest⟩
theorem OwnR.lt {w : World} {lo n c : Nat} {A : Option Addr} {l : List Rv} (h : OwnR w lo A c n l) : ∀ ad, A = some ad → lo ≤ ad.block ∧ ad.block < w.heap.size := by
 intro ad e
 subst e
 exact h.own.lt ad.block rfl
def RwO (w : World) (A : Option Addr) (v : Rv) (r : Rat) (p : Nat) : Prop := Rw w v r p ∧ ∀ g, A.map (·.block) = some g → (∀ a, 0 < v.n → v.A = some a → a.block ≠ g) ∧ (∀ a, 0 < v.m → v.B = some a → a.block ≠ g)
theorem Row.grownN {w w' : World} {lo n : Nat} {R : Option Addr} {l : List Nat} {row : Option Nat} (h : Row w lo R n l) (hg : w.grownBy w' row) (hr : 0 < n → ∀ a, R = some a → some a.block ≠ row) : Row w' lo R n l := by
 refine ⟨h.len, h.l32, fun hn => ?_⟩
 obtain ⟨b, off, e, h0, h1, hc⟩ := h.mem hn
 exact ⟨b, off, e, h0, Nat.lt_of_lt_of_le h1 hg.size, fun j hj => (World.cell?_of_block (hg.block b h1 (hr hn _ e))).trans (hc j hj)⟩
theorem RwO.grown {w w' : World} {A : Option Addr} {v : Rv} {r : Rat} {p : Nat} (h : RwO w A v r p) (hg : w.grownBy w' (A.map (·.block))) : RwO w' A v r p := by
 obtain ⟨⟨h1, h2, h3, h4, a, b, ha, hb, hr⟩, ho⟩ := h
 exact ⟨⟨h1, h2, h3, h4, a, b, ha.grownN hg (fun hn ad e e2 => (ho _ e2.symm).1 ad hn e rfl), hb.grownN hg (fun hn ad e e2 => (ho _ e2.symm).2 ad hn e rfl), hr⟩, ho⟩
theorem RwO.below {w w' : World} {A : Option Addr} {v : Rv} {r : Rat} {p : Nat} (h : RwO w A v r p) (hb : Below w.heap.size w w') : RwO w' A v r p := ⟨h.1.below hb, h.2⟩
theorem Rw.new {w : World} {v : Rv} {r : Rat} {p H : Nat} {A : Option Addr} (h : Rw w v r p) (hH : w.heap.size ≤ H) (hA : A.map (·.block) = some H) : RwO w A v r p := by
 refine ⟨h, fun g hg => ?_⟩
 rw [hA] at hg
 injection hg with hg
 obtain ⟨_, _, _, _, a, b, ha, hb, _⟩ := h
 refine ⟨fun ad hn e e2 => ?_, fun ad hn e e2 => ?_⟩
 ·
  obtain ⟨b0, off, e3, _, h1, _⟩ := ha.mem hn
  rw [e3] at e; injection e with e; subst e
  have : b0 = g := e2
  omega
 ·
  obtain ⟨b0, off, e3, _, h1, _⟩ := hb.mem hn
  rw [e3] at e; injection e with e; subst e
  have : b0 = g := e2
  omega
theorem Rt.off {w : World} {lo p : Nat} {v : Rv} {r : Rat} {A : Option Addr} (h : Rt w lo v r) (hz : Sz r p) (hA : ∀ ad, A = some ad → ad.block < lo) : RwO w A v r p := by
 refine ⟨h.rw hz, fun g hg => ?_⟩
 cases A with
 | none => cases hg
 |
  some a0 =>
  have h9 := hA a0 rfl
  injection hg with hg
  have hg2 : a0.block = g := hg
  refine ⟨fun ad hn e e2 => ?_, fun ad hn e e2 => ?_⟩
  ·
   obtain ⟨b0, off, e3, h0, h1, _⟩ := h.num.mem hn
   rw [e3] at e; injection e with e; subst e
   have : b0 = g := e2
   omega
  ·
   obtain ⟨b0, off, e3, h0, h1, _⟩ := h.den.mem hn
   rw [e3] at e; injection e with e; subst e
   have : b0 = g := e2
   omega
structure GrR (w : World) (lo : Nat) (A : Option Addr) (c n : Nat) (l : List Rv) (f : Nat → Rat) (p : Nat) : Prop where
 own : OwnR w lo A c n l
 rd : ∀ i x, l[i]? = some x → RwO w A x (f i) p
theorem GrR.below {w w' : World} {lo c n p : Nat} {A : Option Addr} {l : List Rv} {f : Nat → Rat} (h : GrR w lo A c n l f p) (hb : Below w.heap.size w w') : GrR w' lo A c n l f p := ⟨h.own.below hb, fun i x hx => (h.rd i x hx).below hb⟩
theorem GrR.nil_ (w : World) (lo : Nat) (f : Nat → Rat) (p : Nat) : GrR w lo none 0 0 [] f p := ⟨OwnR.nil_ w lo, fun i x hx => by simp at hx⟩
theorem GrR.lower {w : World} {lo lo' c n p : Nat} {A : Option Addr} {l : List Rv} {f : Nat → Rat} (h : GrR w lo A c n l f p) (hl : lo' ≤ lo) : GrR w lo' A c n l f p := ⟨h.own.lower hl, h.rd⟩
theorem wpr_append {w : World} {ops : Array Oper} {rest : List Oper} {o : Oper} {a : Act} {Q : Exit → Act → World → Prop} (hgd : o.guard = none) (s x : Operand)
  (ho : o.op = .call { callee := .builtin .append, args := #[s, x], argTypes := #[29, 29] })
  {A : Option Addr} {b lo n c c' p : Nat} {l : List Rv} {f : Nat → Rat} {t : Rv} (hs : a.eval s = .slice A n c) (hx : a.eval x = .slice (some ⟨b, 0, none⟩) 1 c')
  (h1 : GrR w lo A c n l f p) (h2 : At3 w b 0 t) (hq : RwO w A t (f n) p) (hm : n + 1 ≤ 2000000) (hlo : lo ≤ w.heap.size)
  (h : ∀ A2 c2 w', GrR w' lo A2 c2 (n + 1) (l ++ [t]) f p → w.grownBy w' (A.map (·.block)) → (A2.map (·.block) = A.map (·.block) ∨ A2.map (·.block) = some w.heap.size) → wpList Tryz.prog ops Q rest (a.put o.dst (.slice A2 (n + 1) c2)) w') :
  wpList Tryz.prog ops Q (o :: rest) a w := by
 obtain ⟨i0, hi, hsz⟩ := Option.map_eq_some_iff.1 Tryz.info26
 have hz : i0.zero = some (.agg #[.bool false, .slice none 0 0, .slice none 0 0]) := by
  have := Tryz.zero26
  rw [hi] at this
  exact this
 injection hsz with hsz1 hsz2
 have eb : (Value.slice A n c).ownBlock = A.map (·.block) := by cases A <;> rfl
 refine wpList_append_lies (w := w) hgd s x _ ho lo 26 i0 _ 3 56 Tryz.underlying29 hi hz hsz1 hsz2 rfl (by omega) _ n _ hs h1.own.own ⟨b, 0, none⟩ 1 c' (rcells t) hx rfl ?_ ?_ (by omega) (by unfold maxLen; omega) (by omega) hlo w.heap.size rfl ?_
 ·
  intro j u hu
  have hj : j < 3 := (List.getElem?_eq_some_iff.1 hu).1
  have : j = 0 ∨ j = 1 ∨ j = 2 := by omega
  rcases this with rfl | rfl | rfl
  · injection hu with hu; subst hu; exact h2.h0
  · injection hu with hu; subst hu; exact h2.h1
  · injection hu with hu; subst hu; exact h2.h2
 ·
  intro u hu
  simp only [rcells, List.mem_cons, List.not_mem_nil, or_false] at hu
  rcases hu with rfl | rfl | rfl <;> rfl
 ·
  intro g cap w' ho' hg' hwhere _
  rw [eb] at hg' hwhere
  have e : l.flatMap rcells ++ rcells t = (l ++ [t]).flatMap rcells := by rw [List.flatMap_append, List.flatMap_singleton]
  rw [e] at ho'
  have hw2 : (some (⟨g, 0, none⟩ : Addr)).map (·.block) = A.map (·.block) ∨ (some (⟨g, 0, none⟩ : Addr)).map (·.block) = some w.heap.size := by
   rcases hwhere with h | h
   · exact .inl h.symm
   · exact .inr (by rw [h]; rfl)
  have hmove : ∀ (v : Rv) (r : Rat), RwO w A v r p → RwO w' (some ⟨g, 0, none⟩) v r p := fun v r hv => by
   have h3 := hv.grown hg'
   rcases hw2 with h4 | h4
   · exact ⟨h3.1, fun q hq => hv.2 q (h4 ▸ hq)⟩
   · exact ⟨h3.1, (hv.1.new (Nat.le_refl _) h4).2⟩
  refine h _ _ w' ⟨⟨by rw [List.length_append, h1.own.len]; rfl, ho'⟩, fun i x hx => ?_⟩ hg' hw2
  by_cases hi2 : i < l.length
  ·
   rw [List.getElem?_append_left hi2] at hx
   exact hmove _ _ (h1.rd i x hx)
  ·
   have hj2 : i < l.length + 1 := by have := (List.getElem?_eq_some_iff.1 hx).1; simpa using this
   have e3 : i = n := by rw [← h1.own.len]; omega
   rw [List.getElem?_append_right (by omega), show i - l.length = 0 by omega] at hx
   simp at hx
   subst hx
   rw [e3]
   exact hmove _ _ hq
theorem spr_append {w : World} {ops : Array Oper} {o : Oper} {a : Act} {K : Act → World → Prop} {Q : Exit → Act → World → Prop} {E : Prop} (hgd : o.guard = none) (s x : Operand)
  (ho : o.op = .call { callee := .builtin .append, args := #[s, x], argTypes := #[29, 29] })
  {A : Option Addr} {b lo n c c' p : Nat} {l : List Rv} {f : Nat → Rat} {t : Rv} (hs : a.eval s = .slice A n c) (hx : a.eval x = .slice (some ⟨b, 0, none⟩) 1 c')
  (h1 : GrR w lo A c n l f p) (h2 : At3 w b 0 t) (hq : RwO w A t (f n) p) (hm : n + 1 ≤ 2000000) (hlo : lo ≤ w.heap.size)
  (h : ∀ A2 c2 w', GrR w' lo A2 c2 (n + 1) (l ++ [t]) f p → w.grownBy w' (A.map (·.block)) → (A2.map (·.block) = A.map (·.block) ∨ A2.map (·.block) = some w.heap.size) → K (a.put o.dst (.slice A2 (n + 1) c2)) w') :
  if Region.wanted o (yielded ops a.tmps) = true then Oper.wp Tryz.prog o a w K Q else E := by
 obtain ⟨i0, hi, hsz⟩ := Option.map_eq_some_iff.1 Tryz.info26
 have hz : i0.zero = some (.agg #[.bool false, .slice none 0 0, .slice none 0 0]) := by
  have := Tryz.zero26
  rw [hi] at this
  exact this
 injection hsz with hsz1 hsz2
 have eb : (Value.slice A n c).ownBlock = A.map (·.block) := by cases A <;> rfl
 refine step_append_lies (w := w) hgd s x _ ho lo 26 i0 _ 3 56 Tryz.underlying29 hi hz hsz1 hsz2 rfl (by omega) _ n _ hs h1.own.own ⟨b, 0, none⟩ 1 c' (rcells t) hx rfl ?_ ?_ (by omega) (by unfold maxLen; omega) (by omega) hlo w.heap.size rfl ?_
 ·
  intro j u hu
  have hj : j < 3 := (List.getElem?_eq_some_iff.1 hu).1
  have : j = 0 ∨ j = 1 ∨ j = 2 := by omega
  rcases this with rfl | rfl | rfl
  · injection hu with hu; subst hu; exact h2.h0
  · injection hu with hu; subst hu; exact h2.h1
  · injection hu with hu; subst hu; exact h2.h2
 ·
  intro u hu
  simp only [rcells, List.mem_cons, List.not_mem_nil, or_false] at hu
  rcases hu with rfl | rfl | rfl <;> rfl
 ·
  intro g cap w' ho' hg' hwhere _
  rw [eb] at hg' hwhere
  have e : l.flatMap rcells ++ rcells t = (l ++ [t]).flatMap rcells := by rw [List.flatMap_append, List.flatMap_singleton]
  rw [e] at ho'
  have hw2 : (some (⟨g, 0, none⟩ : Addr)).map (·.block) = A.map (·.block) ∨ (some (⟨g, 0, none⟩ : Addr)).map (·.block) = some w.heap.size := by
   rcases hwhere with h | h
   · exact .inl h.symm
   · exact .inr (by rw [h]; rfl)
  have hmove : ∀ (v : Rv) (r : Rat), RwO w A v r p → RwO w' (some ⟨g, 0, none⟩) v r p := fun v r hv => by
   have h3 := hv.grown hg'
   rcases hw2 with h4 | h4
   · exact ⟨h3.1, fun q hq => hv.2 q (h4 ▸ hq)⟩
   · exact ⟨h3.1, (hv.1.new (Nat.le_refl _) h4).2⟩
  refine h _ _ w' ⟨⟨by rw [List.length_append, h1.own.len]; rfl, ho'⟩, fun i x hx => ?_⟩ hg' hw2
  by_cases hi2 : i < l.length
  ·
   rw [List.getElem?_append_left hi2] at hx
   exact hmove _ _ (h1.rd i x hx)
  ·
   have hj2 : i < l.length + 1 := by have := (List.getElem?_eq_some_iff.1 hx).1; simpa using this
   have e3 : i = n := by rw [← h1.own.len]; omega
   rw [List.getElem?_append_right (by omega), show i - l.length = 0 by omega] at hx
   simp at hx
   subst hx
   rw [e3]
   exact hmove _ _ hq
end Go.Proofs.YtgffkaconhonlaaGreat

namespace Go.Proofs.YtgffkaconhonlaaGreat
set_option maxRecDepth 20000
open Go.RowKit
theorem drew_bel (w : World) : Below w.heap.size w w.drew := (Below.refl _ _).drew
theorem less_lo0 {W wr w4 : World} (h : Below W.heap.size W wr) (hb : Below wr.heap.size wr w4) : W.heap.size ≤ w4.heap.size := Nat.le_trans h.size hb.size
theorem less_lo {W wr w4 : World} {z : Rv} (h : Below W.heap.size W wr) (hb : Below wr.heap.size wr w4) : W.heap.size ≤ (w4.alloc (.cells #[.bool z.s, .slice z.A z.n z.c, .slice z.B z.m z.d] 26)).heap.size := by
 have h1 := h.size
 have h2 := hb.size
 simp; omega
theorem less_put {wr w4 : World} {lo lo4 c n P : Nat} {R : Option Addr} {l : List Rv} {f : Nat → Rat} {z : Rv} (h : GrR wr lo R c n l f P) (hb : Below wr.heap.size wr w4) (hz : Rt w4 lo4 z (f n)) (h4 : wr.heap.size ≤ lo4) (hs : Sz (f n) P) :
  GrR (w4.alloc (.cells #[.bool z.s, .slice z.A z.n z.c, .slice z.B z.m z.d] 26)) lo R c n l f P ∧ At3 (w4.alloc (.cells #[.bool z.s, .slice z.A z.n z.c, .slice z.B z.m z.d] 26)) w4.heap.size 0 z ∧ RwO (w4.alloc (.cells #[.bool z.s, .slice z.A z.n z.c, .slice z.B z.m z.d] 26)) R z (f n) P := by
 have hba : Below w4.heap.size w4 (w4.alloc (.cells #[.bool z.s, .slice z.A z.n z.c, .slice z.B z.m z.d] 26)) := (Below.refl _ _).alloc (Nat.le_refl _) _
 refine ⟨(h.below hb).below hba, ?_, (hz.off hs (fun ad e => ?_)).below hba⟩
 ·
  obtain ⟨q0, q1, q2, _, _, _⟩ := (C3.new w4 (.bool z.s) (.slice z.A z.n z.c) (.slice z.B z.m z.d)).facts
  exact ⟨q0, q1, q2⟩
 ·
  have := (h.own.lt ad e).2
  omega
def Fresh (lo : Nat) (l : List Rv) : Prop := ∀ y ∈ l, (0 < y.n → ∀ a, y.A = some a → lo ≤ a.block) ∧ (0 < y.m → ∀ a, y.B = some a → lo ≤ a.block)
theorem Fresh.nil_ (lo : Nat) : Fresh lo [] := fun y hy => by cases hy
theorem Fresh.lower {lo lo' : Nat} {l : List Rv} (h : Fresh lo l) (hl : lo' ≤ lo) : Fresh lo' l := fun y hy => ⟨fun hn a e => Nat.le_trans hl ((h y hy).1 hn a e), fun hn a e => Nat.le_trans hl ((h y hy).2 hn a e)⟩
theorem Rt.fresh1 {w : World} {lo : Nat} {v : Rv} {r : Rat} (h : Rt w lo v r) : (0 < v.n → ∀ a, v.A = some a → lo ≤ a.block) ∧ (0 < v.m → ∀ a, v.B = some a → lo ≤ a.block) := by
 refine ⟨fun hn a e => ?_, fun hn a e => ?_⟩
 ·
  obtain ⟨b0, off, e3, h0, h1, _⟩ := h.num.mem hn
  rw [e3] at e; injection e with e; subst e; exact h0
 ·
  obtain ⟨b0, off, e3, h0, h1, _⟩ := h.den.mem hn
  rw [e3] at e; injection e with e; subst e; exact h0
theorem Fresh.snoc {lo lo4 : Nat} {w : World} {l : List Rv} {z : Rv} {r : Rat} (h : Fresh lo l) (hz : Rt w lo4 z r) (hl : lo ≤ lo4) : Fresh lo (l ++ [z]) := fun y hy => by
 rcases List.mem_append.1 hy with hy | hy
 · exact h y hy
 ·
  rw [List.mem_singleton.1 hy]
  exact ⟨fun hn a e => Nat.le_trans hl (hz.fresh1.1 hn a e), fun hn a e => Nat.le_trans hl (hz.fresh1.2 hn a e)⟩
set_option maxHeartbeats 6400000 in
theorem rLess_c (Aa Ab : Option Addr) (n ca cb : Nat) (la lb : List Rv) (fa fb : Nat → Rat) (u : Rv) (r : Rat) (P : Nat) (w : World) (ha : Nums w Aa n la) (hb : Nums w Ab n lb)
  (hra : ∀ i x, la[i]? = some x → Rw w x (fa i) 28500000000) (hrb : ∀ i x, lb[i]? = some x → Rw w x (fb i) 28500000000) (hu : Rw w u r 28500000000) (hn : n ≤ 1000) (hsz : ∀ i, i < n → Sz (r * fb i) 28500000000 ∧ Sz (fa i - r * fb i) P) :
  Calls Tryz.prog 84 #[.slice Aa n ca, .slice Ab n cb, .agg #[.bool u.s, .slice u.A u.n u.c, .slice u.B u.m u.d]] w fun e w' => ∃ (R : Option Addr) (c : Nat) (l : List Rv), e = .returned (.slice R n c) ∧ (GrR w' w.heap.size R c n l (fun i => fa i - r * fb i) P ∧ Fresh w.heap.size l) ∧ Below w.heap.size w w' := by
 have n0 : (0 : Int) ≤ (n : Int) := by omega
 have n9 : (n : Int) ≤ 1000 := by omega
 have ku := C3.new w (.bool u.s) (.slice u.A u.n u.c) (.slice u.B u.m u.d)
 have hB : Below w.heap.size w (w.alloc (.cells #[.bool u.s, .slice u.A u.n u.c, .slice u.B u.m u.d] 26)) := (Below.refl _ _).alloc (Nat.le_refl _) _
 have hs : (w.alloc (.cells #[.bool u.s, .slice u.A u.n u.c, .slice u.B u.m u.d] 26)).heap.size = w.heap.size + 1 := by simp
 have HA := Lib.hid (And.intro ha hra)
 have HBB := Lib.hid (And.intro hb hrb)
 have HU := Lib.hid hu
 have HSS := Lib.hid hsz
 clear ha hra hb hrb hu hsz
 go_enter Tryz.func84, Tryz.ntmps84
 go_wp2_with fail
 generalize w.alloc (.cells #[.bool u.s, .slice u.A u.n u.c, .slice u.B u.m u.d] 26) = W at *
 have HKU := Lib.hid ku
 have HWW := Lib.hid (And.intro hB hs)
 clear ku hB
 try go_wp2
 go_loopw [7, 8] (fun lv iv wr => ∃ (i : Nat) (R : Option Addr) (e : Nat) (l : List Rv), i ≤ n ∧ lv = .slice R i e ∧ iv = .int .i64 i ∧ Hid (GrR wr W.heap.size R e i l (fun i => fa i - r * fb i) P ∧ Below W.heap.size W wr ∧ Fresh W.heap.size l)) (fun _ iv _ => n - (intOf iv).toNat)
 case atStart => exact ⟨0, none, 0, [], by omega, rfl, rfl, Lib.hid ⟨GrR.nil_ _ _ _ _, Below.refl _ _, Fresh.nil_ _⟩⟩
 case round =>
  obtain ⟨i, R, e, l, hi, rfl, rfl, HIN⟩ := hrel
  have i0 : (0 : Int) ≤ (i : Int) := by omega
  by_cases hlt : i < n
  ·
   have i1 : (i : Int) < (n : Int) := by omega
   obtain ⟨ba, oa, hAa, hba, hca⟩ := HA.out.1.mem (by omega)
   obtain ⟨bb, ob, hAb, hbb, hcb⟩ := HBB.out.1.mem (by omega)
   subst hAa
   subst hAb
   obtain ⟨x, hx⟩ : ∃ x, la[i]? = some x := ⟨_, List.getElem?_eq_getElem (by rw [HA.out.1.len]; exact hlt)⟩
   obtain ⟨y, hy⟩ : ∃ y, lb[i]? = some y := ⟨_, List.getElem?_eq_getElem (by rw [HBB.out.1.len]; exact hlt)⟩
   have HALL : Hid (∀ w', Below W.heap.size W w' → At3 w' ba (oa + i * 3) x ∧ At3 w' bb (ob + i * 3) y ∧ C3 w' w.heap.size (.bool u.s) (.slice u.A u.n u.c) (.slice u.B u.m u.d)) := fun w' h => by
    have h1 := HWW.out.1.trans (h.mono HWW.out.1.size)
    exact ⟨(hca i x hx).keep (h1.block ba hba), (hcb i y hy).keep (h1.block bb hbb), HKU.out.below h⟩
   have HRD : Hid ((∀ w', Below wr.heap.size wr w' → Rw w' x (fa i) 28500000000) ∧ (∀ w', Below wr.heap.size wr w' → Rw w' y (fb i) 28500000000) ∧ (∀ w', Below wr.heap.size wr w' → Rw w' u r 28500000000)) := by
    have h1 := HWW.out.1.trans (HIN.out.2.1.mono HWW.out.1.size)
    exact ⟨fun w' h => (HA.out.2 i x hx).below (h1.trans (h.mono h1.size)), fun w' h => (HBB.out.2 i y hy).below (h1.trans (h.mono h1.size)), fun w' h => HU.out.below (h1.trans (h.mono h1.size))⟩
   have HSZ := Lib.hid (HSS.out i hlt)
   have HN : Hid (i + 1 ≤ 2000000) := by show _ ≤ _; omega
   clear hca hcb hx hy
   obtain ⟨x0, x1, x2⟩ := (HALL.out _ HIN.out.2.1).1
   obtain ⟨y0, y1, y2⟩ := (HALL.out _ HIN.out.2.1).2.1
   obtain ⟨u0, u1, u2, _, _, _⟩ := (HALL.out _ HIN.out.2.1).2.2.facts
   go_wp2_with fail
   refine wp_region_held_drew (S := fun w' => w'.cell? ⟨ba, oa + i * 3, none⟩ = some (.bool x.s) ∧ w'.cell? ⟨ba, oa + i * 3 + 1, none⟩ = some (.slice x.A x.n x.c) ∧ w'.cell? ⟨ba, oa + i * 3 + 2, none⟩ = some (.slice x.B x.m x.d) ∧ w'.cell? ⟨bb, ob + i * 3, none⟩ = some (.bool y.s) ∧ w'.cell? ⟨bb, ob + i * 3 + 1, none⟩ = some (.slice y.A y.n y.c) ∧ w'.cell? ⟨bb, ob + i * 3 + 2, none⟩ = some (.slice y.B y.m y.d) ∧ w'.cell? ⟨w.heap.size, 0, none⟩ = some (.bool u.s) ∧ w'.cell? ⟨w.heap.size, 1, none⟩ = some (.slice u.A u.n u.c) ∧ w'.cell? ⟨w.heap.size, 2, none⟩ = some (.slice u.B u.m u.d)) (by kernel_rfl) ?_ (fun hHeld => ?_)
   ·
    (try dsimp only)
    go_keep
   refine tk (i := 0) (h := ?_)
   try simp only [zR]
   refine tk (i := 1) (h := ?_)
   try simp only [zR]
   refine tk (i := 2) (h := ?_)
   try simp only [zR]
   refine tk (i := 3) (h := ?_)
   try simp only [zR]
   refine tk (i := 4) (h := ?_)
   try simp only [zR]
   refine tk (i := 5) (h := ?_)
   try simp only [zR]
   refine tk (i := 6) (h := ?_)
   try simp only [zR]
   refine tk (i := 7) (h := ?_)
   try simp only [zR]
   refine tk (i := 8) (h := ?_)
   try simp only [zR]
   refine tk (i := 9) (h := ?_)
   try simp only [zR]
   refine tr [10] ?_
   refine tc (h := fun K hK => ?_) (hs := tn)
   try go_simp
   go_at_call 57
   refine (rMul_c u y r (fb i) _ (HRD.out.2.2 _ (drew_bel wr)) (HRD.out.2.1 _ (drew_bel wr))).mono ?_
   rintro ee w3 ⟨m, rfl, hm, hb⟩
   have hbW := HIN.out.2.1.trans (((drew_bel wr).trans hb).mono HIN.out.2.1.size)
   clear x0 x1 x2 y0 y1 y2 u0 u1 u2
   obtain ⟨x0, x1, x2⟩ := (HALL.out _ hbW).1
   obtain ⟨y0, y1, y2⟩ := (HALL.out _ hbW).2.1
   obtain ⟨u0, u1, u2, _, _, _⟩ := (HALL.out _ hbW).2.2.facts
   have HM := Lib.hid hm
   have HB3 := Lib.hid ((drew_bel wr).trans hb)
   clear hb hbW hm
   try go_wp2_with fail
   refine hK.out _ _ ?_ (fun hHeld => ?_)
   · (try dsimp only); go_keep
   clear hK K
   try simp only [zR]
   refine tr [11] ?_
   refine tc (h := fun K hK => ?_) (hs := tn)
   try go_simp
   go_at_call 107
   refine (rSub_c x m (fa i) (r * fb i) _ (HRD.out.1 _ HB3.out) (HM.out.rw HSZ.out.1)).mono ?_
   rintro ee w4 ⟨z, rfl, hz, hb⟩
   have hbW := HIN.out.2.1.trans ((HB3.out.trans (hb.mono HB3.out.size)).mono HIN.out.2.1.size)
   clear x0 x1 x2 y0 y1 y2 u0 u1 u2
   obtain ⟨x0, x1, x2⟩ := (HALL.out _ hbW).1
   obtain ⟨y0, y1, y2⟩ := (HALL.out _ hbW).2.1
   obtain ⟨u0, u1, u2, _, _, _⟩ := (HALL.out _ hbW).2.2.facts
   have HZ := Lib.hid (And.intro hz HB3.out.size)
   have HB4 := Lib.hid (HB3.out.trans (hb.mono HB3.out.size))
   clear hb hbW hz
   try go_wp2_with fail
   refine hK.out _ _ ?_ (fun hHeld => ?_)
   · (try dsimp only); go_keep
   clear hK K
   try simp only [zR]
   refine tr [12] ?_
   refine tc (h := fun K hK => ?_) (hs := tn)
   try go_simp
   try go_wp2_with fail
   refine hK.out _ _ ?_ (fun hHeld => ?_)
   · (try dsimp only); go_keep
   clear hK K
   try simp only [zR]
   refine tr [13] ?_
   refine tc (h := fun K hK => ?_) (hs := tn)
   have HLT := Lib.hid (less_put HIN.out.1 HB4.out HZ.out.1 HZ.out.2 HSZ.out.2)
   refine spr_append rfl _ _ rfl rfl rfl HLT.out.1 HLT.out.2.1 HLT.out.2.2 HN.out (less_lo HIN.out.2.1 HB4.out) ?_
   intro R2 c2 w5 hg hgr hwh
   have hbW := below_grown ((HIN.out.2.1.trans (HB4.out.mono HIN.out.2.1.size)).alloc (less_lo0 HIN.out.2.1 HB4.out) (.cells #[.bool z.s, .slice z.A z.n z.c, .slice z.B z.m z.d] 26)) hgr (fun ad e => (HIN.out.1.own.lt ad e).1) (less_lo HIN.out.2.1 HB4.out)
   clear x0 x1 x2 y0 y1 y2 u0 u1 u2
   obtain ⟨x0, x1, x2⟩ := (HALL.out _ hbW).1
   obtain ⟨y0, y1, y2⟩ := (HALL.out _ hbW).2.1
   obtain ⟨u0, u1, u2, _, _, _⟩ := (HALL.out _ hbW).2.2.facts
   have HG := Lib.hid (And.intro hg (And.intro hbW (HIN.out.2.2.snoc HZ.out.1 (Nat.le_trans HIN.out.2.1.size HZ.out.2))))
   clear hg hgr hwh hbW
   try go_wp2_with fail
   refine hK.out _ _ ?_ (fun hHeld => ?_)
   · (try dsimp only); go_keep
   clear hK K
   try simp only [zR]
   refine tk (i := 14) (h := ?_)
   try simp only [zR]
   refine wpAnyH_done (by kernel_rfl) ?_ _
   clear x0 x1 x2 y0 y1 y2 u0 u1 u2
   go_wp2
   go_roundw
   case rel => exact ⟨i + 1, R2, c2, l ++ [z], by omega, rfl, by go_num, HG⟩
   case measure => simp [intOf]; omega
  ·
   have i1 : ¬ (i : Int) < (n : Int) := by omega
   have hin : i = n := by omega
   subst hin
   go_wp2
   go_ret
   exact ⟨R, e, rfl, ⟨l, HIN.out.1.lower HWW.out.1.size, HIN.out.2.2.lower HWW.out.1.size⟩, HWW.out.1.trans (HIN.out.2.1.mono HWW.out.1.size)⟩
end Go.Proofs.YtgffkaconhonlaaGreat

namespace Go.Proofs.YtgffkaconhonlaaGreat
set_option maxRecDepth 20000
open Go.RowKit
structure Vec (w : World) (A : Option Addr) (n : Nat) (l : List Rv) (f : Nat → Rat) (p : Nat) : Prop where
 nums : Nums w A n l
 rd : ∀ i x, l[i]? = some x → Rw w x (f i) p
theorem Vec.below {w w' : World} {A : Option Addr} {n p : Nat} {l : List Rv} {f : Nat → Rat} (h : Vec w A n l f p) (hb : Below w.heap.size w w') : Vec w' A n l f p := ⟨h.nums.below hb, fun i x hx => (h.rd i x hx).below hb⟩
theorem Vec.more {w : World} {A : Option Addr} {n p q : Nat} {l : List Rv} {f : Nat → Rat} (h : Vec w A n l f p) (hq : p ≤ q) : Vec w A n l f q := ⟨h.nums, fun i x hx => (h.rd i x hx).more hq⟩
theorem Vec.congr {w : World} {A : Option Addr} {n p : Nat} {l : List Rv} {f g : Nat → Rat} (h : Vec w A n l f p) (e : ∀ i, i < n → f i = g i) : Vec w A n l g p := ⟨h.nums, fun i x hx => by
 rw [← e i (by rw [← h.nums.len]; exact (List.getElem?_eq_some_iff.1 hx).1)]; exact h.rd i x hx⟩
theorem GrR.vec {w : World} {lo c n p : Nat} {A : Option Addr} {l : List Rv} {f : Nat → Rat} (h : GrR w lo A c n l f p) : Vec w A n l f p := ⟨h.own.nums, fun i x hx => (h.rd i x hx).1⟩
theorem Vec.at_ {w : World} {A : Option Addr} {n p i : Nat} {l : List Rv} {f : Nat → Rat} (h : Vec w A n l f p) (hi : i < n) : ∃ b o x, A = some ⟨b, o, none⟩ ∧ b < w.heap.size ∧ At3 w b (o + i * 3) x ∧ Rw w x (f i) p := by
 obtain ⟨b, o, e, hb, hc⟩ := h.nums.mem (by omega)
 obtain ⟨x, hx⟩ : ∃ x, l[i]? = some x := ⟨_, List.getElem?_eq_getElem (by rw [h.nums.len]; exact hi)⟩
 exact ⟨b, o, x, e, hb, hc i x hx, h.rd i x hx⟩
set_option maxHeartbeats 3200000 in
theorem rLead_c (A : Option Addr) (N n c : Nat) (l : List Rv) (f : Nat → Rat) (p : Nat) (w : World) (ha : Vec w A N l f p) (hN : N = n + 1) (hn : n ≤ 1000) (hp : p ≤ 60000000000) :
  Calls Tryz.prog 46 #[.slice A N c] w fun e w' => e = .returned (.int .i64 (lead n f : Nat)) ∧ Below w.heap.size w w' := by
 have HA := Lib.hid ha
 have HP := Lib.hid hp
 have HN := Lib.hid hN
 clear ha hp hN
 go_enter Tryz.func46, Tryz.ntmps46
 go_wp2
 go_loopw [3] (fun iv wr => ∃ i : Nat, i ≤ n ∧ iv = .int .i64 i ∧ Hid ((∀ j, j < i → f j = 0) ∧ Below w.heap.size w wr)) (fun iv _ => n - (intOf iv).toNat)
 case atStart => exact ⟨0, by omega, rfl, Lib.hid ⟨fun j hj => absurd hj (by omega), Below.refl _ _⟩⟩
 case round =>
  obtain ⟨i, hi, rfl, HI⟩ := hrel
  have i0 : (0 : Int) ≤ (i : Int) := by omega
  by_cases hlt : i < n
  ·
   have i1 : (i : Int) + 1 < (N : Int) := by have := HN.out; omega
   have i2 : (i : Int) < (N : Int) := by have := HN.out; omega
   obtain ⟨b, o, x, rfl, hb, hx, hr⟩ := HA.out.at_ (i := i) (by have := HN.out; omega)
   have HR := Lib.hid ((hr.below HI.out.2).more HP.out)
   obtain ⟨x0, x1, x2⟩ := hx.keep (HI.out.2.block b hb)
   clear hx hr
   by_cases hz : f i = 0
   ·
    have HZ := Lib.hid hz
    clear hz
    go_wp2_with fail
    refine (rZero_v x (f i) true _ HR.out (by simp [HZ.out])).mono ?_
    rintro e w2 ⟨rfl, hb2⟩
    have HB := Lib.hid (HI.out.2.trans (hb2.mono HI.out.2.size))
    have HG : Hid ((∀ j, j < i + 1 → f j = 0) ∧ Below w.heap.size w w2) := ⟨fun j hj => by
     rcases Nat.lt_or_eq_of_le (Nat.le_of_lt_succ hj) with h | h
     · exact HI.out.1 j h
     · rw [h]; exact HZ.out, HB.out⟩
    clear hb2 x0 x1 x2
    go_wp2
    go_roundw
    case rel => exact ⟨i + 1, by omega, by go_num, HG⟩
    case measure => simp [intOf]; omega
   ·
    have HZ := Lib.hid hz
    clear hz
    go_wp2_with fail
    refine (rZero_v x (f i) false _ HR.out (by simp [HZ.out])).mono ?_
    rintro e w2 ⟨rfl, hb2⟩
    have HB := Lib.hid (HI.out.2.trans (hb2.mono HI.out.2.size))
    clear hb2 x0 x1 x2
    go_wp2
    go_ret
    exact ⟨by rw [lead_of hlt HI.out.1 HZ.out]; rfl, HB.out⟩
  ·
   have hin : i = n := by omega
   subst hin
   have i1 : ¬ (i : Int) + 1 < (N : Int) := by have := HN.out; omega
   go_wp2
   go_ret
   exact ⟨by rw [lead_all.2 HI.out.1]; rfl, HI.out.2⟩
end Go.Proofs.YtgffkaconhonlaaGreat
