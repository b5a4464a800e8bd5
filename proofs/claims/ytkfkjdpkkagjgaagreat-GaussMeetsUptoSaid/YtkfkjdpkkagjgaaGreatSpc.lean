/-
  Rows of sums that a law makes, in regions that draw their order.
-/
import Derived.Test.YtkfkjdpkkagjgaaGreatClo
import Derived.Laws.AppendOwn
import Derived.Deep.AppendLies
namespace Go.Proofs.YtkfkjdpkkagjgaaGreat
set_option maxRecDepth 20000
open Go.RowKit
theorem kons_one {w : World} {G : Nat} {v : Cv} (hG : w.heap[G]? = some (.cells #[.int .i64 v.s, .slice v.A v.n v.c, .bool v.K.s, .slice v.K.A v.K.n v.K.c, .slice v.K.B v.K.m v.K.d] 28 (0, 0))) : Kons w (some ⟨G, 0, none⟩) 1 [v] :=
 ⟨rfl, fun _ => ⟨G, 0, rfl, (Array.getElem?_eq_some_iff.1 hG).1, fun i x hx => by
  have hi : i < 1 := (List.getElem?_eq_some_iff.1 hx).1
  have : i = 0 := by omega
  subst this
  injection hx with hx; subst hx
  constructor <;> simp [World.cell?, hG]⟩⟩
theorem far_grown {w w1 w2 : World} {A : Option Addr} {c n : Nat} {l : List Cv} (hb : Below w.heap.size w w1) (ho : OwnC w1 w.heap.size A c n l) (hg : w1.grownBy w2 (A.map (·.block))) : Below w.heap.size w w2 := by
 refine hb.grown hg hb.size ?_
 intro k hk
 cases A with
 | none => simp at hk
 | some ad => simp at hk; subst hk; exact (ho.lt ad rfl).1
theorem wpc_append1 {w : World} {ops : Array Oper} {rest : List Oper} {o : Oper} {a : Act} {Q : Exit → Act → World → Prop} (hgd : o.guard = none) (s x : Operand)
  (ho : o.op = .call { callee := .builtin .append, args := #[s, x], argTypes := #[22, 22] })
  {A : Option Addr} {b lo n c c' : Nat} {l : List Cv} {t : Cv} (hs : a.eval s = .slice A n c) (hx : a.eval x = .slice (some ⟨b, 0, none⟩) 1 c')
  (h1 : OwnC w lo A c n l) (h2 : At5 w b 0 t) (hm : n + 1 ≤ 2000000) (hlo : lo ≤ w.heap.size)
  (h : ∀ A2 c2 w', OwnC w' lo A2 c2 (n + 1) (l ++ [t]) → w.grownBy w' (A.map (·.block)) → (A2.map (·.block) = A.map (·.block) ∨ A2.map (·.block) = some w.heap.size) → wpList Tryz.prog ops Q rest (a.put o.dst (.slice A2 (n + 1) c2)) w') :
  wpList Tryz.prog ops Q (o :: rest) a w := by
 obtain ⟨i0, hi, hsz⟩ := Option.map_eq_some_iff.1 Tryz.info28
 have hz : i0.zero = some (.agg #[.int .i64 0, .slice none 0 0, .bool false, .slice none 0 0, .slice none 0 0]) := by
  have := Tryz.zero28
  rw [hi] at this
  exact this
 injection hsz with hsz1 hsz2
 have eb : (Value.slice A n c).ownBlock = A.map (·.block) := by cases A <;> rfl
 refine wpList_append_lies (w := w) hgd s x _ ho lo 28 i0 _ 5 88 Tryz.underlying22 hi hz hsz1 hsz2 rfl (by omega) _ n _ hs h1.own ⟨b, 0, none⟩ 1 c' (kcells t) hx rfl ?_ ?_ (by omega) (by unfold maxLen; omega) (by omega) hlo w.heap.size rfl ?_
 ·
  intro j u hu
  have hj : j < 5 := (List.getElem?_eq_some_iff.1 hu).1
  have : j = 0 ∨ j = 1 ∨ j = 2 ∨ j = 3 ∨ j = 4 := by omega
  rcases this with rfl | rfl | rfl | rfl | rfl
  · injection hu with hu; subst hu; exact h2.h0
  · injection hu with hu; subst hu; exact h2.h1
  · injection hu with hu; subst hu; exact h2.h2
  · injection hu with hu; subst hu; exact h2.h3
  · injection hu with hu; subst hu; exact h2.h4
 ·
  intro u hu
  simp only [kcells, List.mem_cons, List.not_mem_nil, or_false] at hu
  rcases hu with rfl | rfl | rfl | rfl | rfl <;> rfl
 ·
  intro g cap w' ho' hg' hwhere _
  rw [eb] at hg' hwhere
  have e : l.flatMap kcells ++ kcells t = (l ++ [t]).flatMap kcells := by rw [List.flatMap_append, List.flatMap_singleton]
  rw [e] at ho'
  refine h _ _ w' ⟨by rw [List.length_append, h1.len]; rfl, ho'⟩ hg' ?_
  rcases hwhere with h | h
  · exact .inl h.symm
  · exact .inr (by rw [h]; rfl)
end Go.Proofs.YtkfkjdpkkagjgaaGreat
