/-
  A row of pairs that a call makes.
-/
import Derived.Test.YtkfkjdpkkagjgaaGcon
import Derived.Test.YtkfkjdpkkagjgaaChn
namespace Go.Proofs.Ytkfkjdpkkagjgaa
set_option maxRecDepth 20000
open Go.RowKit

/-- append of one constraint; where the row lies then. -/
theorem wpc_append1 {w : World} {ops : Array Oper} {rest : List Oper} {o : Oper} {a : Act} {Q : Exit → Act → World → Prop} (hgd : o.guard = none) (s x : Operand)
    (ho : o.op = .call { callee := .builtin .append, args := #[s, x], argTypes := #[22, 22] })
    {A : Option Addr} {b lo n c c' : Nat} {l : List Cv} {t : Cv} (hs : a.eval s = .slice A n c) (hx : a.eval x = .slice (some ⟨b, 0, none⟩) 1 c')
    (h1 : OwnC w lo A c n l) (h2 : At5 w b 0 t) (hm : n + 1 ≤ 2000000) (hlo : lo ≤ w.heap.size)
    (h : ∀ A2 c2 w', OwnC w' lo A2 c2 (n + 1) (l ++ [t]) → w.grownBy w' (A.map (·.block)) → (A2.map (·.block) = A.map (·.block) ∨ A2.map (·.block) = some w.heap.size) → wpList Try.prog ops Q rest (a.put o.dst (.slice A2 (n + 1) c2)) w') :
    wpList Try.prog ops Q (o :: rest) a w := by
  obtain ⟨i0, hi, hsz⟩ := Option.map_eq_some_iff.1 Try.info28
  have hz : i0.zero = some (.agg #[.int .i64 0, .slice none 0 0, .bool false, .slice none 0 0, .slice none 0 0]) := by
    have := Try.zero28
    rw [hi] at this
    exact this
  injection hsz with hsz1 hsz2
  have eb : (Value.slice A n c).ownBlock = A.map (·.block) := by cases A <;> rfl
  refine wpList_append_lies (w := w) hgd s x _ ho lo 28 i0 _ 5 88 Try.underlying22 hi hz hsz1 hsz2 rfl (by omega) _ n _ hs h1.own ⟨b, 0, none⟩ 1 c' (kcells t) hx rfl ?_ ?_ (by omega) (by unfold maxLen; omega) (by omega) hlo w.heap.size rfl ?_
  · intro j u hu
    have hj : j < 5 := (List.getElem?_eq_some_iff.1 hu).1
    have : j = 0 ∨ j = 1 ∨ j = 2 ∨ j = 3 ∨ j = 4 := by omega
    rcases this with rfl | rfl | rfl | rfl | rfl
    · injection hu with hu; subst hu; exact h2.h0
    · injection hu with hu; subst hu; exact h2.h1
    · injection hu with hu; subst hu; exact h2.h2
    · injection hu with hu; subst hu; exact h2.h3
    · injection hu with hu; subst hu; exact h2.h4
  · intro u hu
    simp only [kcells, List.mem_cons, List.not_mem_nil, or_false] at hu
    rcases hu with rfl | rfl | rfl | rfl | rfl <;> rfl
  · intro g cap w' ho' hg' hwhere _
    rw [eb] at hg' hwhere
    have e : l.flatMap kcells ++ kcells t = (l ++ [t]).flatMap kcells := by rw [List.flatMap_append, List.flatMap_singleton]
    rw [e] at ho'
    refine h _ _ w' ⟨by rw [List.length_append, h1.len]; rfl, ho'⟩ hg' ?_
    rcases hwhere with h | h
    · exact .inl h.symm
    · exact .inr (by rw [h]; rfl)
/-- Two terms that stand whatever comes of the block B. -/
def Keep (w : World) (B : Option Nat) (G a b : Nat) (z zk : Rv) : Prop := ∀ w', w.grownBy w' B → Two w' 0 G a b z zk
theorem Keep.step {w w1 : World} {B : Option Nat} {G a b : Nat} {z zk : Rv} (h : Keep w B G a b z zk) (hg : w.grownBy w1 B) : Keep w1 B G a b z zk := fun _ h2 => h _ (hg.trans h2)
theorem Keep.move {w w1 : World} {B B2 : Option Nat} {G a b : Nat} {z zk : Rv} (h : Keep w B G a b z zk) (hg : w.grownBy w1 B) (hB : B2 = B ∨ B2 = some w.heap.size) : Keep w1 B2 G a b z zk := fun w2 h2 => by
  rcases hB with rfl | rfl
  · exact h _ (hg.trans h2)
  · refine h _ ⟨h2.os.trans hg.os, h2.tape.trans hg.tape, h2.output.trans hg.output, Nat.le_trans hg.size h2.size, fun k hk hne => ?_⟩
    have hs := hg.size
    exact (h2.block k (by omega) (by simp; omega)).trans (hg.block k hk hne)
/-- A row's pairs. -/
def PL (w : World) (B : Option Nat) : List (Cv × List Tv) → List (Nat × Nat) → Prop
  | [], [] => True
  | x :: ps, e :: es => (∃ G z zk, x = (pv G zk, [⟨(e.1 : Int), z⟩, ⟨(e.2 : Int), z⟩]) ∧ Keep w B G e.1 e.2 z zk) ∧ PL w B ps es
  | _, _ => False
theorem PL.move {w w1 : World} {B B2 : Option Nat} (hg : w.grownBy w1 B) (hB : B2 = B ∨ B2 = some w.heap.size) : ∀ {ps : List (Cv × List Tv)} {es : List (Nat × Nat)}, PL w B ps es → PL w1 B2 ps es
  | [], [], _ => trivial
  | _ :: _, _ :: _, ⟨⟨G, z, zk, h1, h2⟩, h3⟩ => ⟨⟨G, z, zk, h1, h2.move hg hB⟩, PL.move hg hB h3⟩
  | [], _ :: _, h => h.elim
  | _ :: _, [], h => h.elim
theorem PL.snoc {w : World} {B : Option Nat} {x : Cv × List Tv} {e : Nat × Nat} (hx : ∃ G z zk, x = (pv G zk, [⟨(e.1 : Int), z⟩, ⟨(e.2 : Int), z⟩]) ∧ Keep w B G e.1 e.2 z zk) : ∀ {ps : List (Cv × List Tv)} {es : List (Nat × Nat)}, PL w B ps es → PL w B (ps ++ [x]) (es ++ [e])
  | [], [], _ => ⟨hx, trivial⟩
  | _ :: _, _ :: _, ⟨h1, h3⟩ => ⟨h1, PL.snoc hx h3⟩
  | [], _ :: _, h => h.elim
  | _ :: _, [], h => h.elim
theorem PL.len {w : World} {B : Option Nat} : ∀ {ps : List (Cv × List Tv)} {es : List (Nat × Nat)}, PL w B ps es → ps.length = es.length
  | [], [], _ => rfl
  | _ :: _, _ :: _, ⟨_, h3⟩ => by rw [List.length_cons, List.length_cons, h3.len]
  | [], _ :: _, h => h.elim
  | _ :: _, [], h => h.elim
theorem PL.gin {w : World} {B : Option Nat} : ∀ {ps : List (Cv × List Tv)} {es : List (Nat × Nat)}, PL w B ps es → ∀ x ∈ ps, Gin w x
  | [], [], _ => fun x hx => by cases hx
  | _ :: _, _ :: _, ⟨⟨G, z, zk, h1, h2⟩, h3⟩ => fun x hx => by
    rcases List.mem_cons.1 hx with rfl | hx
    · rw [h1]; exact (h2 w (World.grownBy.refl _ _)).gin
    · exact h3.gin x hx
  | [], _ :: _, h => h.elim
  | _ :: _, [], h => h.elim
theorem PL.cs {w : World} {B : Option Nat} {N : Nat} : ∀ {ps : List (Cv × List Tv)} {es : List (Nat × Nat)}, PL w B ps es → (∀ e ∈ es, e.1 < e.2 ∧ e.2 < N) → csOf w N ps = prs es
  | [], [], _, _ => rfl
  | _ :: _, e :: _, ⟨⟨G, z, zk, h1, h2⟩, h3⟩, h => by
    have he := h e List.mem_cons_self
    have := PL.cs h3 fun e he => h e (List.mem_cons_of_mem _ he)
    unfold csOf prs at *
    rw [List.map_cons, List.map_cons, this, h1, (h2 w (World.grownBy.refl _ _)).vr he.1 he.2]
  | [], _ :: _, h, _ => h.elim
  | _ :: _, [], h, _ => h.elim
theorem PL.gns {w : World} {lo : Nat} {A : Option Addr} {c m : Nat} {ps : List (Cv × List Tv)} {es : List (Nat × Nat)} (h : PL w (A.map (·.block)) ps es) (ho : OwnC w lo A c m (ps.map (·.1))) (hm : m ≤ 1000) : Gns w A m ps := ⟨ho.kons, h.gin, hm⟩
end Go.Proofs.Ytkfkjdpkkagjgaa
