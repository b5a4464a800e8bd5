/-
  Rows of constraints and of ints that a law makes side by side.
-/
import Derived.Test.YtjbhhccklfddaaaUDlO
import Derived.Test.YtjbhhccklfddaaaUDlG
import Derived.Laws.AppendOwn
namespace Go.Proofs.Ytjbhhccklfddaaa
set_option maxRecDepth 20000
open Go.RowKit
theorem kons_one {w : World} {G : Nat} {v : Cv} (hG : w.heap[G]? = some (.cells #[.int .i64 v.s, .slice v.A v.n v.c, .bool v.K.s, .slice v.K.A v.K.n v.K.c, .slice v.K.B v.K.m v.K.d] 43 (0, 0))) : Kons w (some ⟨G, 0, none⟩) 1 [v] :=
 ⟨rfl, fun _ => ⟨G, 0, rfl, (Array.getElem?_eq_some_iff.1 hG).1, fun i x hx => by
  have hi : i < 1 := (List.getElem?_eq_some_iff.1 hx).1
  have : i = 0 := by omega
  subst this
  injection hx with hx; subst hx
  constructor <;> simp [World.cell?, hG]⟩⟩
theorem spc_appends {w : World} {ops : Array Oper} {o : Oper} {a : Act} {K : Act → World → Prop} {Q : Exit → Act → World → Prop} {E : Prop} (hgd : o.guard = none) (s x : Operand)
  (ho : o.op = .call { callee := .builtin .append, args := #[s, x], argTypes := #[22, 22] })
  {A A' : Option Addr} {lo n c m c' : Nat} {l k : List Cv} (hs : a.eval s = .slice A n c) (hx : a.eval x = .slice A' m c')
  (h1 : OwnC w lo A c n l) (h2 : Kons w A' m k) (hm : n + m ≤ 2000000) (hlo : lo ≤ w.heap.size)
  (h : ∀ A2 c2 w', OwnC w' lo A2 c2 (n + m) (l ++ k) → w.grownBy w' (A.map (·.block)) → K (a.put o.dst (.slice A2 (n + m) c2)) w') :
  if Region.wanted o (yielded ops a.tmps) = true then Oper.wp Try.prog o a w K Q else E := by
 have hw : Region.wanted o (yielded ops a.tmps) = true := by simp [Region.wanted, hgd]
 rw [if_pos hw]
 obtain ⟨i0, hi, hsz⟩ := Option.map_eq_some_iff.1 Try.info43
 have hz : i0.zero = some (.agg #[.int .i64 0, .slice none 0 0, .bool false, .slice none 0 0, .slice none 0 0]) := by
  have := Try.zero43
  rw [hi] at this
  exact this
 injection hsz with hsz1 hsz2
 have hk := h2.len
 have eb : (Value.slice A n c).ownBlock = A.map (·.block) := by cases A <;> rfl
 cases A' with
 |
  none =>
  have hm0 : m = 0 := by
   rcases Nat.eq_zero_or_pos m with h0 | h0
   · exact h0
   · obtain ⟨_, _, e, _⟩ := h2.mem h0; cases e
  subst hm0
  have hk0 : k = [] := List.eq_nil_of_length_eq_zero hk
  subst hk0
  have hrun : (Builtin.append_ #[22, 22] o.type #[.slice A n c, .slice none 0 c']).run Try.prog w = .ok (.slice A n c) w := by
   rcases h1.own.2 with ⟨hv, hn⟩ | ⟨g, cap, cur, hv, _, _, hnc, _⟩
   · rw [hv]; simp [Builtin.append_, run_underlying Try.underlying22, sizeOf, typeInfo, hi, Builtin.lenOf, Builtin.firstCells]
   · rw [hv]; simp [Builtin.append_, run_underlying Try.underlying22, sizeOf, typeInfo, hi, Builtin.lenOf, Builtin.firstCells, hnc, storeCells]
  unfold Oper.wp
  simp [execOp, ho, resolve, invoke, builtin, hs, hx, hrun, Result.andThen]
  exact h A c w (by simpa using h1) (World.grownBy.refl _ _)
 |
  some ad =>
  refine wp_append_own w s x _ ho lo 43 i0 _ 5 88 Try.underlying22 hi hz hsz1 hsz2 rfl (by omega) _ n _ hs h1.own ad m c' (k.flatMap kcells) hx (by rw [flatC_len, hk]) ?_ ?_ (by unfold maxLen; omega) (by omega) hlo ?_
  ·
   intro j u hu
   have hj : j < m * 5 := by have := (List.getElem?_eq_some_iff.1 hu).1; rw [flatC_len, hk] at this; exact this
   obtain ⟨b, off, e, _, hc⟩ := h2.mem (by omega)
   injection e with e
   subst e
   have hjm : j / 5 < k.length := by rw [hk]; omega
   have hx' : k[j / 5]? = some k[j / 5] := List.getElem?_eq_getElem hjm
   have ha := hc (j / 5) _ hx'
   have hcell : ∀ i, i < 5 → w.cell? ⟨b, off + j / 5 * 5 + i, none⟩ = (kcells k[j / 5])[i]? := by
    intro i hi5
    have : i = 0 ∨ i = 1 ∨ i = 2 ∨ i = 3 ∨ i = 4 := by omega
    rcases this with rfl | rfl | rfl | rfl | rfl
    · exact ha.h0
    · exact ha.h1
    · exact ha.h2
    · exact ha.h3
    · exact ha.h4
   have e1 := flatC_get k (j / 5) (j % 5) _ hx' (by omega)
   rw [show j / 5 * 5 + j % 5 = j by omega] at e1
   rw [e1] at hu
   rw [show (⟨b, off, none⟩ : Addr).add j = ⟨b, off + j, none⟩ by simp [Addr.add]]
   rw [← hu, ← hcell (j % 5) (by omega), show off + j / 5 * 5 + j % 5 = off + j by omega]
  ·
   intro u hu
   obtain ⟨t, _, ht⟩ := List.mem_flatMap.1 hu
   simp only [kcells, List.mem_cons, List.not_mem_nil, or_false] at ht
   rcases ht with rfl | rfl | rfl | rfl | rfl <;> rfl
  ·
   intro v' w' ho' hg' _
   rw [eb] at hg'
   rw [← List.flatMap_append] at ho'
   have hl2 : (l ++ k).length = n + m := by rw [List.length_append, h1.len, hk]
   rcases ho'.2 with ⟨rfl, h0⟩ | ⟨g, cap, cur, rfl, _⟩
   ·
    have e : n + m = 0 := h0
    have hh := h none 0 w' ⟨hl2, by rw [e] at ho' ⊢; exact ho'⟩ hg'
    rw [e] at hh; exact hh
   · exact h _ _ w' ⟨hl2, ho'⟩ hg'
theorem spz_append {w : World} {ops : Array Oper} {o : Oper} {a : Act} {K : Act → World → Prop} {Q : Exit → Act → World → Prop} {E : Prop} (hgd : o.guard = none) (s x : Operand)
  (ho : o.op = .call { callee := .builtin .append, args := #[s, x], argTypes := #[23, 23] })
  {A : Option Addr} {ad : Addr} {lo n m c c' : Nat} {l k : List Int} (hs : a.eval s = .slice A n c) (hx : a.eval x = .slice (some ad) m c')
  (h1 : OwnZ w lo A c n l) (h2 : ZRow w (some ad) m k) (hm : n + m ≤ 2000000) (hlo : lo ≤ w.heap.size)
  (h : ∀ A2 c2 w', OwnZ w' lo A2 c2 (n + m) (l ++ k) → w.grownBy w' (A.map (·.block)) → K (a.put o.dst (.slice A2 (n + m) c2)) w') :
  if Region.wanted o (yielded ops a.tmps) = true then Oper.wp Try.prog o a w K Q else E := by
 have hw : Region.wanted o (yielded ops a.tmps) = true := by simp [Region.wanted, hgd]
 rw [if_pos hw]
 obtain ⟨i0, hi, hz0, hz1, hz2⟩ := info_parts Try.info3
 have hk := h2.len
 have hlen := h1.len
 have eb : (Value.slice A n c).ownBlock = A.map (·.block) := by cases A <;> rfl
 refine wp_append_own w s x _ ho lo 3 i0 (.int .i64 0) 1 8 Try.underlying23 hi hz0 hz1 hz2 rfl (by omega) _ n _ hs h1.own ad m c' (k.map znum) hx (by simp [hk]) (h2.src rfl) (znum_one k) (by unfold maxLen; omega) (by omega) hlo ?_
 intro v' w' ho' hg' _
 rw [eb] at hg'
 have ho2 := ho'
 rw [← List.map_append] at ho2
 rcases ho'.2 with ⟨rfl, h0⟩ | ⟨g, cap, cur, rfl, _⟩
 ·
  have e : n + m = 0 := h0
  have hh := h none 0 w' ⟨by rw [e] at ho2 ⊢; exact ho2⟩ hg'
  rw [e] at hh; exact hh
 · exact h _ _ w' ⟨ho2⟩ hg'
theorem OwnC.blk {w : World} {lo c n : Nat} {ad : Addr} {l : List Cv} (h : OwnC w lo (some ad) c n l) : ∃ cur, w.heap[ad.block]? = some (.cells cur 43 (0, 0)) := by
 rcases h.own.2 with ⟨e, _⟩ | ⟨g, cap, cur, e, _, h2, _⟩
 · cases e
 · injection e with e; injection e with e; exact ⟨cur, by rw [e]; exact h2⟩
theorem OwnZ.blk {w : World} {lo c n : Nat} {ad : Addr} {l : List Int} (h : OwnZ w lo (some ad) c n l) : ∃ cur, w.heap[ad.block]? = some (.cells cur 3 (0, 0)) := by
 rcases h.own.2 with ⟨e, _⟩ | ⟨g, cap, cur, e, _, h2, _⟩
 · cases e
 · injection e with e; injection e with e; exact ⟨cur, by rw [e]; exact h2⟩
theorem ne_con_int {w : World} {b b' : Nat} {x y : Array Value} (h : w.heap[b]? = some (.cells x 43 (0, 0))) (g : w.heap[b']? = some (.cells y 3 (0, 0))) : b ≠ b' := fun e => by
 rw [e, g] at h
 injection h with h
 injection h with _ h2 _
 exact absurd h2 (by decide)
theorem ownCZ_ne {w : World} {lo lo' c c' n n' : Nat} {A B : Option Addr} {l : List Cv} {k : List Int} (h : OwnC w lo A c n l) (g : OwnZ w lo' B c' n' k) : ∀ ad, B = some ad → some ad.block ≠ A.map (·.block) := by
 intro ad e
 subst e
 cases A with
 | none => simp
 |
  some a0 =>
  obtain ⟨x, hx⟩ := h.blk
  obtain ⟨y, hy⟩ := g.blk
  have := ne_con_int hx hy
  simp only [Option.map_some]
  intro e; injection e with e; exact this e.symm
theorem ownZC_ne {w : World} {lo lo' c c' n n' : Nat} {A B : Option Addr} {l : List Cv} {k : List Int} (h : OwnC w lo A c n l) (g : OwnZ w lo' B c' n' k) : ∀ ad, A = some ad → some ad.block ≠ B.map (·.block) := by
 intro ad e
 subst e
 cases B with
 | none => simp
 |
  some a0 =>
  obtain ⟨x, hx⟩ := h.blk
  obtain ⟨y, hy⟩ := g.blk
  have := ne_con_int hx hy
  simp only [Option.map_some]
  intro e; injection e with e; exact this e
theorem intC_ne {w : World} {lo c n b : Nat} {A : Option Addr} {l : List Cv} {y : Array Value} (h : OwnC w lo A c n l) (g : w.heap[b]? = some (.cells y 3 (0, 0))) : some b ≠ A.map (·.block) := by
 cases A with
 | none => simp
 |
  some a0 =>
  obtain ⟨x, hx⟩ := h.blk
  have := ne_con_int hx g
  simp only [Option.map_some]
  intro e; injection e with e; exact this e.symm
theorem zrow_blk {w : World} {b : Nat} {x : Int} (h : w.heap[b]? = some (.cells #[.int .i64 x] 3 (0, 0))) : ZRow w (some ⟨b, 0, none⟩) 1 [x] :=
 ⟨rfl, fun _ => ⟨b, 0, rfl, (Array.getElem?_eq_some_iff.1 h).1, fun j hj => by
  have : j = 0 := by omega
  subst this
  simp [World.cell?, h]; rfl⟩⟩
theorem below_rowC {w0 w w' : World} {B lo : Nat} {A : Option Addr} {c n : Nat} {l : List Cv} (h : Below B w0 w) (ho : OwnC w lo A c n l) (hg : w.grownBy w' (A.map (·.block))) (hB : B ≤ lo) (hB2 : B ≤ w.heap.size) : Below B w0 w' := by
 refine h.grown hg hB2 ?_
 intro k hk
 cases A with
 | none => simp at hk
 | some ad => simp at hk; subst hk; have := (ho.lt ad rfl).1; omega
theorem below_rowZ2 {w0 w w' : World} {B lo : Nat} {A : Option Addr} {c n : Nat} {l : List Int} (h : Below B w0 w) (ho : OwnZ w lo A c n l) (hg : w.grownBy w' (A.map (·.block))) (hB : B ≤ lo) (hB2 : B ≤ w.heap.size) : Below B w0 w' := by
 refine h.grown hg hB2 ?_
 intro k hk
 cases A with
 | none => simp at hk
 | some ad => simp at hk; subst hk; have := (ho.own.lt ad.block rfl).1; omega
end Go.Proofs.Ytjbhhccklfddaaa
