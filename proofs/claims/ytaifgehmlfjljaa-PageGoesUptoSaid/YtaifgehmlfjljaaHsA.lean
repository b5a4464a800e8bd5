/-
  Words for memory: a slice of texts reads as a row; rows of texts that a call makes.
-/
import Derived.Test.YtaifgehmlfjljaaRows
import Derived.Test.YtaifgehmlfjljaaShelf
import Derived.WalkKit
import Derived.WalkSpells
import Derived.WalkLawsBesides
import Derived.Lib.Hide
import Derived.Deep.AppendLies
import Derived.Deep.Draws
import Derived.Maps.AppendAt
import Derived.RegionTactic
import Derived.Laws.CopyOwn
import Derived.BigQuiet
import Derived.Deep.QuietTactic
import Derived.ChangeAlike
import Derived.StillTailTactics
import Derived.Deep.RegionWith
import Derived.Deep.DeepCutAuto
import Derived.Lib.AppendZeros
import Derived.Sort.AtCall
import Derived.Deep.Cut
import Derived.Lib.SliceRun
import Derived.Deep.RegionHeld3
namespace Go.Proofs.Ytaifgehmlfjljaa
set_option maxRecDepth 20000
open Go.RowKit

theorem grown_of_below {w w' : World} (hb : Below w.heap.size w w') : w.grownBy w' none := ⟨hb.os, hb.tape, hb.output, hb.size, fun k hk _ => hb.block k hk⟩
theorem below_of_grown {w w' : World} (hg : w.grownBy w' none) : Below w.heap.size w w' := ⟨hg.os, hg.tape, hg.output, hg.size, fun k hk => hg.block k hk (by simp)⟩
theorem below_alloc (w : World) (o : Obj) : Below w.heap.size w (w.alloc o) := (Below.refl _ _).alloc (Nat.le_refl _) o
/-- A Boolean answer that says P. -/
def BPost (P : Prop) (e : Ending) : Prop := ∃ r : Bool, e = .returned (.bool r) ∧ (r = true ↔ P)
theorem BPost.yes {P : Prop} {e : Ending} (h : P) (he : e = .returned (.bool true)) : BPost P e := ⟨true, he, by simp [h]⟩
theorem BPost.no {P : Prop} {e : Ending} (h : ¬ P) (he : e = .returned (.bool false)) : BPost P e := ⟨false, he, by simp [h]⟩
/-- A row of texts. -/
structure Strs (w : World) (A : Option Addr) (n : Nat) (ss : List ByteArray) : Prop where
  len : ss.length = n
  sz : ∀ s ∈ ss, s.size ≤ 2000000
  mem : 0 < n → ∃ b off, A = some ⟨b, off, none⟩ ∧ b < w.heap.size ∧ ∀ j s, ss[j]? = some s → w.cell? ⟨b, off + j, none⟩ = some (.string s)
theorem Strs.below {w w' : World} {A : Option Addr} {n : Nat} {ss : List ByteArray} (h : Strs w A n ss) (hb : Below w.heap.size w w') : Strs w' A n ss :=
  ⟨h.len, h.sz, fun hn => by
    obtain ⟨b, off, e, h1, hc⟩ := h.mem hn
    exact ⟨b, off, e, Nat.lt_of_lt_of_le h1 hb.size, fun j s hj => (World.cell?_of_block (hb.block b h1)).trans (hc j s hj)⟩⟩
theorem Strs.other {w : World} {A : Option Addr} {n : Nat} {ss : List ByteArray} (h : Strs w A n ss) {p : Addr} (u : Value) (hp : ∀ ad, A = some ad → ad.block ≠ p.block) : Strs (w.setCell p u) A n ss :=
  ⟨h.len, h.sz, fun hn => by
    obtain ⟨b, off, e, h1, hc⟩ := h.mem hn
    exact ⟨b, off, e, by simpa using h1, fun j s hj => by
      rw [World.cell?_setCell_other w p _ u (fun eq => hp _ e (by rw [eq]))]
      exact hc j s hj⟩⟩
theorem Strs.nil_ (w : World) (A : Option Addr) : Strs w A 0 [] := ⟨rfl, (fun s h => by cases h), fun h => absurd h (by omega)⟩
theorem Strs.take {w : World} {A : Option Addr} {n : Nat} {ss : List ByteArray} (h : Strs w A n ss) {k : Nat} (hk : k ≤ n) : Strs w A k (ss.take k) := by
  refine ⟨by rw [List.length_take, h.len]; omega, fun s hs => h.sz s (List.mem_of_mem_take hs), fun h0 => ?_⟩
  obtain ⟨b, off, e, h1, hc⟩ := h.mem (by omega)
  refine ⟨b, off, e, h1, fun j s hj => hc j s ?_⟩
  rw [List.getElem?_take] at hj
  split at hj
  · exact hj
  · cases hj
theorem Strs.drop {w : World} {b off : Nat} {n : Nat} {ss : List ByteArray} (h : Strs w (some ⟨b, off, none⟩) n ss) {k : Nat} (hk : k ≤ n) : Strs w (some ⟨b, off + k, none⟩) (n - k) (ss.drop k) := by
  refine ⟨by rw [List.length_drop, h.len], fun s hs => h.sz s (List.mem_of_mem_drop hs), fun h0 => ?_⟩
  obtain ⟨b', off', e, h1, hc⟩ := h.mem (by omega)
  injection e with e
  injection e with e1 e2
  subst e1 e2
  refine ⟨b, off + k, rfl, h1, fun j s hj => ?_⟩
  rw [Nat.add_assoc]
  exact hc (k + j) s (by rw [List.getElem?_drop] at hj; exact hj)
theorem Try.info9 : (Try.prog.info? 9).map (fun i => (i.zero, i.size, i.bytes)) = some (some (.string ⟨#[]⟩), 1, 16) := by kernel_rfl
/-- The call's own row of texts, from block lo on. -/
structure OwnS (w : World) (lo : Nat) (A : Option Addr) (c n : Nat) (l : List ByteArray) : Prop where
  own : w.ownsRow lo 9 1 (.slice A n c) n (l.map Value.string)
section
variable {w w' : World} {lo lo' n c : Nat} {A : Option Addr} {l : List ByteArray}
theorem OwnS.len (h : OwnS w lo A c n l) : l.length = n := by simpa using h.own.1
theorem OwnS.form (h : OwnS w lo A c n l) (hn : 0 < n) : ∃ g, A = some ⟨g, 0, none⟩ ∧ lo ≤ g ∧ g < w.heap.size := by
  obtain ⟨g, cap, hv, hb, hlt⟩ := h.own.form hn
  injection hv with hA
  exact ⟨g, hA, hb, hlt⟩
theorem OwnS.capLe (h : OwnS w lo A c n l) : n ≤ c := by
  rcases h.own.2 with ⟨hv, hn⟩ | ⟨g, cap, cur, hv, _, _, hc, _⟩
  · omega
  · injection hv with _ _ hc2; omega
theorem OwnS.strs (h : OwnS w lo A c n l) (hz : ∀ s ∈ l, s.size ≤ 2000000) : Strs w A n l := by
  refine ⟨h.len, hz, fun hn => ?_⟩
  obtain ⟨g, rfl, h1, h2⟩ := h.form hn
  refine ⟨g, 0, rfl, h2, fun j s hj => ?_⟩
  have hj2 : j < n := by rw [← h.len]; exact (List.getElem?_eq_some_iff.1 hj).1
  rw [Nat.zero_add, h.own.cellAt j (by omega), List.getElem?_map, hj]; rfl
theorem OwnS.cell {g j : Nat} {s : ByteArray} (h : OwnS w lo (some ⟨g, 0, none⟩) c n l) (hj : l[j]? = some s) : w.cell? ⟨g, j, none⟩ = some (.string s) := by
  have hj2 : j < n := by rw [← h.len]; exact (List.getElem?_eq_some_iff.1 hj).1
  rw [h.own.cellAt j (by omega), List.getElem?_map, hj]; rfl
theorem OwnS.nil_ (w : World) (lo : Nat) : OwnS w lo none 0 0 [] := ⟨World.ownsRow_nil w lo _ 1⟩
theorem OwnS.grown (h : OwnS w lo A c n l) {row : Option Nat} (hg : w.grownBy w' row) (hne : ∀ ad, A = some ad → some ad.block ≠ row) : OwnS w' lo A c n l := by
  refine ⟨h.own.kept hg ?_⟩
  cases A with
  | none => left; rfl
  | some ad => right; exact hne ad rfl
theorem OwnS.below (h : OwnS w lo A c n l) (hb : Below w.heap.size w w') : OwnS w' lo A c n l := h.grown (grown_of_below hb) (fun _ _ => by simp)
theorem OwnS.lower (h : OwnS w lo A c n l) (hl : lo' ≤ lo) : OwnS w lo' A c n l := by
  refine ⟨h.own.1, ?_⟩
  rcases h.own.2 with hn | ⟨g, cap, cur, hv, hb, rest⟩
  · exact .inl hn
  · exact .inr ⟨g, cap, cur, hv, by omega, rest⟩
theorem OwnS.thaw {g : Nat} (h : OwnS w lo (some ⟨g, 0, none⟩) c n l) (j : Nat) : w.frozen? ⟨g, j, none⟩ = false := h.own.frozenAt _
theorem OwnS.lt {g : Nat} (h : OwnS w lo (some ⟨g, 0, none⟩) c n l) : lo ≤ g ∧ g < w.heap.size := h.own.lt g rfl
theorem OwnS.lt' (h : OwnS w lo A c n l) : ∀ ad, A = some ad → lo ≤ ad.block ∧ ad.block < w.heap.size := by
  intro ad e
  subst e
  exact h.own.lt ad.block rfl
theorem OwnS.set {g : Nat} (h : OwnS w lo (some ⟨g, 0, none⟩) c n l) (j : Nat) (x : ByteArray) : OwnS (w.setCell ⟨g, j, none⟩ (.string x)) lo (some ⟨g, 0, none⟩) c n (l.set j x) := by
  refine ⟨?_⟩
  have := h.own.stored j (.string x)
  rw [List.map_set]
  exact this.1
end
theorem Strs.src {w : World} {n : Nat} {A : Option Addr} {l : List ByteArray} (h : Strs w A n l) {ad : Addr} (hA : A = some ad) : ∀ j v, (l.map Value.string)[j]? = some v → w.cell? (ad.add j) = some v := by
  intro j v hv
  rw [List.getElem?_map] at hv
  obtain ⟨s, hs, rfl⟩ := Option.map_eq_some_iff.1 hv
  have hj : j < l.length := (List.getElem?_eq_some_iff.1 hs).1
  have hlen := h.len
  obtain ⟨b, off, e, h2, hc⟩ := h.mem (by omega)
  rw [hA] at e
  injection e with e
  subst e
  rw [← hc j s hs]
  congr 1
  unfold Addr.add
  split
  · subst_vars; simp
  · rfl
theorem str_one (l : List ByteArray) : ∀ u ∈ l.map Value.string, u.oneCell' = true := fun v hv => by
  obtain ⟨x, _, rfl⟩ := List.mem_map.1 hv
  rfl
/-- append of a row of texts, nil or not, onto a row of the call's own. -/
theorem wps_appends {w : World} {ops : Array Oper} {rest : List Oper} {o : Oper} {a : Act} {Q : Exit → Act → World → Prop} (hgd : o.guard = none) (s x : Operand)
    (ho : o.op = .call { callee := .builtin .append, args := #[s, x], argTypes := #[22, 22] })
    {A A' : Option Addr} {lo n m c c' : Nat} {l k : List ByteArray} (hs : a.eval s = .slice A n c) (hx : a.eval x = .slice A' m c')
    (h1 : OwnS w lo A c n l) (h2 : Strs w A' m k) (hm : n + m ≤ 4000000) (hlo : lo ≤ w.heap.size)
    (h : ∀ A2 c2 w', OwnS w' lo A2 c2 (n + m) (l ++ k) → w.grownBy w' (A.map (·.block)) → wpList Try.prog ops Q rest (a.put o.dst (.slice A2 (n + m) c2)) w') :
    wpList Try.prog ops Q (o :: rest) a w := by
  obtain ⟨i0, hi, hz0, hz1, hz2⟩ := info_parts Try.info9
  have hk := h2.len
  have eb : (Value.slice A n c).ownBlock = A.map (·.block) := by cases A <;> rfl
  cases A' with
  | some ad =>
    refine wpList_append_own w hgd s x _ ho lo 9 i0 (.string ⟨#[]⟩) 1 16 Try.underlying22 hi hz0 hz1 hz2 rfl (by omega) _ n _ hs h1.own ad m c' (k.map Value.string) hx (by simp [hk]) (h2.src rfl) (str_one k) (by unfold maxLen; omega) (by omega) hlo ?_
    intro v' w' ho' hg' _
    rw [eb] at hg'
    have ho2 := ho'
    rw [← List.map_append] at ho2
    rcases ho'.2 with ⟨rfl, h0⟩ | ⟨g, cap, cur, rfl, _⟩
    · have e : n + m = 0 := h0
      have hh := h none 0 w' ⟨by rw [e] at ho2 ⊢; exact ho2⟩ hg'
      rw [e] at hh; exact hh
    · exact h _ _ w' ⟨ho2⟩ hg'
  | none =>
    have hm0 : m = 0 := by
      rcases Nat.eq_zero_or_pos m with h0 | h0
      · exact h0
      · obtain ⟨_, _, e, _⟩ := h2.mem h0; cases e
    subst hm0
    have hk0 : k = [] := List.eq_nil_of_length_eq_zero hk
    subst hk0
    refine wpList_plain hgd fun K hK => ?_
    have hrun : (Builtin.append_ #[22, 22] o.type #[.slice A n c, .slice none 0 c']).run Try.prog w = .ok (.slice A n c) w := by
      rcases h1.own.2 with ⟨hv, hn⟩ | ⟨g, cap, cur, hv, _, _, hnc, _⟩
      · rw [hv]; simp [Builtin.append_, run_underlying Try.underlying22, sizeOf, typeInfo, hi, Builtin.lenOf, Builtin.firstCells]
      · rw [hv]; simp [Builtin.append_, run_underlying Try.underlying22, sizeOf, typeInfo, hi, Builtin.lenOf, Builtin.firstCells, hnc, storeCells]
    unfold Oper.wp
    simp [execOp, ho, resolve, invoke, builtin, hs, hx, hrun, Result.andThen]
    exact hK _ _ (h A c w (by simpa using h1) (World.grownBy.refl _ _))
theorem Strs.one {w : World} (x : ByteArray) (hx : x.size ≤ 2000000) : Strs (w.alloc (.cells #[.string x] 9)) (some ⟨w.heap.size, 0, none⟩) 1 [x] :=
  ⟨rfl, fun s hs => by simp at hs; subst hs; exact hx, fun _ => ⟨w.heap.size, 0, rfl, by simp, fun j s hj => by
    have h0 : j < 1 := (List.getElem?_eq_some_iff.1 hj).1
    have : j = 0 := by omega
    subst this
    simp at hj; subst hj
    rw [World.cell?_alloc_at _ _ _ _ rfl]; rfl⟩⟩
/-- The contents of a history's block. -/
def C2 (w : World) (b : Nat) (t : TypeId) (x y : Value) : Prop := w.heap[b]? = some (.cells #[x, y] t (0, 0))
theorem C2.below {w w' : World} {b : Nat} {t : TypeId} {x y : Value} (h : C2 w b t x y) (hb : Below w.heap.size w w') : C2 w' b t x y := by
  have hl : b < w.heap.size := by
    rcases Nat.lt_or_ge b w.heap.size with h1 | h1
    · exact h1
    · have e : w.heap[b]? = none := Array.getElem?_eq_none h1
      unfold C2 at h
      rw [e] at h; cases h
  exact (hb.block b hl).trans h
theorem C2.newAt {w : World} {b : Nat} (t : TypeId) (x y : Value) (hb : b = w.heap.size) : C2 (w.alloc (.cells #[x, y] t)) b t x y := by subst hb; exact heap_alloc_new w _
theorem C2.facts {w : World} {b : Nat} {t : TypeId} {x y : Value} (h : C2 w b t x y) : w.cell? ⟨b, 0, none⟩ = some x ∧ w.cell? ⟨b, 1, none⟩ = some y := by
  unfold C2 at h
  exact ⟨by simp [World.cell?, h], by simp [World.cell?, h]⟩
theorem C2.thaw {w : World} {b : Nat} {t : TypeId} {x y : Value} (h : C2 w b t x y) (j : Nat) : w.frozen? ⟨b, j, none⟩ = false := by
  unfold C2 at h
  simp [World.frozen?, h]
theorem C2.lt {w : World} {b : Nat} {t : TypeId} {x y : Value} (h : C2 w b t x y) : b < w.heap.size := by
  rcases Nat.lt_or_ge b w.heap.size with h1 | h1
  · exact h1
  · have e : w.heap[b]? = none := Array.getElem?_eq_none h1
    unfold C2 at h
    rw [e] at h; cases h
abbrev put2 (w : World) (b : Nat) (x y : Value) : World := (w.setCell ⟨b, 0, none⟩ x).setCell ⟨b, 1, none⟩ y
theorem C2.put {w : World} {b : Nat} {t : TypeId} {p q : Value} (h : C2 w b t p q) (x y : Value) : C2 (put2 w b x y) b t x y := by
  have h' : w.heap[b]? = some (.cells #[p, q] t (0, 0)) := h
  have h1 : (w.setCell ⟨b, 0, none⟩ x).heap[b]? = some (.cells #[x, q] t (0, 0)) := by
    show (w.heap.modify b _)[b]? = _
    rw [Array.getElem?_modify, if_pos rfl, h']; rfl
  show ((w.setCell ⟨b, 0, none⟩ x).heap.modify b _)[b]? = _
  rw [Array.getElem?_modify, if_pos rfl, h1]; rfl
theorem put2_below {w : World} {b lo : Nat} {x y : Value} (h : lo ≤ b) : Below lo w (put2 w b x y) := ((Below.refl lo w).setCell (p := ⟨b, 0, none⟩) h x).setCell (p := ⟨b, 1, none⟩) h y
theorem put2_size {w : World} {b : Nat} {x y : Value} : (put2 w b x y).heap.size = w.heap.size := by simp [put2]
theorem OwnS.put {w : World} {lo c n b : Nat} {t : TypeId} {A : Option Addr} {l : List ByteArray} {p q : Value} (h : OwnS w lo A c n l) (hk : C2 w b t p q) (ht : t ≠ 9) (x y : Value) : OwnS (put2 w b x y) lo A c n l := by
  have hg : w.grownBy (put2 w b x y) (some b) := ⟨rfl, rfl, rfl, by simp [put2], fun k hk hne => by
    have hne2 : k ≠ b := fun e => hne (by rw [e])
    exact (Below.heap_setCell _ _ _ _ (by simpa using hne2)).trans (Below.heap_setCell _ _ _ _ (by simpa using hne2))⟩
  refine h.grown hg fun ad e1 e2 => ?_
  injection e2 with e2
  rcases h.own.2 with ⟨hv, _⟩ | ⟨g, cap, cur, hv, _, hh, _⟩
  · injection hv with e3; rw [e1] at e3; cases e3
  · injection hv with e3
    rw [e1] at e3
    injection e3 with e3
    have e4 : ad.block = g := by rw [e3]
    unfold C2 at hk
    rw [← e2, e4, hh] at hk
    injection hk with hk
    injection hk with _ hk2
    exact ht hk2.symm
theorem ret2 {fn : Func} {t : Tmp} {R : Ending → World → Prop} {a : Act} {w : World} {b : Nat} {x y : Value} (hres : fn.results = #[.cell t 24]) (ht : a.tmps.getD t undef = .pointer (some ⟨b, 0, none⟩)) (hd : a.defers = [])
    (hk : C2 w b 24 x y) (hR : R (.returned (.agg #[x, y])) w) : bodyPost Try.prog fn R .ret a w := by
  obtain ⟨q0, q1⟩ := hk.facts
  have ht' : (a.tmps[t]?.getD undef) = .pointer (some ⟨b, 0, none⟩) := by simpa using ht
  refine bodyPost_ret (v := .agg #[x, y]) ?_ hd hR
  simp [results, hres, go_sem, ht', q0, q1]
theorem ret2r {fn : Func} {t : Tmp} {R : Ending → World → Prop} {a : Act} {w : World} {b : Nat} {x y : Value} (hres : fn.results = #[.cell t 30]) (ht : a.tmps.getD t undef = .pointer (some ⟨b, 0, none⟩)) (hd : a.defers = [])
    (hk : C2 w b 30 x y) (hR : R (.returned (.agg #[x, y])) w) : bodyPost Try.prog fn R .ret a w := by
  obtain ⟨q0, q1⟩ := hk.facts
  have ht' : (a.tmps[t]?.getD undef) = .pointer (some ⟨b, 0, none⟩) := by simpa using ht
  refine bodyPost_ret (v := .agg #[x, y]) ?_ hd hR
  simp [results, hres, go_sem, ht', q0, q1]
theorem ret2t {fn : Func} {t s u : Tmp} {R : Ending → World → Prop} {a : Act} {w : World} {b : Nat} {x y p q : Value} (hres : fn.results = #[.cell t 24, .tmp s, .tmp u]) (ht : a.tmps.getD t undef = .pointer (some ⟨b, 0, none⟩)) (hs : a.tmps.getD s undef = p) (hu : a.tmps.getD u undef = q) (hd : a.defers = [])
    (hk : C2 w b 24 x y) (hR : R (.returned (.tuple #[.agg #[x, y], p, q])) w) : bodyPost Try.prog fn R .ret a w := by
  obtain ⟨q0, q1⟩ := hk.facts
  have ht' : (a.tmps[t]?.getD undef) = .pointer (some ⟨b, 0, none⟩) := by simpa using ht
  have hs' : (a.tmps[s]?.getD undef) = p := by simpa using hs
  have hu' : (a.tmps[u]?.getD undef) = q := by simpa using hu
  refine bodyPost_ret (v := .tuple #[.agg #[x, y], p, q]) ?_ hd hR
  simp [results, hres, go_sem, ht', hs', hu', q0, q1]
set_option maxHeartbeats 400000 in
theorem ClS_c (s : ByteArray) (w : World) (hs : s.size ≤ 2000000) : Calls Try.prog 34 #[.string s] w fun e w' => e = .returned (.string s) ∧ Below w.heap.size w w' := by
  go_enter Try.func34, Try.ntmps34
  go_wp2_with fail
  refine (Try.stringslite_Clone s _ (by omega)).mono ?_
  rintro e w' ⟨rfl, hb⟩
  go_wp2
  go_ret
  exact ⟨rfl, hb⟩
set_option maxHeartbeats 3200000 in
theorem Clone_c (A : Option Addr) (n c : Nat) (l : List ByteArray) (w : World) (h : Strs w A n l) (hn : n ≤ 2000000) :
    Calls Try.prog 43 #[.slice A n c] w fun e w' => ∃ A2 c2, e = .returned (.slice A2 n c2) ∧ OwnS w' w.heap.size A2 c2 n l ∧ Below w.heap.size w w' := by
  have H := Lib.hid h
  have q22 : ∀ (w : World) (a : Option Addr) (n c n' c' : Nat), (binOp .eql 22 (.slice a n c) (.slice none n' c')).run Try.prog w = .ok (.bool a.isNone) w := fun w a n c n' c' => Lib.run_eql_slice_nil w _ _ a n c n' c' Try.underlying22
  cases A with
  | none =>
    have hm0 : n = 0 := by
      rcases Nat.eq_zero_or_pos n with h0 | h0
      · exact h0
      · obtain ⟨_, _, e, _⟩ := h.mem h0; cases e
    have hl : l = [] := List.eq_nil_of_length_eq_zero (by rw [h.len]; exact hm0)
    subst hm0 hl
    clear h H
    go_enter Try.func43, Try.ntmps43
    go_wp2
    go_ret
    exact ⟨none, 0, rfl, OwnS.nil_ _ _, Below.refl _ _⟩
  | some ad =>
    clear h
    go_enter Try.func43, Try.ntmps43
    go_wp2_with (at_builtin; refine wps_appends rfl _ _ rfl rfl rfl (l := []) (n := 0) (lo := w.heap.size) ⟨World.ownsRow_made w #[] 0 (Nat.le_refl _) (Nat.zero_le _) rfl⟩ (H.out.below ((Below.refl _ _).alloc (Nat.le_refl _) _)) (by omega) (by simp) ?_)
    intro A2 c2 w1 hown hgrow
    have HO : Hid (OwnS w1 w.heap.size A2 c2 n l ∧ Below w.heap.size w w1) := ⟨by simpa using hown, ((Below.refl _ w).alloc (Nat.le_refl _) _).grown hgrow (by simp) (by intro k hk; simp at hk; omega)⟩
    clear hown hgrow
    go_wp2
    go_ret
    exact ⟨A2, c2, rfl, HO.out.1, HO.out.2⟩
set_option maxHeartbeats 3200000 in
theorem own_c (A : Option Addr) (n c : Nat) (l : List ByteArray) (w : World) (h : Strs w A n l) (hn : n ≤ 2000000) :
    Calls Try.prog 32 #[.slice A n c] w fun e w' => ∃ A2 c2, e = .returned (.slice A2 n c2) ∧ OwnS w' w.heap.size A2 c2 n l ∧ Below w.heap.size w w' := by
  have n0 : (0 : Int) ≤ (n : Int) := by omega
  have HZ := Lib.hid h.sz
  go_enter Try.func32, Try.ntmps32
  go_wp2_with fail
  refine (Clone_c A n c l _ h hn).mono ?_
  rintro e w1 ⟨A2, c2, rfl, ho, hb⟩
  have H1 := Lib.hid (And.intro ho hb)
  clear ho hb h
  go_wp2
  go_loopw [3, 4, 9] (fun _ _ iv wr => ∃ i : Nat, i ≤ n ∧ iv = .int .i64 i ∧ Hid (OwnS wr w.heap.size A2 c2 n l ∧ Below w.heap.size w wr)) (fun _ _ iv _ => n - (intOf iv).toNat)
  case atStart => exact ⟨0, Nat.zero_le _, rfl, H1⟩
  case round =>
    clear H1
    obtain ⟨i, hi, rfl, HR⟩ := hrel
    have i0 : (0 : Int) ≤ (i : Int) := by omega
    by_cases hlt : i < n
    · have i1 : (i : Int) < (n : Int) := by omega
      obtain ⟨g, rfl, hg1, hg2⟩ := HR.out.1.form (by omega)
      obtain ⟨x, hx⟩ : ∃ x, l[i]? = some x := ⟨_, List.getElem?_eq_getElem (by rw [HR.out.1.len]; omega)⟩
      have c0 := HR.out.1.cell hx
      have HX : Hid (l[i]? = some x ∧ x.size ≤ 2000000) := ⟨hx, HZ.out x (List.mem_of_getElem? hx)⟩
      clear hx
      go_wp2_with fail
      refine (ClS_c x _ HX.out.2).mono ?_
      rintro e w2 ⟨rfl, hb2⟩
      have HO2 := Lib.hid (And.intro (HR.out.1.below hb2) (HR.out.2.trans (hb2.mono HR.out.2.size)))
      have t0 := HO2.out.1.thaw i
      have c1 := HO2.out.1.cell HX.out.1
      have hg3 := HO2.out.1.lt.2
      clear c0 hb2
      have HN : Hid (OwnS (w2.setCell ⟨g, i, none⟩ (.string x)) w.heap.size (some ⟨g, 0, none⟩) c2 n l ∧ Below w.heap.size w (w2.setCell ⟨g, i, none⟩ (.string x))) := by
        refine ⟨?_, HO2.out.2.setCell (p := ⟨g, i, none⟩) hg1 _⟩
        have := HO2.out.1.set i x
        have e : l.set i x = l := by
          apply List.ext_getElem?; intro j
          rw [List.getElem?_set]
          split
          · next e => subst e; rw [HX.out.1]; split
                      · rfl
                      · next h => exact absurd (List.getElem?_eq_some_iff.1 HX.out.1).1 h
          · rfl
        rw [e] at this; exact this
      go_wp2
      go_roundw
      case rel => exact ⟨i + 1, by omega, by go_num, HN⟩
      case measure => simp [intOf]; omega
    · have i1 : ¬ (i : Int) < (n : Int) := by omega
      go_wp2
      go_ret
      exact ⟨A2, c2, rfl, HR.out.1, HR.out.2⟩
set_option maxHeartbeats 3200000 in
theorem with_c (A : Option Addr) (n c : Nat) (l : List ByteArray) (s : ByteArray) (w : World) (h : Strs w A n l) (hn : n ≤ 2000000) (hs : s.size ≤ 2000000) :
    Calls Try.prog 33 #[.slice A n c, .string s] w fun e w' => ∃ A2 c2, e = .returned (.slice A2 (n + 1) c2) ∧ OwnS w' w.heap.size A2 c2 (n + 1) (l ++ [s]) ∧ Below w.heap.size w w' := by
  have HS := Lib.hid hs
  go_enter Try.func33, Try.ntmps33
  go_wp2_with fail
  refine (own_c A n c l _ h hn).mono ?_
  rintro e w1 ⟨A2, c2, rfl, ho, hb⟩
  have H1 := Lib.hid (And.intro ho hb)
  clear ho hb h
  go_wp2_with fail
  refine (ClS_c s _ hs).mono ?_
  rintro e w2 ⟨rfl, hb2⟩
  have H2 := Lib.hid (And.intro (H1.out.1.below hb2) (H1.out.2.trans (hb2.mono H1.out.2.size)))
  have hsz := H2.out.2.size
  clear hb2 H1
  go_wp2_with (at_builtin; refine wps_appends rfl _ _ rfl rfl rfl (H2.out.1.below (below_alloc _ _)) (Strs.one s HS.out) (by omega) (by simp; omega) ?_)
  intro A3 c3 w3 hown hgrow
  have HO : Hid (OwnS w3 w.heap.size A3 c3 (n + 1) (l ++ [s]) ∧ Below w.heap.size w w3) := ⟨hown, (H2.out.2.alloc hsz _).grown hgrow (by simp; omega) (by
    intro k hk
    have h9 := H2.out.1.lt'
    cases A2 with
    | none => cases hk
    | some ad => simp at hk; have := (h9 ad rfl).1; omega)⟩
  clear hown hgrow
  go_wp2
  go_ret
  exact ⟨A3, c3, rfl, HO.out.1, HO.out.2⟩
end Go.Proofs.Ytaifgehmlfjljaa
