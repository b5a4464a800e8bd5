/-
  Rows of texts that a call makes; the document's names of a tree.
-/
import Derived.Test.YtdpbceipiappjaaGreatDoorSrE
import Derived.Test.YtdpbceipiappjaaGreatDoorTgP
namespace Go.Proofs.YtdpbceipiappjaaGreatDoor
set_option maxRecDepth 20000
open Go.RowKit

theorem Tryz.info9 : (Tryz.prog.info? 9).map (fun i => (i.size, i.bytes)) = some (1, 16) := by kernel_rfl
theorem Tryz.zero9 : (Tryz.prog.info? 9).bind (·.zero) = some (.string ⟨#[]⟩) := by kernel_rfl
/-- The call's own row of texts, from block lo on. -/
structure OwnS (w : World) (lo : Nat) (A : Option Addr) (c n : Nat) (l : List ByteArray) : Prop where
  len : l.length = n
  own : w.ownsRow lo 9 1 (.slice A n c) n (l.map Value.string)
theorem OwnS.mem {w : World} {lo c n : Nat} {A : Option Addr} {l : List ByteArray} (h : OwnS w lo A c n l) (hn : 0 < n) : ∃ b, A = some ⟨b, 0, none⟩ ∧ lo ≤ b ∧ b < w.heap.size ∧ ∀ j s, l[j]? = some s → w.cell? ⟨b, 0 + j, none⟩ = some (.string s) := by
  rcases h.own.2 with ⟨hv, h0⟩ | ⟨g, cap, cur, hv, hb, hh, hc, hm, hs, ht⟩
  · omega
  · injection hv with hA _ _
    refine ⟨g, hA, hb, ?_, fun i x hx => ?_⟩
    · rcases Nat.lt_or_ge g w.heap.size with h1 | h1
      · exact h1
      · have : w.heap[g]? = none := Array.getElem?_eq_none h1
        rw [this] at hh; cases hh
    · have hi : i < n := by rw [← h.len]; exact (List.getElem?_eq_some_iff.1 hx).1
      have e1 : w.cell? ⟨g, i, none⟩ = cur[i]? := by simp [World.cell?, hh]
      rw [Nat.zero_add, e1]
      have e2 : (l.map Value.string)[i]? = some (.string x) := by rw [List.getElem?_map, hx]; rfl
      rw [← e2, ← ht, List.getElem?_take, if_pos (by omega), Array.getElem?_toList]
theorem OwnS.strs {w : World} {lo c n : Nat} {A : Option Addr} {l : List ByteArray} (h : OwnS w lo A c n l) (hz : ∀ s ∈ l, s.size ≤ 1000) : Strs w A n l := by
  refine ⟨h.len, fun s hs => by have := hz s hs; omega, fun hn => ?_⟩
  obtain ⟨b, e, _, h1, hc⟩ := h.mem hn
  exact ⟨b, 0, e, h1, hc⟩
theorem OwnS.nil_ (w : World) (lo : Nat) : OwnS w lo none 0 0 [] := ⟨rfl, World.ownsRow_nil w lo _ 1⟩
theorem OwnS.grown {w w' : World} {lo c n : Nat} {A : Option Addr} {l : List ByteArray} (h : OwnS w lo A c n l) {row : Option Nat} (hg : w.grownBy w' row) (hne : ∀ ad, A = some ad → some ad.block ≠ row) : OwnS w' lo A c n l := by
  refine ⟨h.len, h.own.kept hg ?_⟩
  cases A with
  | none => left; rfl
  | some ad => right; exact hne ad rfl
theorem OwnS.below {w w' : World} {lo c n : Nat} {A : Option Addr} {l : List ByteArray} (h : OwnS w lo A c n l) (hb : Below w.heap.size w w') : OwnS w' lo A c n l := h.grown (grown_of_below hb) (fun _ _ => by simp)
theorem OwnS.lower {w : World} {lo lo' c n : Nat} {A : Option Addr} {l : List ByteArray} (h : OwnS w lo A c n l) (hl : lo' ≤ lo) : OwnS w lo' A c n l := by
  refine ⟨h.len, h.own.1, ?_⟩
  rcases h.own.2 with hn | ⟨g, cap, cur, hv, hb, rest⟩
  · exact .inl hn
  · exact .inr ⟨g, cap, cur, hv, by omega, rest⟩
theorem OwnS.lt {w : World} {lo n c : Nat} {A : Option Addr} {l : List ByteArray} (h : OwnS w lo A c n l) : ∀ ad, A = some ad → lo ≤ ad.block ∧ ad.block < w.heap.size := by
  intro ad e
  subst e
  exact h.own.lt ad.block rfl
/-- append of one text onto a row of the call's own. -/
theorem wps_append {w : World} {ops : Array Oper} {rest : List Oper} {o : Oper} {a : Act} {Q : Exit → Act → World → Prop} (hgd : o.guard = none) (s x : Operand)
    (ho : o.op = .call { callee := .builtin .append, args := #[s, x], argTypes := #[28, 28] })
    {A : Option Addr} {b lo n c c' : Nat} {l : List ByteArray} {t : ByteArray} (hs : a.eval s = .slice A n c) (hx : a.eval x = .slice (some ⟨b, 0, none⟩) 1 c')
    (h1 : OwnS w lo A c n l) (h2 : w.cell? ⟨b, 0, none⟩ = some (.string t)) (hm : n + 1 ≤ 2000000) (hlo : lo ≤ w.heap.size)
    (h : ∀ A2 c2 w', OwnS w' lo A2 c2 (n + 1) (l ++ [t]) → w.grownBy w' (A.map (·.block)) → (A2.map (·.block) = A.map (·.block) ∨ A2.map (·.block) = some w.heap.size) → wpList Tryz.prog ops Q rest (a.put o.dst (.slice A2 (n + 1) c2)) w') :
    wpList Tryz.prog ops Q (o :: rest) a w := by
  obtain ⟨i0, hi, hsz⟩ := Option.map_eq_some_iff.1 Tryz.info9
  have hz : i0.zero = some (.string ⟨#[]⟩) := by
    have := Tryz.zero9
    rw [hi] at this
    exact this
  injection hsz with hsz1 hsz2
  have eb : (Value.slice A n c).ownBlock = A.map (·.block) := by cases A <;> rfl
  refine wpList_append_lies (w := w) hgd s x _ ho lo 9 i0 _ 1 16 Tryz.underlying28 hi hz hsz1 hsz2 rfl (by omega) _ n _ hs h1.own ⟨b, 0, none⟩ 1 c' [.string t] hx rfl ?_ ?_ (by omega) (by unfold maxLen; omega) (by omega) hlo w.heap.size rfl ?_
  · intro j u hu
    have hj : j < 1 := (List.getElem?_eq_some_iff.1 hu).1
    obtain rfl : j = 0 := by omega
    injection hu with hu; subst hu; exact h2
  · intro u hu
    simp only [List.mem_cons, List.not_mem_nil, or_false] at hu
    subst hu; rfl
  · intro g cap w' ho' hg' hwhere _
    rw [eb] at hg' hwhere
    have e : l.map Value.string ++ [.string t] = (l ++ [t]).map Value.string := by rw [List.map_append]; rfl
    rw [e] at ho'
    have hw2 : (some (⟨g, 0, none⟩ : Addr)).map (·.block) = A.map (·.block) ∨ (some (⟨g, 0, none⟩ : Addr)).map (·.block) = some w.heap.size := by
      rcases hwhere with h | h
      · exact .inl h.symm
      · exact .inr (by rw [h]; rfl)
    exact h _ _ w' ⟨by rw [List.length_append, h1.len]; rfl, ho'⟩ hg' hw2
/-- Two rows have the same texts. -/
def NmEq (l m : List ByteArray) : Prop := (∀ x ∈ l, ∃ y ∈ m, y.toList = x.toList) ∧ (∀ y ∈ m, ∃ x ∈ l, x.toList = y.toList)
theorem NmEq.refl (l : List ByteArray) : NmEq l l := ⟨fun x h => ⟨x, h, rfl⟩, fun x h => ⟨x, h, rfl⟩⟩
theorem NmEq.snoc {l m : List ByteArray} {s : ByteArray} (h : NmEq l m) : NmEq (l ++ [s]) (m ++ [s]) := by
  refine ⟨fun x hx => ?_, fun x hx => ?_⟩
  · rcases List.mem_append.1 hx with hx | hx
    · obtain ⟨y, hy, e⟩ := h.1 x hx; exact ⟨y, List.mem_append_left _ hy, e⟩
    · exact ⟨x, List.mem_append_right _ hx, rfl⟩
  · rcases List.mem_append.1 hx with hx | hx
    · obtain ⟨y, hy, e⟩ := h.2 x hx; exact ⟨y, List.mem_append_left _ hy, e⟩
    · exact ⟨x, List.mem_append_right _ hx, rfl⟩
theorem NmEq.had {l m : List ByteArray} {s : ByteArray} (h : NmEq l m) (hs : ∃ x ∈ l, x.toList = s.toList) : NmEq l (m ++ [s]) := by
  refine ⟨fun x hx => ?_, fun x hx => ?_⟩
  · obtain ⟨y, hy, e⟩ := h.1 x hx; exact ⟨y, List.mem_append_left _ hy, e⟩
  · rcases List.mem_append.1 hx with hx | hx
    · exact h.2 x hx
    · rcases List.mem_cons.1 hx with rfl | hx
      · exact hs
      · cases hx
theorem NmEq.trans {l m k : List ByteArray} (h : NmEq l m) (h' : NmEq m k) : NmEq l k := by
  refine ⟨fun x hx => ?_, fun x hx => ?_⟩
  · obtain ⟨y, hy, e⟩ := h.1 x hx; obtain ⟨z, hz, e2⟩ := h'.1 y hy; exact ⟨z, hz, e2.trans e⟩
  · obtain ⟨y, hy, e⟩ := h'.2 x hx; obtain ⟨z, hz, e2⟩ := h.2 y hy; exact ⟨z, hz, e2.trans e⟩
theorem NmEq.app {l m k : List ByteArray} (h : NmEq m k) : NmEq (l ++ m) (l ++ k) := by
  refine ⟨fun x hx => ?_, fun x hx => ?_⟩
  · rcases List.mem_append.1 hx with hx | hx
    · exact ⟨x, List.mem_append_left _ hx, rfl⟩
    · obtain ⟨y, hy, e⟩ := h.1 x hx; exact ⟨y, List.mem_append_right _ hy, e⟩
  · rcases List.mem_append.1 hx with hx | hx
    · exact ⟨x, List.mem_append_left _ hx, rfl⟩
    · obtain ⟨y, hy, e⟩ := h.2 x hx; exact ⟨y, List.mem_append_right _ hy, e⟩
/-- What Names answers: a row of the call's own with the names m, so many at most. -/
def NPost (w : World) (m : List ByteArray) (k : Nat) (e : Ending) (w' : World) : Prop :=
  ∃ A n c l, e = .returned (.slice A n c) ∧ OwnS w' w.heap.size A c n l ∧ NmEq l m ∧ (∀ s ∈ l, s.size ≤ 1000) ∧ n ≤ k ∧ n ≤ c ∧ Below w.heap.size w w'
end Go.Proofs.YtdpbceipiappjaaGreatDoor
