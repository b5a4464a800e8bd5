/-
  Plain sums, no program: a row of terms (a variable, a rational), sums merged, so often, at values.
  Rows of terms in memory: what they hold, what they read as; a sum's struct.
  Sums in memory: the struct of five cells, what it reads as; rows that are written to.
  A row and one more term, unless that is 0: the program's 'with', the document's 'lay'.
  Rows of terms put together: slices.Grow, slices.Concat.
  One row of two that rise: the program's merge.
  The program's Add and Scale of sums.
-/
import Derived.Test.YtjbhhccklfddaaaVMRb
import Derived.Laws.AppendOwn
import Derived.Deep.AppendLies
import Derived.Test.YtjbhhccklfddaaaVMRa
import Derived.Test.YtjbhhccklfddaaaVMRf
import Derived.Lib.AppendZeros
import Derived.Deep.RegionHeld3
import Derived.Sort.AtCall
namespace Go.Proofs.Ytjbhhccklfddaaa
set_option maxRecDepth 20000
def lay1 (v : Int) (q : Rat) : List (Int × Rat) := if q = 0 then [] else [(v, q)]
def addL : List (Int × Rat) → List (Int × Rat) → List (Int × Rat)
 | [], [] => []
 | (v, p) :: a, [] => lay1 v p ++ addL a []
 | [], (u, q) :: b => lay1 u q ++ addL [] b
 | (v, p) :: a, (u, q) :: b => if v < u then lay1 v p ++ addL a ((u, q) :: b) else if u < v then lay1 u q ++ addL ((v, p) :: a) b else lay1 v (p + q) ++ addL a b
termination_by a b => a.length + b.length
def scaleL (k : Rat) : List (Int × Rat) → List (Int × Rat)
 | [] => []
 | (v, q) :: l => lay1 v (q * k) ++ scaleL k l
def NZ (l : List (Int × Rat)) : Prop := ∀ x ∈ l, x.2 ≠ 0
theorem NZ.tail {x : Int × Rat} {l : List (Int × Rat)} (h : NZ (x :: l)) : NZ l := fun y hy => h y (List.mem_cons_of_mem _ hy)
end Go.Proofs.Ytjbhhccklfddaaa
namespace Go.Proofs.Ytjbhhccklfddaaa
set_option maxRecDepth 20000
open Go.RowKit
structure Tv where
 v : Int
 r : Rv
def tcells (t : Tv) : List Value := [.int .i64 t.v, .bool t.r.s, .slice t.r.A t.r.n t.r.c, .slice t.r.B t.r.m t.r.d]
structure At4 (w : World) (b o : Nat) (x : Tv) : Prop where
 h0 : w.cell? ⟨b, o, none⟩ = some (.int .i64 x.v)
 h1 : w.cell? ⟨b, o + 1, none⟩ = some (.bool x.r.s)
 h2 : w.cell? ⟨b, o + 2, none⟩ = some (.slice x.r.A x.r.n x.r.c)
 h3 : w.cell? ⟨b, o + 3, none⟩ = some (.slice x.r.B x.r.m x.r.d)
theorem At4.keep {w w' : World} {b o : Nat} {x : Tv} (h : At4 w b o x) (hk : w'.heap[b]? = w.heap[b]?) : At4 w' b o x := by
 have e : ∀ j, w'.cell? ⟨b, j, none⟩ = w.cell? ⟨b, j, none⟩ := fun j => World.cell?_of_block hk
 exact ⟨(e _).trans h.h0, (e _).trans h.h1, (e _).trans h.h2, (e _).trans h.h3⟩
structure Tms (w : World) (lo : Nat) (A : Option Addr) (n : Nat) (l : List Tv) : Prop where
 len : l.length = n
 mem : 0 < n → ∃ b off, A = some ⟨b, off, none⟩ ∧ lo ≤ b ∧ b < w.heap.size ∧ ∀ i x, l[i]? = some x → At4 w b (off + i * 4) x
theorem Tms.below {w w' : World} {lo n : Nat} {A : Option Addr} {l : List Tv} (h : Tms w lo A n l) (hb : Below w.heap.size w w') : Tms w' lo A n l :=
 ⟨h.len, fun hn => by
  obtain ⟨b, off, e, h0, h1, hc⟩ := h.mem hn
  exact ⟨b, off, e, h0, Nat.lt_of_lt_of_le h1 hb.size, fun i x hx => (hc i x hx).keep (hb.block b h1)⟩⟩
theorem Tms.lower {w : World} {lo lo' n : Nat} {A : Option Addr} {l : List Tv} (h : Tms w lo A n l) (hl : lo' ≤ lo) : Tms w lo' A n l :=
 ⟨h.len, fun hn => by
  obtain ⟨b, off, e, h0, h1, hc⟩ := h.mem hn
  exact ⟨b, off, e, by omega, h1, hc⟩⟩
theorem Tms.nil_ (w : World) (lo : Nat) (A : Option Addr) : Tms w lo A 0 [] := ⟨rfl, fun h => absurd h (by omega)⟩
def Rds (w : World) (p : Nat) : List Tv → List (Int × Rat) → Prop
 | [], [] => True
 | x :: l, y :: L => (x.v = y.1 ∧ Rw w x.r y.2 p) ∧ Rds w p l L
 | _, _ => False
def RdN (w : World) (lo : Nat) : List Tv → List (Int × Rat) → Prop
 | [], [] => True
 | x :: l, y :: L => (x.v = y.1 ∧ Rt w lo x.r y.2) ∧ RdN w lo l L
 | _, _ => False
theorem Rds.below {w w' : World} {p : Nat} (hb : Below w.heap.size w w') : ∀ {l : List Tv} {L : List (Int × Rat)}, Rds w p l L → Rds w' p l L
 | [], [], _ => trivial
 | _ :: _, _ :: _, h => ⟨⟨h.1.1, h.1.2.below hb⟩, Rds.below hb h.2⟩
 | [], _ :: _, h => h.elim
 | _ :: _, [], h => h.elim
theorem RdN.below {w w' : World} {lo : Nat} (hb : Below w.heap.size w w') : ∀ {l : List Tv} {L : List (Int × Rat)}, RdN w lo l L → RdN w' lo l L
 | [], [], _ => trivial
 | _ :: _, _ :: _, h => ⟨⟨h.1.1, h.1.2.below hb⟩, RdN.below hb h.2⟩
 | [], _ :: _, h => h.elim
 | _ :: _, [], h => h.elim
theorem RdN.lower {w : World} {lo lo' : Nat} (hl : lo' ≤ lo) : ∀ {l : List Tv} {L : List (Int × Rat)}, RdN w lo l L → RdN w lo' l L
 | [], [], _ => trivial
 | _ :: _, _ :: _, h => ⟨⟨h.1.1, h.1.2.lower hl⟩, RdN.lower hl h.2⟩
 | [], _ :: _, h => h.elim
 | _ :: _, [], h => h.elim
theorem Rds.len {w : World} {p : Nat} : ∀ {l : List Tv} {L : List (Int × Rat)}, Rds w p l L → l.length = L.length
 | [], [], _ => rfl
 | _ :: _, _ :: _, h => by rw [List.length_cons, List.length_cons, h.2.len]
 | [], _ :: _, h => h.elim
 | _ :: _, [], h => h.elim
theorem RdN.len {w : World} {lo : Nat} : ∀ {l : List Tv} {L : List (Int × Rat)}, RdN w lo l L → l.length = L.length
 | [], [], _ => rfl
 | _ :: _, _ :: _, h => by rw [List.length_cons, List.length_cons, h.2.len]
 | [], _ :: _, h => h.elim
 | _ :: _, [], h => h.elim
theorem RdN.append {w : World} {lo : Nat} : ∀ {l : List Tv} {L : List (Int × Rat)} {m : List Tv} {M : List (Int × Rat)}, RdN w lo l L → RdN w lo m M → RdN w lo (l ++ m) (L ++ M)
 | [], [], _, _, _, h2 => h2
 | _ :: _, _ :: _, _, _, h, h2 => ⟨h.1, RdN.append h.2 h2⟩
 | [], _ :: _, _, _, h, _ => h.elim
 | _ :: _, [], _, _, h, _ => h.elim
theorem Rds.get {w : World} {p : Nat} : ∀ {l : List Tv} {L : List (Int × Rat)} (i : Nat), Rds w p l L → i < l.length → ∃ x y, l[i]? = some x ∧ L[i]? = some y ∧ x.v = y.1 ∧ Rw w x.r y.2 p
 | [], _, _, _, h => absurd h (by simp)
 | _ :: _, [], _, h, _ => h.elim
 | x :: _, y :: _, 0, h, _ => ⟨x, y, rfl, rfl, h.1.1, h.1.2⟩
 |
  _ :: l, _ :: L, i + 1, h, hi => by
  obtain ⟨x, y, h1, h2, h3⟩ := Rds.get i h.2 (by simp at hi; omega)
  exact ⟨x, y, by simpa using h1, by simpa using h2, h3⟩
def SzL (p : Nat) (L : List (Int × Rat)) : Prop := ∀ y ∈ L, Sz y.2 p
theorem Rds.sz {w : World} {p : Nat} (hp : 0 < p) : ∀ {l : List Tv} {L : List (Int × Rat)}, Rds w p l L → SzL p L
 | [], [], _ => fun y hy => by cases hy
 |
  _ :: _, y :: L, h => fun z hz => by
  rcases List.mem_cons.1 hz with rfl | hz
  · exact h.1.2.sz hp
  · exact h.2.sz hp z hz
 | [], _ :: _, h => h.elim
 | _ :: _, [], h => h.elim
structure OwnT (w : World) (lo : Nat) (A : Option Addr) (c n : Nat) (l : List Tv) : Prop where
 len : l.length = n
 own : w.ownsRow lo 40 4 (.slice A n c) n (l.flatMap tcells)
theorem flat_get : ∀ (l : List Tv) (i j : Nat) (x : Tv), l[i]? = some x → j < 4 → (l.flatMap tcells)[i * 4 + j]? = (tcells x)[j]?
 | [], _, _, _, h, _ => by simp at h
 |
  y :: l, 0, j, x, h, hj => by
  simp at h
  subst h
  rw [List.flatMap_cons, Nat.zero_mul, Nat.zero_add, List.getElem?_append_left (by show j < 4; exact hj)]
 |
  y :: l, i + 1, j, x, h, hj => by
  rw [List.flatMap_cons, List.getElem?_append_right (by show 4 ≤ _; omega)]
  rw [show (i + 1) * 4 + j - (tcells y).length = i * 4 + j by show _ - 4 = _; omega]
  exact flat_get l i j x (by simpa using h) hj
theorem OwnT.tms {w : World} {lo c n : Nat} {A : Option Addr} {l : List Tv} (h : OwnT w lo A c n l) : Tms w lo A n l := by
 refine ⟨h.len, fun hn => ?_⟩
 rcases h.own.2 with ⟨hv, h0⟩ | ⟨g, cap, cur, hv, hb, hh, hc, hm, hs, ht⟩
 · omega
 ·
  injection hv with hA _ _
  refine ⟨g, 0, hA, hb, ?_, fun i x hx => ?_⟩
  ·
   rcases Nat.lt_or_ge g w.heap.size with h1 | h1
   · exact h1
   ·
    have : w.heap[g]? = none := Array.getElem?_eq_none h1
    rw [this] at hh; cases hh
  ·
   have hi : i < n := by rw [← h.len]; exact (List.getElem?_eq_some_iff.1 hx).1
   have hg : ∀ j, j < 4 → w.cell? ⟨g, i * 4 + j, none⟩ = (tcells x)[j]? := fun j hj => by
    have e1 : w.cell? ⟨g, i * 4 + j, none⟩ = cur[i * 4 + j]? := by simp [World.cell?, hh]
    rw [e1, ← flat_get l i j x hx hj, ← ht, List.getElem?_take, if_pos (by omega), Array.getElem?_toList]
   have h0 := hg 0 (by omega)
   have h1 := hg 1 (by omega)
   have h2 := hg 2 (by omega)
   have h3 := hg 3 (by omega)
   rw [Nat.zero_add]
   exact ⟨h0, h1, h2, h3⟩
theorem OwnT.nil_ (w : World) (lo : Nat) : OwnT w lo none 0 0 [] := ⟨rfl, World.ownsRow_nil w lo _ 4⟩
theorem OwnT.grown {w w' : World} {lo c n : Nat} {A : Option Addr} {l : List Tv} (h : OwnT w lo A c n l) {row : Option Nat} (hg : w.grownBy w' row) (hne : ∀ ad, A = some ad → some ad.block ≠ row) : OwnT w' lo A c n l := by
 refine ⟨h.len, h.own.kept hg ?_⟩
 cases A with
 | none => left; rfl
 | some ad => right; exact hne ad rfl
theorem OwnT.below {w w' : World} {lo c n : Nat} {A : Option Addr} {l : List Tv} (h : OwnT w lo A c n l) (hb : Below w.heap.size w w') : OwnT w' lo A c n l := h.grown (grown_of_below hb) (fun _ _ => by simp)
theorem OwnT.lower {w : World} {lo lo' c n : Nat} {A : Option Addr} {l : List Tv} (h : OwnT w lo A c n l) (hl : lo' ≤ lo) : OwnT w lo' A c n l := by
 refine ⟨h.len, h.own.1, ?_⟩
 rcases h.own.2 with hn | ⟨g, cap, cur, hv, hb, rest⟩
 · exact .inl hn
 · exact .inr ⟨g, cap, cur, hv, by omega, rest⟩
theorem OwnT.capLe {w : World} {lo c n : Nat} {A : Option Addr} {l : List Tv} (h : OwnT w lo A c n l) : n ≤ c := by
 rcases h.own.2 with ⟨hv, hn⟩ | ⟨g, cap, cur, hv, _, _, hc, _⟩
 · omega
 · injection hv with _ _ hc2; omega
theorem OwnT.blockLt {w : World} {lo n c : Nat} {A : Option Addr} {l : List Tv} (h : OwnT w lo A c n l) : ∀ ad, A = some ad → lo ≤ ad.block ∧ ad.block < w.heap.size := by
 intro ad e
 subst e
 exact h.own.lt ad.block rfl
def Apt (A : Option Addr) (v : Rv) : Prop := ∀ g, A.map (·.block) = some g → (∀ a, v.A = some a → a.block ≠ g) ∧ (∀ a, v.B = some a → a.block ≠ g)
theorem Row.grownR {w w' : World} {lo n : Nat} {R : Option Addr} {l : List Nat} {row : Option Nat} (h : Row w lo R n l) (hg : w.grownBy w' row) (hr : ∀ a, R = some a → some a.block ≠ row) : Row w' lo R n l := by
 refine ⟨h.len, h.l32, fun hn => ?_⟩
 obtain ⟨b, off, e, h0, h1, hc⟩ := h.mem hn
 exact ⟨b, off, e, h0, Nat.lt_of_lt_of_le h1 hg.size, fun j hj => (World.cell?_of_block (hg.block b h1 (hr _ e))).trans (hc j hj)⟩
theorem Rt.grown {w w' : World} {lo : Nat} {A : Option Addr} {v : Rv} {r : Rat} (h : Rt w lo v r) (ha : Apt A v) (hg : w.grownBy w' (A.map (·.block))) : Rt w' lo v r := by
 have h1 : ∀ a, v.A = some a → some a.block ≠ A.map (·.block) := fun a e e2 => (ha _ e2.symm).1 a e rfl
 have h2 : ∀ a, v.B = some a → some a.block ≠ A.map (·.block) := fun a e e2 => (ha _ e2.symm).2 a e rfl
 exact ⟨h.1, h.2, h.3, h.4.grownR hg h1, h.5, h.6, h.7.grownR hg h2⟩
theorem Rt.spot {w : World} {lo : Nat} {v : Rv} {r : Rat} (h : Rt w lo v r) (h0 : r ≠ 0) : (∃ b off, v.A = some ⟨b, off, none⟩ ∧ lo ≤ b ∧ b < w.heap.size) ∧ (∃ b off, v.B = some ⟨b, off, none⟩ ∧ lo ≤ b ∧ b < w.heap.size) := by
 have pos : ∀ x : Nat, x ≠ 0 → 0 < (lim x).length := fun x hx => by
  rcases Nat.eq_zero_or_pos (lim x).length with e | e
  ·
   have := List.eq_nil_of_length_eq_zero e
   have h2 := val_lim x
   rw [this] at h2
   exact absurd h2.symm hx
  · exact e
 obtain ⟨b, off, e, h1, h2, _⟩ := h.num.mem (by rw [h.numLen]; exact pos _ (fun e => num_ne h0 (Int.natAbs_eq_zero.1 e)))
 obtain ⟨b', off', e', h1', h2', _⟩ := h.den.mem (by rw [h.denLen]; exact pos _ r.den_nz)
 exact ⟨⟨b, off, e, h1, h2⟩, ⟨b', off', e', h1', h2'⟩⟩
def RdO (w : World) (lo : Nat) (A : Option Addr) : List Tv → List (Int × Rat) → Prop
 | [], [] => True
 | x :: l, y :: L => (x.v = y.1 ∧ y.2 ≠ 0 ∧ Rt w lo x.r y.2 ∧ Apt A x.r) ∧ RdO w lo A l L
 | _, _ => False
theorem RdO.rdn {w : World} {lo : Nat} {A : Option Addr} : ∀ {l : List Tv} {L : List (Int × Rat)}, RdO w lo A l L → RdN w lo l L
 | [], [], _ => trivial
 | _ :: _, _ :: _, h => ⟨⟨h.1.1, h.1.2.2.1⟩, RdO.rdn h.2⟩
 | [], _ :: _, h => h.elim
 | _ :: _, [], h => h.elim
theorem RdO.below {w w' : World} {lo : Nat} {A : Option Addr} (hb : Below w.heap.size w w') : ∀ {l : List Tv} {L : List (Int × Rat)}, RdO w lo A l L → RdO w' lo A l L
 | [], [], _ => trivial
 | _ :: _, _ :: _, h => ⟨⟨h.1.1, h.1.2.1, h.1.2.2.1.below hb, h.1.2.2.2⟩, RdO.below hb h.2⟩
 | [], _ :: _, h => h.elim
 | _ :: _, [], h => h.elim
theorem RdO.len {w : World} {lo : Nat} {A : Option Addr} {l : List Tv} {L : List (Int × Rat)} (h : RdO w lo A l L) : l.length = L.length := h.rdn.len
theorem RdO.append {w : World} {lo : Nat} {A : Option Addr} : ∀ {l : List Tv} {L : List (Int × Rat)} {m : List Tv} {M : List (Int × Rat)}, RdO w lo A l L → RdO w lo A m M → RdO w lo A (l ++ m) (L ++ M)
 | [], [], _, _, _, h2 => h2
 | _ :: _, _ :: _, _, _, h, h2 => ⟨h.1, RdO.append h.2 h2⟩
 | [], _ :: _, _, _, h, _ => h.elim
 | _ :: _, [], _, _, h, _ => h.elim
structure Gr (w : World) (lo : Nat) (A : Option Addr) (c n : Nat) (l : List Tv) (L : List (Int × Rat)) : Prop where
 own : OwnT w lo A c n l
 rd : RdO w lo A l L
theorem Gr.below {w w' : World} {lo c n : Nat} {A : Option Addr} {l : List Tv} {L : List (Int × Rat)} (h : Gr w lo A c n l L) (hb : Below w.heap.size w w') : Gr w' lo A c n l L := ⟨h.own.below hb, h.rd.below hb⟩
theorem Gr.nil_ (w : World) (lo : Nat) : Gr w lo none 0 0 [] [] := ⟨OwnT.nil_ w lo, trivial⟩
theorem Gr.lt {w : World} {lo c n : Nat} {A : Option Addr} {l : List Tv} {L : List (Int × Rat)} (h : Gr w lo A c n l L) : ∀ ad, A = some ad → lo ≤ ad.block ∧ ad.block < w.heap.size := h.own.blockLt
theorem grown_row {w w' : World} (hb : Below w.heap.size w w') (row : Option Nat) : w.grownBy w' row := ⟨hb.os, hb.tape, hb.output, hb.size, fun k hk _ => hb.block k hk⟩
end Go.Proofs.Ytjbhhccklfddaaa
namespace Go.Proofs.Ytjbhhccklfddaaa
set_option maxRecDepth 20000
open Go.RowKit
structure Cv where
 s : Int
 A : Option Addr
 n : Nat
 c : Nat
 K : Rv
def C5 (w : World) (b : Nat) (x0 x1 x2 x3 x4 : Value) : Prop := w.heap[b]? = some (.cells #[x0, x1, x2, x3, x4] 43 (0, 0))
section
variable {w w' : World} {b : Nat} {x0 x1 x2 x3 x4 : Value}
theorem C5.lt (h : C5 w b x0 x1 x2 x3 x4) : b < w.heap.size := by
 rcases Nat.lt_or_ge b w.heap.size with h1 | h1
 · exact h1
 ·
  have : w.heap[b]? = none := Array.getElem?_eq_none h1
  rw [C5, this] at h; cases h
theorem C5.below (h : C5 w b x0 x1 x2 x3 x4) (hb : Below w.heap.size w w') : C5 w' b x0 x1 x2 x3 x4 := (hb.block b h.lt).trans h
theorem C5.at {B : Nat} (h : C5 w b x0 x1 x2 x3 x4) (hb : Below B w w') (hB : b < B) : C5 w' b x0 x1 x2 x3 x4 := (hb.block b hB).trans h
theorem C5.new (w : World) (x0 x1 x2 x3 x4 : Value) : C5 (w.alloc (.cells #[x0, x1, x2, x3, x4] 43)) w.heap.size x0 x1 x2 x3 x4 := heap_alloc_new w _
theorem C5.alloc (h : C5 w b x0 x1 x2 x3 x4) (o : Obj) : C5 (w.alloc o) b x0 x1 x2 x3 x4 := h.below ((Below.refl _ _).alloc (Nat.le_refl _) o)
theorem C5.drew (h : C5 w b x0 x1 x2 x3 x4) : C5 w.drew b x0 x1 x2 x3 x4 := h
theorem C5.facts (h : C5 w b x0 x1 x2 x3 x4) :
  w.cell? ⟨b, 0, none⟩ = some x0 ∧ w.cell? ⟨b, 1, none⟩ = some x1 ∧ w.cell? ⟨b, 2, none⟩ = some x2 ∧ w.cell? ⟨b, 3, none⟩ = some x3 ∧ w.cell? ⟨b, 4, none⟩ = some x4 := by
 have h' : w.heap[b]? = some (.cells #[x0, x1, x2, x3, x4] 43 (0, 0)) := h
 refine ⟨?_, ?_, ?_, ?_, ?_⟩ <;> simp [World.cell?, h']
theorem C5.thaw (h : C5 w b x0 x1 x2 x3 x4) :
  w.frozen? ⟨b, 0, none⟩ = false ∧ w.frozen? ⟨b, 1, none⟩ = false ∧ w.frozen? ⟨b, 2, none⟩ = false ∧ w.frozen? ⟨b, 3, none⟩ = false ∧ w.frozen? ⟨b, 4, none⟩ = false := by
 have h' : w.heap[b]? = some (.cells #[x0, x1, x2, x3, x4] 43 (0, 0)) := h
 refine ⟨?_, ?_, ?_, ?_, ?_⟩ <;> simp [World.frozen?, h']
theorem C5.set0 (h : C5 w b x0 x1 x2 x3 x4) (x : Value) : C5 (w.setCell ⟨b, 0, none⟩ x) b x x1 x2 x3 x4 := by
 have h' : w.heap[b]? = some (.cells #[x0, x1, x2, x3, x4] 43 (0, 0)) := h
 show (w.heap.modify b _)[b]? = _
 rw [Array.getElem?_modify, if_pos rfl, h']; rfl
theorem C5.set1 (h : C5 w b x0 x1 x2 x3 x4) (x : Value) : C5 (w.setCell ⟨b, 1, none⟩ x) b x0 x x2 x3 x4 := by
 have h' : w.heap[b]? = some (.cells #[x0, x1, x2, x3, x4] 43 (0, 0)) := h
 show (w.heap.modify b _)[b]? = _
 rw [Array.getElem?_modify, if_pos rfl, h']; rfl
theorem C5.set2 (h : C5 w b x0 x1 x2 x3 x4) (x : Value) : C5 (w.setCell ⟨b, 2, none⟩ x) b x0 x1 x x3 x4 := by
 have h' : w.heap[b]? = some (.cells #[x0, x1, x2, x3, x4] 43 (0, 0)) := h
 show (w.heap.modify b _)[b]? = _
 rw [Array.getElem?_modify, if_pos rfl, h']; rfl
theorem C5.set3 (h : C5 w b x0 x1 x2 x3 x4) (x : Value) : C5 (w.setCell ⟨b, 3, none⟩ x) b x0 x1 x2 x x4 := by
 have h' : w.heap[b]? = some (.cells #[x0, x1, x2, x3, x4] 43 (0, 0)) := h
 show (w.heap.modify b _)[b]? = _
 rw [Array.getElem?_modify, if_pos rfl, h']; rfl
theorem C5.set4 (h : C5 w b x0 x1 x2 x3 x4) (x : Value) : C5 (w.setCell ⟨b, 4, none⟩ x) b x0 x1 x2 x3 x := by
 have h' : w.heap[b]? = some (.cells #[x0, x1, x2, x3, x4] 43 (0, 0)) := h
 show (w.heap.modify b _)[b]? = _
 rw [Array.getElem?_modify, if_pos rfl, h']; rfl
end
abbrev put5 (w : World) (b : Nat) (x0 x1 x2 x3 x4 : Value) : World := ((((w.setCell ⟨b, 0, none⟩ x0).setCell ⟨b, 1, none⟩ x1).setCell ⟨b, 2, none⟩ x2).setCell ⟨b, 3, none⟩ x3).setCell ⟨b, 4, none⟩ x4
theorem C5.put {w : World} {b : Nat} {p0 p1 p2 p3 p4 : Value} (h : C5 w b p0 p1 p2 p3 p4) (x0 x1 x2 x3 x4 : Value) : C5 (put5 w b x0 x1 x2 x3 x4) b x0 x1 x2 x3 x4 := ((((h.set0 x0).set1 x1).set2 x2).set3 x3).set4 x4
theorem put5_below {w : World} {b B : Nat} (hB : B ≤ b) (x0 x1 x2 x3 x4 : Value) : Below B w (put5 w b x0 x1 x2 x3 x4) :=
 (((((Below.refl B w).setCell hB x0).setCell hB x1).setCell hB x2).setCell hB x3).setCell hB x4
theorem Row.but {w w' : World} {lo n b : Nat} {A : Option Addr} {l : List Nat} (h : Row w lo A n l) (hb : b < lo) (hs : w.heap.size ≤ w'.heap.size) (hk : ∀ g, g < w.heap.size → g ≠ b → w'.heap[g]? = w.heap[g]?) : Row w' lo A n l := by
 refine ⟨h.len, h.l32, fun hn => ?_⟩
 obtain ⟨b', off, e, h0, h1, hc⟩ := h.mem hn
 exact ⟨b', off, e, h0, Nat.lt_of_lt_of_le h1 hs, fun j hj => (World.cell?_of_block (hk b' h1 (by omega))).trans (hc j hj)⟩
theorem Rt.but {w w' : World} {lo b : Nat} {v : Rv} {r : Rat} (h : Rt w lo v r) (hb : b < lo) (hs : w.heap.size ≤ w'.heap.size) (hk : ∀ g, g < w.heap.size → g ≠ b → w'.heap[g]? = w.heap[g]?) : Rt w' lo v r :=
 ⟨h.1, h.2, h.3, h.4.but hb hs hk, h.5, h.6, h.7.but hb hs hk⟩
theorem Tms.but {w w' : World} {lo n b : Nat} {A : Option Addr} {l : List Tv} (h : Tms w lo A n l) (hb : b < lo) (hs : w.heap.size ≤ w'.heap.size) (hk : ∀ g, g < w.heap.size → g ≠ b → w'.heap[g]? = w.heap[g]?) : Tms w' lo A n l :=
 ⟨h.len, fun hn => by
  obtain ⟨b', off, e, h0, h1, hc⟩ := h.mem hn
  exact ⟨b', off, e, h0, Nat.lt_of_lt_of_le h1 hs, fun i x hx => (hc i x hx).keep (hk b' h1 (by omega))⟩⟩
theorem RdN.but {w w' : World} {lo b : Nat} (hb : b < lo) (hs : w.heap.size ≤ w'.heap.size) (hk : ∀ g, g < w.heap.size → g ≠ b → w'.heap[g]? = w.heap[g]?) : ∀ {l : List Tv} {L : List (Int × Rat)}, RdN w lo l L → RdN w' lo l L
 | [], [], _ => trivial
 | _ :: _, _ :: _, h => ⟨⟨h.1.1, h.1.2.but hb hs hk⟩, RdN.but hb hs hk h.2⟩
 | [], _ :: _, h => h.elim
 | _ :: _, [], h => h.elim
theorem put5_but (w : World) (b : Nat) (x0 x1 x2 x3 x4 : Value) : ∀ g, g < w.heap.size → g ≠ b → (put5 w b x0 x1 x2 x3 x4).heap[g]? = w.heap[g]? := by
 intro g _ hg
 have h1 : ∀ (w : World) (j : Nat) (x : Value), (w.setCell ⟨b, j, none⟩ x).heap[g]? = w.heap[g]? := fun w j x => by
  show (w.heap.modify b _)[g]? = _
  rw [Array.getElem?_modify, if_neg (fun e => hg e.symm)]
 rw [h1, h1, h1, h1, h1]
theorem put5_size (w : World) (b : Nat) (x0 x1 x2 x3 x4 : Value) : (put5 w b x0 x1 x2 x3 x4).heap.size = w.heap.size := by simp [World.setCell]
structure Cw (w : World) (v : Cv) (L : List (Int × Rat)) (k : Rat) (p : Nat) : Prop where
 cap : v.n ≤ v.c
 rows : ∃ l, Tms w 0 v.A v.n l ∧ Rds w p l L
 num : Rw w v.K k p
structure Ct (w : World) (lo : Nat) (v : Cv) (L : List (Int × Rat)) (k : Rat) : Prop where
 cap : v.n ≤ v.c
 rows : ∃ l, Tms w lo v.A v.n l ∧ RdN w lo l L
 num : Rt w lo v.K k
theorem Cw.below {w w' : World} {v : Cv} {L : List (Int × Rat)} {k : Rat} {p : Nat} (h : Cw w v L k p) (hb : Below w.heap.size w w') : Cw w' v L k p := by
 obtain ⟨h1, ⟨l, h2, h3⟩, h4⟩ := h
 exact ⟨h1, ⟨l, h2.below hb, h3.below hb⟩, h4.below hb⟩
theorem Ct.below {w w' : World} {lo : Nat} {v : Cv} {L : List (Int × Rat)} {k : Rat} (h : Ct w lo v L k) (hb : Below w.heap.size w w') : Ct w' lo v L k := by
 obtain ⟨h1, ⟨l, h2, h3⟩, h4⟩ := h
 exact ⟨h1, ⟨l, h2.below hb, h3.below hb⟩, h4.below hb⟩
theorem Ct.lower {w : World} {lo lo' : Nat} {v : Cv} {L : List (Int × Rat)} {k : Rat} (h : Ct w lo v L k) (hl : lo' ≤ lo) : Ct w lo' v L k := by
 obtain ⟨h1, ⟨l, h2, h3⟩, h4⟩ := h
 exact ⟨h1, ⟨l, h2.lower hl, h3.lower hl⟩, h4.lower hl⟩
theorem Rds.more {w : World} {p q : Nat} (hq : p ≤ q) : ∀ {l : List Tv} {L : List (Int × Rat)}, Rds w p l L → Rds w q l L
 | [], [], _ => trivial
 | _ :: _, _ :: _, h => ⟨⟨h.1.1, h.1.2.more hq⟩, Rds.more hq h.2⟩
 | [], _ :: _, h => h.elim
 | _ :: _, [], h => h.elim
theorem Cw.more {w : World} {v : Cv} {L : List (Int × Rat)} {k : Rat} {p q : Nat} (h : Cw w v L k p) (hq : p ≤ q) : Cw w v L k q := by
 obtain ⟨h1, ⟨l, h2, h3⟩, h4⟩ := h
 exact ⟨h1, ⟨l, h2, h3.more hq⟩, h4.more hq⟩
theorem SzL.more {p q : Nat} {L : List (Int × Rat)} (h : SzL p L) (hq : p ≤ q) : SzL q L := fun y hy => (h y hy).more hq
theorem SzL.append {p : Nat} {L M : List (Int × Rat)} (h : SzL p L) (h' : SzL p M) : SzL p (L ++ M) := fun y hy => by
 rcases List.mem_append.1 hy with hy | hy
 · exact h y hy
 · exact h' y hy
theorem SzL.lay {p : Nat} {v : Int} {q : Rat} (h : Sz q p) : SzL p (lay1 v q) := by
 unfold lay1
 split
 · exact fun y hy => by cases hy
 ·
  exact fun y hy => by
   rcases List.mem_cons.1 hy with rfl | hy
   · exact h
   · cases hy
theorem SzL.add {p q : Nat} : ∀ (n : Nat) (a b : List (Int × Rat)), a.length + b.length ≤ n → SzL p a → SzL q b → SzL (p + q + 1) (addL a b) := by
 intro n
 induction n with
 |
  zero =>
  intro a b hn _ _
  have ha : a = [] := List.eq_nil_of_length_eq_zero (by omega)
  have hb : b = [] := List.eq_nil_of_length_eq_zero (by omega)
  subst ha hb; rw [addL]; exact fun y hy => by cases hy
 |
  succ n ih =>
  intro a b hn ha hb
  match a, b with
  | [], [] => rw [addL]; exact fun y hy => by cases hy
  |
   (v, x) :: a, [] =>
   rw [addL]
   exact (SzL.lay ((ha _ List.mem_cons_self).more (by omega))).append (ih a [] (by simp at hn ⊢; omega) (fun y hy => ha y (List.mem_cons_of_mem _ hy)) hb)
  |
   [], (u, z) :: b =>
   rw [addL]
   exact (SzL.lay ((hb _ List.mem_cons_self).more (by omega))).append (ih [] b (by simp at hn ⊢; omega) ha (fun y hy => hb y (List.mem_cons_of_mem _ hy)))
  |
   (v, x) :: a, (u, z) :: b =>
   simp only [List.length_cons] at hn
   rw [addL]
   split
   · exact (SzL.lay ((ha _ List.mem_cons_self).more (by omega))).append (ih a _ (by simp; omega) (fun y hy => ha y (List.mem_cons_of_mem _ hy)) hb)
   ·
    split
    · exact (SzL.lay ((hb _ List.mem_cons_self).more (by omega))).append (ih _ b (by simp; omega) ha (fun y hy => hb y (List.mem_cons_of_mem _ hy)))
    · exact (SzL.lay ((ha _ List.mem_cons_self).add (hb _ List.mem_cons_self))).append (ih a b (by omega) (fun y hy => ha y (List.mem_cons_of_mem _ hy)) (fun y hy => hb y (List.mem_cons_of_mem _ hy)))
theorem At4.new (w : World) (t : Tv) : At4 (w.alloc (.cells #[.int .i64 t.v, .bool t.r.s, .slice t.r.A t.r.n t.r.c, .slice t.r.B t.r.m t.r.d] 40)) w.heap.size 0 t := by
 constructor <;> (rw [World.cell?_alloc_at _ _ _ _ rfl]; rfl)
end Go.Proofs.Ytjbhhccklfddaaa
namespace Go.Proofs.Ytjbhhccklfddaaa
set_option maxRecDepth 20000
open Go.RowKit
end Go.Proofs.Ytjbhhccklfddaaa
namespace Go.Proofs.Ytjbhhccklfddaaa
set_option maxRecDepth 20000
open Go.RowKit
end Go.Proofs.Ytjbhhccklfddaaa
namespace Go.Proofs.Ytjbhhccklfddaaa
set_option maxRecDepth 20000
open Go.RowKit
structure MAt (w wr : World) (L M : List (Int × Rat)) (N : Nat) (A B : Option Addr) (n c m d : Nat) (k l : List Tv) (K O : List (Int × Rat)) (R : Option Addr) (p e : Nat) (ls : List Tv) (D : List (Int × Rat)) : Prop where
 ta : Tms w 0 A n k
 tb : Tms w 0 B m l
 ra : Rds w 19000000000 k K
 rb : Rds w 19000000000 l O
 ca : n ≤ c
 cb : m ≤ d
 gr : Gr wr w.heap.size R e p ls D
 eq : addL L M = D ++ addL K O
 below : Below w.heap.size w wr
 le : p + n + m ≤ N
theorem Tms.tail {w : World} {b off n c : Nat} {k : List Tv} (h : Tms w 0 (some ⟨b, off, none⟩) n k) (hn : 0 < n) (hc : n ≤ c) : Tms w 0 (if c = 1 then some ⟨b, off, none⟩ else some ⟨b, off + 4, none⟩) (n - 1) k.tail := by
 refine ⟨by rw [List.length_tail, h.len], fun h1 => ?_⟩
 obtain ⟨b', off', e, h0, h2, hc'⟩ := h.mem hn
 injection e with e
 injection e with e1 e2 _
 subst e1 e2
 rw [if_neg (by omega)]
 refine ⟨b, off + 4, rfl, h0, h2, fun i x hx => ?_⟩
 have := hc' (i + 1) x (by simpa [List.getElem?_tail] using hx)
 rw [show off + 4 + i * 4 = off + (i + 1) * 4 by omega]; exact this
theorem Rds.tail {w : World} {p : Nat} : ∀ {l : List Tv} {L : List (Int × Rat)}, Rds w p l L → Rds w p l.tail L.tail
 | [], [], _ => trivial
 | _ :: _, _ :: _, h => h.2
 | [], _ :: _, h => h.elim
 | _ :: _, [], h => h.elim
theorem Rds.append {w : World} {p : Nat} : ∀ {l : List Tv} {L : List (Int × Rat)} {m : List Tv} {M : List (Int × Rat)}, Rds w p l L → Rds w p m M → Rds w p (l ++ m) (L ++ M)
 | [], [], _, _, _, h2 => h2
 | _ :: _, _ :: _, _, _, h, h2 => ⟨h.1, Rds.append h.2 h2⟩
 | [], _ :: _, _, _, h, _ => h.elim
 | _ :: _, [], _, _, h, _ => h.elim
theorem head_cons {α : Type} {K : List α} {X : α} (h : K[0]? = some X) : K = X :: K.tail := by
 cases K with
 | nil => cases h
 | cons a l => simp at h; subst h; rfl
theorem addL_lt {v u : Int} {p q : Rat} {a b : List (Int × Rat)} (h : v < u) : addL ((v, p) :: a) ((u, q) :: b) = lay1 v p ++ addL a ((u, q) :: b) := by rw [addL, if_pos h]
theorem addL_gt {v u : Int} {p q : Rat} {a b : List (Int × Rat)} (h : u < v) : addL ((v, p) :: a) ((u, q) :: b) = lay1 u q ++ addL ((v, p) :: a) b := by rw [addL, if_neg (by omega), if_pos h]
def layAll : List (Int × Rat) → List (Int × Rat)
 | [] => []
 | (v, q) :: l => lay1 v q ++ layAll l
theorem MAt.left {w wr w2 : World} {L M K O D : List (Int × Rat)} {N b off n c m d p e p2 c2 : Nat} {B R R2 : Option Addr} {k l ls ls2 : List Tv} {x y : Tv} {X Y : Int × Rat} (h : MAt w wr L M N (some ⟨b, off, none⟩) B n c m d k l K O R p e ls D) (hX : k[0]? = some x ∧ K[0]? = some X ∧ x.v = X.1) (hY : l[0]? = some y ∧ O[0]? = some Y ∧ y.v = Y.1) (hn : 0 < n) (hv : x.v < y.v)
  (hg : Gr w2 w.heap.size R2 c2 p2 ls2 (D ++ lay1 x.v X.2)) (hb : Below w.heap.size w w2) (hp : p2 ≤ p + 1) : MAt w w2 L M N (if c = 1 then some ⟨b, off, none⟩ else some ⟨b, off + 4, none⟩) B (n - 1) (c - 1) m d k.tail l K.tail O R2 p2 c2 ls2 (D ++ lay1 x.v X.2) := by
 obtain ⟨_, hK, ex⟩ := hX
 obtain ⟨_, hO, ey⟩ := hY
 have eK := head_cons hK
 have eO := head_cons hO
 have hle := h.le
 have hca := h.ca
 refine ⟨h.ta.tail hn h.ca, h.tb, h.ra.tail, h.rb, by omega, h.cb, hg, ?_, hb, by omega⟩
 rw [h.eq, List.append_assoc, ex]
 congr 1
 conv => lhs; rw [eK, eO]
 conv => rhs; rw [eO]
 exact addL_lt (by rw [← ex, ← ey]; exact hv)
theorem MAt.right {w wr w2 : World} {L M K O D : List (Int × Rat)} {N b off n c m d p e p2 c2 : Nat} {A R R2 : Option Addr} {k l ls ls2 : List Tv} {x y : Tv} {X Y : Int × Rat} (h : MAt w wr L M N A (some ⟨b, off, none⟩) n c m d k l K O R p e ls D) (hX : k[0]? = some x ∧ K[0]? = some X ∧ x.v = X.1) (hY : l[0]? = some y ∧ O[0]? = some Y ∧ y.v = Y.1) (hn : 0 < m) (hv : y.v < x.v)
  (hg : Gr w2 w.heap.size R2 c2 p2 ls2 (D ++ lay1 y.v Y.2)) (hb : Below w.heap.size w w2) (hp : p2 ≤ p + 1) : MAt w w2 L M N A (if d = 1 then some ⟨b, off, none⟩ else some ⟨b, off + 4, none⟩) n c (m - 1) (d - 1) k l.tail K O.tail R2 p2 c2 ls2 (D ++ lay1 y.v Y.2) := by
 obtain ⟨_, hK, ex⟩ := hX
 obtain ⟨_, hO, ey⟩ := hY
 have eK := head_cons hK
 have eO := head_cons hO
 have hle := h.le
 have hcb := h.cb
 refine ⟨h.ta, h.tb.tail hn h.cb, h.ra, h.rb.tail, h.ca, by omega, hg, ?_, hb, by omega⟩
 rw [h.eq, List.append_assoc, ey]
 congr 1
 conv => lhs; rw [eK, eO]
 conv => rhs; rw [eK]
 exact addL_gt (by rw [← ex, ← ey]; exact hv)
structure EAt (w wr : World) (L M T : List (Int × Rat)) (ks : List Tv) (N Z : Nat) (A : Option Addr) (i : Nat) (R : Option Addr) (p e : Nat) (ls : List Tv) (D : List (Int × Rat)) : Prop where
 gr : Gr wr w.heap.size R e p ls D
 eq : addL L M = D ++ layAll (T.drop i)
 below : Below w.heap.size w wr
 row : Tms wr 0 A Z ks
 rd : Rds w 19000000000 ks T
 apart : ∀ ad a2, R = some ad → A = some a2 → ad.block ≠ a2.block
 le : p + (Z - i) ≤ N
theorem layAll_cons (v : Int) (q : Rat) (l : List (Int × Rat)) : layAll ((v, q) :: l) = lay1 v q ++ layAll l := rfl
theorem EAt.step {w wr w2 : World} {L M T D : List (Int × Rat)} {ks ls ls2 : List Tv} {N Z i p e p2 c2 : Nat} {A R R2 : Option Addr} {x : Tv} {X : Int × Rat} (h : EAt w wr L M T ks N Z A i R p e ls D) (hT : T[i]? = some X) (ex : x.v = X.1) (hi : i < Z)
  (hg : Gr w2 w.heap.size R2 c2 p2 ls2 (D ++ lay1 x.v X.2)) (hb : Below w.heap.size w w2) (hp : p2 ≤ p + 1) (hr : Tms w2 0 A Z ks) (ha : ∀ ad a2, R2 = some ad → A = some a2 → ad.block ≠ a2.block) : EAt w w2 L M T ks N Z A (i + 1) R2 p2 c2 ls2 (D ++ lay1 x.v X.2) := by
 have hle := h.le
 refine ⟨hg, ?_, hb, hr, h.rd, ha, by omega⟩
 rw [h.eq, List.append_assoc, ex]
 congr 1
 obtain ⟨hlt, e⟩ := List.getElem?_eq_some_iff.1 hT
 rw [List.drop_eq_getElem_cons hlt, e]
 exact layAll_cons _ _ _
theorem bel1 (w : World) : Below w.heap.size w w.drew := (Below.refl _ _).drew
end Go.Proofs.Ytjbhhccklfddaaa
namespace Go.Proofs.Ytjbhhccklfddaaa
set_option maxRecDepth 20000
open Go.RowKit
theorem Ct.made {w : World} {lo b n2 c2 : Nat} {s : Int} {A2 : Option Addr} {l2 : List Tv} {L : List (Int × Rat)} {k : Rat} {z : Rv} (hg : Gr w lo A2 c2 n2 l2 L) (hz : Rt w lo z k) (hb : b < lo) :
  Ct (put5 w b (.int .i64 s) (.slice A2 n2 c2) (.bool z.s) (.slice z.A z.n z.c) (.slice z.B z.m z.d)) lo ⟨s, A2, n2, c2, z⟩ L k :=
 ⟨hg.own.capLe, ⟨l2, hg.own.tms.but hb (by rw [put5_size]; exact Nat.le_refl _) (put5_but _ _ _ _ _ _ _), RdN.but hb (by rw [put5_size]; exact Nat.le_refl _) (put5_but _ _ _ _ _ _ _) hg.rd.rdn⟩, hz.but hb (by rw [put5_size]; exact Nat.le_refl _) (put5_but _ _ _ _ _ _ _)⟩
structure ScAt (W wr : World) (r : Rat) (L : List (Int × Rat)) (i : Nat) (R : Option Addr) (p e : Nat) (ls : List Tv) (D : List (Int × Rat)) : Prop where
 gr : Gr wr W.heap.size R e p ls D
 eq : scaleL r L = D ++ scaleL r (L.drop i)
 below : Below W.heap.size W wr
 le : p ≤ i
theorem ScAt.step {W wr w2 : World} {r : Rat} {L D : List (Int × Rat)} {i p e p2 c2 : Nat} {R R2 : Option Addr} {ls ls2 : List Tv} {x : Tv} {X : Int × Rat} (h : ScAt W wr r L i R p e ls D) (hT : L[i]? = some X) (ex : x.v = X.1)
  (hg : Gr w2 W.heap.size R2 c2 p2 ls2 (D ++ lay1 x.v (X.2 * r))) (hb : Below W.heap.size W w2) (hp : p2 ≤ p + 1) : ScAt W w2 r L (i + 1) R2 p2 c2 ls2 (D ++ lay1 x.v (X.2 * r)) := by
 have hle := h.le
 refine ⟨hg, ?_, hb, by omega⟩
 rw [h.eq, List.append_assoc, ex]
 congr 1
 obtain ⟨hlt, e⟩ := List.getElem?_eq_some_iff.1 hT
 rw [List.drop_eq_getElem_cons hlt, e]
 rfl
end Go.Proofs.Ytjbhhccklfddaaa
