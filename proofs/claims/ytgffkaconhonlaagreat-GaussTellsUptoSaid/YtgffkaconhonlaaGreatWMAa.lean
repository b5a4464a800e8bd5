/-
  Plain sums, no program: a row of terms (a variable, a rational), sums merged, so often, at values.
  Rows of terms in memory: what they hold, what they read as; a sum's struct.
  Sums in memory: the struct of five cells, what it reads as; rows that are written to.
  A row and one more term, unless that is 0: the program's 'with', the document's 'lay'.
  Rows of terms put together: slices.Grow, slices.Concat.
  One row of two that rise: the program's merge.
  The program's Add and Scale of sums.
-/
import Derived.Test.YtgffkaconhonlaaGreatWMRb
import Derived.Laws.AppendOwn
import Derived.Deep.AppendLies
import Derived.Test.YtgffkaconhonlaaGreatWMRa
import Derived.Test.YtgffkaconhonlaaGreatWMRf
import Derived.Lib.AppendZeros
import Derived.Deep.RegionHeld3
import Derived.Sort.AtCall
namespace Go.Proofs.YtgffkaconhonlaaGreat
set_option maxRecDepth 20000
def lay1 (v : Int) (q : Rat) : List (Int × Rat) := if q = 0 then [] else [(v, q)]
theorem lay1_zero (v : Int) : lay1 v 0 = [] := if_pos rfl
def addL : List (Int × Rat) → List (Int × Rat) → List (Int × Rat)
 | [], [] => []
 | (v, p) :: a, [] => lay1 v p ++ addL a []
 | [], (u, q) :: b => lay1 u q ++ addL [] b
 | (v, p) :: a, (u, q) :: b => if v < u then lay1 v p ++ addL a ((u, q) :: b) else if u < v then lay1 u q ++ addL ((v, p) :: a) b else lay1 v (p + q) ++ addL a b
termination_by a b => a.length + b.length
theorem addL_comm : ∀ (a b : List (Int × Rat)), addL a b = addL b a := by
 have h : ∀ (n : Nat) (a b : List (Int × Rat)), a.length + b.length ≤ n → addL a b = addL b a := by
  intro n
  induction n with
  |
   zero =>
   intro a b hn
   have ha : a = [] := List.eq_nil_of_length_eq_zero (by omega)
   have hb : b = [] := List.eq_nil_of_length_eq_zero (by omega)
   subst ha hb; rfl
  |
   succ n ih =>
   intro a b hn
   match a, b with
   | [], [] => rfl
   | (v, p) :: a, [] => rw [addL, addL, ih a [] (by simp at hn ⊢; omega)]
   | [], (u, q) :: b => rw [addL, addL, ih [] b (by simp at hn ⊢; omega)]
   |
    (v, p) :: a, (u, q) :: b =>
    simp only [List.length_cons] at hn
    rw [addL, addL]
    by_cases h1 : v < u
    · rw [if_pos h1, if_neg (by omega), if_pos h1, ih a _ (by simp; omega)]
    ·
     rw [if_neg h1]
     by_cases h2 : u < v
     · rw [if_pos h2, if_pos h2, ih _ b (by simp; omega)]
     · rw [if_neg h2, if_neg h2, if_neg h1, ih a b (by omega), Rat.add_comm, show v = u by omega]
 exact fun a b => h _ a b (Nat.le_refl _)
def scaleL (k : Rat) : List (Int × Rat) → List (Int × Rat)
 | [] => []
 | (v, q) :: l => lay1 v (q * k) ++ scaleL k l
def NZ (l : List (Int × Rat)) : Prop := ∀ x ∈ l, x.2 ≠ 0
theorem NZ.tail {x : Int × Rat} {l : List (Int × Rat)} (h : NZ (x :: l)) : NZ l := fun y hy => h y (List.mem_cons_of_mem _ hy)
def atL (f : Int → Rat) : List (Int × Rat) → Rat → Rat
 | [], k => k
 | (v, q) :: l, k => atL f l (k + q * f v)
theorem atL_append (f : Int → Rat) : ∀ (l m : List (Int × Rat)) (k : Rat), atL f (l ++ m) k = atL f m (atL f l k)
 | [], _, _ => rfl
 | (v, q) :: l, m, k => by rw [List.cons_append, atL, atL, atL_append f l m]
end Go.Proofs.YtgffkaconhonlaaGreat
namespace Go.Proofs.YtgffkaconhonlaaGreat
set_option maxRecDepth 20000
open Go.RowKit
structure Tv where
 v : Int
 r : Rv
def tcells (t : Tv) : List Value := [.int .i64 t.v, .bool t.r.s, .slice t.r.A t.r.n t.r.c, .slice t.r.B t.r.m t.r.d]
structure At4 (w : World) (b o : Nat) (x : Tv) : Prop where
 h0 : w.cell? ⟨b, o, none⟩ = some (.int .i64 x.v)
 h1 : w.cell? ⟨b, o + 1, none⟩ = some (.bool x.r.s)
 h2 : w.cell? ⟨b, o + 2, none⟩ = some (.slice x.r.A x.r.n x.r.c)
 h3 : w.cell? ⟨b, o + 3, none⟩ = some (.slice x.r.B x.r.m x.r.d)
theorem At4.keep {w w' : World} {b o : Nat} {x : Tv} (h : At4 w b o x) (hk : w'.heap[b]? = w.heap[b]?) : At4 w' b o x := by
 have e : ∀ j, w'.cell? ⟨b, j, none⟩ = w.cell? ⟨b, j, none⟩ := fun j => World.cell?_of_block hk
 exact ⟨(e _).trans h.h0, (e _).trans h.h1, (e _).trans h.h2, (e _).trans h.h3⟩
structure Tms (w : World) (lo : Nat) (A : Option Addr) (n : Nat) (l : List Tv) : Prop where
 len : l.length = n
 mem : 0 < n → ∃ b off, A = some ⟨b, off, none⟩ ∧ lo ≤ b ∧ b < w.heap.size ∧ ∀ i x, l[i]? = some x → At4 w b (off + i * 4) x
theorem Tms.below {w w' : World} {lo n : Nat} {A : Option Addr} {l : List Tv} (h : Tms w lo A n l) (hb : Below w.heap.size w w') : Tms w' lo A n l :=
 ⟨h.len, fun hn => by
  obtain ⟨b, off, e, h0, h1, hc⟩ := h.mem hn
  exact ⟨b, off, e, h0, Nat.lt_of_lt_of_le h1 hb.size, fun i x hx => (hc i x hx).keep (hb.block b h1)⟩⟩
theorem Tms.lower {w : World} {lo lo' n : Nat} {A : Option Addr} {l : List Tv} (h : Tms w lo A n l) (hl : lo' ≤ lo) : Tms w lo' A n l :=
 ⟨h.len, fun hn => by
  obtain ⟨b, off, e, h0, h1, hc⟩ := h.mem hn
  exact ⟨b, off, e, by omega, h1, hc⟩⟩
theorem Tms.nil_ (w : World) (lo : Nat) (A : Option Addr) : Tms w lo A 0 [] := ⟨rfl, fun h => absurd h (by omega)⟩
def Rds (w : World) (p : Nat) : List Tv → List (Int × Rat) → Prop
 | [], [] => True
 | x :: l, y :: L => (x.v = y.1 ∧ Rw w x.r y.2 p) ∧ Rds w p l L
 | _, _ => False
def RdN (w : World) (lo : Nat) : List Tv → List (Int × Rat) → Prop
 | [], [] => True
 | x :: l, y :: L => (x.v = y.1 ∧ Rt w lo x.r y.2) ∧ RdN w lo l L
 | _, _ => False
theorem Rds.below {w w' : World} {p : Nat} (hb : Below w.heap.size w w') : ∀ {l : List Tv} {L : List (Int × Rat)}, Rds w p l L → Rds w' p l L
 | [], [], _ => trivial
 | _ :: _, _ :: _, h => ⟨⟨h.1.1, h.1.2.below hb⟩, Rds.below hb h.2⟩
 | [], _ :: _, h => h.elim
 | _ :: _, [], h => h.elim
theorem RdN.below {w w' : World} {lo : Nat} (hb : Below w.heap.size w w') : ∀ {l : List Tv} {L : List (Int × Rat)}, RdN w lo l L → RdN w' lo l L
 | [], [], _ => trivial
 | _ :: _, _ :: _, h => ⟨⟨h.1.1, h.1.2.below hb⟩, RdN.below hb h.2⟩
 | [], _ :: _, h => h.elim
 | _ :: _, [], h => h.elim
theorem RdN.lower {w : World} {lo lo' : Nat} (hl : lo' ≤ lo) : ∀ {l : List Tv} {L : List (Int × Rat)}, RdN w lo l L → RdN w lo' l L
 | [], [], _ => trivial
 | _ :: _, _ :: _, h => ⟨⟨h.1.1, h.1.2.lower hl⟩, RdN.lower hl h.2⟩
 | [], _ :: _, h => h.elim
 | _ :: _, [], h => h.elim
theorem Rds.len {w : World} {p : Nat} : ∀ {l : List Tv} {L : List (Int × Rat)}, Rds w p l L → l.length = L.length
 | [], [], _ => rfl
 | _ :: _, _ :: _, h => by rw [List.length_cons, List.length_cons, h.2.len]
 | [], _ :: _, h => h.elim
 | _ :: _, [], h => h.elim
theorem RdN.len {w : World} {lo : Nat} : ∀ {l : List Tv} {L : List (Int × Rat)}, RdN w lo l L → l.length = L.length
 | [], [], _ => rfl
 | _ :: _, _ :: _, h => by rw [List.length_cons, List.length_cons, h.2.len]
 | [], _ :: _, h => h.elim
 | _ :: _, [], h => h.elim
theorem RdN.append {w : World} {lo : Nat} : ∀ {l : List Tv} {L : List (Int × Rat)} {m : List Tv} {M : List (Int × Rat)}, RdN w lo l L → RdN w lo m M → RdN w lo (l ++ m) (L ++ M)
 | [], [], _, _, _, h2 => h2
 | _ :: _, _ :: _, _, _, h, h2 => ⟨h.1, RdN.append h.2 h2⟩
 | [], _ :: _, _, _, h, _ => h.elim
 | _ :: _, [], _, _, h, _ => h.elim
theorem Rds.get {w : World} {p : Nat} : ∀ {l : List Tv} {L : List (Int × Rat)} (i : Nat), Rds w p l L → i < l.length → ∃ x y, l[i]? = some x ∧ L[i]? = some y ∧ x.v = y.1 ∧ Rw w x.r y.2 p
 | [], _, _, _, h => absurd h (by simp)
 | _ :: _, [], _, h, _ => h.elim
 | x :: _, y :: _, 0, h, _ => ⟨x, y, rfl, rfl, h.1.1, h.1.2⟩
 |
  _ :: l, _ :: L, i + 1, h, hi => by
  obtain ⟨x, y, h1, h2, h3⟩ := Rds.get i h.2 (by simp at hi; omega)
  exact ⟨x, y, by simpa using h1, by simpa using h2, h3⟩
def SzL (p : Nat) (L : List (Int × Rat)) : Prop := ∀ y ∈ L, Sz y.2 p
theorem RdN.rds {w : World} {lo p : Nat} : ∀ {l : List Tv} {L : List (Int × Rat)}, RdN w lo l L → SzL p L → Rds w p l L
 | [], [], _, _ => trivial
 | _ :: _, y :: _, h, hz => ⟨⟨h.1.1, h.1.2.rw (hz y List.mem_cons_self)⟩, RdN.rds h.2 fun z hz' => hz z (List.mem_cons_of_mem _ hz')⟩
 | [], _ :: _, h, _ => h.elim
 | _ :: _, [], h, _ => h.elim
theorem Rds.sz {w : World} {p : Nat} (hp : 0 < p) : ∀ {l : List Tv} {L : List (Int × Rat)}, Rds w p l L → SzL p L
 | [], [], _ => fun y hy => by cases hy
 |
  _ :: _, y :: L, h => fun z hz => by
  rcases List.mem_cons.1 hz with rfl | hz
  · exact h.1.2.sz hp
  · exact h.2.sz hp z hz
 | [], _ :: _, h => h.elim
 | _ :: _, [], h => h.elim
theorem Tryz.info47 : (Tryz.prog.info? 47).map (fun i => (i.size, i.bytes)) = some (4, 64) := by kernel_rfl
theorem Tryz.zero47 : (Tryz.prog.info? 47).bind (·.zero) = some (.agg #[.int .i64 0, .bool false, .slice none 0 0, .slice none 0 0]) := by kernel_rfl
structure OwnT (w : World) (lo : Nat) (A : Option Addr) (c n : Nat) (l : List Tv) : Prop where
 len : l.length = n
 own : w.ownsRow lo 47 4 (.slice A n c) n (l.flatMap tcells)
theorem flat_len (l : List Tv) : (l.flatMap tcells).length = l.length * 4 := by
 induction l with
 | nil => rfl
 | cons x l ih => rw [List.flatMap_cons, List.length_append, ih, List.length_cons]; show 4 + _ = _; omega
theorem flat_get : ∀ (l : List Tv) (i j : Nat) (x : Tv), l[i]? = some x → j < 4 → (l.flatMap tcells)[i * 4 + j]? = (tcells x)[j]?
 | [], _, _, _, h, _ => by simp at h
 |
  y :: l, 0, j, x, h, hj => by
  simp at h
  subst h
  rw [List.flatMap_cons, Nat.zero_mul, Nat.zero_add, List.getElem?_append_left (by show j < 4; exact hj)]
 |
  y :: l, i + 1, j, x, h, hj => by
  rw [List.flatMap_cons, List.getElem?_append_right (by show 4 ≤ _; omega)]
  rw [show (i + 1) * 4 + j - (tcells y).length = i * 4 + j by show _ - 4 = _; omega]
  exact flat_get l i j x (by simpa using h) hj
theorem OwnT.tms {w : World} {lo c n : Nat} {A : Option Addr} {l : List Tv} (h : OwnT w lo A c n l) : Tms w lo A n l := by
 refine ⟨h.len, fun hn => ?_⟩
 rcases h.own.2 with ⟨hv, h0⟩ | ⟨g, cap, cur, hv, hb, hh, hc, hm, hs, ht⟩
 · omega
 ·
  injection hv with hA _ _
  refine ⟨g, 0, hA, hb, ?_, fun i x hx => ?_⟩
  ·
   rcases Nat.lt_or_ge g w.heap.size with h1 | h1
   · exact h1
   ·
    have : w.heap[g]? = none := Array.getElem?_eq_none h1
    rw [this] at hh; cases hh
  ·
   have hi : i < n := by rw [← h.len]; exact (List.getElem?_eq_some_iff.1 hx).1
   have hg : ∀ j, j < 4 → w.cell? ⟨g, i * 4 + j, none⟩ = (tcells x)[j]? := fun j hj => by
    have e1 : w.cell? ⟨g, i * 4 + j, none⟩ = cur[i * 4 + j]? := by simp [World.cell?, hh]
    rw [e1, ← flat_get l i j x hx hj, ← ht, List.getElem?_take, if_pos (by omega), Array.getElem?_toList]
   have h0 := hg 0 (by omega)
   have h1 := hg 1 (by omega)
   have h2 := hg 2 (by omega)
   have h3 := hg 3 (by omega)
   rw [Nat.zero_add]
   exact ⟨h0, h1, h2, h3⟩
theorem OwnT.nil_ (w : World) (lo : Nat) : OwnT w lo none 0 0 [] := ⟨rfl, World.ownsRow_nil w lo _ 4⟩
theorem OwnT.grown {w w' : World} {lo c n : Nat} {A : Option Addr} {l : List Tv} (h : OwnT w lo A c n l) {row : Option Nat} (hg : w.grownBy w' row) (hne : ∀ ad, A = some ad → some ad.block ≠ row) : OwnT w' lo A c n l := by
 refine ⟨h.len, h.own.kept hg ?_⟩
 cases A with
 | none => left; rfl
 | some ad => right; exact hne ad rfl
theorem OwnT.below {w w' : World} {lo c n : Nat} {A : Option Addr} {l : List Tv} (h : OwnT w lo A c n l) (hb : Below w.heap.size w w') : OwnT w' lo A c n l := h.grown (grown_of_below hb) (fun _ _ => by simp)
theorem OwnT.lower {w : World} {lo lo' c n : Nat} {A : Option Addr} {l : List Tv} (h : OwnT w lo A c n l) (hl : lo' ≤ lo) : OwnT w lo' A c n l := by
 refine ⟨h.len, h.own.1, ?_⟩
 rcases h.own.2 with hn | ⟨g, cap, cur, hv, hb, rest⟩
 · exact .inl hn
 · exact .inr ⟨g, cap, cur, hv, by omega, rest⟩
theorem OwnT.capLe {w : World} {lo c n : Nat} {A : Option Addr} {l : List Tv} (h : OwnT w lo A c n l) : n ≤ c := by
 rcases h.own.2 with ⟨hv, hn⟩ | ⟨g, cap, cur, hv, _, _, hc, _⟩
 · omega
 · injection hv with _ _ hc2; omega
theorem OwnT.blockLt {w : World} {lo n c : Nat} {A : Option Addr} {l : List Tv} (h : OwnT w lo A c n l) : ∀ ad, A = some ad → lo ≤ ad.block ∧ ad.block < w.heap.size := by
 intro ad e
 subst e
 exact h.own.lt ad.block rfl
def Apt (A : Option Addr) (v : Rv) : Prop := ∀ g, A.map (·.block) = some g → (∀ a, v.A = some a → a.block ≠ g) ∧ (∀ a, v.B = some a → a.block ≠ g)
theorem Row.grownR {w w' : World} {lo n : Nat} {R : Option Addr} {l : List Nat} {row : Option Nat} (h : Row w lo R n l) (hg : w.grownBy w' row) (hr : ∀ a, R = some a → some a.block ≠ row) : Row w' lo R n l := by
 refine ⟨h.len, h.l32, fun hn => ?_⟩
 obtain ⟨b, off, e, h0, h1, hc⟩ := h.mem hn
 exact ⟨b, off, e, h0, Nat.lt_of_lt_of_le h1 hg.size, fun j hj => (World.cell?_of_block (hg.block b h1 (hr _ e))).trans (hc j hj)⟩
theorem Rt.grown {w w' : World} {lo : Nat} {A : Option Addr} {v : Rv} {r : Rat} (h : Rt w lo v r) (ha : Apt A v) (hg : w.grownBy w' (A.map (·.block))) : Rt w' lo v r := by
 have h1 : ∀ a, v.A = some a → some a.block ≠ A.map (·.block) := fun a e e2 => (ha _ e2.symm).1 a e rfl
 have h2 : ∀ a, v.B = some a → some a.block ≠ A.map (·.block) := fun a e e2 => (ha _ e2.symm).2 a e rfl
 exact ⟨h.1, h.2, h.3, h.4.grownR hg h1, h.5, h.6, h.7.grownR hg h2⟩
theorem Rt.spot {w : World} {lo : Nat} {v : Rv} {r : Rat} (h : Rt w lo v r) (h0 : r ≠ 0) : (∃ b off, v.A = some ⟨b, off, none⟩ ∧ lo ≤ b ∧ b < w.heap.size) ∧ (∃ b off, v.B = some ⟨b, off, none⟩ ∧ lo ≤ b ∧ b < w.heap.size) := by
 have pos : ∀ x : Nat, x ≠ 0 → 0 < (lim x).length := fun x hx => by
  rcases Nat.eq_zero_or_pos (lim x).length with e | e
  ·
   have := List.eq_nil_of_length_eq_zero e
   have h2 := val_lim x
   rw [this] at h2
   exact absurd h2.symm hx
  · exact e
 obtain ⟨b, off, e, h1, h2, _⟩ := h.num.mem (by rw [h.numLen]; exact pos _ (fun e => num_ne h0 (Int.natAbs_eq_zero.1 e)))
 obtain ⟨b', off', e', h1', h2', _⟩ := h.den.mem (by rw [h.denLen]; exact pos _ r.den_nz)
 exact ⟨⟨b, off, e, h1, h2⟩, ⟨b', off', e', h1', h2'⟩⟩
theorem Rt.apt {w : World} {lo : Nat} {v : Rv} {r : Rat} {A : Option Addr} (h : Rt w lo v r) (h0 : r ≠ 0) (hA : ∀ ad, A = some ad → ad.block < lo) : Apt A v := by
 intro g hg
 obtain ⟨⟨b, off, e, h1, h2⟩, ⟨b', off', e', h1', h2'⟩⟩ := h.spot h0
 cases A with
 | none => cases hg
 |
  some ad =>
  have := hA ad rfl
  injection hg with hg
  simp at hg
  refine ⟨fun a ha => ?_, fun a ha => ?_⟩
  · rw [e] at ha; injection ha with ha; subst ha; show b ≠ g; omega
  · rw [e'] at ha; injection ha with ha; subst ha; show b' ≠ g; omega
theorem Rt.apt_new {w : World} {lo H : Nat} {v : Rv} {r : Rat} {A : Option Addr} (h : Rt w lo v r) (h0 : r ≠ 0) (hH : w.heap.size ≤ H) (hA : A.map (·.block) = some H) : Apt A v := by
 intro g hg
 rw [hA] at hg
 injection hg with hg
 obtain ⟨⟨b, off, e, h1, h2⟩, ⟨b', off', e', h1', h2'⟩⟩ := h.spot h0
 refine ⟨fun a ha => ?_, fun a ha => ?_⟩
 · rw [e] at ha; injection ha with ha; subst ha; show b ≠ g; omega
 · rw [e'] at ha; injection ha with ha; subst ha; show b' ≠ g; omega
def RdO (w : World) (lo : Nat) (A : Option Addr) : List Tv → List (Int × Rat) → Prop
 | [], [] => True
 | x :: l, y :: L => (x.v = y.1 ∧ y.2 ≠ 0 ∧ Rt w lo x.r y.2 ∧ Apt A x.r) ∧ RdO w lo A l L
 | _, _ => False
theorem RdO.rdn {w : World} {lo : Nat} {A : Option Addr} : ∀ {l : List Tv} {L : List (Int × Rat)}, RdO w lo A l L → RdN w lo l L
 | [], [], _ => trivial
 | _ :: _, _ :: _, h => ⟨⟨h.1.1, h.1.2.2.1⟩, RdO.rdn h.2⟩
 | [], _ :: _, h => h.elim
 | _ :: _, [], h => h.elim
theorem RdO.below {w w' : World} {lo : Nat} {A : Option Addr} (hb : Below w.heap.size w w') : ∀ {l : List Tv} {L : List (Int × Rat)}, RdO w lo A l L → RdO w' lo A l L
 | [], [], _ => trivial
 | _ :: _, _ :: _, h => ⟨⟨h.1.1, h.1.2.1, h.1.2.2.1.below hb, h.1.2.2.2⟩, RdO.below hb h.2⟩
 | [], _ :: _, h => h.elim
 | _ :: _, [], h => h.elim
theorem RdO.len {w : World} {lo : Nat} {A : Option Addr} {l : List Tv} {L : List (Int × Rat)} (h : RdO w lo A l L) : l.length = L.length := h.rdn.len
theorem RdO.append {w : World} {lo : Nat} {A : Option Addr} : ∀ {l : List Tv} {L : List (Int × Rat)} {m : List Tv} {M : List (Int × Rat)}, RdO w lo A l L → RdO w lo A m M → RdO w lo A (l ++ m) (L ++ M)
 | [], [], _, _, _, h2 => h2
 | _ :: _, _ :: _, _, _, h, h2 => ⟨h.1, RdO.append h.2 h2⟩
 | [], _ :: _, _, _, h, _ => h.elim
 | _ :: _, [], _, _, h, _ => h.elim
theorem RdO.moved {w w' : World} {lo : Nat} {A A2 : Option Addr} (hg : w.grownBy w' (A.map (·.block))) (h2 : A2.map (·.block) = A.map (·.block) ∨ A2.map (·.block) = some w.heap.size) : ∀ {l : List Tv} {L : List (Int × Rat)}, RdO w lo A l L → RdO w' lo A2 l L
 | [], [], _ => trivial
 | _
   :: _, _ :: _, h => ⟨⟨h.1.1, h.1.2.1, h.1.2.2.1.grown h.1.2.2.2 hg, by
   rcases h2 with h2 | h2
   · intro g e; exact h.1.2.2.2 g (h2 ▸ e)
   · exact h.1.2.2.1.apt_new h.1.2.1 (Nat.le_refl _) h2⟩, RdO.moved hg h2 h.2⟩
 | [], _ :: _, h => h.elim
 | _ :: _, [], h => h.elim
structure Gr (w : World) (lo : Nat) (A : Option Addr) (c n : Nat) (l : List Tv) (L : List (Int × Rat)) : Prop where
 own : OwnT w lo A c n l
 rd : RdO w lo A l L
theorem Gr.below {w w' : World} {lo c n : Nat} {A : Option Addr} {l : List Tv} {L : List (Int × Rat)} (h : Gr w lo A c n l L) (hb : Below w.heap.size w w') : Gr w' lo A c n l L := ⟨h.own.below hb, h.rd.below hb⟩
theorem Gr.nil_ (w : World) (lo : Nat) : Gr w lo none 0 0 [] [] := ⟨OwnT.nil_ w lo, trivial⟩
theorem Gr.lt {w : World} {lo c n : Nat} {A : Option Addr} {l : List Tv} {L : List (Int × Rat)} (h : Gr w lo A c n l L) : ∀ ad, A = some ad → lo ≤ ad.block ∧ ad.block < w.heap.size := h.own.blockLt
theorem grown_row {w w' : World} (hb : Below w.heap.size w w') (row : Option Nat) : w.grownBy w' row := ⟨hb.os, hb.tape, hb.output, hb.size, fun k hk _ => hb.block k hk⟩
theorem grown_after {w w1 w2 : World} {row : Option Nat} (hb : Below w.heap.size w w1) (hg : w1.grownBy w2 row) : w.grownBy w2 row :=
 ⟨hg.os.trans hb.os, hg.tape.trans hb.tape, hg.output.trans hb.output, Nat.le_trans hb.size hg.size, fun k hk hr => (hg.block k (Nat.lt_of_lt_of_le hk hb.size) hr).trans (hb.block k hk)⟩
def Went (w : World) (A A2 : Option Addr) : Prop := A2.map (·.block) = A.map (·.block) ∨ ∀ ad, A2 = some ad → w.heap.size ≤ ad.block
theorem wpt_append {w : World} {ops : Array Oper} {rest : List Oper} {o : Oper} {a : Act} {Q : Exit → Act → World → Prop} (hgd : o.guard = none) (s x : Operand)
  (ho : o.op = .call { callee := .builtin .append, args := #[s, x], argTypes := #[23, 23] })
  {A : Option Addr} {b lo n c c' : Nat} {l : List Tv} {L : List (Int × Rat)} {t : Tv} {q : Rat} (hs : a.eval s = .slice A n c) (hx : a.eval x = .slice (some ⟨b, 0, none⟩) 1 c')
  (h1 : Gr w lo A c n l L) (h2 : At4 w b 0 t) (hq : Rt w lo t.r q) (hq0 : q ≠ 0) (hapt : Apt A t.r) (hm : n + 1 ≤ 2000000) (hlo : lo ≤ w.heap.size)
  (h : ∀ A2 c2 w', Gr w' lo A2 c2 (n + 1) (l ++ [t]) (L ++ [(t.v, q)]) → w.grownBy w' (A.map (·.block)) → (A2.map (·.block) = A.map (·.block) ∨ A2.map (·.block) = some w.heap.size) → wpList Tryz.prog ops Q rest (a.put o.dst (.slice A2 (n + 1) c2)) w') :
  wpList Tryz.prog ops Q (o :: rest) a w := by
 obtain ⟨i0, hi, hsz⟩ := Option.map_eq_some_iff.1 Tryz.info47
 have hz : i0.zero = some (.agg #[.int .i64 0, .bool false, .slice none 0 0, .slice none 0 0]) := by
  have := Tryz.zero47
  rw [hi] at this
  exact this
 injection hsz with hsz1 hsz2
 have eb : (Value.slice A n c).ownBlock = A.map (·.block) := by cases A <;> rfl
 refine wpList_append_lies (w := w) hgd s x _ ho lo 47 i0 _ 4 64 Tryz.underlying23 hi hz hsz1 hsz2 rfl (by omega) _ n _ hs h1.own.own ⟨b, 0, none⟩ 1 c' (tcells t) hx rfl ?_ ?_ (by omega) (by unfold maxLen; omega) (by omega) hlo w.heap.size rfl ?_
 ·
  intro j u hu
  have hj : j < 4 := (List.getElem?_eq_some_iff.1 hu).1
  have : j = 0 ∨ j = 1 ∨ j = 2 ∨ j = 3 := by omega
  rcases this with rfl | rfl | rfl | rfl
  · injection hu with hu; subst hu; exact h2.h0
  · injection hu with hu; subst hu; exact h2.h1
  · injection hu with hu; subst hu; exact h2.h2
  · injection hu with hu; subst hu; exact h2.h3
 ·
  intro u hu
  simp only [tcells, List.mem_cons, List.not_mem_nil, or_false] at hu
  rcases hu with rfl | rfl | rfl | rfl <;> rfl
 ·
  intro g cap w' ho' hg' hwhere _
  rw [eb] at hg' hwhere
  have e : l.flatMap tcells ++ tcells t = (l ++ [t]).flatMap tcells := by rw [List.flatMap_append, List.flatMap_singleton]
  rw [e] at ho'
  have hw2 : (some (⟨g, 0, none⟩ : Addr)).map (·.block) = A.map (·.block) ∨ (some (⟨g, 0, none⟩ : Addr)).map (·.block) = some w.heap.size := by
   rcases hwhere with h | h
   · exact .inl h.symm
   · exact .inr (by rw [h]; rfl)
  refine h _ _ w' ⟨⟨by rw [List.length_append, h1.own.len]; rfl, ho'⟩, (h1.rd.append (m := [t]) (M := [(t.v, q)]) ⟨⟨rfl, hq0, hq, hapt⟩, trivial⟩).moved hg' hw2⟩ hg' hw2
end Go.Proofs.YtgffkaconhonlaaGreat
namespace Go.Proofs.YtgffkaconhonlaaGreat
set_option maxRecDepth 20000
open Go.RowKit
structure Cv where
 s : Int
 A : Option Addr
 n : Nat
 c : Nat
 K : Rv
def C5 (w : World) (b : Nat) (x0 x1 x2 x3 x4 : Value) : Prop := w.heap[b]? = some (.cells #[x0, x1, x2, x3, x4] 28 (0, 0))
section
variable {w w' : World} {b : Nat} {x0 x1 x2 x3 x4 : Value}
theorem C5.lt (h : C5 w b x0 x1 x2 x3 x4) : b < w.heap.size := by
 rcases Nat.lt_or_ge b w.heap.size with h1 | h1
 · exact h1
 ·
  have : w.heap[b]? = none := Array.getElem?_eq_none h1
  rw [C5, this] at h; cases h
theorem C5.below (h : C5 w b x0 x1 x2 x3 x4) (hb : Below w.heap.size w w') : C5 w' b x0 x1 x2 x3 x4 := (hb.block b h.lt).trans h
theorem C5.at {B : Nat} (h : C5 w b x0 x1 x2 x3 x4) (hb : Below B w w') (hB : b < B) : C5 w' b x0 x1 x2 x3 x4 := (hb.block b hB).trans h
theorem C5.new (w : World) (x0 x1 x2 x3 x4 : Value) : C5 (w.alloc (.cells #[x0, x1, x2, x3, x4] 28)) w.heap.size x0 x1 x2 x3 x4 := heap_alloc_new w _
theorem C5.alloc (h : C5 w b x0 x1 x2 x3 x4) (o : Obj) : C5 (w.alloc o) b x0 x1 x2 x3 x4 := h.below ((Below.refl _ _).alloc (Nat.le_refl _) o)
theorem C5.drew (h : C5 w b x0 x1 x2 x3 x4) : C5 w.drew b x0 x1 x2 x3 x4 := h
theorem C5.facts (h : C5 w b x0 x1 x2 x3 x4) :
  w.cell? ⟨b, 0, none⟩ = some x0 ∧ w.cell? ⟨b, 1, none⟩ = some x1 ∧ w.cell? ⟨b, 2, none⟩ = some x2 ∧ w.cell? ⟨b, 3, none⟩ = some x3 ∧ w.cell? ⟨b, 4, none⟩ = some x4 := by
 have h' : w.heap[b]? = some (.cells #[x0, x1, x2, x3, x4] 28 (0, 0)) := h
 refine ⟨?_, ?_, ?_, ?_, ?_⟩ <;> simp [World.cell?, h']
theorem C5.thaw (h : C5 w b x0 x1 x2 x3 x4) :
  w.frozen? ⟨b, 0, none⟩ = false ∧ w.frozen? ⟨b, 1, none⟩ = false ∧ w.frozen? ⟨b, 2, none⟩ = false ∧ w.frozen? ⟨b, 3, none⟩ = false ∧ w.frozen? ⟨b, 4, none⟩ = false := by
 have h' : w.heap[b]? = some (.cells #[x0, x1, x2, x3, x4] 28 (0, 0)) := h
 refine ⟨?_, ?_, ?_, ?_, ?_⟩ <;> simp [World.frozen?, h']
theorem C5.set0 (h : C5 w b x0 x1 x2 x3 x4) (x : Value) : C5 (w.setCell ⟨b, 0, none⟩ x) b x x1 x2 x3 x4 := by
 have h' : w.heap[b]? = some (.cells #[x0, x1, x2, x3, x4] 28 (0, 0)) := h
 show (w.heap.modify b _)[b]? = _
 rw [Array.getElem?_modify, if_pos rfl, h']; rfl
theorem C5.set1 (h : C5 w b x0 x1 x2 x3 x4) (x : Value) : C5 (w.setCell ⟨b, 1, none⟩ x) b x0 x x2 x3 x4 := by
 have h' : w.heap[b]? = some (.cells #[x0, x1, x2, x3, x4] 28 (0, 0)) := h
 show (w.heap.modify b _)[b]? = _
 rw [Array.getElem?_modify, if_pos rfl, h']; rfl
theorem C5.set2 (h : C5 w b x0 x1 x2 x3 x4) (x : Value) : C5 (w.setCell ⟨b, 2, none⟩ x) b x0 x1 x x3 x4 := by
 have h' : w.heap[b]? = some (.cells #[x0, x1, x2, x3, x4] 28 (0, 0)) := h
 show (w.heap.modify b _)[b]? = _
 rw [Array.getElem?_modify, if_pos rfl, h']; rfl
theorem C5.set3 (h : C5 w b x0 x1 x2 x3 x4) (x : Value) : C5 (w.setCell ⟨b, 3, none⟩ x) b x0 x1 x2 x x4 := by
 have h' : w.heap[b]? = some (.cells #[x0, x1, x2, x3, x4] 28 (0, 0)) := h
 show (w.heap.modify b _)[b]? = _
 rw [Array.getElem?_modify, if_pos rfl, h']; rfl
theorem C5.set4 (h : C5 w b x0 x1 x2 x3 x4) (x : Value) : C5 (w.setCell ⟨b, 4, none⟩ x) b x0 x1 x2 x3 x := by
 have h' : w.heap[b]? = some (.cells #[x0, x1, x2, x3, x4] 28 (0, 0)) := h
 show (w.heap.modify b _)[b]? = _
 rw [Array.getElem?_modify, if_pos rfl, h']; rfl
end
abbrev put5 (w : World) (b : Nat) (x0 x1 x2 x3 x4 : Value) : World := ((((w.setCell ⟨b, 0, none⟩ x0).setCell ⟨b, 1, none⟩ x1).setCell ⟨b, 2, none⟩ x2).setCell ⟨b, 3, none⟩ x3).setCell ⟨b, 4, none⟩ x4
theorem C5.put {w : World} {b : Nat} {p0 p1 p2 p3 p4 : Value} (h : C5 w b p0 p1 p2 p3 p4) (x0 x1 x2 x3 x4 : Value) : C5 (put5 w b x0 x1 x2 x3 x4) b x0 x1 x2 x3 x4 := ((((h.set0 x0).set1 x1).set2 x2).set3 x3).set4 x4
theorem put5_below {w : World} {b B : Nat} (hB : B ≤ b) (x0 x1 x2 x3 x4 : Value) : Below B w (put5 w b x0 x1 x2 x3 x4) :=
 (((((Below.refl B w).setCell hB x0).setCell hB x1).setCell hB x2).setCell hB x3).setCell hB x4
theorem ret5c {fn : Func} {t : Tmp} {R : Ending → World → Prop} {a : Act} {w : World} {b : Nat} {x0 x1 x2 x3 x4 : Value} (hres : fn.results = #[.cell t 28]) (ht : a.tmps.getD t undef = .pointer (some ⟨b, 0, none⟩)) (hd : a.defers = [])
  (hk : C5 w b x0 x1 x2 x3 x4) (hR : R (.returned (.agg #[x0, x1, x2, x3, x4])) w) : bodyPost Tryz.prog fn R .ret a w := by
 obtain ⟨q0, q1, q2, q3, q4⟩ := hk.facts
 have ht' : (a.tmps[t]?.getD undef) = .pointer (some ⟨b, 0, none⟩) := by simpa using ht
 refine bodyPost_ret (v := .agg #[x0, x1, x2, x3, x4]) ?_ hd hR
 simp [results, hres, go_sem, ht', q0, q1, q2, q3, q4]
theorem ret5 {fn : Func} {t : Tmp} {R : Ending → World → Prop} {a : Act} {w : World} {b : Nat} {p0 p1 p2 p3 p4 x0 x1 x2 x3 x4 : Value} (hres : fn.results = #[.cell t 28]) (ht : a.tmps.getD t undef = .pointer (some ⟨b, 0, none⟩)) (hd : a.defers = [])
  (hk : C5 w b p0 p1 p2 p3 p4) (hR : R (.returned (.agg #[x0, x1, x2, x3, x4])) (put5 w b x0 x1 x2 x3 x4)) : bodyPost Tryz.prog fn R .ret a (put5 w b x0 x1 x2 x3 x4) := ret5c hres ht hd (hk.put x0 x1 x2 x3 x4) hR
theorem Row.but {w w' : World} {lo n b : Nat} {A : Option Addr} {l : List Nat} (h : Row w lo A n l) (hb : b < lo) (hs : w.heap.size ≤ w'.heap.size) (hk : ∀ g, g < w.heap.size → g ≠ b → w'.heap[g]? = w.heap[g]?) : Row w' lo A n l := by
 refine ⟨h.len, h.l32, fun hn => ?_⟩
 obtain ⟨b', off, e, h0, h1, hc⟩ := h.mem hn
 exact ⟨b', off, e, h0, Nat.lt_of_lt_of_le h1 hs, fun j hj => (World.cell?_of_block (hk b' h1 (by omega))).trans (hc j hj)⟩
theorem Rt.but {w w' : World} {lo b : Nat} {v : Rv} {r : Rat} (h : Rt w lo v r) (hb : b < lo) (hs : w.heap.size ≤ w'.heap.size) (hk : ∀ g, g < w.heap.size → g ≠ b → w'.heap[g]? = w.heap[g]?) : Rt w' lo v r :=
 ⟨h.1, h.2, h.3, h.4.but hb hs hk, h.5, h.6, h.7.but hb hs hk⟩
theorem Tms.but {w w' : World} {lo n b : Nat} {A : Option Addr} {l : List Tv} (h : Tms w lo A n l) (hb : b < lo) (hs : w.heap.size ≤ w'.heap.size) (hk : ∀ g, g < w.heap.size → g ≠ b → w'.heap[g]? = w.heap[g]?) : Tms w' lo A n l :=
 ⟨h.len, fun hn => by
  obtain ⟨b', off, e, h0, h1, hc⟩ := h.mem hn
  exact ⟨b', off, e, h0, Nat.lt_of_lt_of_le h1 hs, fun i x hx => (hc i x hx).keep (hk b' h1 (by omega))⟩⟩
theorem RdN.but {w w' : World} {lo b : Nat} (hb : b < lo) (hs : w.heap.size ≤ w'.heap.size) (hk : ∀ g, g < w.heap.size → g ≠ b → w'.heap[g]? = w.heap[g]?) : ∀ {l : List Tv} {L : List (Int × Rat)}, RdN w lo l L → RdN w' lo l L
 | [], [], _ => trivial
 | _ :: _, _ :: _, h => ⟨⟨h.1.1, h.1.2.but hb hs hk⟩, RdN.but hb hs hk h.2⟩
 | [], _ :: _, h => h.elim
 | _ :: _, [], h => h.elim
theorem put5_but (w : World) (b : Nat) (x0 x1 x2 x3 x4 : Value) : ∀ g, g < w.heap.size → g ≠ b → (put5 w b x0 x1 x2 x3 x4).heap[g]? = w.heap[g]? := by
 intro g _ hg
 have h1 : ∀ (w : World) (j : Nat) (x : Value), (w.setCell ⟨b, j, none⟩ x).heap[g]? = w.heap[g]? := fun w j x => by
  show (w.heap.modify b _)[g]? = _
  rw [Array.getElem?_modify, if_neg (fun e => hg e.symm)]
 rw [h1, h1, h1, h1, h1]
theorem put5_size (w : World) (b : Nat) (x0 x1 x2 x3 x4 : Value) : (put5 w b x0 x1 x2 x3 x4).heap.size = w.heap.size := by simp [World.setCell]
structure Cw (w : World) (v : Cv) (L : List (Int × Rat)) (k : Rat) (p : Nat) : Prop where
 cap : v.n ≤ v.c
 rows : ∃ l, Tms w 0 v.A v.n l ∧ Rds w p l L
 num : Rw w v.K k p
structure Ct (w : World) (lo : Nat) (v : Cv) (L : List (Int × Rat)) (k : Rat) : Prop where
 cap : v.n ≤ v.c
 rows : ∃ l, Tms w lo v.A v.n l ∧ RdN w lo l L
 num : Rt w lo v.K k
theorem Cw.below {w w' : World} {v : Cv} {L : List (Int × Rat)} {k : Rat} {p : Nat} (h : Cw w v L k p) (hb : Below w.heap.size w w') : Cw w' v L k p := by
 obtain ⟨h1, ⟨l, h2, h3⟩, h4⟩ := h
 exact ⟨h1, ⟨l, h2.below hb, h3.below hb⟩, h4.below hb⟩
theorem Ct.below {w w' : World} {lo : Nat} {v : Cv} {L : List (Int × Rat)} {k : Rat} (h : Ct w lo v L k) (hb : Below w.heap.size w w') : Ct w' lo v L k := by
 obtain ⟨h1, ⟨l, h2, h3⟩, h4⟩ := h
 exact ⟨h1, ⟨l, h2.below hb, h3.below hb⟩, h4.below hb⟩
theorem Ct.lower {w : World} {lo lo' : Nat} {v : Cv} {L : List (Int × Rat)} {k : Rat} (h : Ct w lo v L k) (hl : lo' ≤ lo) : Ct w lo' v L k := by
 obtain ⟨h1, ⟨l, h2, h3⟩, h4⟩ := h
 exact ⟨h1, ⟨l, h2.lower hl, h3.lower hl⟩, h4.lower hl⟩
theorem Ct.cw {w : World} {lo p : Nat} {v : Cv} {L : List (Int × Rat)} {k : Rat} (h : Ct w lo v L k) (hL : SzL p L) (hk : Sz k p) : Cw w v L k p := by
 obtain ⟨h1, ⟨l, h2, h3⟩, h4⟩ := h
 exact ⟨h1, ⟨l, h2.lower (Nat.zero_le _), h3.rds hL⟩, h4.rw hk⟩
theorem Rds.more {w : World} {p q : Nat} (hq : p ≤ q) : ∀ {l : List Tv} {L : List (Int × Rat)}, Rds w p l L → Rds w q l L
 | [], [], _ => trivial
 | _ :: _, _ :: _, h => ⟨⟨h.1.1, h.1.2.more hq⟩, Rds.more hq h.2⟩
 | [], _ :: _, h => h.elim
 | _ :: _, [], h => h.elim
theorem Cw.more {w : World} {v : Cv} {L : List (Int × Rat)} {k : Rat} {p q : Nat} (h : Cw w v L k p) (hq : p ≤ q) : Cw w v L k q := by
 obtain ⟨h1, ⟨l, h2, h3⟩, h4⟩ := h
 exact ⟨h1, ⟨l, h2, h3.more hq⟩, h4.more hq⟩
theorem SzL.more {p q : Nat} {L : List (Int × Rat)} (h : SzL p L) (hq : p ≤ q) : SzL q L := fun y hy => (h y hy).more hq
theorem SzL.append {p : Nat} {L M : List (Int × Rat)} (h : SzL p L) (h' : SzL p M) : SzL p (L ++ M) := fun y hy => by
 rcases List.mem_append.1 hy with hy | hy
 · exact h y hy
 · exact h' y hy
theorem SzL.lay {p : Nat} {v : Int} {q : Rat} (h : Sz q p) : SzL p (lay1 v q) := by
 unfold lay1
 split
 · exact fun y hy => by cases hy
 ·
  exact fun y hy => by
   rcases List.mem_cons.1 hy with rfl | hy
   · exact h
   · cases hy
theorem SzL.add {p q : Nat} : ∀ (n : Nat) (a b : List (Int × Rat)), a.length + b.length ≤ n → SzL p a → SzL q b → SzL (p + q + 1) (addL a b) := by
 intro n
 induction n with
 |
  zero =>
  intro a b hn _ _
  have ha : a = [] := List.eq_nil_of_length_eq_zero (by omega)
  have hb : b = [] := List.eq_nil_of_length_eq_zero (by omega)
  subst ha hb; rw [addL]; exact fun y hy => by cases hy
 |
  succ n ih =>
  intro a b hn ha hb
  match a, b with
  | [], [] => rw [addL]; exact fun y hy => by cases hy
  |
   (v, x) :: a, [] =>
   rw [addL]
   exact (SzL.lay ((ha _ List.mem_cons_self).more (by omega))).append (ih a [] (by simp at hn ⊢; omega) (fun y hy => ha y (List.mem_cons_of_mem _ hy)) hb)
  |
   [], (u, z) :: b =>
   rw [addL]
   exact (SzL.lay ((hb _ List.mem_cons_self).more (by omega))).append (ih [] b (by simp at hn ⊢; omega) ha (fun y hy => hb y (List.mem_cons_of_mem _ hy)))
  |
   (v, x) :: a, (u, z) :: b =>
   simp only [List.length_cons] at hn
   rw [addL]
   split
   · exact (SzL.lay ((ha _ List.mem_cons_self).more (by omega))).append (ih a _ (by simp; omega) (fun y hy => ha y (List.mem_cons_of_mem _ hy)) hb)
   ·
    split
    · exact (SzL.lay ((hb _ List.mem_cons_self).more (by omega))).append (ih _ b (by simp; omega) ha (fun y hy => hb y (List.mem_cons_of_mem _ hy)))
    · exact (SzL.lay ((ha _ List.mem_cons_self).add (hb _ List.mem_cons_self))).append (ih a b (by omega) (fun y hy => ha y (List.mem_cons_of_mem _ hy)) (fun y hy => hb y (List.mem_cons_of_mem _ hy)))
theorem SzL.scale {p q : Nat} {k : Rat} (hk : Sz k q) : ∀ (L : List (Int × Rat)), SzL p L → SzL (p + q) (scaleL k L)
 | [], _ => fun y hy => by cases hy
 | (_, _) :: L, h => (SzL.lay ((h _ List.mem_cons_self).mul hk)).append (SzL.scale hk L fun y hy => h y (List.mem_cons_of_mem _ hy))
theorem At4.new (w : World) (t : Tv) : At4 (w.alloc (.cells #[.int .i64 t.v, .bool t.r.s, .slice t.r.A t.r.n t.r.c, .slice t.r.B t.r.m t.r.d] 47)) w.heap.size 0 t := by
 constructor <;> (rw [World.cell?_alloc_at _ _ _ _ rfl]; rfl)
theorem below_grown {w0 w w' : World} {B : Nat} {A : Option Addr} (h : Below B w0 w) (hg : w.grownBy w' (A.map (·.block))) (hA : ∀ ad, A = some ad → B ≤ ad.block) (hB : B ≤ w.heap.size) : Below B w0 w' := by
 refine h.trans ⟨hg.os, hg.tape, hg.output, hg.size, fun q hq => hg.block q (by omega) ?_⟩
 cases A with
 | none => simp
 |
  some ad =>
  have := hA ad rfl
  simp; omega
end Go.Proofs.YtgffkaconhonlaaGreat
namespace Go.Proofs.YtgffkaconhonlaaGreat
set_option maxRecDepth 20000
open Go.RowKit
set_option maxHeartbeats 1600000 in
theorem with_c (A : Option Addr) (n c lo : Nat) (l : List Tv) (L : List (Int × Rat)) (v : Int) (z : Rv) (q : Rat) (w : World) (hg : Gr w lo A c n l L) (hz : Rt w lo z q) (hap : q ≠ 0 → Apt A z) (hzs : Sz q 60000000000) (hn : n + 1 ≤ 2000000) (hlo : lo ≤ w.heap.size) :
  Calls Tryz.prog 119 #[.slice A n c, .int .i64 v, .agg #[.bool z.s, .slice z.A z.n z.c, .slice z.B z.m z.d]] w fun e w' => ∃ A2 c2 n2 l2, e = .returned (.slice A2 n2 c2) ∧ n2 ≤ n + 1 ∧ Gr w' lo A2 c2 n2 l2 (L ++ lay1 v q) ∧ Below lo w w' ∧ w.grownBy w' (A.map (·.block)) ∧ Went w A A2 := by
 go_enter Tryz.func119, Tryz.ntmps119
 go_wp2_with fail
 generalize hW : (w.alloc (.cells #[.bool z.s, .slice z.A z.n z.c, .slice z.B z.m z.d] 26)) = W
 obtain ⟨k, HB, hsW⟩ := open1 w z W hW
 clear hW
 refine (Zero_any z q _ ((hz.below HB).rw (hzs.more (by omega)))).mono ?_
 rintro e w1 ⟨rfl, hb⟩
 replace HB := HB.trans (hb.mono (by omega))
 replace k := k.below hb
 clear hb hsW
 have hs1 := HB.size
 obtain ⟨k0, k1, k2, k3, k4, k5⟩ := k.facts
 replace hg := hg.below HB
 replace hz := hz.below HB
 have hB : Below lo w w1 := HB.mono hlo
 by_cases h0 : q = 0
 ·
  rw [decide_eq_true h0]
  subst h0
  go_wp2
  go_ret
  exact ⟨A, c, n, l, rfl, by omega, by rw [lay1_zero, List.append_nil]; exact hg, hB, grown_row HB _, .inl rfl⟩
 ·
  rw [decide_eq_false h0]
  have HA := Lib.hid (hap h0)
  have HG := Lib.hid hg
  have HZ := Lib.hid hz
  have H0 := Lib.hid h0
  clear hap hg hz h0
  go_wp2_with (at_builtin; refine wpt_append (t := ⟨v, z⟩) rfl _ _ rfl rfl rfl (HG.out.below ((Below.refl _ _).alloc (Nat.le_refl _) _)) ?c1 (HZ.out.below ((Below.refl _ _).alloc (Nat.le_refl _) _)) H0.out HA.out hn ?c2 ?_)
  case c1 => exact At4.new w1 ⟨v, z⟩
  case c2 => simp; omega
  intro A2 c2 w2 hg2 hgr hwh
  go_wp2
  go_ret
  refine ⟨A2, c2, n + 1, l ++ [⟨v, z⟩], rfl, Nat.le_refl _, ?_, ?_, grown_after (HB.alloc HB.size _) hgr, ?_⟩
  ·
   have e : lay1 v q = [(v, q)] := if_neg H0.out
   rw [e]; exact hg2
  · exact below_grown (hB.alloc (by omega) _) hgr (fun ad e => (HG.out.lt ad e).1) (by simp; omega)
  ·
   rcases hwh with h | h
   · exact .inl h
   ·
    refine .inr fun ad e => ?_
    subst e
    simp at h
    omega
end Go.Proofs.YtgffkaconhonlaaGreat
namespace Go.Proofs.YtgffkaconhonlaaGreat
set_option maxRecDepth 20000
open Go.RowKit
theorem wpt_appends {w : World} {ops : Array Oper} {rest : List Oper} {o : Oper} {a : Act} {Q : Exit → Act → World → Prop} (hgd : o.guard = none) (s x : Operand)
  (ho : o.op = .call { callee := .builtin .append, args := #[s, x], argTypes := #[23, 23] })
  {A A' : Option Addr} {lo n c m c' : Nat} {l k : List Tv} (hs : a.eval s = .slice A n c) (hx : a.eval x = .slice A' m c')
  (h1 : OwnT w lo A c n l) (h2 : Tms w 0 A' m k) (hm : n + m ≤ 2000000) (hlo : lo ≤ w.heap.size)
  (h : ∀ A2 c2 w', OwnT w' lo A2 c2 (n + m) (l ++ k) → w.grownBy w' (A.map (·.block)) → wpList Tryz.prog ops Q rest (a.put o.dst (.slice A2 (n + m) c2)) w') :
  wpList Tryz.prog ops Q (o :: rest) a w := by
 obtain ⟨i0, hi, hsz⟩ := Option.map_eq_some_iff.1 Tryz.info47
 have hz : i0.zero = some (.agg #[.int .i64 0, .bool false, .slice none 0 0, .slice none 0 0]) := by
  have := Tryz.zero47
  rw [hi] at this
  exact this
 injection hsz with hsz1 hsz2
 have hk := h2.len
 have eb : (Value.slice A n c).ownBlock = A.map (·.block) := by cases A <;> rfl
 cases A' with
 |
  none =>
  have hm0 : m = 0 := by
   rcases Nat.eq_zero_or_pos m with h0 | h0
   · exact h0
   · obtain ⟨_, _, e, _⟩ := h2.mem h0; cases e
  subst hm0
  have hk0 : k = [] := List.eq_nil_of_length_eq_zero hk
  subst hk0
  refine wpList_plain hgd fun K hK => ?_
  have hrun : (Builtin.append_ #[23, 23] o.type #[.slice A n c, .slice none 0 c']).run Tryz.prog w = .ok (.slice A n c) w := by
   rcases h1.own.2 with ⟨hv, hn⟩ | ⟨g, cap, cur, hv, _, _, hnc, _⟩
   · rw [hv]; simp [Builtin.append_, run_underlying Tryz.underlying23, sizeOf, typeInfo, hi, Builtin.lenOf, Builtin.firstCells]
   · rw [hv]; simp [Builtin.append_, run_underlying Tryz.underlying23, sizeOf, typeInfo, hi, Builtin.lenOf, Builtin.firstCells, hnc, storeCells]
  unfold Oper.wp
  simp [execOp, ho, resolve, invoke, builtin, hs, hx, hrun, Result.andThen]
  exact hK _ _ (h A c w (by simpa using h1) (World.grownBy.refl _ _))
 |
  some ad =>
  refine wpList_append_own w hgd s x _ ho lo 47 i0 _ 4 64 Tryz.underlying23 hi hz hsz1 hsz2 rfl (by omega) _ n _ hs h1.own ad m c' (k.flatMap tcells) hx (by rw [flat_len, hk]) ?_ ?_ (by unfold maxLen; omega) (by omega) hlo ?_
  ·
   intro j u hu
   have hj : j < m * 4 := by have := (List.getElem?_eq_some_iff.1 hu).1; rw [flat_len, hk] at this; exact this
   obtain ⟨b, off, e, _, _, hc⟩ := h2.mem (by omega)
   injection e with e
   subst e
   have hjm : j / 4 < k.length := by rw [hk]; omega
   have hx' : k[j / 4]? = some k[j / 4] := List.getElem?_eq_getElem hjm
   have ha := hc (j / 4) _ hx'
   have hcell : ∀ i, i < 4 → w.cell? ⟨b, off + j / 4 * 4 + i, none⟩ = (tcells k[j / 4])[i]? := by
    intro i hi4
    have : i = 0 ∨ i = 1 ∨ i = 2 ∨ i = 3 := by omega
    rcases this with rfl | rfl | rfl | rfl
    · exact ha.h0
    · exact ha.h1
    · exact ha.h2
    · exact ha.h3
   have e1 := flat_get k (j / 4) (j % 4) _ hx' (by omega)
   rw [show j / 4 * 4 + j % 4 = j by omega] at e1
   rw [e1] at hu
   rw [show (⟨b, off, none⟩ : Addr).add j = ⟨b, off + j, none⟩ by simp [Addr.add]]
   rw [← hu, ← hcell (j % 4) (by omega), show off + j / 4 * 4 + j % 4 = off + j by omega]
  ·
   intro u hu
   obtain ⟨t, _, ht⟩ := List.mem_flatMap.1 hu
   simp only [tcells, List.mem_cons, List.not_mem_nil, or_false] at ht
   rcases ht with rfl | rfl | rfl | rfl <;> rfl
  ·
   intro v' w' ho' hg' _
   rw [eb] at hg'
   rw [← List.flatMap_append] at ho'
   have hl2 : (l ++ k).length = n + m := by rw [List.length_append, h1.len, hk]
   rcases ho'.2 with ⟨rfl, h0⟩ | ⟨g, cap, cur, rfl, _⟩
   ·
    have e : n + m = 0 := h0
    have hh := h none 0 w' ⟨hl2, by rw [e] at ho' ⊢; exact ho'⟩ hg'
    rw [e] at hh; exact hh
   · exact h _ _ w' ⟨hl2, ho'⟩ hg'
theorem Tryz.under3 : Tryz.prog.underlying 3 = some (.int .i64) := by kernel_rfl
set_option maxHeartbeats 1600000 in
theorem Grow_c (n : Nat) (w : World) (hn : n ≤ 1000000) :
  Calls Tryz.prog 135 #[.slice none 0 0, .int .i64 (n : Int)] w fun e w' => ∃ A c, e = .returned (.slice A 0 c) ∧ OwnT w' w.heap.size A c 0 [] ∧ Below w.heap.size w w' := by
 obtain ⟨i0, hi, hsz⟩ := Option.map_eq_some_iff.1 Tryz.info47
 have hz : i0.zero = some (.agg #[.int .i64 0, .bool false, .slice none 0 0, .slice none 0 0]) := by
  have := Tryz.zero47
  rw [hi] at this
  exact this
 injection hsz with hsz1 hsz2
 go_enter Tryz.func135, Tryz.ntmps135
 by_cases h0 : n = 0
 ·
  subst h0
  go_wp2
  go_ret
  exact ⟨none, 0, rfl, OwnT.nil_ w _, Below.refl _ _⟩
 ·
  have g1 : (0 : Int) < (n : Int) := by omega
  have g2 : (n : Int) ≤ 1000000 := by omega
  have hr := Lib.hid (Lib.run_append_nil_zeros w 23 3 23 47 i0 _ .i64 .i64 Tryz.underlying23 Tryz.under3 hi hz n (by omega) (by rw [hsz1]; omega) (by omega) (by rw [hsz2]; omega))
  have hcap := grownCap_ge w n 0 47
  have hcm := grownCap_le_maxLen w n 0 47 (by unfold maxLen; omega)
  go_wp2_with (at_builtin; refine Lib.wpList_append_run _ rfl _ _ _ _ rfl _ _ rfl rfl _ _ hr.out ?_)
  go_wp2
  go_ret
  refine ⟨some ⟨w.heap.size, 0, none⟩, grownCap w n 0 47, rfl, ⟨rfl, World.ownsRow_made w.drew _ _ (Nat.le_refl _) hcm ?_⟩, ((Below.refl _ _).drew).alloc (Nat.le_refl _) _⟩
  rw [Array.size_append, size_zeroCells, size_zeroCells, ← Nat.add_mul]
  show (n + (grownCap w n 0 47 - n)) * 4 = _
  rw [Nat.add_sub_cancel' hcap]
set_option maxHeartbeats 3200000 in
theorem Concat_c (b : Nat) (A B : Option Addr) (n c m d : Nat) (k l : List Tv) (w : World) (hb : b < w.heap.size) (h0 : w.cell? ⟨b, 0, none⟩ = some (.slice A n c)) (h1 : w.cell? ⟨b, 1, none⟩ = some (.slice B m d)) (ha : Tms w 0 A n k) (hl : Tms w 0 B m l) (hn : n ≤ 1000) (hm : m ≤ 1000) :
  Calls Tryz.prog 129 #[.slice (some ⟨b, 0, none⟩) 2 2] w fun e w' => ∃ A2 c2, e = .returned (.slice A2 (n + m) c2) ∧ OwnT w' w.heap.size A2 c2 (n + m) (k ++ l) ∧ Below w.heap.size w w' := by
 go_enter Tryz.func129, Tryz.ntmps129
 have n9 : (n : Int) ≤ 1000 := by omega
 have m9 : (m : Int) ≤ 1000 := by omega
 have H0 := Lib.hid h0
 have H1 := Lib.hid h1
 have HA := Lib.hid ha
 have HL := Lib.hid hl
 clear h0 h1 ha hl
 go_wp2
 go_loopw [3, 5, 11] (fun sv _ iv wr => w = wr ∧ ((iv = .int .i64 0 ∧ sv = .int .i64 0) ∨ (iv = .int .i64 1 ∧ sv = .int .i64 (n : Int)) ∨ (iv = .int .i64 2 ∧ sv = .int .i64 ((n : Int) + (m : Int))))) (fun _ _ iv _ => 2 - (intOf iv).toNat)
 case atStart => exact ⟨rfl, .inl ⟨rfl, rfl⟩⟩
 case round =>
  obtain ⟨rfl, ⟨rfl, rfl⟩ | ⟨rfl, rfl⟩ | ⟨rfl, rfl⟩⟩ := hrel
  ·
   have h0 := H0.out
   go_wp2
   go_roundw
   case rel => simp
   case measure => simp [intOf]
  ·
   have h1 := H1.out
   go_wp2
   go_roundw
   case rel => simp
   case measure => simp [intOf]
  ·
   go_wp2_with fail
   refine (Grow_c (n + m) _ (by omega)).mono ?_
   rintro e w1 ⟨A1, c1, rfl, ho, hb1⟩
   have HO := Lib.hid (And.intro ho hb1)
   clear ho hb1
   go_wp2
   go_loopw [6, 8, 27] (fun nv _ iv wr => ∃ (A2 : Option Addr) (c2 p : Nat) (ks : List Tv), nv = .slice A2 p c2 ∧ Hid (OwnT wr w.heap.size A2 c2 p ks ∧ Below w.heap.size w wr) ∧ ((iv = .int .i64 0 ∧ p = 0 ∧ ks = []) ∨ (iv = .int .i64 1 ∧ n = p ∧ k = ks) ∨ (iv = .int .i64 2 ∧ p = n + m ∧ ks = k ++ l))) (fun _ _ iv _ => 2 - (intOf iv).toNat)
   case atStart => exact ⟨A1, c1, 0, [], rfl, HO, .inl ⟨rfl, rfl, rfl⟩⟩
   case round =>
    clear HO
    obtain ⟨A2, c2, p, ks, rfl, HO, ⟨rfl, rfl, rfl⟩ | ⟨rfl, rfl, rfl⟩ | ⟨rfl, rfl, rfl⟩⟩ := hrel
    ·
     have h0 := (World.cell?_of_block (HO.out.2.block b hb)).trans H0.out
     go_wp2_with (at_builtin; refine wpt_appends rfl _ _ rfl rfl rfl HO.out.1 (HA.out.below HO.out.2) (by omega) HO.out.2.size ?_)
     intro A3 c3 w3 ho3 hg3
     have HO3 := Lib.hid (And.intro ho3 (below_grown HO.out.2 hg3 (fun ad e => (HO.out.1.blockLt ad e).1) HO.out.2.size))
     clear ho3 hg3 HO h0
     go_wp2
     go_roundw
     case rel => exact ⟨A3, c3, n, k, rfl, by simpa using HO3, .inr (.inl ⟨rfl, rfl, rfl⟩)⟩
     case measure => simp [intOf]
    ·
     have h1 := (World.cell?_of_block (HO.out.2.block b hb)).trans H1.out
     go_wp2_with (at_builtin; refine wpt_appends rfl _ _ rfl rfl rfl HO.out.1 (HL.out.below HO.out.2) (by omega) HO.out.2.size ?_)
     intro A3 c3 w3 ho3 hg3
     have HO3 := Lib.hid (And.intro ho3 (below_grown HO.out.2 hg3 (fun ad e => (HO.out.1.blockLt ad e).1) HO.out.2.size))
     clear ho3 hg3 HO h1
     go_wp2
     go_roundw
     case rel => exact ⟨A3, c3, n + m, k ++ l, rfl, HO3, .inr (.inr ⟨rfl, rfl, rfl⟩)⟩
     case measure => simp [intOf]
    ·
     go_wp2
     go_ret
     exact ⟨A2, c2, rfl, HO.out.1, HO.out.2⟩
end Go.Proofs.YtgffkaconhonlaaGreat
namespace Go.Proofs.YtgffkaconhonlaaGreat
set_option maxRecDepth 20000
open Go.RowKit
def lenV : Value → Nat
 | .slice _ n _ => n
 | _ => 0
structure MAt (w wr : World) (L M : List (Int × Rat)) (N : Nat) (A B : Option Addr) (n c m d : Nat) (k l : List Tv) (K O : List (Int × Rat)) (R : Option Addr) (p e : Nat) (ls : List Tv) (D : List (Int × Rat)) : Prop where
 ta : Tms w 0 A n k
 tb : Tms w 0 B m l
 ra : Rds w 28500000000 k K
 rb : Rds w 28500000000 l O
 ca : n ≤ c
 cb : m ≤ d
 gr : Gr wr w.heap.size R e p ls D
 eq : addL L M = D ++ addL K O
 below : Below w.heap.size w wr
 le : p + n + m ≤ N
theorem Tms.tail {w : World} {b off n c : Nat} {k : List Tv} (h : Tms w 0 (some ⟨b, off, none⟩) n k) (hn : 0 < n) (hc : n ≤ c) : Tms w 0 (if c = 1 then some ⟨b, off, none⟩ else some ⟨b, off + 4, none⟩) (n - 1) k.tail := by
 refine ⟨by rw [List.length_tail, h.len], fun h1 => ?_⟩
 obtain ⟨b', off', e, h0, h2, hc'⟩ := h.mem hn
 injection e with e
 injection e with e1 e2 _
 subst e1 e2
 rw [if_neg (by omega)]
 refine ⟨b, off + 4, rfl, h0, h2, fun i x hx => ?_⟩
 have := hc' (i + 1) x (by simpa [List.getElem?_tail] using hx)
 rw [show off + 4 + i * 4 = off + (i + 1) * 4 by omega]; exact this
theorem Rds.tail {w : World} {p : Nat} : ∀ {l : List Tv} {L : List (Int × Rat)}, Rds w p l L → Rds w p l.tail L.tail
 | [], [], _ => trivial
 | _ :: _, _ :: _, h => h.2
 | [], _ :: _, h => h.elim
 | _ :: _, [], h => h.elim
theorem Rds.append {w : World} {p : Nat} : ∀ {l : List Tv} {L : List (Int × Rat)} {m : List Tv} {M : List (Int × Rat)}, Rds w p l L → Rds w p m M → Rds w p (l ++ m) (L ++ M)
 | [], [], _, _, _, h2 => h2
 | _ :: _, _ :: _, _, _, h, h2 => ⟨h.1, Rds.append h.2 h2⟩
 | [], _ :: _, _, _, h, _ => h.elim
 | _ :: _, [], _, _, h, _ => h.elim
theorem Tms.grownR {w w' : World} {lo n : Nat} {A : Option Addr} {l : List Tv} {row : Option Nat} (h : Tms w lo A n l) (hg : w.grownBy w' row) (hr : ∀ a, A = some a → some a.block ≠ row) : Tms w' lo A n l :=
 ⟨h.len, fun hn => by
  obtain ⟨b, off, e, h0, h1, hc⟩ := h.mem hn
  exact ⟨b, off, e, h0, Nat.lt_of_lt_of_le h1 hg.size, fun i x hx => (hc i x hx).keep (hg.block b h1 (hr _ e))⟩⟩
theorem head_cons {α : Type} {K : List α} {X : α} (h : K[0]? = some X) : K = X :: K.tail := by
 cases K with
 | nil => cases h
 | cons a l => simp at h; subst h; rfl
theorem addL_lt {v u : Int} {p q : Rat} {a b : List (Int × Rat)} (h : v < u) : addL ((v, p) :: a) ((u, q) :: b) = lay1 v p ++ addL a ((u, q) :: b) := by rw [addL, if_pos h]
theorem addL_gt {v u : Int} {p q : Rat} {a b : List (Int × Rat)} (h : u < v) : addL ((v, p) :: a) ((u, q) :: b) = lay1 u q ++ addL ((v, p) :: a) b := by rw [addL, if_neg (by omega), if_pos h]
theorem addL_eq {v u : Int} {p q : Rat} {a b : List (Int × Rat)} (h1 : ¬ v < u) (h2 : ¬ u < v) : addL ((v, p) :: a) ((u, q) :: b) = lay1 v (p + q) ++ addL a b := by rw [addL, if_neg h1, if_neg h2]
def layAll : List (Int × Rat) → List (Int × Rat)
 | [] => []
 | (v, q) :: l => lay1 v q ++ layAll l
theorem addL_left : ∀ (a : List (Int × Rat)), addL a [] = layAll a
 | [] => by rw [addL, layAll]
 | (v, q) :: l => by rw [addL, layAll, addL_left l]
theorem addL_right (b : List (Int × Rat)) : addL [] b = layAll b := by rw [addL_comm, addL_left]
theorem addL_end {K O : List (Int × Rat)} (h : K = [] ∨ O = []) : addL K O = layAll (K ++ O) := by
 rcases h with rfl | rfl
 · exact addL_right _
 · rw [List.append_nil]; exact addL_left _
theorem MAt.left {w wr w2 : World} {L M K O D : List (Int × Rat)} {N b off n c m d p e p2 c2 : Nat} {B R R2 : Option Addr} {k l ls ls2 : List Tv} {x y : Tv} {X Y : Int × Rat} (h : MAt w wr L M N (some ⟨b, off, none⟩) B n c m d k l K O R p e ls D) (hX : k[0]? = some x ∧ K[0]? = some X ∧ x.v = X.1) (hY : l[0]? = some y ∧ O[0]? = some Y ∧ y.v = Y.1) (hn : 0 < n) (hv : x.v < y.v)
  (hg : Gr w2 w.heap.size R2 c2 p2 ls2 (D ++ lay1 x.v X.2)) (hb : Below w.heap.size w w2) (hp : p2 ≤ p + 1) : MAt w w2 L M N (if c = 1 then some ⟨b, off, none⟩ else some ⟨b, off + 4, none⟩) B (n - 1) (c - 1) m d k.tail l K.tail O R2 p2 c2 ls2 (D ++ lay1 x.v X.2) := by
 obtain ⟨_, hK, ex⟩ := hX
 obtain ⟨_, hO, ey⟩ := hY
 have eK := head_cons hK
 have eO := head_cons hO
 have hle := h.le
 have hca := h.ca
 refine ⟨h.ta.tail hn h.ca, h.tb, h.ra.tail, h.rb, by omega, h.cb, hg, ?_, hb, by omega⟩
 rw [h.eq, List.append_assoc, ex]
 congr 1
 conv => lhs; rw [eK, eO]
 conv => rhs; rw [eO]
 exact addL_lt (by rw [← ex, ← ey]; exact hv)
theorem MAt.right {w wr w2 : World} {L M K O D : List (Int × Rat)} {N b off n c m d p e p2 c2 : Nat} {A R R2 : Option Addr} {k l ls ls2 : List Tv} {x y : Tv} {X Y : Int × Rat} (h : MAt w wr L M N A (some ⟨b, off, none⟩) n c m d k l K O R p e ls D) (hX : k[0]? = some x ∧ K[0]? = some X ∧ x.v = X.1) (hY : l[0]? = some y ∧ O[0]? = some Y ∧ y.v = Y.1) (hn : 0 < m) (hv : y.v < x.v)
  (hg : Gr w2 w.heap.size R2 c2 p2 ls2 (D ++ lay1 y.v Y.2)) (hb : Below w.heap.size w w2) (hp : p2 ≤ p + 1) : MAt w w2 L M N A (if d = 1 then some ⟨b, off, none⟩ else some ⟨b, off + 4, none⟩) n c (m - 1) (d - 1) k l.tail K O.tail R2 p2 c2 ls2 (D ++ lay1 y.v Y.2) := by
 obtain ⟨_, hK, ex⟩ := hX
 obtain ⟨_, hO, ey⟩ := hY
 have eK := head_cons hK
 have eO := head_cons hO
 have hle := h.le
 have hcb := h.cb
 refine ⟨h.ta, h.tb.tail hn h.cb, h.ra, h.rb.tail, h.ca, by omega, hg, ?_, hb, by omega⟩
 rw [h.eq, List.append_assoc, ey]
 congr 1
 conv => lhs; rw [eK, eO]
 conv => rhs; rw [eK]
 exact addL_gt (by rw [← ex, ← ey]; exact hv)
theorem MAt.both {w wr w2 : World} {L M K O D : List (Int × Rat)} {N b off b' off' n c m d p e p2 c2 : Nat} {R R2 : Option Addr} {k l ls ls2 : List Tv} {x y : Tv} {X Y : Int × Rat} (h : MAt w wr L M N (some ⟨b, off, none⟩) (some ⟨b', off', none⟩) n c m d k l K O R p e ls D) (hX : k[0]? = some x ∧ K[0]? = some X ∧ x.v = X.1) (hY : l[0]? = some y ∧ O[0]? = some Y ∧ y.v = Y.1) (hn : 0 < n) (hm : 0 < m) (h1 : ¬ x.v < y.v) (h2 : ¬ y.v < x.v)
  (hg : Gr w2 w.heap.size R2 c2 p2 ls2 (D ++ lay1 x.v (X.2 + Y.2))) (hb : Below w.heap.size w w2) (hp : p2 ≤ p + 1) : MAt w w2 L M N (if c = 1 then some ⟨b, off, none⟩ else some ⟨b, off + 4, none⟩) (if d = 1 then some ⟨b', off', none⟩ else some ⟨b', off' + 4, none⟩) (n - 1) (c - 1) (m - 1) (d - 1) k.tail l.tail K.tail O.tail R2 p2 c2 ls2 (D ++ lay1 x.v (X.2 + Y.2)) := by
 obtain ⟨_, hK, ex⟩ := hX
 obtain ⟨_, hO, ey⟩ := hY
 have eK := head_cons hK
 have eO := head_cons hO
 have hle := h.le
 have hca := h.ca
 have hcb := h.cb
 refine ⟨h.ta.tail hn h.ca, h.tb.tail hm h.cb, h.ra.tail, h.rb.tail, by omega, by omega, hg, ?_, hb, by omega⟩
 rw [h.eq, List.append_assoc, ex]
 congr 1
 conv => lhs; rw [eK, eO]
 exact addL_eq (by rw [← ex, ← ey]; exact h1) (by rw [← ex, ← ey]; exact h2)
structure EAt (w wr : World) (L M T : List (Int × Rat)) (ks : List Tv) (N Z : Nat) (A : Option Addr) (i : Nat) (R : Option Addr) (p e : Nat) (ls : List Tv) (D : List (Int × Rat)) : Prop where
 gr : Gr wr w.heap.size R e p ls D
 eq : addL L M = D ++ layAll (T.drop i)
 below : Below w.heap.size w wr
 row : Tms wr 0 A Z ks
 rd : Rds w 28500000000 ks T
 apart : ∀ ad a2, R = some ad → A = some a2 → ad.block ≠ a2.block
 le : p + (Z - i) ≤ N
theorem layAll_cons (v : Int) (q : Rat) (l : List (Int × Rat)) : layAll ((v, q) :: l) = lay1 v q ++ layAll l := rfl
theorem EAt.step {w wr w2 : World} {L M T D : List (Int × Rat)} {ks ls ls2 : List Tv} {N Z i p e p2 c2 : Nat} {A R R2 : Option Addr} {x : Tv} {X : Int × Rat} (h : EAt w wr L M T ks N Z A i R p e ls D) (hT : T[i]? = some X) (ex : x.v = X.1) (hi : i < Z)
  (hg : Gr w2 w.heap.size R2 c2 p2 ls2 (D ++ lay1 x.v X.2)) (hb : Below w.heap.size w w2) (hp : p2 ≤ p + 1) (hr : Tms w2 0 A Z ks) (ha : ∀ ad a2, R2 = some ad → A = some a2 → ad.block ≠ a2.block) : EAt w w2 L M T ks N Z A (i + 1) R2 p2 c2 ls2 (D ++ lay1 x.v X.2) := by
 have hle := h.le
 refine ⟨hg, ?_, hb, hr, h.rd, ha, by omega⟩
 rw [h.eq, List.append_assoc, ex]
 congr 1
 obtain ⟨hlt, e⟩ := List.getElem?_eq_some_iff.1 hT
 rw [List.drop_eq_getElem_cons hlt, e]
 exact layAll_cons _ _ _
theorem bel1 (w : World) : Below w.heap.size w w.drew := (Below.refl _ _).drew
theorem bel2 (w : World) : Below w.heap.size w w.drew.drew := (Below.refl _ _).drew.drew
theorem bel3 (w : World) : Below w.heap.size w w.drew.drew.drew := (Below.refl _ _).drew.drew.drew
set_option maxHeartbeats 6400000 in
theorem merge_c (A B : Option Addr) (n c m d : Nat) (k l : List Tv) (L M : List (Int × Rat)) (w : World) (hA : Tms w 0 A n k) (hB : Tms w 0 B m l) (hL : Rds w 28500000000 k L) (hM : Rds w 28500000000 l M) (hnc : n ≤ c) (hmd : m ≤ d) (hn : n ≤ 1000) (hm : m ≤ 1000) :
  Calls Tryz.prog 118 #[.slice A n c, .slice B m d] w fun e w' => ∃ A2 c2 n2 l2, e = .returned (.slice A2 n2 c2) ∧ n2 ≤ n + m ∧ Gr w' w.heap.size A2 c2 n2 l2 (addL L M) ∧ Below w.heap.size w w' := by
 have HM : Hid (MAt w w L M (n + m) A B n c m d k l L M none 0 0 [] []) := ⟨hA, hB, hL, hM, hnc, hmd, Gr.nil_ _ _, rfl, Below.refl _ _, by omega⟩
 clear hA hB hL hM hnc hmd
 go_enter Tryz.func118, Tryz.ntmps118
 go_wp2
 go_loopw [0, 1, 5] (fun av bv rv wr => ∃ (A' B' : Option Addr) (n' c' m' d' : Nat) (k' l' : List Tv) (K O : List (Int × Rat)) (R : Option Addr) (p e : Nat) (ls : List Tv) (D : List (Int × Rat)), av = .slice A' n' c' ∧ bv = .slice B' m' d' ∧ rv = .slice R p e ∧ n' ≤ 1000 ∧ m' ≤ 1000 ∧ Hid (MAt w wr L M (n + m) A' B' n' c' m' d' k' l' K O R p e ls D)) (fun av bv _ _ => lenV av + lenV bv)
 case atStart => exact ⟨A, B, n, c, m, d, k, l, L, M, none, 0, 0, [], [], rfl, rfl, rfl, hn, hm, HM⟩
 case round =>
  clear HM
  obtain ⟨A', B', n', c', m', d', k', l', K, O, R, p, e, ls, D, rfl, rfl, rfl, hn', hm', HM⟩ := hrel
  by_cases h0 : n' = 0 ∨ m' = 0
  ·
   have hend : K = [] ∨ O = [] := by
    rcases h0 with h0 | h0
    · left; have h1 := HM.out.ra.len; rw [HM.out.ta.len, h0] at h1; exact List.eq_nil_of_length_eq_zero h1.symm
    · right; have h1 := HM.out.rb.len; rw [HM.out.tb.len, h0] at h1; exact List.eq_nil_of_length_eq_zero h1.symm
   have HE := Lib.hid hend
   clear hend
   have hcase : n' = 0 ∨ (0 < n' ∧ m' = 0) := by omega
   clear h0
   rcases hcase with h0 | ⟨hp, h0⟩
   all_goals
    have q1 : Hid (n' ≤ 1000) := hn'
    have q2 : Hid (m' ≤ 1000) := hm'
    have E0 := Lib.hid h0
    first
    | (have g1 : (n' : Int) = 0 := by omega)
    | (
      have g1 : (m' : Int) = 0 := by omega
      have g2 : (0 : Int) < (n' : Int) := by omega)
    clear h0
    go_wp2_with fail
    have hsz := HM.out.below.size
    have hba : Below wr.heap.size wr (wr.alloc (.cells #[.slice A' n' c', .slice B' m' d'] 23)) := (Below.refl _ _).alloc (Nat.le_refl _) _
    refine (Concat_c wr.heap.size A' B' n' c' m' d' k' l' _ (by simp) (by rw [World.cell?_alloc_at _ _ _ _ rfl]; rfl) (by rw [World.cell?_alloc_at _ _ _ _ rfl]; rfl) ((HM.out.ta.below HM.out.below).below hba) ((HM.out.tb.below HM.out.below).below hba) q1.out q2.out).mono ?_
    rintro ee w1 ⟨A2, c2, rfl, ho, hb1⟩
    have hb2 := hba.trans (hb1.mono hba.size)
    have HE1 : Hid (EAt w w1 L M (K ++ O) (k' ++ l') (n + m) (n' + m') A2 0 R p e ls D) := by
     refine ⟨HM.out.gr.below hb2, ?_, HM.out.below.trans (hb2.mono hsz), ho.tms.lower (Nat.zero_le _), HM.out.ra.append HM.out.rb, fun ad a2 h1 h2 => ?_, ?_⟩
     · rw [HM.out.eq, addL_end HE.out]; rfl
     ·
      have g1 := HM.out.gr.lt ad h1
      have g2 := ho.blockLt a2 h2
      have g3 := hba.size
      omega
     · have := HM.out.le; omega
    clear hb2 hb1 ho hba HM
    have Z9 : Hid (n' + m' ≤ n + m) := by
     have := HE1.out.le; show _ ≤ _; omega
    have Z0 : (0 : Int) ≤ ((n' + m' : Nat) : Int) := by omega
    have Z1 : ((n' + m' : Nat) : Int) ≤ 30000000000 := by have := q1.out; have := q2.out; omega
    generalize n' + m' = Z at *
    generalize k' ++ l' = ks at *
    generalize K ++ O = T at *
    go_wp2
    go_loopw [5, 7, 86] (fun rv _ iv wr => ∃ (i : Nat) (R : Option Addr) (p e : Nat) (ls : List Tv) (D : List (Int × Rat)), i ≤ Z ∧ iv = .int .i64 i ∧ rv = .slice R p e ∧ Hid (EAt w wr L M T ks (n + m) Z A2 i R p e ls D)) (fun _ _ iv _ => Z - (intOf iv).toNat)
    case atStart => exact ⟨0, R, p, e, ls, D, by omega, rfl, rfl, HE1⟩
    case round =>
     clear HE1
     obtain ⟨i, R, p, e, ls, D, hi, rfl, rfl, HE1⟩ := hrel
     by_cases hlt : i < Z
     ·
      have i0 : (0 : Int) ≤ (i : Int) := by omega
      have i1 : (i : Int) < (Z : Int) := by omega
      obtain ⟨b, off, rfl, _, hbw, hc⟩ := HE1.out.row.mem (by omega)
      obtain ⟨x, X, hx, hX, hxv, hxr⟩ := HE1.out.rd.get i (by rw [HE1.out.row.len]; omega)
      obtain ⟨x0, x1, x2, x3⟩ := hc i x hx
      have HX := Lib.hid (And.intro hX hxv)
      clear hX hxv hx hc
      have HALL : Hid (∀ w1, Below wr.heap.size wr w1 → Gr w1 w.heap.size R e p ls D ∧ Rw w1 x.r X.2 30000000000 ∧ Below w.heap.size w w1 ∧ Tms w1 0 (some ⟨b, off, none⟩) Z ks) := fun w1 h1 =>
       ⟨HE1.out.gr.below h1, ((hxr.below HE1.out.below).below h1).more (by omega), HE1.out.below.trans (h1.mono HE1.out.below.size), HE1.out.row.below h1⟩
      have HGL := Lib.hid HE1.out.gr.lt
      have ZX := Lib.hid (hxr.sz (by omega))
      have hsw := HE1.out.below.size
      have hle := HE1.out.le
      have hz9 := Z9.out
      have z9 := q1.out
      have z8 := q2.out
      clear hxr
      go_wp2_with fail
      have ax := At4.new wr x
      have hba : Below wr.heap.size wr (wr.alloc (.cells #[.int .i64 x.v, .bool x.r.s, .slice x.r.A x.r.n x.r.c, .slice x.r.B x.r.m x.r.d] 47)).drew := ((Below.refl _ _).alloc (Nat.le_refl _) _).drew
      have hzA : (wr.alloc (.cells #[.int .i64 x.v, .bool x.r.s, .slice x.r.A x.r.n x.r.c, .slice x.r.B x.r.m x.r.d] 47)).drew.heap.size = wr.heap.size + 1 := by simp
      clear x0 x1 x2 x3
      obtain ⟨x0, x1, x2, x3⟩ := ax
      have HBA := Lib.hid hba
      clear hba
      generalize wr.alloc (.cells #[.int .i64 x.v, .bool x.r.s, .slice x.r.A x.r.n x.r.c, .slice x.r.B x.r.m x.r.d] 47) = WA at *
      have hzB : WA.heap.size = wr.heap.size + 1 := hzA
      go_region_held3 (fun w' => w'.cell? ⟨wr.heap.size, 0, none⟩ = some (.int .i64 x.v) ∧ w'.cell? ⟨wr.heap.size, 0 + 1, none⟩ = some (.bool x.r.s) ∧ w'.cell? ⟨wr.heap.size, 0 + 2, none⟩ = some (.slice x.r.A x.r.n x.r.c) ∧ w'.cell? ⟨wr.heap.size, 0 + 3, none⟩ = some (.slice x.r.B x.r.m x.r.d)) (go_keep)
       (first
       | (
         go_at_call 81
         refine (Norm_any x.r X.2 _ ((HALL.out _ HBA.out).2.1.more (by omega))).mono ?_
         rintro ee w2 ⟨z, rfl, hz, hb⟩
         have hk := hb.block wr.heap.size (by omega)
         replace x0 := (World.cell?_of_block hk).trans x0
         replace x1 := (World.cell?_of_block hk).trans x1
         replace x2 := (World.cell?_of_block hk).trans x2
         replace x3 := (World.cell?_of_block hk).trans x3
         have hbz := HBA.out.trans (hb.mono (by omega))
         have hsz2 := hb.size
         have G1 := Lib.hid (HALL.out _ hbz)
         clear hk hb hbz)
       | (
         go_at_call 119
         refine (with_c R p e w.heap.size ls D x.v z X.2 _ G1.out.1 (hz.lower (by omega)) (fun h0 => hz.apt h0 (fun ad e => by have := (HGL.out ad e).2; omega)) (ZX.out.more (by omega)) (by omega) G1.out.2.2.1.size).mono ?_
         rintro ee w3 ⟨R2, c3, p2, ls2, rfl, hp2, hg2, hb, hgb, hwt⟩
         have hk := hgb.block wr.heap.size (by omega) (by
          intro e2
          cases R with
          | none => cases e2
          |
           some ad =>
           have := (HGL.out ad rfl).2
           injection e2 with e2
           simp at e2
           omega)
         replace x0 := (World.cell?_of_block hk).trans x0
         replace x1 := (World.cell?_of_block hk).trans x1
         replace x2 := (World.cell?_of_block hk).trans x2
         replace x3 := (World.cell?_of_block hk).trans x3
         have B2 := Lib.hid (G1.out.2.2.1.trans hb)
         have R2' : Hid (Tms w3 0 (some ⟨b, off, none⟩) Z ks) := G1.out.2.2.2.grownR hgb (fun a ea e2 => by
          cases R with
          | none => cases e2
          |
           some ad =>
           have := HE1.out.apart ad a rfl ea
           injection e2 with e2
           exact this e2.symm)
         have A2' : Hid (∀ ad a2, R2 = some ad → some (⟨b, off, none⟩ : Addr) = some a2 → ad.block ≠ a2.block) := fun ad a2 e1 e2 => by
          rcases hwt with h | h
          ·
           cases R with
           | none => rw [e1] at h; cases h
           |
            some ad' =>
            have := HE1.out.apart ad' a2 rfl e2
            rw [e1] at h
            injection h with h
            intro e3
            exact this (h.symm.trans e3)
          ·
           have h9 := h ad e1
           injection e2 with e2
           subst e2
           show ad.block ≠ b
           omega
         clear hk hb hgb hwt))
      clear x0 x1 x2 x3
      go_wp2
      go_roundw
      case rel => exact ⟨i + 1, R2, p2, c3, ls2, _, by omega, by go_num, rfl, HE1.out.step HX.out.1 HX.out.2 hlt hg2 B2.out hp2 R2'.out A2'.out⟩
      case measure => simp [intOf]; omega
     ·
      have i1 : ¬ (i : Int) < (Z : Int) := by omega
      go_wp2
      go_ret
      have hlen := HE1.out.rd.len
      rw [HE1.out.row.len] at hlen
      have heq := HE1.out.eq
      rw [List.drop_eq_nil_of_le (by omega), layAll, List.append_nil] at heq
      refine ⟨R, e, p, rfl, ?_, ⟨ls, by rw [heq]; exact HE1.out.gr⟩, HE1.out.below⟩
      have := HE1.out.le
      omega
  ·
   have g1 : (0 : Int) < (n' : Int) := by omega
   have g2 : (0 : Int) < (m' : Int) := by omega
   have g3 : (n' : Int) ≤ 1000 := by omega
   have g4 : (m' : Int) ≤ 1000 := by omega
   obtain ⟨b, off, rfl, _, hb1, hc⟩ := HM.out.ta.mem (by omega)
   obtain ⟨b', off', rfl, _, hb1', hc'⟩ := HM.out.tb.mem (by omega)
   obtain ⟨x, X, hx, hX, hxv, hxr⟩ := HM.out.ra.get 0 (by rw [HM.out.ta.len]; omega)
   obtain ⟨y, Y, hy, hY, hyv, hyr⟩ := HM.out.rb.get 0 (by rw [HM.out.tb.len]; omega)
   have ax := (hc 0 x hx).keep (HM.out.below.block b hb1)
   have ay := (hc' 0 y hy).keep (HM.out.below.block b' hb1')
   rw [Nat.zero_mul, Nat.add_zero] at ax ay
   have HX := Lib.hid (And.intro hx (And.intro hX hxv))
   have HY := Lib.hid (And.intro hy (And.intro hY hyv))
   clear hx hX hxv hy hY hyv
   obtain ⟨x0, x1, x2, x3⟩ := ax
   obtain ⟨y0, y1, y2, y3⟩ := ay
   go_wp2_with fail
   go_region
   have HALL : Hid (∀ w1, Below wr.heap.size wr w1 → Gr w1 w.heap.size R e p ls D ∧ Rw w1 x.r X.2 30000000000 ∧ Rw w1 y.r Y.2 30000000000 ∧ Below w.heap.size w w1) := fun w1 h1 =>
    ⟨HM.out.gr.below h1, ((hxr.below HM.out.below).below h1).more (by omega), ((hyr.below HM.out.below).below h1).more (by omega), HM.out.below.trans (h1.mono HM.out.below.size)⟩
   have HGL := Lib.hid HM.out.gr.lt
   have ZX := Lib.hid (hxr.sz (by omega))
   have ZY := Lib.hid (hyr.sz (by omega))
   have hsz := HM.out.below.size
   have hbr : b < wr.heap.size := by omega
   have hbr' : b' < wr.heap.size := by omega
   have hle := HM.out.le
   clear hxr hyr hc hc'
   by_cases h1 : x.v < y.v
   ·
    go_wp2_with fail
    go_region_held3 (fun w' => w'.cell? ⟨b, off, none⟩ = some (.int .i64 x.v) ∧ w'.cell? ⟨b, off + 1, none⟩ = some (.bool x.r.s) ∧ w'.cell? ⟨b, off + 2, none⟩ = some (.slice x.r.A x.r.n x.r.c) ∧ w'.cell? ⟨b, off + 3, none⟩ = some (.slice x.r.B x.r.m x.r.d)) (go_keep)
     (first
     | (
       go_at_call 81
       refine (Norm_any x.r X.2 _ ((HALL.out _ (bel2 wr)).2.1.more (by omega))).mono ?_
       rintro ee w1 ⟨z, rfl, hz, hb⟩
       have hk := hb.block b hbr
       replace x0 := (World.cell?_of_block hk).trans x0
       replace x1 := (World.cell?_of_block hk).trans x1
       replace x2 := (World.cell?_of_block hk).trans x2
       replace x3 := (World.cell?_of_block hk).trans x3
       have G1 := Lib.hid ((HALL.out _ (bel2 wr)).1.below hb)
       have B1 := Lib.hid ((HALL.out _ (bel2 wr)).2.2.2.trans (hb.mono hsz))
       clear hk hb)
     | (
       go_at_call 119
       refine (with_c R p e w.heap.size ls D x.v z X.2 _ G1.out (hz.lower hsz) (fun h0 => hz.apt h0 (fun ad e => (HGL.out ad e).2)) (ZX.out.more (by omega)) (by omega) B1.out.size).mono ?_
       rintro ee w2 ⟨R2, c2, p2, ls2, rfl, hp2, hg2, hb, _, _⟩
       have hk := hb.block b (by omega)
       replace x0 := (World.cell?_of_block hk).trans x0
       replace x1 := (World.cell?_of_block hk).trans x1
       replace x2 := (World.cell?_of_block hk).trans x2
       replace x3 := (World.cell?_of_block hk).trans x3
       have B2 := Lib.hid (B1.out.trans hb)
       clear hk hb))
    clear x0 x1 x2 x3 y0 y1 y2 y3
    go_wp2
    go_roundw
    case rel => exact ⟨_, _, _, _, _, _, _, _, _, _, _, _, _, _, _, rfl, rfl, rfl, by omega, by omega, HM.out.left HX.out HY.out (by omega) h1 hg2 B2.out hp2⟩
    case measure => simp only [lenV]; omega
   ·
    go_wp2_with fail
    go_region
    by_cases h2 : y.v < x.v
    ·
     go_wp2_with fail
     go_region_held3 (fun w' => w'.cell? ⟨b', off', none⟩ = some (.int .i64 y.v) ∧ w'.cell? ⟨b', off' + 1, none⟩ = some (.bool y.r.s) ∧ w'.cell? ⟨b', off' + 2, none⟩ = some (.slice y.r.A y.r.n y.r.c) ∧ w'.cell? ⟨b', off' + 3, none⟩ = some (.slice y.r.B y.r.m y.r.d)) (go_keep)
      (first
      | (
        go_at_call 81
        refine (Norm_any y.r Y.2 _ ((HALL.out _ (bel3 wr)).2.2.1.more (by omega))).mono ?_
        rintro ee w1 ⟨z, rfl, hz, hb⟩
        have hk := hb.block b' hbr'
        replace y0 := (World.cell?_of_block hk).trans y0
        replace y1 := (World.cell?_of_block hk).trans y1
        replace y2 := (World.cell?_of_block hk).trans y2
        replace y3 := (World.cell?_of_block hk).trans y3
        have G1 := Lib.hid ((HALL.out _ (bel3 wr)).1.below hb)
        have B1 := Lib.hid ((HALL.out _ (bel3 wr)).2.2.2.trans (hb.mono hsz))
        clear hk hb)
      | (
        go_at_call 119
        refine (with_c R p e w.heap.size ls D y.v z Y.2 _ G1.out (hz.lower hsz) (fun h0 => hz.apt h0 (fun ad e => (HGL.out ad e).2)) (ZY.out.more (by omega)) (by omega) B1.out.size).mono ?_
        rintro ee w2 ⟨R2, c2, p2, ls2, rfl, hp2, hg2, hb, _, _⟩
        have hk := hb.block b' (by omega)
        replace y0 := (World.cell?_of_block hk).trans y0
        replace y1 := (World.cell?_of_block hk).trans y1
        replace y2 := (World.cell?_of_block hk).trans y2
        replace y3 := (World.cell?_of_block hk).trans y3
        have B2 := Lib.hid (B1.out.trans hb)
        clear hk hb))
     clear x0 x1 x2 x3 y0 y1 y2 y3
     go_wp2
     go_roundw
     case rel => exact ⟨_, _, _, _, _, _, _, _, _, _, _, _, _, _, _, rfl, rfl, rfl, by omega, by omega, HM.out.right HX.out HY.out (by omega) h2 hg2 B2.out hp2⟩
     case measure => simp only [lenV]; omega
    ·
     go_wp2_with fail
     go_region_held3 (fun w' => w'.cell? ⟨b, off, none⟩ = some (.int .i64 x.v) ∧ w'.cell? ⟨b, off + 1, none⟩ = some (.bool x.r.s) ∧ w'.cell? ⟨b, off + 2, none⟩ = some (.slice x.r.A x.r.n x.r.c) ∧ w'.cell? ⟨b, off + 3, none⟩ = some (.slice x.r.B x.r.m x.r.d) ∧ w'.cell? ⟨b', off' + 1, none⟩ = some (.bool y.r.s) ∧ w'.cell? ⟨b', off' + 2, none⟩ = some (.slice y.r.A y.r.n y.r.c) ∧ w'.cell? ⟨b', off' + 3, none⟩ = some (.slice y.r.B y.r.m y.r.d)) (go_keep)
      (first
      | (
        go_at_call 86
        refine (Add_c x.r y.r X.2 Y.2 _ (HALL.out _ (bel3 wr)).2.1 (HALL.out _ (bel3 wr)).2.2.1).mono ?_
        rintro ee w1 ⟨z, rfl, hz, hb⟩
        have hk := hb.block b hbr
        have hk' := hb.block b' hbr'
        replace x0 := (World.cell?_of_block hk).trans x0
        replace x1 := (World.cell?_of_block hk).trans x1
        replace x2 := (World.cell?_of_block hk).trans x2
        replace x3 := (World.cell?_of_block hk).trans x3
        replace y1 := (World.cell?_of_block hk').trans y1
        replace y2 := (World.cell?_of_block hk').trans y2
        replace y3 := (World.cell?_of_block hk').trans y3
        have G1 := Lib.hid ((HALL.out _ (bel3 wr)).1.below hb)
        have B1 := Lib.hid ((HALL.out _ (bel3 wr)).2.2.2.trans (hb.mono hsz))
        clear hk hk' hb)
      | (
        go_at_call 119
        refine (with_c R p e w.heap.size ls D x.v z (X.2 + Y.2) _ G1.out (hz.lower hsz) (fun h0 => hz.apt h0 (fun ad e => (HGL.out ad e).2)) ((ZX.out.add ZY.out).more (by omega)) (by omega) B1.out.size).mono ?_
        rintro ee w2 ⟨R2, c2, p2, ls2, rfl, hp2, hg2, hb, _, _⟩
        have hk := hb.block b (by omega)
        have hk' := hb.block b' (by omega)
        replace x0 := (World.cell?_of_block hk).trans x0
        replace x1 := (World.cell?_of_block hk).trans x1
        replace x2 := (World.cell?_of_block hk).trans x2
        replace x3 := (World.cell?_of_block hk).trans x3
        replace y1 := (World.cell?_of_block hk').trans y1
        replace y2 := (World.cell?_of_block hk').trans y2
        replace y3 := (World.cell?_of_block hk').trans y3
        have B2 := Lib.hid (B1.out.trans hb)
        clear hk hk' hb))
     clear x0 x1 x2 x3 y0 y1 y2 y3
     go_wp2_with fail
     go_region
     go_wp2
     go_roundw
     case rel => exact ⟨_, _, _, _, _, _, _, _, _, _, _, _, _, _, _, rfl, rfl, rfl, by omega, by omega, HM.out.both HX.out HY.out (by omega) (by omega) (by omega) (by omega) (hg2.below (bel1 _)) (B2.out.trans ((bel1 _).mono B2.out.size)) hp2⟩
     case measure => simp only [lenV]; omega
end Go.Proofs.YtgffkaconhonlaaGreat
namespace Go.Proofs.YtgffkaconhonlaaGreat
set_option maxRecDepth 20000
open Go.RowKit
theorem openK2z (w : World) (v u : Cv) (W : World) (h : ((w.alloc (.cells #[.int .i64 v.s, .slice v.A v.n v.c, .bool v.K.s, .slice v.K.A v.K.n v.K.c, .slice v.K.B v.K.m v.K.d] 28)).alloc (.cells #[.int .i64 u.s, .slice u.A u.n u.c, .bool u.K.s, .slice u.K.A u.K.n u.K.c, .slice u.K.B u.K.m u.K.d] 28)).alloc (.cells #[.int .i64 0, .slice none 0 0, .bool false, .slice none 0 0, .slice none 0 0] 28) = W) :
  C5 W w.heap.size (.int .i64 v.s) (.slice v.A v.n v.c) (.bool v.K.s) (.slice v.K.A v.K.n v.K.c) (.slice v.K.B v.K.m v.K.d) ∧ C5 W (w.heap.size + 1) (.int .i64 u.s) (.slice u.A u.n u.c) (.bool u.K.s) (.slice u.K.A u.K.n u.K.c) (.slice u.K.B u.K.m u.K.d) ∧ C5 W (w.heap.size + 1 + 1) (.int .i64 0) (.slice none 0 0) (.bool false) (.slice none 0 0) (.slice none 0 0) ∧ Below w.heap.size w W ∧ W.heap.size = w.heap.size + 3 := by
 subst h
 have e1 : (w.alloc (.cells #[.int .i64 v.s, .slice v.A v.n v.c, .bool v.K.s, .slice v.K.A v.K.n v.K.c, .slice v.K.B v.K.m v.K.d] 28)).heap.size = w.heap.size + 1 := by simp
 have e2 : ((w.alloc (.cells #[.int .i64 v.s, .slice v.A v.n v.c, .bool v.K.s, .slice v.K.A v.K.n v.K.c, .slice v.K.B v.K.m v.K.d] 28)).alloc (.cells #[.int .i64 u.s, .slice u.A u.n u.c, .bool u.K.s, .slice u.K.A u.K.n u.K.c, .slice u.K.B u.K.m u.K.d] 28)).heap.size = w.heap.size + 1 + 1 := by simp
 refine ⟨((C5.new w (.int .i64 v.s) (.slice v.A v.n v.c) (.bool v.K.s) (.slice v.K.A v.K.n v.K.c) (.slice v.K.B v.K.m v.K.d)).alloc _).alloc _, ?_, ?_, ?_, by simp⟩
 ·
  have := C5.new (w.alloc (.cells #[.int .i64 v.s, .slice v.A v.n v.c, .bool v.K.s, .slice v.K.A v.K.n v.K.c, .slice v.K.B v.K.m v.K.d] 28)) (.int .i64 u.s) (.slice u.A u.n u.c) (.bool u.K.s) (.slice u.K.A u.K.n u.K.c) (.slice u.K.B u.K.m u.K.d)
  rw [e1] at this; exact this.alloc _
 ·
  have := C5.new ((w.alloc (.cells #[.int .i64 v.s, .slice v.A v.n v.c, .bool v.K.s, .slice v.K.A v.K.n v.K.c, .slice v.K.B v.K.m v.K.d] 28)).alloc (.cells #[.int .i64 u.s, .slice u.A u.n u.c, .bool u.K.s, .slice u.K.A u.K.n u.K.c, .slice u.K.B u.K.m u.K.d] 28)) (.int .i64 0) (.slice none 0 0) (.bool false) (.slice none 0 0) (.slice none 0 0)
  rw [e2] at this; exact this
 · exact (((Below.refl w.heap.size w).alloc (Nat.le_refl _) _).alloc (by simp) _).alloc (by simp; omega) _
theorem Ct.made {w : World} {lo b n2 c2 : Nat} {s : Int} {A2 : Option Addr} {l2 : List Tv} {L : List (Int × Rat)} {k : Rat} {z : Rv} (hg : Gr w lo A2 c2 n2 l2 L) (hz : Rt w lo z k) (hb : b < lo) :
  Ct (put5 w b (.int .i64 s) (.slice A2 n2 c2) (.bool z.s) (.slice z.A z.n z.c) (.slice z.B z.m z.d)) lo ⟨s, A2, n2, c2, z⟩ L k :=
 ⟨hg.own.capLe, ⟨l2, hg.own.tms.but hb (by rw [put5_size]; exact Nat.le_refl _) (put5_but _ _ _ _ _ _ _), RdN.but hb (by rw [put5_size]; exact Nat.le_refl _) (put5_but _ _ _ _ _ _ _) hg.rd.rdn⟩, hz.but hb (by rw [put5_size]; exact Nat.le_refl _) (put5_but _ _ _ _ _ _ _)⟩
set_option maxHeartbeats 6400000 in
theorem AddK_c (va vb : Cv) (L M : List (Int × Rat)) (k q : Rat) (w : World) (ha : Cw w va L k 28500000000) (hb : Cw w vb M q 28500000000) (hn : va.n ≤ 1000) (hm : vb.n ≤ 1000) :
  Calls Tryz.prog 99 #[.agg #[.int .i64 va.s, .slice va.A va.n va.c, .bool va.K.s, .slice va.K.A va.K.n va.K.c, .slice va.K.B va.K.m va.K.d], .agg #[.int .i64 vb.s, .slice vb.A vb.n vb.c, .bool vb.K.s, .slice vb.K.A vb.K.n vb.K.c, .slice vb.K.B vb.K.m vb.K.d]] w fun e w' => ∃ z : Cv, e = .returned (.agg #[.int .i64 z.s, .slice z.A z.n z.c, .bool z.K.s, .slice z.K.A z.K.n z.K.c, .slice z.K.B z.K.m z.K.d]) ∧ z.s = va.s ∧ z.n ≤ va.n + vb.n ∧ Ct w' w.heap.size z (addL L M) (k + q) ∧ Below w.heap.size w w' := by
 obtain ⟨ha1, ⟨la, ha2, ha3⟩, ha4⟩ := ha
 obtain ⟨hb1, ⟨lb, hb2, hb3⟩, hb4⟩ := hb
 go_enter Tryz.func99, Tryz.ntmps99
 go_wp2_with fail
 generalize hW : ((w.alloc (.cells #[.int .i64 va.s, .slice va.A va.n va.c, .bool va.K.s, .slice va.K.A va.K.n va.K.c, .slice va.K.B va.K.m va.K.d] 28)).alloc (.cells #[.int .i64 vb.s, .slice vb.A vb.n vb.c, .bool vb.K.s, .slice vb.K.A vb.K.n vb.K.c, .slice vb.K.B vb.K.m vb.K.d] 28)).alloc (.cells #[.int .i64 0, .slice none 0 0, .bool false, .slice none 0 0, .slice none 0 0] 28) = W
 obtain ⟨ka, kb, kz, HW, hsW⟩ := openK2z w va vb W hW
 clear hW
 obtain ⟨a0, a1, a2, a3, a4⟩ := ka.facts
 obtain ⟨b0, b1, b2, b3, b4⟩ := kb.facts
 obtain ⟨z0, z1, z2, z3, z4⟩ := kz.facts
 obtain ⟨t0, t1, t2, t3, t4⟩ := kz.thaw
 have HA : Hid (Tms W.drew 0 va.A va.n la ∧ Rds W.drew 28500000000 la L ∧ Rw W.drew va.K k 28500000000) := ⟨ha2.below HW.drew, Rds.below HW.drew ha3, ha4.below HW.drew⟩
 have HB : Hid (Tms W.drew 0 vb.A vb.n lb ∧ Rds W.drew 28500000000 lb M ∧ Rw W.drew vb.K q 28500000000) := ⟨hb2.below HW.drew, Rds.below HW.drew hb3, hb4.below HW.drew⟩
 clear ha2 ha3 ha4 hb2 hb3 hb4
 have hn1 : ¬ w.heap.size = w.heap.size + 1 + 1 := by omega
 have hn2 : ¬ w.heap.size + 1 + 1 = w.heap.size := by omega
 go_region_held3 (fun w' => w'.cell? ⟨w.heap.size, 0, none⟩ = some (.int .i64 va.s) ∧ w'.cell? ⟨w.heap.size, 1, none⟩ = some (.slice va.A va.n va.c) ∧ w'.cell? ⟨w.heap.size, 2, none⟩ = some (.bool va.K.s) ∧ w'.cell? ⟨w.heap.size, 3, none⟩ = some (.slice va.K.A va.K.n va.K.c) ∧ w'.cell? ⟨w.heap.size, 4, none⟩ = some (.slice va.K.B va.K.m va.K.d) ∧
   w'.cell? ⟨w.heap.size + 1, 1, none⟩ = some (.slice vb.A vb.n vb.c) ∧ w'.cell? ⟨w.heap.size + 1, 2, none⟩ = some (.bool vb.K.s) ∧ w'.cell? ⟨w.heap.size + 1, 3, none⟩ = some (.slice vb.K.A vb.K.n vb.K.c) ∧ w'.cell? ⟨w.heap.size + 1, 4, none⟩ = some (.slice vb.K.B vb.K.m vb.K.d)) (go_keep)
   (first
   | (
     go_at_call 118
     refine (merge_c va.A vb.A va.n va.c vb.n vb.c la lb L M _ HA.out.1 HB.out.1 HA.out.2.1 HB.out.2.1 ha1 hb1 hn hm).mono ?_
     rintro e w1 ⟨A2, c2, n2, l2, rfl, hn2', hg, hb1'⟩
     have KA := ka.drew.below hb1'
     have KB := kb.drew.below hb1'
     have KZ := kz.drew.below hb1'
     obtain ⟨a0, a1, a2, a3, a4⟩ := KA.facts
     obtain ⟨b0, b1, b2, b3, b4⟩ := KB.facts
     obtain ⟨z0, z1, z2, z3, z4⟩ := KZ.facts
     obtain ⟨t0, t1, t2, t3, t4⟩ := KZ.thaw)
   | (
     go_at_call 86
     refine (Add_c va.K vb.K k q _ ((HA.out.2.2.below hb1').more (by omega)) ((HB.out.2.2.below hb1').more (by omega))).mono ?_
     rintro e w2 ⟨z, rfl, hz, hb2'⟩
     replace KA := KA.below hb2'
     replace KB := KB.below hb2'
     replace KZ := KZ.below hb2'
     obtain ⟨a0, a1, a2, a3, a4⟩ := KA.facts
     obtain ⟨b0, b1, b2, b3, b4⟩ := KB.facts
     obtain ⟨z0, z1, z2, z3, z4⟩ := KZ.facts
     obtain ⟨t0, t1, t2, t3, t4⟩ := KZ.thaw))
 have hs1 : W.heap.size ≤ w1.heap.size := hb1'.size
 have HB3 : Below w.heap.size w w2 := HW.trans ((below_drewN' w.heap.size W 1).trans ((hb1'.mono (by show _ ≤ W.heap.size; omega)).trans (hb2'.mono (by omega))))
 have hgz : Gr w2 (w.heap.size + 3) A2 c2 n2 l2 (addL L M) := by
  have := hg.below hb2'
  rw [show W.drew.heap.size = w.heap.size + 3 from hsW] at this
  exact this
 have hzz : Rt w2 (w.heap.size + 3) z (k + q) := hz.lower (by omega)
 clear hb1' hb2' KA KB ka kb kz hg hz
 go_wp2
 refine ret5 (fn := Tryz.f99) Tryz.results99 rfl rfl KZ ?_
 exact ⟨⟨va.s, A2, n2, c2, z⟩, rfl, rfl, hn2', (Ct.made hgz hzz (by omega)).lower (by omega), HB3.trans (put5_below (by omega) _ _ _ _ _)⟩
theorem openKRz (w : World) (v : Cv) (u : Rv) (W : World) (h : ((w.alloc (.cells #[.int .i64 v.s, .slice v.A v.n v.c, .bool v.K.s, .slice v.K.A v.K.n v.K.c, .slice v.K.B v.K.m v.K.d] 28)).alloc (.cells #[.bool u.s, .slice u.A u.n u.c, .slice u.B u.m u.d] 26)).alloc (.cells #[.int .i64 0, .slice none 0 0, .bool false, .slice none 0 0, .slice none 0 0] 28) = W) :
  C5 W w.heap.size (.int .i64 v.s) (.slice v.A v.n v.c) (.bool v.K.s) (.slice v.K.A v.K.n v.K.c) (.slice v.K.B v.K.m v.K.d) ∧ C3 W (w.heap.size + 1) (.bool u.s) (.slice u.A u.n u.c) (.slice u.B u.m u.d) ∧ C5 W (w.heap.size + 1 + 1) (.int .i64 0) (.slice none 0 0) (.bool false) (.slice none 0 0) (.slice none 0 0) ∧ Below w.heap.size w W ∧ W.heap.size = w.heap.size + 3 := by
 subst h
 have e1 : (w.alloc (.cells #[.int .i64 v.s, .slice v.A v.n v.c, .bool v.K.s, .slice v.K.A v.K.n v.K.c, .slice v.K.B v.K.m v.K.d] 28)).heap.size = w.heap.size + 1 := by simp
 have e2 : ((w.alloc (.cells #[.int .i64 v.s, .slice v.A v.n v.c, .bool v.K.s, .slice v.K.A v.K.n v.K.c, .slice v.K.B v.K.m v.K.d] 28)).alloc (.cells #[.bool u.s, .slice u.A u.n u.c, .slice u.B u.m u.d] 26)).heap.size = w.heap.size + 1 + 1 := by simp
 refine ⟨((C5.new w (.int .i64 v.s) (.slice v.A v.n v.c) (.bool v.K.s) (.slice v.K.A v.K.n v.K.c) (.slice v.K.B v.K.m v.K.d)).alloc _).alloc _, ?_, ?_, ?_, by simp⟩
 ·
  have := C3.new (w.alloc (.cells #[.int .i64 v.s, .slice v.A v.n v.c, .bool v.K.s, .slice v.K.A v.K.n v.K.c, .slice v.K.B v.K.m v.K.d] 28)) (.bool u.s) (.slice u.A u.n u.c) (.slice u.B u.m u.d)
  rw [e1] at this; exact this.alloc _
 ·
  have := C5.new ((w.alloc (.cells #[.int .i64 v.s, .slice v.A v.n v.c, .bool v.K.s, .slice v.K.A v.K.n v.K.c, .slice v.K.B v.K.m v.K.d] 28)).alloc (.cells #[.bool u.s, .slice u.A u.n u.c, .slice u.B u.m u.d] 26)) (.int .i64 0) (.slice none 0 0) (.bool false) (.slice none 0 0) (.slice none 0 0)
  rw [e2] at this; exact this
 · exact (((Below.refl w.heap.size w).alloc (Nat.le_refl _) _).alloc (by simp) _).alloc (by simp; omega) _
structure ScAt (W wr : World) (r : Rat) (L : List (Int × Rat)) (i : Nat) (R : Option Addr) (p e : Nat) (ls : List Tv) (D : List (Int × Rat)) : Prop where
 gr : Gr wr W.heap.size R e p ls D
 eq : scaleL r L = D ++ scaleL r (L.drop i)
 below : Below W.heap.size W wr
 le : p ≤ i
theorem ScAt.step {W wr w2 : World} {r : Rat} {L D : List (Int × Rat)} {i p e p2 c2 : Nat} {R R2 : Option Addr} {ls ls2 : List Tv} {x : Tv} {X : Int × Rat} (h : ScAt W wr r L i R p e ls D) (hT : L[i]? = some X) (ex : x.v = X.1)
  (hg : Gr w2 W.heap.size R2 c2 p2 ls2 (D ++ lay1 x.v (X.2 * r))) (hb : Below W.heap.size W w2) (hp : p2 ≤ p + 1) : ScAt W w2 r L (i + 1) R2 p2 c2 ls2 (D ++ lay1 x.v (X.2 * r)) := by
 have hle := h.le
 refine ⟨hg, ?_, hb, by omega⟩
 rw [h.eq, List.append_assoc, ex]
 congr 1
 obtain ⟨hlt, e⟩ := List.getElem?_eq_some_iff.1 hT
 rw [List.drop_eq_getElem_cons hlt, e]
 rfl
set_option maxHeartbeats 6400000 in
theorem ScaleK_c (va : Cv) (u : Rv) (L : List (Int × Rat)) (k r : Rat) (w : World) (ha : Cw w va L k 28500000000) (hu : Rw w u r 28500000000) (hn : va.n ≤ 1000) :
  Calls Tryz.prog 100 #[.agg #[.int .i64 va.s, .slice va.A va.n va.c, .bool va.K.s, .slice va.K.A va.K.n va.K.c, .slice va.K.B va.K.m va.K.d], .agg #[.bool u.s, .slice u.A u.n u.c, .slice u.B u.m u.d]] w fun e w' => ∃ z : Cv, e = .returned (.agg #[.int .i64 z.s, .slice z.A z.n z.c, .bool z.K.s, .slice z.K.A z.K.n z.K.c, .slice z.K.B z.K.m z.K.d]) ∧ z.s = va.s ∧ z.n ≤ va.n ∧ Ct w' w.heap.size z (scaleL r L) (k * r) ∧ Below w.heap.size w w' := by
 obtain ⟨ha1, ⟨la, ha2, ha3⟩, ha4⟩ := ha
 go_enter Tryz.func100, Tryz.ntmps100
 go_wp2_with fail
 generalize hW : ((w.alloc (.cells #[.int .i64 va.s, .slice va.A va.n va.c, .bool va.K.s, .slice va.K.A va.K.n va.K.c, .slice va.K.B va.K.m va.K.d] 28)).alloc (.cells #[.bool u.s, .slice u.A u.n u.c, .slice u.B u.m u.d] 26)).alloc (.cells #[.int .i64 0, .slice none 0 0, .bool false, .slice none 0 0, .slice none 0 0] 28) = W
 obtain ⟨ka, ku, kz, HW, hsW⟩ := openKRz w va u W hW
 clear hW
 obtain ⟨a0, a1, a2, a3, a4⟩ := ka.facts
 have HLA : Hid (∀ wr, Below W.heap.size W wr → Tms wr 0 va.A va.n la ∧ Rds wr 28500000000 la L ∧ Rw wr va.K k 28500000000 ∧ Rw wr u r 28500000000 ∧ C5 wr w.heap.size (.int .i64 va.s) (.slice va.A va.n va.c) (.bool va.K.s) (.slice va.K.A va.K.n va.K.c) (.slice va.K.B va.K.m va.K.d) ∧ C3 wr (w.heap.size + 1) (.bool u.s) (.slice u.A u.n u.c) (.slice u.B u.m u.d) ∧ C5 wr (w.heap.size + 1 + 1) (.int .i64 0) (.slice none 0 0) (.bool false) (.slice none 0 0) (.slice none 0 0) ∧ Below w.heap.size w wr) := fun wr h =>
  ⟨(ha2.below HW).below h, Rds.below h (Rds.below HW ha3), (ha4.below HW).below h, (hu.below HW).below h, ka.below h, ku.below h, kz.below h, HW.trans (h.mono (by omega))⟩
 have HSC : Hid (ScAt W W r L 0 none 0 0 [] []) := ⟨Gr.nil_ _ _, rfl, Below.refl _ _, Nat.le_refl _⟩
 have HRL := Lib.hid (And.intro ha2.len ha3.len)
 have N0 : (0 : Int) ≤ (va.n : Int) := by omega
 have N1 : (va.n : Int) ≤ 1000 := by omega
 have ZU := Lib.hid (hu.sz (by omega))
 clear ha2 ha3 ha4 hu ka ku kz
 go_wp2
 clear a0 a1 a2 a3 a4
 go_loopw [5, 7, 11] (fun rv _ iv wr => ∃ (i : Nat) (R : Option Addr) (p e : Nat) (ls : List Tv) (D : List (Int × Rat)), i ≤ va.n ∧ iv = .int .i64 i ∧ rv = .slice R p e ∧ Hid (ScAt W wr r L i R p e ls D)) (fun _ _ iv _ => va.n - (intOf iv).toNat)
 case atStart => exact ⟨0, none, 0, 0, [], [], by omega, rfl, rfl, HSC⟩
 case round =>
  clear HSC
  obtain ⟨i, R, p, e, ls, D, hi, rfl, rfl, HSC⟩ := hrel
  have hsw := HSC.out.below.size
  have hle := HSC.out.le
  by_cases hlt : i < va.n
  ·
   have i0 : (0 : Int) ≤ (i : Int) := by omega
   have i1 : (i : Int) < (va.n : Int) := by omega
   obtain ⟨b, off, hva, _, hbw, hc⟩ := (HLA.out _ HSC.out.below).1.mem (by omega)
   rw [hva]
   obtain ⟨x, X, hx, hX, hxv, hxr⟩ := (HLA.out _ HSC.out.below).2.1.get i (by rw [HRL.out.1]; omega)
   obtain ⟨x0, x1, x2, x3⟩ := hc i x hx
   have HX := Lib.hid (And.intro hX hxv)
   have ZX := Lib.hid (hxr.sz (by omega))
   have HALL : Hid (∀ w1, Below wr.heap.size wr w1 → Gr w1 W.heap.size R e p ls D ∧ Rw w1 x.r X.2 28500000000 ∧ Below W.heap.size W w1) := fun w1 h1 =>
    ⟨HSC.out.gr.below h1, hxr.below h1, HSC.out.below.trans (h1.mono HSC.out.below.size)⟩
   have HGL := Lib.hid HSC.out.gr.lt
   clear hX hxv hx hc hva hxr
   go_wp2_with fail
   have ax := At4.new wr x
   have hba : Below wr.heap.size wr (wr.alloc (.cells #[.int .i64 x.v, .bool x.r.s, .slice x.r.A x.r.n x.r.c, .slice x.r.B x.r.m x.r.d] 47)).drew := ((Below.refl _ _).alloc (Nat.le_refl _) _).drew
   have hzA : (wr.alloc (.cells #[.int .i64 x.v, .bool x.r.s, .slice x.r.A x.r.n x.r.c, .slice x.r.B x.r.m x.r.d] 47)).drew.heap.size = wr.heap.size + 1 := by simp
   clear x0 x1 x2 x3
   obtain ⟨x0, x1, x2, x3⟩ := ax
   have HBA := Lib.hid hba
   have hba0 : Below wr.heap.size wr (wr.alloc (.cells #[.int .i64 x.v, .bool x.r.s, .slice x.r.A x.r.n x.r.c, .slice x.r.B x.r.m x.r.d] 47)) := (Below.refl _ _).alloc (Nat.le_refl _) _
   have HK0 := Lib.hid (HLA.out _ (HALL.out _ hba0).2.2)
   clear hba hba0
   generalize wr.alloc (.cells #[.int .i64 x.v, .bool x.r.s, .slice x.r.A x.r.n x.r.c, .slice x.r.B x.r.m x.r.d] 47) = WA at *
   have hzB : WA.heap.size = wr.heap.size + 1 := hzA
   obtain ⟨u0, u1, u2, _, _, _⟩ := HK0.out.2.2.2.2.2.1.facts
   go_region_held3 (fun w' => w'.cell? ⟨wr.heap.size, 0, none⟩ = some (.int .i64 x.v) ∧ w'.cell? ⟨wr.heap.size, 0 + 1, none⟩ = some (.bool x.r.s) ∧ w'.cell? ⟨wr.heap.size, 0 + 2, none⟩ = some (.slice x.r.A x.r.n x.r.c) ∧ w'.cell? ⟨wr.heap.size, 0 + 3, none⟩ = some (.slice x.r.B x.r.m x.r.d) ∧
     w'.cell? ⟨w.heap.size + 1, 0, none⟩ = some (.bool u.s) ∧ w'.cell? ⟨w.heap.size + 1, 1, none⟩ = some (.slice u.A u.n u.c) ∧ w'.cell? ⟨w.heap.size + 1, 2, none⟩ = some (.slice u.B u.m u.d)) (go_keep)
    (first
    | (
      go_at_call 87
      refine (Mul_c x.r u X.2 r _ ((HALL.out _ HBA.out).2.1.more (by omega)) ((HLA.out _ (HALL.out _ HBA.out).2.2).2.2.2.1.more (by omega))).mono ?_
      rintro ee w2 ⟨z, rfl, hz, hb⟩
      have hk := hb.block wr.heap.size (by omega)
      replace x0 := (World.cell?_of_block hk).trans x0
      replace x1 := (World.cell?_of_block hk).trans x1
      replace x2 := (World.cell?_of_block hk).trans x2
      replace x3 := (World.cell?_of_block hk).trans x3
      have hbz := HBA.out.trans (hb.mono (by omega))
      have hsz2 := hb.size
      have G1 := Lib.hid (HALL.out _ hbz)
      have G2 := Lib.hid (HLA.out _ (HALL.out _ hbz).2.2)
      obtain ⟨u0, u1, u2, _, _, _⟩ := G2.out.2.2.2.2.2.1.facts
      clear hk hb hbz)
    | (
      go_at_call 119
      refine (with_c R p e W.heap.size ls D x.v z (X.2 * r) _ G1.out.1 (hz.lower (by omega)) (fun h0 => hz.apt h0 (fun ad e => by have := (HGL.out ad e).2; omega)) ((ZX.out.mul ZU.out).more (by omega)) (by omega) G1.out.2.2.size).mono ?_
      rintro ee w3 ⟨R2, c3, p2, ls2, rfl, hp2, hg2, hb, hgb, hwt⟩
      have hk := hgb.block wr.heap.size (by omega) (by
       intro e2
       cases R with
       | none => cases e2
       |
        some ad =>
        have := (HGL.out ad rfl).2
        injection e2 with e2
        simp at e2
        omega)
      replace x0 := (World.cell?_of_block hk).trans x0
      replace x1 := (World.cell?_of_block hk).trans x1
      replace x2 := (World.cell?_of_block hk).trans x2
      replace x3 := (World.cell?_of_block hk).trans x3
      have B2 := Lib.hid (G1.out.2.2.trans hb)
      have G3 := Lib.hid (HLA.out _ B2.out)
      obtain ⟨u0, u1, u2, _, _, _⟩ := G3.out.2.2.2.2.2.1.facts
      clear hk hb hgb hwt))
   clear x0 x1 x2 x3 u0 u1 u2
   go_wp2
   go_roundw
   case rel => exact ⟨i + 1, R2, p2, c3, ls2, _, by omega, by go_num, rfl, HSC.out.step HX.out.1 HX.out.2 hg2 B2.out hp2⟩
   case measure => simp [intOf]; omega
  ·
   have i1 : ¬ (i : Int) < (va.n : Int) := by omega
   have heq := HSC.out.eq
   rw [List.drop_eq_nil_of_le (by rw [← HRL.out.2, HRL.out.1]; omega), scaleL, List.append_nil] at heq
   have HQ := Lib.hid heq
   clear heq
   have HK := Lib.hid (HLA.out _ HSC.out.below)
   obtain ⟨a0, a1, a2, a3, a4⟩ := HK.out.2.2.2.2.1.facts
   obtain ⟨u0, u1, u2, _, _, _⟩ := HK.out.2.2.2.2.2.1.facts
   obtain ⟨z0, z1, z2, z3, z4⟩ := HK.out.2.2.2.2.2.2.1.facts
   obtain ⟨t0, t1, t2, t3, t4⟩ := HK.out.2.2.2.2.2.2.1.thaw
   go_wp2_with fail
   have hn1 : ¬ w.heap.size = w.heap.size + 1 + 1 := by omega
   have hn2 : ¬ w.heap.size + 1 + 1 = w.heap.size := by omega
   go_region_held3 (fun w' => w'.cell? ⟨w.heap.size, 0, none⟩ = some (.int .i64 va.s) ∧ w'.cell? ⟨w.heap.size, 2, none⟩ = some (.bool va.K.s) ∧ w'.cell? ⟨w.heap.size, 3, none⟩ = some (.slice va.K.A va.K.n va.K.c) ∧ w'.cell? ⟨w.heap.size, 4, none⟩ = some (.slice va.K.B va.K.m va.K.d) ∧
     w'.cell? ⟨w.heap.size + 1, 0, none⟩ = some (.bool u.s) ∧ w'.cell? ⟨w.heap.size + 1, 1, none⟩ = some (.slice u.A u.n u.c) ∧ w'.cell? ⟨w.heap.size + 1, 2, none⟩ = some (.slice u.B u.m u.d)) (go_keep)
    (first
    | (
      go_at_call 87
      refine (Mul_c va.K u k r _ ((HK.out.2.2.1.below (bel1 _)).more (by omega)) ((HK.out.2.2.2.1.below (bel1 _)).more (by omega))).mono ?_
      rintro ee w2 ⟨z, rfl, hz, hb⟩
      have hb' := (bel1 wr).trans hb
      have hbz := HSC.out.below.trans (hb'.mono hsw)
      have G2 := Lib.hid (HLA.out _ hbz)
      obtain ⟨a0, a1, a2, a3, a4⟩ := G2.out.2.2.2.2.1.facts
      obtain ⟨u0, u1, u2, _, _, _⟩ := G2.out.2.2.2.2.2.1.facts
      obtain ⟨z0, z1, z2, z3, z4⟩ := G2.out.2.2.2.2.2.2.1.facts
      obtain ⟨t0, t1, t2, t3, t4⟩ := G2.out.2.2.2.2.2.2.1.thaw
      have HG2 := Lib.hid (HSC.out.gr.below hb')
      have HZ : Hid (Rt w2 W.heap.size z (k * r)) := hz.lower hsw
      clear hb hbz hb' hz))
   clear HK
   go_wp2
   refine ret5 (fn := Tryz.f100) Tryz.results100 rfl rfl G2.out.2.2.2.2.2.2.1 ?_
   refine ⟨⟨va.s, R, p, e, z⟩, rfl, rfl, by show p ≤ _; omega, ?_, G2.out.2.2.2.2.2.2.2.trans (put5_below (by omega) _ _ _ _ _)⟩
   rw [HQ.out]
   exact (Ct.made HG2.out HZ.out (by omega)).lower (by omega)
end Go.Proofs.YtgffkaconhonlaaGreat
