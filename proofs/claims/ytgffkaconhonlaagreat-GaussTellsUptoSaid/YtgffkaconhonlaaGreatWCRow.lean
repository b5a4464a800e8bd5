/-
  Rows of sums that a call makes: what they hold, two of them swapped.
-/
import Derived.Test.YtgffkaconhonlaaGreatWMAa
import Derived.Laws.AppendOwn
import Derived.Laws.OwnMore
import Derived.Deep.AppendLies
namespace Go.Proofs.YtgffkaconhonlaaGreat
set_option maxRecDepth 20000
open Go.RowKit
def kcells (v : Cv) : List Value := [.int .i64 v.s, .slice v.A v.n v.c, .bool v.K.s, .slice v.K.A v.K.n v.K.c, .slice v.K.B v.K.m v.K.d]
theorem Tryz.info28 : (Tryz.prog.info? 28).map (fun i => (i.size, i.bytes)) = some (5, 88) := by kernel_rfl
theorem Tryz.zero28 : (Tryz.prog.info? 28).bind (·.zero) = some (.agg #[.int .i64 0, .slice none 0 0, .bool false, .slice none 0 0, .slice none 0 0]) := by kernel_rfl
structure At5 (w : World) (b o : Nat) (v : Cv) : Prop where
 h0 : w.cell? ⟨b, o, none⟩ = some (.int .i64 v.s)
 h1 : w.cell? ⟨b, o + 1, none⟩ = some (.slice v.A v.n v.c)
 h2 : w.cell? ⟨b, o + 2, none⟩ = some (.bool v.K.s)
 h3 : w.cell? ⟨b, o + 3, none⟩ = some (.slice v.K.A v.K.n v.K.c)
 h4 : w.cell? ⟨b, o + 4, none⟩ = some (.slice v.K.B v.K.m v.K.d)
theorem At5.keep {w w' : World} {b o : Nat} {v : Cv} (h : At5 w b o v) (hk : w'.heap[b]? = w.heap[b]?) : At5 w' b o v := by
 have e : ∀ j, w'.cell? ⟨b, j, none⟩ = w.cell? ⟨b, j, none⟩ := fun j => World.cell?_of_block hk
 exact ⟨(e _).trans h.h0, (e _).trans h.h1, (e _).trans h.h2, (e _).trans h.h3, (e _).trans h.h4⟩
theorem At5.new (w : World) (v : Cv) : At5 (w.alloc (.cells #[.int .i64 v.s, .slice v.A v.n v.c, .bool v.K.s, .slice v.K.A v.K.n v.K.c, .slice v.K.B v.K.m v.K.d] 28)) w.heap.size 0 v := by
 constructor <;> (rw [World.cell?_alloc_at _ _ _ _ rfl]; rfl)
structure Kons (w : World) (A : Option Addr) (n : Nat) (l : List Cv) : Prop where
 len : l.length = n
 mem : 0 < n → ∃ b off, A = some ⟨b, off, none⟩ ∧ b < w.heap.size ∧ ∀ i x, l[i]? = some x → At5 w b (off + i * 5) x
theorem Kons.below {w w' : World} {n : Nat} {A : Option Addr} {l : List Cv} (h : Kons w A n l) (hb : Below w.heap.size w w') : Kons w' A n l :=
 ⟨h.len, fun hn => by
  obtain ⟨b, off, e, h1, hc⟩ := h.mem hn
  exact ⟨b, off, e, Nat.lt_of_lt_of_le h1 hb.size, fun i x hx => (hc i x hx).keep (hb.block b h1)⟩⟩
structure OwnC (w : World) (lo : Nat) (A : Option Addr) (c n : Nat) (l : List Cv) : Prop where
 len : l.length = n
 own : w.ownsRow lo 28 5 (.slice A n c) n (l.flatMap kcells)
theorem flatC_len (l : List Cv) : (l.flatMap kcells).length = l.length * 5 := by
 induction l with
 | nil => rfl
 | cons x l ih => rw [List.flatMap_cons, List.length_append, ih, List.length_cons]; show 5 + _ = _; omega
theorem flatC_get : ∀ (l : List Cv) (i j : Nat) (x : Cv), l[i]? = some x → j < 5 → (l.flatMap kcells)[i * 5 + j]? = (kcells x)[j]?
 | [], _, _, _, h, _ => by simp at h
 |
  y :: l, 0, j, x, h, hj => by
  simp at h
  subst h
  rw [List.flatMap_cons, Nat.zero_mul, Nat.zero_add, List.getElem?_append_left (by show j < 5; exact hj)]
 |
  y :: l, i + 1, j, x, h, hj => by
  rw [List.flatMap_cons, List.getElem?_append_right (by show 5 ≤ _; omega)]
  rw [show (i + 1) * 5 + j - (kcells y).length = i * 5 + j by show _ - 5 = _; omega]
  exact flatC_get l i j x (by simpa using h) hj
theorem OwnC.mem {w : World} {lo c n : Nat} {A : Option Addr} {l : List Cv} (h : OwnC w lo A c n l) (hn : 0 < n) : ∃ b, A = some ⟨b, 0, none⟩ ∧ lo ≤ b ∧ b < w.heap.size ∧ ∀ i x, l[i]? = some x → At5 w b (i * 5) x := by
 rcases h.own.2 with ⟨hv, h0⟩ | ⟨g, cap, cur, hv, hb, hh, hc, hm, hs, ht⟩
 · omega
 ·
  injection hv with hA _ _
  refine ⟨g, hA, hb, ?_, fun i x hx => ?_⟩
  ·
   rcases Nat.lt_or_ge g w.heap.size with h1 | h1
   · exact h1
   ·
    have : w.heap[g]? = none := Array.getElem?_eq_none h1
    rw [this] at hh; cases hh
  ·
   have hi : i < n := by rw [← h.len]; exact (List.getElem?_eq_some_iff.1 hx).1
   have hg : ∀ j, j < 5 → w.cell? ⟨g, i * 5 + j, none⟩ = (kcells x)[j]? := fun j hj => by
    have e1 : w.cell? ⟨g, i * 5 + j, none⟩ = cur[i * 5 + j]? := by simp [World.cell?, hh]
    rw [e1, ← flatC_get l i j x hx hj, ← ht, List.getElem?_take, if_pos (by omega), Array.getElem?_toList]
   exact ⟨hg 0 (by omega), hg 1 (by omega), hg 2 (by omega), hg 3 (by omega), hg 4 (by omega)⟩
theorem OwnC.kons {w : World} {lo c n : Nat} {A : Option Addr} {l : List Cv} (h : OwnC w lo A c n l) : Kons w A n l := by
 refine ⟨h.len, fun hn => ?_⟩
 obtain ⟨b, e, _, h1, hc⟩ := h.mem hn
 exact ⟨b, 0, e, h1, fun i x hx => by rw [Nat.zero_add]; exact hc i x hx⟩
theorem OwnC.nil_ (w : World) (lo : Nat) : OwnC w lo none 0 0 [] := ⟨rfl, World.ownsRow_nil w lo _ 5⟩
theorem OwnC.grown {w w' : World} {lo c n : Nat} {A : Option Addr} {l : List Cv} (h : OwnC w lo A c n l) {row : Option Nat} (hg : w.grownBy w' row) (hne : ∀ ad, A = some ad → some ad.block ≠ row) : OwnC w' lo A c n l := by
 refine ⟨h.len, h.own.kept hg ?_⟩
 cases A with
 | none => left; rfl
 | some ad => right; exact hne ad rfl
theorem OwnC.below {w w' : World} {lo c n : Nat} {A : Option Addr} {l : List Cv} (h : OwnC w lo A c n l) (hb : Below w.heap.size w w') : OwnC w' lo A c n l := h.grown (grown_of_below hb) (fun _ _ => by simp)
theorem OwnC.lower {w : World} {lo lo' c n : Nat} {A : Option Addr} {l : List Cv} (h : OwnC w lo A c n l) (hl : lo' ≤ lo) : OwnC w lo' A c n l := by
 refine ⟨h.len, h.own.1, ?_⟩
 rcases h.own.2 with hn | ⟨g, cap, cur, hv, hb, rest⟩
 · exact .inl hn
 · exact .inr ⟨g, cap, cur, hv, by omega, rest⟩
theorem OwnC.capLe {w : World} {lo c n : Nat} {A : Option Addr} {l : List Cv} (h : OwnC w lo A c n l) : n ≤ c := by
 rcases h.own.2 with ⟨hv, hn⟩ | ⟨g, cap, cur, hv, _, _, hc, _⟩
 · omega
 · injection hv with _ _ hc2; omega
theorem OwnC.lt {w : World} {lo n c : Nat} {A : Option Addr} {l : List Cv} (h : OwnC w lo A c n l) : ∀ ad, A = some ad → lo ≤ ad.block ∧ ad.block < w.heap.size := by
 intro ad e
 subst e
 exact h.own.lt ad.block rfl
theorem OwnC.thaw {w : World} {lo n c g : Nat} {l : List Cv} (h : OwnC w lo (some ⟨g, 0, none⟩) c n l) (j : Nat) : w.frozen? ⟨g, j, none⟩ = false := h.own.frozenAt _
abbrev putC (w : World) (b o : Nat) (v : Cv) : World := ((((w.setCell ⟨b, o, none⟩ (.int .i64 v.s)).setCell ⟨b, o + 1, none⟩ (.slice v.A v.n v.c)).setCell ⟨b, o + 2, none⟩ (.bool v.K.s)).setCell ⟨b, o + 3, none⟩ (.slice v.K.A v.K.n v.K.c)).setCell ⟨b, o + 4, none⟩ (.slice v.K.B v.K.m v.K.d)
theorem flatC_set : ∀ (l : List Cv) (j : Nat) (t : Cv), (((((l.flatMap kcells).set (j * 5) (.int .i64 t.s)).set (j * 5 + 1) (.slice t.A t.n t.c)).set (j * 5 + 2) (.bool t.K.s)).set (j * 5 + 3) (.slice t.K.A t.K.n t.K.c)).set (j * 5 + 4) (.slice t.K.B t.K.m t.K.d) = (l.set j t).flatMap kcells
 | [], j, t => by simp
 | x :: l, 0, t => rfl
 |
  x :: l, j + 1, t => by
  have e : ∀ (y : Cv) (k : List Cv), (y :: k).flatMap kcells = .int .i64 y.s :: .slice y.A y.n y.c :: .bool y.K.s :: .slice y.K.A y.K.n y.K.c :: .slice y.K.B y.K.m y.K.d :: k.flatMap kcells := fun _ _ => rfl
  rw [List.set_cons_succ, e, e, ← flatC_set l j t, show (j + 1) * 5 = j * 5 + 1 + 1 + 1 + 1 + 1 by omega, show j * 5 + 1 + 1 + 1 + 1 + 1 + 2 = (j * 5 + 2) + 1 + 1 + 1 + 1 + 1 by omega, show j * 5 + 1 + 1 + 1 + 1 + 1 + 3 = (j * 5 + 3) + 1 + 1 + 1 + 1 + 1 by omega, show j * 5 + 1 + 1 + 1 + 1 + 1 + 4 = (j * 5 + 4) + 1 + 1 + 1 + 1 + 1 by omega]
  simp only [List.set_cons_succ]
theorem kput_grown (w : World) (b j : Nat) (x : Value) : w.grownBy (w.setCell ⟨b, j, none⟩ x) (some b) :=
 ⟨rfl, rfl, rfl, by simp [World.setCell], fun k _ hk => heap_setCell_other w ⟨b, j, none⟩ k x (fun e => hk (by simp [e]))⟩
theorem putC_grown (w : World) (b o : Nat) (v : Cv) : w.grownBy (putC w b o v) (some b) :=
 ((((kput_grown w b o _).trans (kput_grown _ b _ _)).trans (kput_grown _ b _ _)).trans (kput_grown _ b _ _)).trans (kput_grown _ b _ _)
theorem OwnC.set {w : World} {lo c n g j : Nat} {l : List Cv} {t : Cv} (h : OwnC w lo (some ⟨g, 0, none⟩) c n l) : OwnC (putC w g (j * 5) t) lo (some ⟨g, 0, none⟩) c n (l.set j t) := by
 refine ⟨by rw [List.length_set, h.len], ?_⟩
 rw [← flatC_set]
 exact ((((((h.own.stored (j * 5) (.int .i64 t.s)).1).stored (j * 5 + 1) (.slice t.A t.n t.c)).1.stored (j * 5 + 2) (.bool t.K.s)).1.stored (j * 5 + 3) (.slice t.K.A t.K.n t.K.c)).1.stored (j * 5 + 4) (.slice t.K.B t.K.m t.K.d)).1
theorem OwnC.swap {w : World} {lo c n g i j : Nat} {l : List Cv} {u v : Cv} (h : OwnC w lo (some ⟨g, 0, none⟩) c n l) (hi : l[i]? = some u) (hj : l[j]? = some v) :
  ∃ l2 : List Cv, l2.Perm l ∧ OwnC (putC (putC w g (i * 5) v) g (j * 5) u) lo (some ⟨g, 0, none⟩) c n l2 ∧ w.grownBy (putC (putC w g (i * 5) v) g (j * 5) u) (some g) := by
 obtain ⟨h1, rfl⟩ := List.getElem?_eq_some_iff.1 hi
 obtain ⟨h2, rfl⟩ := List.getElem?_eq_some_iff.1 hj
 exact ⟨(l.set i l[j]).set j l[i], List.set_set_perm h1 h2, h.set.set, (putC_grown w g _ _).trans (putC_grown _ g _ _)⟩
structure Srt (lo c n g : Nat) (l : List Cv) (w wr : World) : Prop where
 it : ∃ l2 : List Cv, l2.Perm l ∧ OwnC wr lo (some ⟨g, 0, none⟩) c n l2
 grown : w.grownBy wr (some g)
theorem grown_refl (w : World) (g : Option Nat) : w.grownBy w g := ⟨rfl, rfl, rfl, Nat.le_refl _, fun _ _ _ => rfl⟩
theorem Srt.start {lo c n g : Nat} {l : List Cv} {w : World} (h : OwnC w lo (some ⟨g, 0, none⟩) c n l) : Srt lo c n g l w w := ⟨⟨l, .refl _, h⟩, grown_refl _ _⟩
theorem Srt.below {lo c n g : Nat} {l : List Cv} {w wr w2 : World} (h : Srt lo c n g l w wr) (hb : Below wr.heap.size wr w2) : Srt lo c n g l w w2 := by
 obtain ⟨⟨l2, hp, ho⟩, hg⟩ := h
 exact ⟨⟨l2, hp, ho.below hb⟩, hg.trans (grown_row hb _)⟩
theorem Srt.trans {lo c n g : Nat} {l : List Cv} {w wr w2 : World} (h : Srt lo c n g l w wr) (h2 : ∀ l', OwnC wr lo (some ⟨g, 0, none⟩) c n l' → Srt lo c n g l' wr w2) : Srt lo c n g l w w2 := by
 obtain ⟨⟨l', hp, ho⟩, hg⟩ := h
 obtain ⟨⟨l2, hp2, ho2⟩, hg2⟩ := h2 l' ho
 exact ⟨⟨l2, hp2.trans hp, ho2⟩, hg.trans hg2⟩
end Go.Proofs.YtgffkaconhonlaaGreat
