/-
  Plain numbers, no program: what a row of limbs is worth, the row of a number, and the sums that a loop over limbs keeps.
  Words for memory: a slice of uint32 reads as a row of limbs; what keeps that.
  The leaves: Is, head.
  Leaves that read one limb, carry, and copy a row: limbAt, at, order, Add32, limbs, Trim.
  limbs: two rows that read as one list are told to be one.
  Both together: the document's way and the program's.
  The program's Add: both together.
-/
import Derived.WalkKit
import Derived.Test.YtjbhhccklfddaaaRows
import Derived.WalkSpells
import Derived.WalkLawsBesides
import Derived.Lib.Hide
import Derived.Deep.AppendLies
import Derived.Deep.Draws
import Derived.Maps.AppendAt
import Derived.RegionTactic
import Derived.Laws.CopyOwn
import Derived.BigQuiet
import Derived.Deep.QuietTactic
import Derived.ChangeAlike
import Derived.StillTailTactics
import Derived.Deep.RegionWith
import Derived.Deep.DeepCutAuto
namespace Go.Proofs.Ytjbhhccklfddaaa
set_option maxRecDepth 20000
def val : List Nat → Nat
 | [] => 0
 | x :: l => x + 4294967296 * val l
def dg (l : List Nat) (i : Nat) : Nat := l.getD i 0
theorem dg_eq (l : List Nat) (i : Nat) : dg l i = l[i]?.getD 0 := by unfold dg; exact List.getD_eq_getElem?_getD
@[simp] theorem dg_nil (i : Nat) : dg [] i = 0 := by simp [dg_eq]
@[simp] theorem dg_zero (x : Nat) (l : List Nat) : dg (x :: l) 0 = x := by simp [dg_eq]
@[simp] theorem dg_succ (x : Nat) (l : List Nat) (i : Nat) : dg (x :: l) (i + 1) = dg l i := by simp [dg_eq]
theorem dg_out {l : List Nat} {i : Nat} (h : l.length ≤ i) : dg l i = 0 := by rw [dg_eq, List.getElem?_eq_none h]; rfl
def L32 (l : List Nat) : Prop := ∀ i, dg l i < 4294967296
def lim (n : Nat) : List Nat := if h : n = 0 then [] else (n % 4294967296) :: lim (n / 4294967296)
 decreasing_by omega
theorem lim_zero : lim 0 = [] := by rw [lim]; simp
theorem lim_pos {n : Nat} (h : n ≠ 0) : lim n = (n % 4294967296) :: lim (n / 4294967296) := by rw [lim]; simp [h]
theorem val_lim : ∀ n : Nat, val (lim n) = n := by
 intro n
 induction n using Nat.strongRecOn with
 |
  _ n ih =>
  by_cases h : n = 0
  · subst h; simp [lim_zero, val]
  · rw [lim_pos h, val, ih (n / 4294967296) (by omega)]; omega
theorem L32.nil : L32 [] := fun i => by simp
theorem L32.cons {x : Nat} {l : List Nat} (h : x < 4294967296) (hl : L32 l) : L32 (x :: l) := by
 intro i
 cases i with
 | zero => simpa using h
 | succ i => simpa using hl i
theorem L32.head {x : Nat} {l : List Nat} (h : L32 (x :: l)) : x < 4294967296 := by simpa using h 0
theorem L32.tail {x : Nat} {l : List Nat} (h : L32 (x :: l)) : L32 l := fun i => by simpa using h (i + 1)
theorem L32_lim : ∀ n : Nat, L32 (lim n) := by
 intro n
 induction n using Nat.strongRecOn with
 |
  _ n ih =>
  by_cases h : n = 0
  · subst h; rw [lim_zero]; exact L32.nil
  · rw [lim_pos h]; exact L32.cons (by omega) (ih _ (by omega))
theorem L32.take {l : List Nat} (h : L32 l) (k : Nat) : L32 (l.take k) := by
 intro i
 rw [dg_eq, List.getElem?_take]
 split
 · rw [← dg_eq]; exact h i
 · simp
theorem L32.drop {l : List Nat} (h : L32 l) (k : Nat) : L32 (l.drop k) := by
 intro i
 rw [dg_eq, List.getElem?_drop, ← dg_eq]; exact h _
def Tr (l : List Nat) : Prop := l.length = 0 ∨ dg l (l.length - 1) ≠ 0
theorem Tr.tail {x y : Nat} {l : List Nat} (h : Tr (x :: y :: l)) : Tr (y :: l) := by
 unfold Tr at *
 simp at h ⊢
 simpa using h
theorem val_pos : ∀ {l : List Nat}, l ≠ [] → Tr l → val l ≠ 0 := by
 intro l
 induction l with
 | nil => intro h; exact absurd rfl h
 |
  cons x l ih =>
  intro _ ht
  cases l with
  | nil => unfold Tr at ht; simp at ht; simp [val]; exact ht
  | cons y l => have := ih (by simp) ht.tail; rw [val]; omega
theorem lim_val : ∀ {l : List Nat}, L32 l → Tr l → lim (val l) = l := by
 intro l
 induction l with
 | nil => intro _ _; simp [val, lim_zero]
 |
  cons x l ih =>
  intro hl ht
  have hp := val_pos (by simp) ht
  have hx := hl.head
  rw [lim_pos hp, val]
  have e1 : (x + 4294967296 * val l) % 4294967296 = x := by omega
  have e2 : (x + 4294967296 * val l) / 4294967296 = val l := by omega
  rw [e1, e2]
  cases l with
  | nil => simp [val, lim_zero]
  | cons y l => rw [ih hl.tail ht.tail]
theorem lim_tr (n : Nat) : Tr (lim n) := by
 induction n using Nat.strongRecOn with
 |
  _ n ih =>
  by_cases h : n = 0
  · subst h; rw [lim_zero]; exact .inl rfl
  ·
   rw [lim_pos h]
   have := ih (n / 4294967296) (by omega)
   by_cases h2 : n / 4294967296 = 0
   · rw [h2, lim_zero]; right; simp; omega
   ·
    rw [lim_pos h2] at this ⊢
    unfold Tr at this ⊢
    right
    simpa using this
def S (f : Nat → Nat) : Nat → Nat
 | 0 => 0
 | k + 1 => S f k + 4294967296 ^ k * f k
theorem S_shift (f : Nat → Nat) : ∀ k, S f (k + 1) = f 0 + 4294967296 * S (fun i => f (i + 1)) k := by
 intro k
 induction k with
 | zero => simp [S]
 |
  succ k ih =>
  rw [S, ih, S, Nat.pow_succ, Nat.mul_add]
  rw [Nat.mul_comm (4294967296 ^ k) 4294967296, Nat.mul_assoc, Nat.add_assoc]
theorem S_congr {f g : Nat → Nat} {k : Nat} (h : ∀ i, i < k → f i = g i) : S f k = S g k := by
 induction k with
 | zero => rfl
 | succ k ih => rw [S, S, ih (fun i hi => h i (by omega)), h k (by omega)]
theorem S_val (l : List Nat) : S (fun i => dg l i) l.length = val l := by
 induction l with
 | nil => rfl
 |
  cons x l ih =>
  rw [List.length_cons, S_shift, val]
  simp only [dg_zero, dg_succ]
  rw [ih]
theorem S_more (l : List Nat) (k : Nat) (h : l.length ≤ k) : S (fun i => dg l i) k = val l := by
 obtain ⟨d, rfl⟩ : ∃ d, k = l.length + d := ⟨k - l.length, by omega⟩
 induction d with
 | zero => exact S_val l
 |
  succ d ih =>
  rw [← Nat.add_assoc, S, ih (by omega)]
  have : dg l (l.length + d) = 0 := by simp [dg_eq]
  rw [this]; simp
theorem S_take (l : List Nat) (k : Nat) : S (fun i => dg l i) k = val (l.take k) := by
 by_cases h : k ≤ l.length
 ·
  have : (l.take k).length = k := by simp [h]
  rw [← S_val (l.take k), this]
  apply S_congr
  intro i hi
  simp [dg_eq, hi]
 · rw [List.take_of_length_le (by omega), S_more _ _ (by omega)]
theorem S_lt {f : Nat → Nat} {k : Nat} (h : ∀ i, i < k → f i < 4294967296) : S f k < 4294967296 ^ k := by
 induction k with
 | zero => simp [S]
 |
  succ k ih =>
  have h1 := ih (fun i hi => h i (by omega))
  have h2 := h k (by omega)
  rw [S, Nat.pow_succ]
  have h3 : 4294967296 ^ k * f k ≤ 4294967296 ^ k * 4294967295 := Nat.mul_le_mul_left _ (by omega)
  omega
theorem val_lt {l : List Nat} (h : L32 l) : val l < 4294967296 ^ l.length := by
 rw [← S_val]; exact S_lt fun i _ => h i
theorem val_take_drop (l : List Nat) (k : Nat) (h : k ≤ l.length) : val l = val (l.take k) + 4294967296 ^ k * val (l.drop k) := by
 induction k generalizing l with
 | zero => simp [val]
 |
  succ k ih =>
  cases l with
  | nil => simp at h
  |
   cons x l =>
   simp only [List.take_succ_cons, List.drop_succ_cons, val]
   rw [ih l (by simpa using h), Nat.pow_succ, Nat.mul_add, Nat.mul_comm (4294967296 ^ k) 4294967296, Nat.mul_assoc]
   omega
theorem val_append (l m : List Nat) : val (l ++ m) = val l + 4294967296 ^ l.length * val m := by
 rw [val_take_drop (l ++ m) l.length (by simp)]; simp
theorem val_take_pred (l : List Nat) (k : Nat) (h0 : 0 < k) (hz : dg l (k - 1) = 0) : val (l.take (k - 1)) = val (l.take k) := by
 rw [← S_take, ← S_take]
 obtain ⟨j, rfl⟩ : ∃ j, k = j + 1 := ⟨k - 1, by omega⟩
 simp only [Nat.add_sub_cancel] at hz ⊢
 rw [S, hz]; simp
theorem lim_of_take {l : List Nat} (hl : L32 l) {k : Nat} (hk : k ≤ l.length) (hv : val (l.take k) = val l) (ht : k = 0 ∨ dg l (k - 1) ≠ 0) : lim (val l) = l.take k := by
 rw [← hv]
 refine lim_val (hl.take k) ?_
 unfold Tr
 have e : (l.take k).length = k := by simp [hk]
 rw [e]
 rcases ht with rfl | ht
 · exact .inl rfl
 ·
  by_cases h0 : k = 0
  · exact .inl h0
  ·
   right
   simpa [dg_eq, List.getElem?_take, show k - 1 < k by omega] using ht
theorem lim_len_le {l : List Nat} (hl : L32 l) : (lim (val l)).length ≤ l.length := by
 suffices h : ∀ k, k ≤ l.length → val (l.take k) = val l → (lim (val l)).length ≤ l.length from h l.length (Nat.le_refl _) (by simp)
 intro k
 induction k with
 | zero => intro hk hv; rw [lim_of_take hl hk hv (.inl rfl)]; simp
 |
  succ k ih =>
  intro hk hv
  by_cases hz : dg l k = 0
  · exact ih (by omega) ((val_take_pred l (k + 1) (by omega) (by simpa using hz)).trans hv)
  · rw [lim_of_take hl hk hv (.inr (by simpa using hz))]; simp; omega
theorem lim_take {l : List Nat} (hl : L32 l) : lim (val l) = l.take (lim (val l)).length := by
 suffices h : ∀ k, k ≤ l.length → val (l.take k) = val l → lim (val l) = l.take (lim (val l)).length from h l.length (Nat.le_refl _) (by simp)
 intro k
 induction k with
 | zero => intro hk hv; have := lim_of_take hl hk hv (.inl rfl); simp [this]
 |
  succ k ih =>
  intro hk hv
  by_cases hz : dg l k = 0
  · exact ih (by omega) ((val_take_pred l (k + 1) (by omega) (by simpa using hz)).trans hv)
  ·
   have h := lim_of_take hl hk hv (.inr (by simpa using hz))
   have e : (lim (val l)).length = k + 1 := by rw [h]; simp; omega
   rw [e]; exact h
theorem lim_len_lt {n k : Nat} (h : n < 4294967296 ^ k) : (lim n).length ≤ k := by
 induction k generalizing n with
 | zero =>
      have : n = 0 := by simpa using h
      subst this; simp [lim_zero]
 |
  succ k ih =>
  by_cases h0 : n = 0
  · subst h0; simp [lim_zero]
  ·
   rw [lim_pos h0]
   have := ih (n := n / 4294967296) (by rw [Nat.pow_succ] at h; exact Nat.div_lt_of_lt_mul (by rw [Nat.mul_comm]; exact h))
   simpa using this
theorem lim_len_ge {n k : Nat} (h : 4294967296 ^ k ≤ n) : k < (lim n).length := by
 rcases Nat.lt_or_ge k (lim n).length with h1 | h1
 · exact h1
 ·
  exfalso
  have h2 := val_lt (L32_lim n)
  rw [val_lim] at h2
  have h3 : 4294967296 ^ (lim n).length ≤ 4294967296 ^ k := Nat.pow_le_pow_right (by omega) h1
  omega
theorem add_step {P S1 Sa Sb c x y d c' : Nat} (h : S1 + P * c = Sa + Sb) (hd : d + 4294967296 * c' = x + y + c) :
  (S1 + P * d) + (P * 4294967296) * c' = (Sa + P * x) + (Sb + P * y) := by
 have := congrArg (P * ·) hd
 simp only [Nat.mul_add] at this
 rw [← Nat.mul_assoc] at this
 omega
theorem sub_step {P S1 Sa Sb c x y d c' : Nat} (h : S1 + Sb = Sa + P * c) (hd : d + y + c = x + 4294967296 * c') :
  (S1 + P * d) + (Sb + P * y) = (Sa + P * x) + (P * 4294967296) * c' := by
 have := congrArg (P * ·) hd
 simp only [Nat.mul_add] at this
 rw [← Nat.mul_assoc] at this
 omega
end Go.Proofs.Ytjbhhccklfddaaa
namespace Go.Proofs.Ytjbhhccklfddaaa
set_option maxRecDepth 20000
open Go.RowKit
def limb (x : Nat) : Value := .int .u32 (x : Int)
structure Row (w : World) (lo : Nat) (A : Option Addr) (n : Nat) (l : List Nat) : Prop where
 len : l.length = n
 l32 : L32 l
 mem : 0 < n → ∃ b off, A = some ⟨b, off, none⟩ ∧ lo ≤ b ∧ b < w.heap.size ∧ ∀ j, j < n → w.cell? ⟨b, off + j, none⟩ = some (.int .u32 ((dg l j : Nat) : Int))
section
variable {w w' : World} {lo lo' n : Nat} {A : Option Addr} {l : List Nat}
theorem Row.nil_ (w : World) (lo : Nat) (A : Option Addr) : Row w lo A 0 [] := ⟨rfl, L32.nil, fun h => absurd h (by omega)⟩
theorem Row.keep (h : Row w lo A n l) (hz : w.heap.size ≤ w'.heap.size) (hk : ∀ p : Addr, lo ≤ p.block → p.block < w.heap.size → w'.cell? p = w.cell? p) : Row w' lo A n l :=
 ⟨h.len, h.l32, fun hn => by
  obtain ⟨b, off, e, h1, h2, hc⟩ := h.mem hn
  exact ⟨b, off, e, h1, by omega, fun j hj => (hk _ h1 h2).trans (hc j hj)⟩⟩
theorem Row.below (h : Row w lo A n l) (hb : Below w.heap.size w w') : Row w' lo A n l := h.keep hb.size fun _ _ hp => hb.cell hp
theorem Row.same (h : Row w lo A n l) (e : w'.heap = w.heap) : Row w' lo A n l := h.keep (by rw [e]; exact Nat.le_refl _) fun p _ _ => World.cell?_of_block (by rw [e])
theorem Row.drew (h : Row w lo A n l) : Row w.drew lo A n l := h.keep (Nat.le_refl _) fun _ _ _ => rfl
theorem Row.drewN (h : Row w lo A n l) (k : Nat) : Row (w.drewN k) lo A n l := h.keep (Nat.le_refl _) fun _ _ _ => rfl
theorem Row.alloc (h : Row w lo A n l) (o : Obj) : Row (w.alloc o) lo A n l :=
 h.keep (by simp) fun p _ hp => World.cell?_alloc_lt w o p hp
theorem Row.lower (h : Row w lo A n l) (hl : lo' ≤ lo) : Row w lo' A n l :=
 ⟨h.len, h.l32, fun hn => by
  obtain ⟨b, off, e, h1, h2, hc⟩ := h.mem hn
  exact ⟨b, off, e, by omega, h2, hc⟩⟩
theorem Row.take (h : Row w lo A n l) {k : Nat} (hk : k ≤ n) : Row w lo A k (l.take k) := by
 refine ⟨by rw [List.length_take, h.len]; omega, h.l32.take k, fun h0 => ?_⟩
 obtain ⟨b, off, e, h1, h2, hc⟩ := h.mem (by omega)
 refine ⟨b, off, e, h1, h2, fun j hj => ?_⟩
 rw [hc j (by omega)]
 simp [dg_eq, hj]
theorem Row.drop {b off : Nat} (h : Row w lo (some ⟨b, off, none⟩) n l) {k : Nat} (hk : k ≤ n) : Row w lo (some ⟨b, off + k, none⟩) (n - k) (l.drop k) := by
 refine ⟨by rw [List.length_drop, h.len], h.l32.drop k, fun h0 => ?_⟩
 obtain ⟨b', off', e, h1, h2, hc⟩ := h.mem (by omega)
 injection e with e
 injection e with e1 e2
 subst e1 e2
 refine ⟨b, off + k, rfl, h1, h2, fun j hj => ?_⟩
 rw [Nat.add_assoc, hc (k + j) (by omega), dg_eq, dg_eq, List.getElem?_drop]
theorem Row.lim (h : Row w lo A n l) : Row w lo A (lim (val l)).length (lim (val l)) := by
 have h1 := h.take (k := (Go.Proofs.Ytjbhhccklfddaaa.lim (val l)).length) (by rw [← h.len]; exact lim_len_le h.l32)
 rwa [← lim_take h.l32] at h1
theorem Row.set (h : Row w lo A n l) {p : Addr} (u : Value) (hp : ∀ ad, A = some ad → ad.block ≠ p.block) : Row (w.setCell p u) lo A n l :=
 ⟨h.len, h.l32, fun hn => by
  obtain ⟨b, off, e, h1, h2, hc⟩ := h.mem hn
  refine ⟨b, off, e, h1, by simpa using h2, fun j hj => ?_⟩
  rw [World.cell?_setCell_other w p _ u (fun eq => hp _ e (by rw [eq]))]
  exact hc j hj⟩
end
theorem Try.info66 : (Try.prog.info? 66).map (fun i => (i.zero, i.size, i.bytes)) = some (some (.int .u32 0), 1, 4) := by kernel_rfl
theorem Try.size66 : (Try.prog.info? 66).map (·.size) = some 1 := by kernel_rfl
structure Own (w : World) (lo : Nat) (A : Option Addr) (c n : Nat) (l : List Nat) : Prop where
 l32 : L32 l
 own : w.ownsRow lo 66 1 (.slice A n c) n (l.map limb)
section
variable {w w' : World} {lo lo' n c : Nat} {A : Option Addr} {l : List Nat}
theorem Own.len (h : Own w lo A c n l) : l.length = n := by simpa using h.own.1
theorem Own.form (h : Own w lo A c n l) (hn : 0 < n) : ∃ g, A = some ⟨g, 0, none⟩ ∧ lo ≤ g ∧ g < w.heap.size := by
 obtain ⟨g, cap, hv, hb, hlt⟩ := h.own.form hn
 injection hv with hA
 exact ⟨g, hA, hb, hlt⟩
theorem Own.capLe (h : Own w lo A c n l) : n ≤ c := by
 rcases h.own.2 with ⟨hv, hn⟩ | ⟨g, cap, cur, hv, _, _, hc, _⟩
 · omega
 · injection hv with _ _ hc2; omega
theorem getD_map_limb (l : List Nat) (j : Nat) (hj : j < l.length) : (l.map limb)[j]? = some (.int .u32 ((dg l j : Nat) : Int)) := by
 simp [limb, dg_eq, hj]
theorem Own.row (h : Own w lo A c n l) : Row w lo A n l := by
 refine ⟨h.len, h.l32, fun hn => ?_⟩
 obtain ⟨g, rfl, h1, h2⟩ := h.form hn
 refine ⟨g, 0, rfl, h1, h2, fun j hj => ?_⟩
 rw [Nat.zero_add, h.own.cellAt j (by omega)]
 exact getD_map_limb l j (by rw [h.len]; exact hj)
theorem Own.nil_ (w : World) (lo : Nat) : Own w lo none 0 0 [] := ⟨L32.nil, World.ownsRow_nil w lo _ 1⟩
theorem Own.grown (h : Own w lo A c n l) {row : Option Nat} (hg : w.grownBy w' row) (hne : ∀ ad, A = some ad → some ad.block ≠ row) : Own w' lo A c n l := by
 refine ⟨h.l32, h.own.kept hg ?_⟩
 cases A with
 | none => left; rfl
 | some ad => right; exact hne ad rfl
theorem grown_of_below (hb : Below w.heap.size w w') : w.grownBy w' none := ⟨hb.os, hb.tape, hb.output, hb.size, fun k hk _ => hb.block k hk⟩
theorem below_of_grown (hg : w.grownBy w' none) : Below w.heap.size w w' := ⟨hg.os, hg.tape, hg.output, hg.size, fun k hk => hg.block k hk (by simp)⟩
theorem below_of_grown_row {B g : Nat} (hg : w.grownBy w' (some g)) (hB : B ≤ g) (hs : B ≤ w.heap.size) : Below B w w' :=
 ⟨hg.os, hg.tape, hg.output, hg.size, fun k hk => hg.block k (by omega) (by simp; omega)⟩
theorem Own.below (h : Own w lo A c n l) (hb : Below w.heap.size w w') : Own w' lo A c n l := h.grown (grown_of_below hb) (fun _ _ => by simp)
theorem Own.drew (h : Own w lo A c n l) : Own w.drew lo A c n l := h.below ⟨rfl, rfl, rfl, Nat.le_refl _, fun _ _ => rfl⟩
theorem Own.alloc (h : Own w lo A c n l) (o : Obj) : Own (w.alloc o) lo A c n l := h.below ((Below.refl _ _).alloc (Nat.le_refl _) o)
theorem Own.lower (h : Own w lo A c n l) (hl : lo' ≤ lo) : Own w lo' A c n l := by
 refine ⟨h.l32, h.own.1, ?_⟩
 rcases h.own.2 with hn | ⟨g, cap, cur, hv, hb, rest⟩
 · exact .inl hn
 · exact .inr ⟨g, cap, cur, hv, by omega, rest⟩
theorem Own.take (h : Own w lo A c n l) {k : Nat} (hk : k ≤ n) : Own w lo A c k (l.take k) := by
 have hlen := h.len
 refine ⟨h.l32.take k, by simp; omega, ?_⟩
 rcases h.own.2 with ⟨hv, hn⟩ | ⟨g, cap, cur, hv, hb, hh, hc, hm, hs, ht⟩
 ·
  injection hv with e1 e2 e3
  subst e1 e2 e3
  have : k = 0 := by omega
  subst this
  exact .inl ⟨rfl, rfl⟩
 ·
  injection hv with e1 e2 e3
  subst e1 e3
  refine .inr ⟨g, c, cur, rfl, hb, hh, by omega, hm, hs, ?_⟩
  rw [List.map_take, ← ht, List.take_take]
  congr 1
  omega
theorem Own.lim (h : Own w lo A c n l) : Own w lo A c (lim (val l)).length (lim (val l)) := by
 have h1 := h.take (k := (Go.Proofs.Ytjbhhccklfddaaa.lim (val l)).length) (by rw [← h.len]; exact lim_len_le h.l32)
 rwa [← lim_take h.l32] at h1
theorem Own.set {g : Nat} (h : Own w lo (some ⟨g, 0, none⟩) c n l) {j x : Nat} (hx : x < 4294967296) : Own (w.setCell ⟨g, j, none⟩ (.int .u32 (x : Int))) lo (some ⟨g, 0, none⟩) c n (l.set j x) := by
 refine ⟨fun i => ?_, ?_⟩
 ·
  rw [dg_eq, List.getElem?_set]
  split
  ·
   split
   · exact hx
   · simp
  · rw [← dg_eq]; exact h.l32 i
 ·
  have := h.own.stored j (limb x)
  rw [List.map_set]
  exact this.1
theorem Own.made (hg : w'.ownsRow lo 66 1 (.slice A n c) n (madeCells #[.int .u32 0] n).toList) : Own w' lo A c n (List.replicate n 0) := by
 refine ⟨fun i => ?_, ?_⟩
 · rw [dg_eq, List.getElem?_replicate]; split <;> simp
 ·
  have e : (madeCells #[.int .u32 0] n).toList = (List.replicate n 0).map limb := by
   rw [toList_madeCells_one]; simp [limb]
  rw [← e]; exact hg
theorem Row.grown (h : Row w lo A n l) {row : Option Nat} (hg : w.grownBy w' row) (hne : ∀ ad, A = some ad → some ad.block ≠ row) : Row w' lo A n l :=
 ⟨h.len, h.l32, fun hn => by
  obtain ⟨b, off, e, h1, h2, hc⟩ := h.mem hn
  exact ⟨b, off, e, h1, by have := hg.size; omega, fun j hj => hg.cell (hc j hj) (hne ⟨b, off, none⟩ e)⟩⟩
end
theorem Own.empty (w : World) : Own (w.alloc (.cells #[] 66)) w.heap.size (some ⟨w.heap.size, 0, none⟩) 0 0 [] :=
 ⟨L32.nil, World.ownsRow_made w #[] 0 (Nat.le_refl _) (by unfold maxLen; omega) rfl⟩
theorem below_alloc (w : World) (o : Obj) : Below w.heap.size w (w.alloc o) := (Below.refl _ _).alloc (Nat.le_refl _) o
theorem Row.src {w : World} {lo n : Nat} {A : Option Addr} {l : List Nat} (h : Row w lo A n l) {ad : Addr} (hA : A = some ad) : ∀ j v, (l.map limb)[j]? = some v → w.cell? (ad.add j) = some v := by
 intro j v hv
 have hj : j < l.length := by
  have := (List.getElem?_eq_some_iff.1 hv).1
  simpa using this
 have hlen := h.len
 obtain ⟨b, off, e, h1, h2, hc⟩ := h.mem (by omega)
 rw [hA] at e
 injection e with e
 subst e
 rw [getD_map_limb l j hj] at hv
 rw [← hv, ← hc j (by omega)]
 congr 1
 unfold Addr.add
 split
 · subst_vars; simp
 · rfl
theorem limb_one (l : List Nat) : ∀ u ∈ l.map limb, u.oneCell' = true := fun v hv => by
 obtain ⟨x, _, rfl⟩ := List.mem_map.1 hv
 rfl
theorem wpl_append {w : World} {ops : Array Oper} {rest : List Oper} {o : Oper} {a : Act} {Q : Exit → Act → World → Prop} (hgd : o.guard = none) (s x : Operand)
  (ho : o.op = .call { callee := .builtin .append, args := #[s, x], argTypes := #[35, 35] })
  {A A' : Option Addr} {lo lo' n m c c' : Nat} {l k : List Nat} (hs : a.eval s = .slice A n c) (hx : a.eval x = .slice A' m c')
  (h1 : Own w lo A c n l) (h2 : Row w lo' A' m k) (hm : n + m ≤ 20000000000000) (hlo : lo ≤ w.heap.size)
  (h : ∀ A2 c2 w', Own w' lo A2 c2 (n + m) (l ++ k) → w.grownBy w' (A.map (·.block)) → wpList Try.prog ops Q rest (a.put o.dst (.slice A2 (n + m) c2)) w') :
  wpList Try.prog ops Q (o :: rest) a w := by
 obtain ⟨i0, hi, hz0, hz1, hz2⟩ := info_parts Try.info66
 have hk := h2.len
 have hlen := h1.len
 have hl2 : L32 (l ++ k) := fun i => by
  rw [dg_eq, List.getElem?_append]
  split
  · rw [← dg_eq]; exact h1.l32 i
  · rw [← dg_eq]; exact h2.l32 _
 have fin : ∀ v' w', w'.ownsRow lo 66 1 v' (n + m) (l.map limb ++ k.map limb) → w.grownBy w' (A.map (·.block)) → wpList Try.prog ops Q rest (a.put o.dst v') w' := by
  intro v' w' ho' hg'
  have ho2 := ho'
  rw [← List.map_append] at ho2
  rcases ho'.2 with ⟨rfl, h0⟩ | ⟨g, cap, cur, rfl, _⟩
  ·
   have e : n + m = 0 := h0
   have hh := h none 0 w' ⟨hl2, by rw [e] at ho2 ⊢; exact ho2⟩ hg'
   rw [e] at hh; exact hh
  · exact h _ _ w' ⟨hl2, ho2⟩ hg'
 have eb : (Value.slice A n c).ownBlock = A.map (·.block) := by cases A <;> rfl
 cases A' with
 |
  none =>
  have hm0 : m = 0 := by
   rcases Nat.eq_zero_or_pos m with h0 | h0
   · exact h0
   · obtain ⟨_, _, e, _⟩ := h2.mem h0; cases e
  subst hm0
  have hk0 : k = [] := List.eq_nil_of_length_eq_zero hk
  subst hk0
  refine wpList_plain hgd fun K hK => ?_
  have hrun : (Builtin.append_ #[35, 35] o.type #[.slice A n c, .slice none 0 c']).run Try.prog w = .ok (.slice A n c) w := by
   rcases h1.own.2 with ⟨hv, hn⟩ | ⟨g, cap, cur, hv, _, _, hnc, _⟩
   · rw [hv]; simp [Builtin.append_, run_underlying Try.underlying35, sizeOf, typeInfo, hi, Builtin.lenOf, Builtin.firstCells]
   · rw [hv]; simp [Builtin.append_, run_underlying Try.underlying35, sizeOf, typeInfo, hi, Builtin.lenOf, Builtin.firstCells, hnc, storeCells]
  unfold Oper.wp
  simp [execOp, ho, resolve, invoke, builtin, hs, hx, hrun, Result.andThen]
  exact hK _ _ (h A c w (by simpa using h1) (World.grownBy.refl _ _))
 |
  some ad =>
  refine wpList_append_own w hgd s x _ ho lo 66 i0 (.int .u32 0) 1 4 Try.underlying35 hi hz0 hz1 hz2 rfl (by omega) _ n _ hs h1.own ad m c' (k.map limb) hx (by simp [hk]) (h2.src rfl) (limb_one k) (by unfold maxLen; omega) (by omega) hlo ?_
  intro v' w' ho' hg' _
  rw [eb] at hg'
  exact fin v' w' ho' hg'
theorem wpl_copy {w : World} {ops : Array Oper} {rest : List Oper} {o : Oper} {a : Act} {Q : Exit → Act → World → Prop} (hgd : o.guard = none) (d s : Operand)
  (ho : o.op = .call { callee := .builtin .copy, args := #[d, s], argTypes := #[35, 35] })
  {A A' : Option Addr} {lo lo' n m c c' : Nat} {l k : List Nat} (hd : a.eval d = .slice A n c) (hs : a.eval s = .slice A' m c')
  (h1 : Own w lo A c n l) (h2 : Row w lo' A' m k) (hm : m ≤ n)
  (h : ∀ w', Own w' lo A c n (k ++ l.drop m) → w'.heap.size = w.heap.size → w.grownBy w' (A.map (·.block)) → wpList Try.prog ops Q rest (a.put o.dst (goInt m)) w') :
  wpList Try.prog ops Q (o :: rest) a w := by
 have hk := h2.len
 have hlen := h1.len
 by_cases h0 : m = 0
 ·
  subst h0
  have hk0 : k = [] := List.eq_nil_of_length_eq_zero hk
  subst hk0
  refine wpList_copy_nothing hgd d s _ _ ho 66 Try.underlying35 Try.size66 A A' n c 0 c' hd hs (Nat.zero_min _) ?_
  exact h w (by simpa using h1) rfl (World.grownBy.refl _ _)
 ·
  obtain ⟨g, rfl, hg1, hg2⟩ := h1.form (by omega)
  obtain ⟨b, off, rfl, hb1, hb2, hc⟩ := h2.mem (by omega)
  rcases h1.own.2 with ⟨hv, hn⟩ | ⟨g', cap, cur, hv, hb, hh, hcap, hmx, hsz, ht⟩
  · omega
  ·
   injection hv with e1 e2 e3
   injection e1 with e1
   injection e1 with e1
   subst e1 e3
   have hsrc := h2.src rfl
   refine wpList_copy_own hgd d s _ _ ho 66 Try.underlying35 Try.size66 g 0 n c ⟨b, off, none⟩ m c' hd hs cur 66 hh (k.map limb) (by simp only [List.length_map]; exact hk.trans (Nat.min_eq_left hm).symm) hsrc (by simp; omega) (fun v hv => by
    obtain ⟨x, _, rfl⟩ := List.mem_map.1 hv
    rfl) ?_
   have e : ((k.map limb).length : Int) = (m : Int) := by simp [hk]
   have hk2 : (k.map limb).length = m := by simpa using hk
   rw [hk2]
   refine h _ ⟨fun i => ?_, by simp; omega, .inr ⟨g, c, _, rfl, hb, setRow_heap w g cur _ _ _ hh, hcap, hmx, ?_, ?_⟩⟩ ?_ ⟨rfl, rfl, rfl, by simp, fun q _ hq => setRow_other w g q _ (fun e => hq (by simp [e]))⟩
   ·
    rw [dg_eq, List.getElem?_append]
    split
    · rw [← dg_eq]; exact h2.l32 i
    · rw [← dg_eq]; exact h1.l32.drop m _
   · simp; omega
   ·
    simp only [List.take_zero, List.nil_append, Nat.zero_add]
    rw [List.map_append, List.map_drop, ← ht, List.take_append]
    simp only [List.length_map, hk, Nat.mul_one]
    rw [List.take_of_length_le (by simp; omega), List.drop_take]
   · simp [World.setRow]
end Go.Proofs.Ytjbhhccklfddaaa
namespace Go.Proofs.Ytjbhhccklfddaaa
set_option maxRecDepth 20000
open Go.RowKit
set_option maxHeartbeats 400000 in
theorem Is_yes (A : Option Addr) (n c : Nat) (l : List Nat) (w : World) (hn : n ≤ 10000000000000) (hr : Row w 0 A n l) (ht : n = 0 ∨ dg l (n - 1) ≠ 0) :
  Calls Try.prog 68 #[.slice A n c] w fun e w' => e = .returned (.bool true) ∧ w = w' := by
 by_cases h0 : n = 0
 ·
  subst h0
  go_enter Try.func68, Try.ntmps68
  go_wp2
  go_ret
  exact ⟨rfl, rfl⟩
 ·
  obtain ⟨b, off, rfl, h1, h2, hc⟩ := hr.mem (by omega)
  have hc0 := hc (n - 1) (by omega)
  have ht2 : 0 < dg l (n - 1) := by omega
  have hx := hr.l32 (n - 1)
  clear hr hc ht
  generalize dg l (n - 1) = x at *
  have hb : ((x : Int) != 0) = true := by rw [bne_iff_ne]; omega
  go_enter Try.func68, Try.ntmps68
  go_wp2
  go_ret
  exact ⟨rfl, rfl⟩
set_option maxHeartbeats 400000 in
theorem Is_no (A : Option Addr) (n c : Nat) (l : List Nat) (w : World) (hn : n ≤ 10000000000000) (hr : Row w 0 A n l) (h0 : 0 < n) (ht : dg l (n - 1) = 0) :
  Calls Try.prog 68 #[.slice A n c] w fun e w' => e = .returned (.bool false) ∧ w = w' := by
 obtain ⟨b, off, rfl, h1, h2, hc⟩ := hr.mem (by omega)
 have hc0 := hc (n - 1) (by omega)
 rw [ht] at hc0
 have hc1 : w.cell? ⟨b, off + (n - 1), none⟩ = some (.int .u32 0) := hc0
 clear hr hc ht hc0
 have hb : ((n : Int) == 0) = false := beq_eq_false_iff_ne.2 (by omega)
 go_enter Try.func68, Try.ntmps68
 go_wp2
 go_ret
 exact ⟨rfl, rfl⟩
set_option maxHeartbeats 400000 in
theorem head_any (A : Option Addr) (n c : Nat) (l : List Nat) (w : World) (hn : n ≤ 10000000000000) (hcap : n ≤ c) (hr : Row w 0 A n l) :
  Calls Try.prog 86 #[.slice A n c] w fun e w' => e = .returned (.slice A (lim (val l)).length c) ∧ w = w' := by
 have hlen := hr.len
 have HL : Hid (val (l.take n) = val l) := by show _ = _; rw [List.take_of_length_le (by omega)]
 clear hlen
 go_enter Try.func86, Try.ntmps86
 go_wp2
 go_loop [0] (fun v => ∃ k : Nat, k ≤ n ∧ Hid (val (l.take k) = val l) ∧ v = .slice A k c) (fun v => match v with | .slice _ k _ => k | _ => 0)
 case atStart => exact ⟨n, Nat.le_refl _, HL, rfl⟩
 case round =>
  obtain ⟨k, hk, HV, rfl⟩ := hrel
  have hrk := hr.take hk
  by_cases ht : k = 0 ∨ dg (l.take k) (k - 1) ≠ 0
  ·
   go_wp2_with fail
   refine (Is_yes A k c (l.take k) _ (by omega) hrk ht).mono ?_
   rintro e w' ⟨rfl, rfl⟩
   go_wp2
   go_ret
   have e1 : lim (val l) = l.take k := by
    rw [← HV.out]; refine lim_val hrk.l32 ?_
    unfold Tr; rw [hrk.len]; exact ht
   exact ⟨by rw [e1, hrk.len]; rfl, rfl⟩
  ·
   have h0 : 0 < k := by omega
   have hz : dg (l.take k) (k - 1) = 0 := by omega
   clear ht
   go_wp2_with fail
   refine (Is_no A k c (l.take k) _ (by omega) hrk h0 hz).mono ?_
   rintro e w' ⟨rfl, rfl⟩
   have HV2 : Hid (val (l.take (k - 1)) = val l) := by
    show _ = _
    rw [← HV.out]
    refine val_take_pred l k h0 ?_
    simpa [dg_eq, show k - 1 < k by omega] using hz
   clear hz hrk
   go_wp2
   go_round
   case rel => exact ⟨k - 1, by omega, HV2, rfl⟩
   case measure => simp; omega
end Go.Proofs.Ytjbhhccklfddaaa
namespace Go.Proofs.Ytjbhhccklfddaaa
set_option maxRecDepth 20000
open Go.RowKit
set_option maxHeartbeats 400000 in
theorem limbAt_any (A : Option Addr) (n c : Nat) (l : List Nat) (i : Int) (k : Nat) (w : World) (hn : n ≤ 10000000000000) (hr : Row w 0 A n l) (hi : i = (k : Int)) :
  Calls Try.prog 109 #[.slice A n c, .int .i64 i] w fun e w' => e = .returned (.int .u32 ((dg l k : Nat) : Int)) ∧ w = w' := by
 subst hi
 by_cases h0 : k < n
 ·
  obtain ⟨b, off, rfl, h1, h2, hc⟩ := hr.mem (by omega)
  have hc0 := hc k h0
  clear hr hc
  go_enter Try.func109, Try.ntmps109
  go_wp2
  go_ret
  exact ⟨rfl, rfl⟩
 ·
  have hz : dg l k = 0 := by
   have := hr.len
   rw [dg_eq, List.getElem?_eq_none (by omega)]; rfl
  rw [hz]
  clear hr hz
  go_enter Try.func109, Try.ntmps109
  go_wp2
  go_ret
  exact ⟨rfl, rfl⟩
set_option maxHeartbeats 400000 in
theorem at_any (A : Option Addr) (n c : Nat) (l : List Nat) (i : Int) (k : Nat) (w : World) (hn : n ≤ 10000000000000) (hr : Row w 0 A n l) (hi : i = (k : Int)) :
  Calls Try.prog 95 #[.slice A n c, .int .i64 i] w fun e w' => e = .returned (.int .u64 ((dg l k : Nat) : Int)) ∧ w = w' := by
 subst hi
 by_cases h0 : k < n
 ·
  obtain ⟨b, off, rfl, h1, h2, hc⟩ := hr.mem (by omega)
  have hc0 := hc k h0
  have hx := hr.l32 k
  clear hr hc
  generalize dg l k = x at *
  go_enter Try.func95, Try.ntmps95
  go_wp2
  go_ret
  exact ⟨rfl, rfl⟩
 ·
  have hz : dg l k = 0 := by
   have := hr.len
   rw [dg_eq, List.getElem?_eq_none (by omega)]; rfl
  rw [hz]
  clear hr hz
  go_enter Try.func95, Try.ntmps95
  go_wp2
  go_ret
  exact ⟨rfl, rfl⟩
theorem ret_int {k : IntKind} {a b : Int} (h : a = b) : Ending.returned (.int k a) = .returned (.int k b) := by rw [h]
theorem ret_int2 {k k' : IntKind} {a b a' b' : Int} (h : a = b) (h' : a' = b') : Ending.returned (.tuple #[.int k a, .int k' a']) = .returned (.tuple #[.int k b, .int k' b']) := by rw [h, h']
set_option maxHeartbeats 400000 in
theorem Add32_any (x y z : Nat) (w : World) (hx : x < 4294967296) (hy : y < 4294967296) (hz : z < 4294967296) :
  Calls Try.prog 111 #[.int .u32 (x : Int), .int .u32 (y : Int), .int .u32 (z : Int)] w fun e w' => e = .returned (.tuple #[.int .u32 (((x + y + z) % 4294967296 : Nat) : Int), .int .u32 (((x + y + z) / 4294967296 : Nat) : Int)]) ∧ w = w' := by
 go_enter Try.func111, Try.ntmps111
 go_wp2
 go_ret2
 exact ⟨ret_int2 (by omega) (by omega), rfl⟩
set_option maxHeartbeats 400000 in
theorem Trim_any (A : Option Addr) (n c : Nat) (l : List Nat) (w : World) (hn : n ≤ 10000000000000) (hcap : n ≤ c) (hr : Row w 0 A n l) :
  Calls Try.prog 88 #[.slice A n c] w fun e w' => ∃ g, e = .returned (.slice (some ⟨g, 0, none⟩) (lim (val l)).length (lim (val l)).length) ∧ Own w' w.heap.size (some ⟨g, 0, none⟩) (lim (val l)).length (lim (val l)).length (lim (val l)) ∧ Below w.heap.size w w' := by
 have hl := hr.lim
 have hln : (lim (val l)).length ≤ n := by have := lim_len_le hr.l32; have := hr.len; omega
 obtain ⟨i0, hi, hz0, hz1, hz2⟩ := info_parts Try.info66
 go_enter Try.func88, Try.ntmps88
 go_wp2_with fail
 refine (head_any A n c l _ hn hcap hr).mono ?_
 rintro e w' ⟨rfl, rfl⟩
 go_wp2_with (at_make; refine wpList_make_full _ rfl _ _ _ rfl w.heap.size 66 i0 (.int .u32 0) 1 Try.underlying35 hi hz0 hz1 .i64 .i64 _ _ (lim (val l)).length rfl rfl rfl rfl ?c1 ?c2 ?c3 ?_)
 case c1 => rw [hz2]; omega
 case c2 => unfold maxLen; omega
 case c3 => exact Nat.le_refl _
 intro w1 ho hg
 have ho1 := Own.made ho
 clear ho
 have hl1 := hl.below (below_of_grown hg)
 have hb1 := below_of_grown hg
 clear hg
 go_wp2_with (refine wpl_copy rfl _ _ rfl rfl rfl ho1 hl1 (Nat.le_refl _) ?_)
 intro w2 ho2 hs2 hg2
 go_wp2
 go_ret
 refine ⟨_, rfl, ?_, ?_⟩
 · simpa using ho2
 · exact hb1.trans (below_of_grown_row hg2 (by simp) hb1.size)
set_option maxHeartbeats 400000 in
theorem rTrim_any (A : Option Addr) (n c : Nat) (l : List Nat) (w : World) (hn : n ≤ 10000000000000) (hcap : n ≤ c) (hr : Row w 0 A n l) :
  Calls Try.prog 54 #[.slice A n c] w fun e w' => ∃ A2 c2, e = .returned (.slice A2 (lim (val l)).length c2) ∧ Own w' w.heap.size A2 c2 (lim (val l)).length (lim (val l)) ∧ Below w.heap.size w w' := by
 have hlen := hr.len
 have HL : Hid (val (l.take n) = val l) := by show _ = _; rw [List.take_of_length_le (by omega)]
 clear hlen
 go_enter Try.func54, Try.ntmps54
 go_wp2
 go_loop [3] (fun v => ∃ k : Nat, k ≤ n ∧ Hid (val (l.take k) = val l) ∧ v = .int .i64 k) (fun v => (intOf v).toNat)
 case atStart => exact ⟨n, Nat.le_refl _, HL, rfl⟩
 case round =>
  obtain ⟨k, hk, HV, rfl⟩ := hrel
  have hrk := hr.take hk
  have fin : ∀ (A2 : Option Addr) (c2 : Nat) (w' : World), lim (val l) = l.take k → Own w' w.heap.size A2 c2 k (l.take k) → (w.alloc (.cells #[] 66)).grownBy w' (some w.heap.size) →
    Own w' w.heap.size A2 c2 (lim (val l)).length (lim (val l)) ∧ Below w.heap.size w w' ∧ (lim (val l)).length = k := by
   intro A2 c2 w' e1 ho hg
   rw [e1, hrk.len]
   exact ⟨ho, (below_alloc _ _).trans (below_of_grown_row hg (Nat.le_refl _) (by simp)), rfl⟩
  by_cases ht : k = 0 ∨ dg l (k - 1) ≠ 0
  ·
   have e1 : Hid (lim (val l) = l.take k) := lim_of_take hr.l32 (by rw [hr.len]; exact hk) HV.out ht
   have FIN := Lib.hid fin
   clear fin
   by_cases h0 : k = 0
   ·
    subst h0
    go_wp2_with (at_builtin; refine wpl_append rfl _ _ rfl rfl rfl (Own.empty w) (hrk.alloc _) (by omega) (by simp) ?_)
    rintro A2 c2 w' ho hg
    go_wp2
    go_ret
    obtain ⟨f1, f2, f3⟩ := FIN.out A2 c2 w' e1.out (by simpa using ho) hg
    exact ⟨A2, c2, by rw [f3]; rfl, f1, f2⟩
   ·
    have ht1 : 0 < dg l (k - 1) := by omega
    obtain ⟨b, off, rfl, h1, h2, hc⟩ := hr.mem (by omega)
    have hc0 := hc (k - 1) (by omega)
    have hx := hr.l32 (k - 1)
    generalize hxe : dg l (k - 1) = x at *
    clear hc hxe ht
    have hb : ((x : Int) == 0) = false := by rw [beq_eq_false_iff_ne]; omega
    go_wp2_with (at_builtin; refine wpl_append rfl _ _ rfl rfl rfl (Own.empty w) (hrk.alloc _) (by omega) (by simp) ?_)
    rintro A2 c2 w' ho hg
    go_wp2
    go_ret
    obtain ⟨f1, f2, f3⟩ := FIN.out A2 c2 w' e1.out (by simpa using ho) hg
    exact ⟨A2, c2, by rw [f3]; rfl, f1, f2⟩
  ·
   have h0 : 0 < k := by omega
   have hz : dg l (k - 1) = 0 := by omega
   obtain ⟨b, off, rfl, h1, h2, hc⟩ := hr.mem (by omega)
   have hc0 := hc (k - 1) (by omega)
   have HV2 : Hid (val (l.take (k - 1)) = val l) := (val_take_pred l k h0 hz).trans HV.out
   rw [hz] at hc0
   clear hc fin ht hz
   go_wp2
   go_round
   case rel => exact ⟨k - 1, by omega, HV2, by go_num⟩
   case measure => simp [intOf]; omega
end Go.Proofs.Ytjbhhccklfddaaa
namespace Go.Proofs.Ytjbhhccklfddaaa
set_option maxRecDepth 20000
open Go.RowKit
end Go.Proofs.Ytjbhhccklfddaaa
namespace Go.Proofs.Ytjbhhccklfddaaa
set_option maxRecDepth 20000
open Go.RowKit
theorem val_snoc (l : List Nat) (x : Nat) : val (l ++ [x]) = val l + 4294967296 ^ l.length * x := by
 rw [val_append]; simp [val]
theorem Row.one {w : World} {x : Nat} {v : Int} {lo : Nat} (hv : v = (x : Int)) (hx : x < 4294967296) (hlo : lo ≤ w.heap.size) : Row (w.alloc (.cells #[.int .u32 v] 66)) lo (some ⟨w.heap.size, 0, none⟩) 1 [x] := by
 subst hv
 refine ⟨rfl, L32.cons hx L32.nil, fun _ => ⟨w.heap.size, 0, rfl, hlo, by simp, fun j hj => ?_⟩⟩
 have : j = 0 := by omega
 subst this
 rw [World.cell?_alloc_at _ _ _ _ rfl]; rfl
structure AddAt (w wr : World) (a b : List Nat) (k c : Nat) (A : Option Addr) (cap : Nat) (r : List Nat) : Prop where
 own : Own wr w.heap.size A cap k r
 sum : val r + 4294967296 ^ k * c = S (fun i => dg a i) k + S (fun i => dg b i) k
 below : Below w.heap.size w wr
theorem AddAt.step {w wr wr' : World} {a b : List Nat} {k c : Nat} {A A' : Option Addr} {cap cap' : Nat} {r : List Nat} (h : AddAt w wr a b k c A cap r) {x : Nat}
  (hx : x + 4294967296 * ((c + dg a k + dg b k) / 4294967296) = c + dg a k + dg b k)
  (ho : Own wr' w.heap.size A' cap' (k + 1) (r ++ [x])) (hb : Below w.heap.size wr wr') : AddAt w wr' a b (k + 1) ((c + dg a k + dg b k) / 4294967296) A' cap' (r ++ [x]) := by
 refine ⟨ho, ?_, h.below.trans hb⟩
 rw [val_snoc, h.own.len, S, S, Nat.pow_succ]
 exact add_step h.sum (by omega)
set_option maxHeartbeats 400000 in
theorem rAdd_any (A B : Option Addr) (n m c d : Nat) (a b : List Nat) (w : World) (hn : n ≤ 1000000000000) (hm : m ≤ 1000000000000) (ha : Row w 0 A n a) (hb : Row w 0 B m b) :
  Calls Try.prog 82 #[.slice A n c, .slice B m d] w fun e w' => ∃ A2 c2, e = .returned (.slice A2 (lim (val a + val b)).length c2) ∧ Own w' w.heap.size A2 c2 (lim (val a + val b)).length (lim (val a + val b)) ∧ Below w.heap.size w w' := by
 have HST : Hid (AddAt w w a b 0 0 none 0 []) := ⟨Own.nil_ w _, by simp [val, S], Below.refl _ _⟩
 go_enter Try.func82, Try.ntmps82
 go_wp2
 go_loopw [5, 6, 7] (fun o c i wr => ∃ (k cy : Nat) (A2 : Option Addr) (c2 : Nat) (r : List Nat), k ≤ max n m + 1 ∧ cy ≤ 1 ∧ i = .int .i64 k ∧ c = .int .u64 cy ∧ o = .slice A2 k c2 ∧ Hid (AddAt w wr a b k cy A2 c2 r)) (fun _ _ i _ => max n m + 1 - (intOf i).toNat)
 case atStart => exact ⟨0, 0, none, 0, [], by omega, by omega, rfl, rfl, rfl, HST⟩
 case round =>
  obtain ⟨k, cy, A2, c2, r, hk, hcy, rfl, rfl, rfl, HA⟩ := hrel
  have ha1 := ha.below HA.out.below
  have hb1 := hb.below HA.out.below
  by_cases h0 : k < max n m + 1
  ·
   have hxa := ha.l32 k
   have hxb := hb.l32 k
   have STEP := fun (A' : Option Addr) (cap' : Nat) (wr' : World) (x : Nat) hx ho hb => HA.out.step (A' := A') (cap' := cap') (wr' := wr') (x := x) hx ho hb
   have STEP1 := Lib.hid STEP; clear STEP
   have OWN := Lib.hid HA.out.own
   have hz := HA.out.below.size
   have FIN : Hid (∀ (A3 : Option Addr) (c3 : Nat) (w1 w3 : World), Own w3 w.heap.size A3 c3 (k + 1) (r ++ [(cy + dg a k + dg b k) % 4294967296]) → Below w.heap.size wr w1 → w.heap.size ≤ w1.heap.size → w1.grownBy w3 (A2.map (·.block)) →
     AddAt w w3 a b (k + 1) ((cy + dg a k + dg b k) / 4294967296) A3 c3 (r ++ [(cy + dg a k + dg b k) % 4294967296])) := by
    intro A3 c3 w1 w3 ho hb1 hs1 hg
    refine STEP1.out A3 c3 w3 _ (by omega) ho ?_
    refine hb1.trans ⟨hg.os, hg.tape, hg.output, hg.size, fun q hq => hg.block q (by omega) ?_⟩
    cases A2 with
    | none => simp
    |
     some ad =>
     have := OWN.out.own.lt ad.block rfl
     simp; omega
   clear STEP1
   have hcy' : (cy + dg a k + dg b k) / 4294967296 ≤ 1 := by omega
   have G1 : Hid (dg a k = dg a k) := rfl
   by_cases hnm : n < m
   all_goals
    go_wp2_with fail
    refine (at_any A n c a k k _ (by omega) ha1 rfl).mono ?_
    rintro e w' ⟨rfl, rfl⟩
    go_wp2_with fail
    refine (at_any B m d b k k _ (by omega) hb1 rfl).mono ?_
    rintro e w' ⟨rfl, rfl⟩
    generalize dg a k = x at *
    generalize dg b k = y at *
    go_wp2_with (at_builtin; refine wpl_append rfl _ _ rfl rfl rfl (OWN.out.alloc _) (Row.one (x := (cy + x + y) % 4294967296) (lo := 0) ?c1 ?c2 ?c3) ?c4 ?c5 ?_)
    case c1 => omega
    case c2 => omega
    case c3 => omega
    case c4 => omega
    case c5 => simp; omega
    intro A3 c3 w3 ho3 hg3
    have HA3 := Lib.hid (FIN.out A3 c3 _ w3 ho3 ((Below.refl _ _).alloc hz _) (by simp; omega) hg3)
    clear FIN ho3 hg3 ha1 hb1
    go_wp2
    go_roundw
    case rel => exact ⟨k + 1, (cy + x + y) / 4294967296, A3, c3, _, by omega, by omega, by go_num, by go_num, rfl, HA3⟩
    case measure => simp [intOf]; omega
  ·
   have hr := HA.out.own.row
   have hlow := hr.lower (Nat.zero_le _)
   have hz := HA.out.below.size
   have e1 : val r = val a + val b := by
    have h1 := HA.out.sum
    have e : k = max n m + 1 := by omega
    have hla := ha.len
    have hlb := hb.len
    rw [S_more _ _ (by omega), S_more _ _ (by omega)] at h1
    have h2 := val_lt ha.l32
    have h3 := val_lt hb.l32
    have h4 : 4294967296 ^ a.length ≤ 4294967296 ^ max n m := Nat.pow_le_pow_right (by omega) (by omega)
    have h5 : 4294967296 ^ b.length ≤ 4294967296 ^ max n m := Nat.pow_le_pow_right (by omega) (by omega)
    have h6 : 4294967296 ^ k = 4294967296 ^ max n m * 4294967296 := by rw [e, Nat.pow_succ]
    have h7 : cy = 0 := by
     rcases Nat.eq_zero_or_pos cy with h0 | h0
     · exact h0
     ·
      have : cy = 1 := by omega
      subst this
      omega
    subst h7
    omega
   have hcap := HA.out.own.capLe
   have E1 := Lib.hid e1; clear e1
   have FIN : Hid (∀ (A3 : Option Addr) (c3 : Nat) (w3 : World), Own w3 wr.heap.size A3 c3 (lim (val r)).length (lim (val r)) → Below wr.heap.size wr w3 →
     Own w3 w.heap.size A3 c3 (lim (val a + val b)).length (lim (val a + val b)) ∧ Below w.heap.size w w3 ∧ (lim (val r)).length = (lim (val a + val b)).length) := by
    intro A3 c3 w3 ho hb
    rw [E1.out] at ho ⊢
    exact ⟨ho.lower hz, HA.out.below.trans (hb.mono hz), rfl⟩
   clear ha1 hb1
   by_cases hnm : n < m
   all_goals
    go_wp2_with fail
    refine (rTrim_any A2 k c2 r _ (by omega) hcap hlow).mono ?_
    rintro e w3 ⟨A3, c3, rfl, ho3, hb3⟩
    obtain ⟨f1, f2, f3⟩ := FIN.out A3 c3 w3 ho3 hb3
    clear ho3 hb3
    have F3 := Lib.hid f3; clear f3
    go_wp2
    go_ret
    exact ⟨A3, c3, by rw [← F3.out]; rfl, f1, f2⟩
end Go.Proofs.Ytjbhhccklfddaaa
namespace Go.Proofs.Ytjbhhccklfddaaa
set_option maxRecDepth 20000
open Go.RowKit
theorem set_split {r L : List Nat} {k x : Nat} (hr : r.length = k) (hk : k < L.length) : (r ++ L.drop k).set k x = (r ++ [x]) ++ L.drop (k + 1) := by
 subst hr
 rw [List.set_append_right _ _ (Nat.le_refl _), Nat.sub_self, List.drop_eq_getElem_cons hk, List.set_cons_zero]
 simp
theorem dg_split {r L : List Nat} {k : Nat} (hr : r.length = k) : dg (r ++ L.drop k) k = dg L k := by
 subst hr
 rw [dg_eq, dg_eq, List.getElem?_append_right (Nat.le_refl _), Nat.sub_self, List.getElem?_drop, Nat.add_zero]
structure NAddAt (w wr : World) (a b : List Nat) (n k c g : Nat) (r : List Nat) : Prop where
 len : r.length = k
 own : Own wr w.heap.size (some ⟨g, 0, none⟩) (n + 1) (n + 1) (r ++ (a ++ [0]).drop k)
 sum : val r + 4294967296 ^ k * c = S (fun i => dg a i) k + S (fun i => dg b i) k
 below : Below w.heap.size w wr
theorem NAddAt.step {w wr : World} {a b : List Nat} {n k c g : Nat} {r : List Nat} (h : NAddAt w wr a b n k c g r) (ha : a.length = n) (hk : k < n) (hg : w.heap.size ≤ g) :
  NAddAt w (wr.drew.setCell ⟨g, k, none⟩ (.int .u32 (((dg a k + dg b k + c) % 4294967296 : Nat) : Int))) a b n (k + 1) ((dg a k + dg b k + c) / 4294967296) g (r ++ [(dg a k + dg b k + c) % 4294967296]) := by
 refine ⟨by simp [h.len], ?_, ?_, h.below.drew.setCell hg _⟩
 ·
  have h1 := h.own.drew.set (j := k) (x := (dg a k + dg b k + c) % 4294967296) (by omega)
  rw [set_split h.len (by simp; omega)] at h1
  exact h1
 ·
  rw [val_snoc, h.len, S, S, Nat.pow_succ]
  exact add_step h.sum (by omega)
end Go.Proofs.Ytjbhhccklfddaaa
