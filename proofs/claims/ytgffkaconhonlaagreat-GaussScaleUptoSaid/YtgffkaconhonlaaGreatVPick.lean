/-
  Rows of numbers in memory; the number at a place.
-/
import Derived.Test.YtgffkaconhonlaaGreatVMAa
import Derived.Test.YtgffkaconhonlaaGreatVMRa
namespace Go.Proofs.YtgffkaconhonlaaGreat
set_option maxRecDepth 20000
open Go.RowKit
structure At3 (w : World) (b o : Nat) (r : Rv) : Prop where
 h0 : w.cell? ⟨b, o, none⟩ = some (.bool r.s)
 h1 : w.cell? ⟨b, o + 1, none⟩ = some (.slice r.A r.n r.c)
 h2 : w.cell? ⟨b, o + 2, none⟩ = some (.slice r.B r.m r.d)
theorem At3.keep {w w' : World} {b o : Nat} {r : Rv} (h : At3 w b o r) (hk : w'.heap[b]? = w.heap[b]?) : At3 w' b o r := by
 have e : ∀ j, w'.cell? ⟨b, j, none⟩ = w.cell? ⟨b, j, none⟩ := fun j => World.cell?_of_block hk
 exact ⟨(e _).trans h.h0, (e _).trans h.h1, (e _).trans h.h2⟩
structure Nums (w : World) (A : Option Addr) (n : Nat) (l : List Rv) : Prop where
 len : l.length = n
 mem : 0 < n → ∃ b off, A = some ⟨b, off, none⟩ ∧ b < w.heap.size ∧ ∀ i r, l[i]? = some r → At3 w b (off + i * 3) r
theorem Nums.below {w w' : World} {n : Nat} {A : Option Addr} {l : List Rv} (h : Nums w A n l) (hb : Below w.heap.size w w') : Nums w' A n l :=
 ⟨h.len, fun hn => by
  obtain ⟨b, off, e, h1, hc⟩ := h.mem hn
  exact ⟨b, off, e, Nat.lt_of_lt_of_le h1 hb.size, fun i r hr => (hc i r hr).keep (hb.block b h1)⟩⟩
def RdV (w : World) (p : Nat) : List Rv → List Rat → Prop
 | [], [] => True
 | x :: l, y :: L => Rw w x y p ∧ RdV w p l L
 | _, _ => False
theorem RdV.below {w w' : World} {p : Nat} (hb : Below w.heap.size w w') : ∀ {l : List Rv} {L : List Rat}, RdV w p l L → RdV w' p l L
 | [], [], _ => trivial
 | _ :: _, _ :: _, h => ⟨h.1.below hb, RdV.below hb h.2⟩
 | [], _ :: _, h => h.elim
 | _ :: _, [], h => h.elim
theorem RdV.len {w : World} {p : Nat} : ∀ {l : List Rv} {L : List Rat}, RdV w p l L → l.length = L.length
 | [], [], _ => rfl
 | _ :: _, _ :: _, h => by rw [List.length_cons, List.length_cons, h.2.len]
 | [], _ :: _, h => h.elim
 | _ :: _, [], h => h.elim
theorem RdV.get {w : World} {p : Nat} : ∀ {l : List Rv} {L : List Rat} (i : Nat), RdV w p l L → i < l.length → ∃ x y, l[i]? = some x ∧ L[i]? = some y ∧ Rw w x y p
 | [], _, _, _, h => absurd h (by simp)
 | _ :: _, [], _, h, _ => h.elim
 | x :: _, y :: _, 0, h, _ => ⟨x, y, rfl, rfl, h.1⟩
 |
  _ :: l, _ :: L, i + 1, h, hi => by
  obtain ⟨x, y, h1, h2, h3⟩ := RdV.get i h.2 (by simp at hi; omega)
  exact ⟨x, y, by simpa using h1, by simpa using h2, h3⟩
def atV (L : List Rat) (i : Int) : Rat := if 0 ≤ i then (L[i.toNat]?).getD 0 else 0
end Go.Proofs.YtgffkaconhonlaaGreat
