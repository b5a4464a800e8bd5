/-
  The program's At: what a sum is at values.
-/
import Derived.Test.YtgffkaconhonlaaGreatVPick
import Derived.Test.YtgffkaconhonlaaGreatVHvG
import Derived.Test.YtgffkaconhonlaaGreatVMRa
import Derived.Deep.RegionHeld3
import Derived.Sort.AtCall
namespace Go.Proofs.YtgffkaconhonlaaGreat
set_option maxRecDepth 20000
open Go.RowKit
theorem bel_At (w : World) : Below w.heap.size w w.drew := (Below.refl _ _).drew
theorem atL_take (f : Int → Rat) (L : List (Int × Rat)) (k : Rat) (i : Nat) (X : Int × Rat) (h : L[i]? = some X) : atL f (L.take (i + 1)) k = atL f (L.take i) k + X.2 * f X.1 := by
 rw [List.take_add_one, h, atL_append]
 rfl
theorem Rw.tight {w : World} {v : Rv} {r : Rat} {p : Nat} (h : Rw w v r p) : Sz r (v.n + v.m + 1) :=
 Rw.sz (w := w) (v := v) ⟨h.1, h.2, by omega, by omega, h.rows⟩ (by omega)
def bndA (la : List Tv) (i : Nat) : Nat := 151 + 6 * costK la i
theorem sz_atV {V : List Rat} (h : ∀ y ∈ V, Sz y 4) (i : Int) : Sz (atV V i) 4 := by
 have h0 : Sz (0 : Rat) 4 := by
  have := Sz.lit (x := 0) (y := 1) (s := false) (by omega) (by omega)
  rw [rn_zero (.inl rfl)] at this
  exact this.more (by omega)
 unfold atV
 split
 ·
  cases hq : V[i.toNat]? with
  | none => exact h0
  | some y => exact h y (List.mem_of_getElem? hq)
 · exact h0
theorem RdV.sz {w : World} {p : Nat} (hp : 0 < p) : ∀ {l : List Rv} {V : List Rat}, RdV w p l V → ∀ y ∈ V, Sz y p
 | [], [], _ => fun y hy => by cases hy
 |
  _ :: _, _ :: _, h => fun y hy => by
  rcases List.mem_cons.1 hy with rfl | hy
  · exact h.1.sz hp
  · exact RdV.sz hp h.2 y hy
 | [], _ :: _, h => h.elim
 | _ :: _, [], h => h.elim
theorem RdV.more {w : World} {p q : Nat} (hq : p ≤ q) : ∀ {l : List Rv} {V : List Rat}, RdV w p l V → RdV w q l V
 | [], [], _ => trivial
 | _ :: _, _ :: _, h => ⟨h.1.more hq, RdV.more hq h.2⟩
 | [], _ :: _, h => h.elim
 | _ :: _, [], h => h.elim
theorem AtP.step {w w1 w4 : World} {va : Cv} {zs s : Rv} {la : List Tv} {L : List (Int × Rat)} {V : List Rat} {lv : List Rv} {A : Option Addr} {k : Rat} {n i lo H : Nat} {x : Tv} {X : Int × Rat} {p : Nat}
  (hall : C3 w4 H (.bool zs.s) (.slice zs.A zs.n zs.c) (.slice zs.B zs.m zs.d) ∧ Rt w4 (w.heap.size + 2) zs (atL (atV V) (L.take i) k) ∧ Rw w4 x.r X.2 28500000000 ∧ (Nums w4 A n lv ∧ RdV w4 28500000000 lv V) ∧ C5 w4 w.heap.size (.int .i64 va.s) (.slice va.A va.n va.c) (.bool va.K.s) (.slice va.K.A va.K.n va.K.c) (.slice va.K.B va.K.m va.K.d) ∧ C3 w4 (w.heap.size + 1) (.bool false) (.slice none 0 0) (.slice none 0 0) ∧ Below w.heap.size w w4)
  (hs : Rt w4 lo s (atL (atV V) (L.take i) k + X.2 * atV V x.v)) (hx : la[i]? = some x) (hX : L[i]? = some X) (ex : x.v = X.1) (hz : Sz (atL (atV V) (L.take i) k) (bndA la i)) (hr : Rw w1 x.r X.2 p) (hV : ∀ y ∈ V, Sz y 4)
  (hlo : w.heap.size + 2 ≤ H) (hlo2 : H < lo) (hH : H < w4.heap.size) :
  Hid (C3 (put3 w4 H (.bool s.s) (.slice s.A s.n s.c) (.slice s.B s.m s.d)) H (.bool s.s) (.slice s.A s.n s.c) (.slice s.B s.m s.d) ∧ Rt (put3 w4 H (.bool s.s) (.slice s.A s.n s.c) (.slice s.B s.m s.d)) (w.heap.size + 2) s (atL (atV V) (L.take (i + 1)) k) ∧ Sz (atL (atV V) (L.take (i + 1)) k) (bndA la (i + 1)) ∧ C5 (put3 w4 H (.bool s.s) (.slice s.A s.n s.c) (.slice s.B s.m s.d)) w.heap.size (.int .i64 va.s) (.slice va.A va.n va.c) (.bool va.K.s) (.slice va.K.A va.K.n va.K.c) (.slice va.K.B va.K.m va.K.d) ∧ C3 (put3 w4 H (.bool s.s) (.slice s.A s.n s.c) (.slice s.B s.m s.d)) (w.heap.size + 1) (.bool false) (.slice none 0 0) (.slice none 0 0) ∧ Below w.heap.size w (put3 w4 H (.bool s.s) (.slice s.A s.n s.c) (.slice s.B s.m s.d)) ∧ H < (put3 w4 H (.bool s.s) (.slice s.A s.n s.c) (.slice s.B s.m s.d)).heap.size) := by
 have e := atL_take (atV V) L k i X hX
 rw [← ex] at e
 have hk : ∀ g, g ≠ H → (put3 w4 H (.bool s.s) (.slice s.A s.n s.c) (.slice s.B s.m s.d)).heap[g]? = w4.heap[g]? := fun g hg => by
  have h1 : ∀ (w : World) (j : Nat) (x : Value), (w.setCell ⟨H, j, none⟩ x).heap[g]? = w.heap[g]? := fun w j x => by
   show (w.heap.modify H _)[g]? = _
   rw [Array.getElem?_modify, if_neg (fun e => hg e.symm)]
  show (((w4.setCell _ _).setCell _ _).setCell _ _).heap[g]? = _
  rw [h1, h1, h1]
 have hsz : (put3 w4 H (.bool s.s) (.slice s.A s.n s.c) (.slice s.B s.m s.d)).heap.size = w4.heap.size := by simp [World.setCell]
 refine ⟨hall.1.put _ _ _, ?_, ?_, ?_, ?_, hall.2.2.2.2.2.2.trans (put3_below (by omega) _ _ _), by rw [hsz]; exact hH⟩
 ·
  rw [e]
  exact (hs.put hlo2 _ _ _).lower (by omega)
 ·
  rw [e]
  refine (hz.add (hr.tight.mul (sz_atV hV _))).more ?_
  unfold bndA
  rw [costK_succ hx]
  omega
 · exact (hk _ (by omega)).trans hall.2.2.2.2.1
 · exact (hk _ (by omega)).trans hall.2.2.2.2.2.1
end Go.Proofs.YtgffkaconhonlaaGreat
