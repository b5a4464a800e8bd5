/-
  Rows of numbers in memory; the number at a place.
-/
import Derived.Test.YtgffkaconhonlaaGreatWMAa
import Derived.Test.YtgffkaconhonlaaGreatWMRa
namespace Go.Proofs.YtgffkaconhonlaaGreat
set_option maxRecDepth 20000
open Go.RowKit
structure At3 (w : World) (b o : Nat) (r : Rv) : Prop where
 h0 : w.cell? ⟨b, o, none⟩ = some (.bool r.s)
 h1 : w.cell? ⟨b, o + 1, none⟩ = some (.slice r.A r.n r.c)
 h2 : w.cell? ⟨b, o + 2, none⟩ = some (.slice r.B r.m r.d)
theorem At3.keep {w w' : World} {b o : Nat} {r : Rv} (h : At3 w b o r) (hk : w'.heap[b]? = w.heap[b]?) : At3 w' b o r := by
 have e : ∀ j, w'.cell? ⟨b, j, none⟩ = w.cell? ⟨b, j, none⟩ := fun j => World.cell?_of_block hk
 exact ⟨(e _).trans h.h0, (e _).trans h.h1, (e _).trans h.h2⟩
structure Nums (w : World) (A : Option Addr) (n : Nat) (l : List Rv) : Prop where
 len : l.length = n
 mem : 0 < n → ∃ b off, A = some ⟨b, off, none⟩ ∧ b < w.heap.size ∧ ∀ i r, l[i]? = some r → At3 w b (off + i * 3) r
theorem Nums.below {w w' : World} {n : Nat} {A : Option Addr} {l : List Rv} (h : Nums w A n l) (hb : Below w.heap.size w w') : Nums w' A n l :=
 ⟨h.len, fun hn => by
  obtain ⟨b, off, e, h1, hc⟩ := h.mem hn
  exact ⟨b, off, e, Nat.lt_of_lt_of_le h1 hb.size, fun i r hr => (hc i r hr).keep (hb.block b h1)⟩⟩
def RdV (w : World) (p : Nat) : List Rv → List Rat → Prop
 | [], [] => True
 | x :: l, y :: L => Rw w x y p ∧ RdV w p l L
 | _, _ => False
theorem RdV.below {w w' : World} {p : Nat} (hb : Below w.heap.size w w') : ∀ {l : List Rv} {L : List Rat}, RdV w p l L → RdV w' p l L
 | [], [], _ => trivial
 | _ :: _, _ :: _, h => ⟨h.1.below hb, RdV.below hb h.2⟩
 | [], _ :: _, h => h.elim
 | _ :: _, [], h => h.elim
theorem RdV.len {w : World} {p : Nat} : ∀ {l : List Rv} {L : List Rat}, RdV w p l L → l.length = L.length
 | [], [], _ => rfl
 | _ :: _, _ :: _, h => by rw [List.length_cons, List.length_cons, h.2.len]
 | [], _ :: _, h => h.elim
 | _ :: _, [], h => h.elim
theorem RdV.get {w : World} {p : Nat} : ∀ {l : List Rv} {L : List Rat} (i : Nat), RdV w p l L → i < l.length → ∃ x y, l[i]? = some x ∧ L[i]? = some y ∧ Rw w x y p
 | [], _, _, _, h => absurd h (by simp)
 | _ :: _, [], _, h, _ => h.elim
 | x :: _, y :: _, 0, h, _ => ⟨x, y, rfl, rfl, h.1⟩
 |
  _ :: l, _ :: L, i + 1, h, hi => by
  obtain ⟨x, y, h1, h2, h3⟩ := RdV.get i h.2 (by simp at hi; omega)
  exact ⟨x, y, by simpa using h1, by simpa using h2, h3⟩
def atV (L : List Rat) (i : Int) : Rat := if 0 ≤ i then (L[i.toNat]?).getD 0 else 0
set_option maxHeartbeats 1600000 in
theorem pick_c (A : Option Addr) (n c : Nat) (l : List Rv) (L : List Rat) (i : Int) (w : World) (hA : Nums w A n l) (hL : RdV w 28500000000 l L) (hn : n ≤ 1000) (hi : -9223372036854775808 ≤ i ∧ i ≤ 9223372036854775807) :
  Calls Tryz.prog 88 #[.slice A n c, .int .i64 i] w fun e w' => ∃ z : Rv, e = .returned (.agg #[.bool z.s, .slice z.A z.n z.c, .slice z.B z.m z.d]) ∧ Rw w' z (atV L i) 28500000000 ∧ Below w.heap.size w w' := by
 have n0 : (0 : Int) ≤ (n : Int) := by omega
 have n9 : (n : Int) ≤ 1000 := by omega
 have kz := C3.new w (.bool false) (.slice none 0 0) (.slice none 0 0)
 have hB : Below w.heap.size w (w.alloc (.cells #[.bool false, .slice none 0 0, .slice none 0 0] 26)) := (Below.refl _ _).alloc (Nat.le_refl _) _
 have hs : (w.alloc (.cells #[.bool false, .slice none 0 0, .slice none 0 0] 26)).heap.size = w.heap.size + 1 := by simp
 have hlen := hL.len
 rw [hA.len] at hlen
 have HA := Lib.hid (And.intro hA hL)
 clear hA hL
 by_cases hin : 0 ≤ i ∧ i < n
 ·
  obtain ⟨k, rfl⟩ : ∃ k : Nat, i = (k : Int) := ⟨i.toNat, by omega⟩
  have h1 : ¬ (k : Int) < 0 := by omega
  have h2 : ¬ (n : Int) ≤ (k : Int) := by omega
  have h3 : (k : Int) < (n : Int) := by omega
  have h4 : (0 : Int) ≤ (k : Int) := by omega
  obtain ⟨b, off, rfl, hbl, hc⟩ := HA.out.1.mem (by omega)
  obtain ⟨x, y, hx, hy, hr⟩ := HA.out.2.get k (by rw [HA.out.1.len]; omega)
  obtain ⟨x0, x1, x2⟩ := (hc k x hx).keep (hB.block b hbl)
  have hne : ¬ b = w.heap.size := by omega
  have hne' : ¬ w.heap.size = b := by omega
  have HY := Lib.hid hy
  have HR := Lib.hid hr
  clear hc hx hy hr
  go_enter Tryz.func88, Tryz.ntmps88
  go_wp2
  refine ret3c (fn := Tryz.f88) Tryz.results88 rfl rfl (C3.new w (.bool x.s) (.slice x.A x.n x.c) (.slice x.B x.m x.d)) ?_
  refine ⟨x, rfl, ?_, (Below.refl _ _).alloc (Nat.le_refl _) _⟩
  have e : atV L (k : Int) = y := by unfold atV; rw [if_pos (by omega), Int.toNat_natCast, HY.out]; rfl
  rw [e]
  exact HR.out.alloc _
 ·
  have hz : atV L i = ((0 : Int) : Rat) := by
   unfold atV
   split
   · rw [List.getElem?_eq_none (by omega)]; rfl
   · rfl
  have HZ := Lib.hid hz
  have h1 : i < 0 ∨ (¬ i < 0 ∧ (n : Int) ≤ i) := by omega
  clear hz hin
  rcases h1 with h1 | ⟨h1, h2⟩
  all_goals
   go_enter Tryz.func88, Tryz.ntmps88
   go_wp2_with fail
   generalize w.alloc (.cells #[.bool false, .slice none 0 0, .slice none 0 0] 26) = W at *
   refine (Int_any 0 _ (by omega)).mono ?_
   rintro e w2 ⟨z, rfl, hz2, hb⟩
   have kz2 := kz.below hb
   have hB2 := hB.trans (hb.mono (by omega))
   have HZ2 := Lib.hid hz2
   clear hb kz hB hz2
   obtain ⟨z0, z1, z2, t0, t1, t2⟩ := kz2.facts
   go_wp2
   refine ret3 (fn := Tryz.f88) Tryz.results88 rfl rfl kz2 ?_
   refine ⟨z, rfl, ?_, hB2.trans (put3_below (Nat.le_refl _) _ _ _)⟩
   rw [HZ.out]
   have hsz : Sz ((0 : Int) : Rat) 1 := by
    have := Sz.lit (x := 0) (y := 1) (s := false) (by omega) (by omega)
    rw [rn_int] at this
    simpa using this
   exact ((HZ2.out.put (by omega) _ _ _).rw hsz).more (by omega)
end Go.Proofs.YtgffkaconhonlaaGreat
