/-
  Rows of numbers in memory; the number at a place.
  The program's At: what a sum is at values.
-/
import Derived.Test.YtffnjdfmaebmhaaGreatDoorMAa
import Derived.Test.YtffnjdfmaebmhaaGreatDoorMRa
import Derived.Test.YtffnjdfmaebmhaaGreatDoorMAb
import Derived.Deep.RegionHeld3
import Derived.Sort.AtCall
namespace Go.Proofs.YtffnjdfmaebmhaaGreatDoor
set_option maxRecDepth 20000
open Go.RowKit

/-- Three cells of a row of rationals. -/
structure At3 (w : World) (b o : Nat) (r : Rv) : Prop where
  h0 : w.cell? ⟨b, o, none⟩ = some (.bool r.s)
  h1 : w.cell? ⟨b, o + 1, none⟩ = some (.slice r.A r.n r.c)
  h2 : w.cell? ⟨b, o + 2, none⟩ = some (.slice r.B r.m r.d)
theorem At3.keep {w w' : World} {b o : Nat} {r : Rv} (h : At3 w b o r) (hk : w'.heap[b]? = w.heap[b]?) : At3 w' b o r := by
  have e : ∀ j, w'.cell? ⟨b, j, none⟩ = w.cell? ⟨b, j, none⟩ := fun j => World.cell?_of_block hk
  exact ⟨(e _).trans h.h0, (e _).trans h.h1, (e _).trans h.h2⟩
/-- The slice of address A, n long, holds the rationals l. -/
structure Nums (w : World) (A : Option Addr) (n : Nat) (l : List Rv) : Prop where
  len : l.length = n
  mem : 0 < n → ∃ b off, A = some ⟨b, off, none⟩ ∧ b < w.heap.size ∧ ∀ i r, l[i]? = some r → At3 w b (off + i * 3) r
theorem Nums.below {w w' : World} {n : Nat} {A : Option Addr} {l : List Rv} (h : Nums w A n l) (hb : Below w.heap.size w w') : Nums w' A n l :=
  ⟨h.len, fun hn => by
    obtain ⟨b, off, e, h1, hc⟩ := h.mem hn
    exact ⟨b, off, e, Nat.lt_of_lt_of_le h1 hb.size, fun i r hr => (hc i r hr).keep (hb.block b h1)⟩⟩
/-- They read as rationals of at most p limbs. -/
def RdV (w : World) (p : Nat) : List Rv → List Rat → Prop
  | [], [] => True
  | x :: l, y :: L => Rw w x y p ∧ RdV w p l L
  | _, _ => False
theorem RdV.below {w w' : World} {p : Nat} (hb : Below w.heap.size w w') : ∀ {l : List Rv} {L : List Rat}, RdV w p l L → RdV w' p l L
  | [], [], _ => trivial
  | _ :: _, _ :: _, h => ⟨h.1.below hb, RdV.below hb h.2⟩
  | [], _ :: _, h => h.elim
  | _ :: _, [], h => h.elim
theorem RdV.len {w : World} {p : Nat} : ∀ {l : List Rv} {L : List Rat}, RdV w p l L → l.length = L.length
  | [], [], _ => rfl
  | _ :: _, _ :: _, h => by rw [List.length_cons, List.length_cons, h.2.len]
  | [], _ :: _, h => h.elim
  | _ :: _, [], h => h.elim
theorem RdV.get {w : World} {p : Nat} : ∀ {l : List Rv} {L : List Rat} (i : Nat), RdV w p l L → i < l.length → ∃ x y, l[i]? = some x ∧ L[i]? = some y ∧ Rw w x y p
  | [], _, _, _, h => absurd h (by simp)
  | _ :: _, [], _, h, _ => h.elim
  | x :: _, y :: _, 0, h, _ => ⟨x, y, rfl, rfl, h.1⟩
  | _ :: l, _ :: L, i + 1, h, hi => by
    obtain ⟨x, y, h1, h2, h3⟩ := RdV.get i h.2 (by simp at hi; omega)
    exact ⟨x, y, by simpa using h1, by simpa using h2, h3⟩
/-- The number at a place; 0, where there is none. -/
def atV (L : List Rat) (i : Int) : Rat := if 0 ≤ i then (L[i.toNat]?).getD 0 else 0
set_option maxHeartbeats 1600000 in
theorem pick_c (A : Option Addr) (n c : Nat) (l : List Rv) (L : List Rat) (i : Int) (w : World) (hA : Nums w A n l) (hL : RdV w 1900 l L) (hn : n ≤ 1000) (hi : -9223372036854775808 ≤ i ∧ i ≤ 9223372036854775807) :
    Calls Tryz.prog 43 #[.slice A n c, .int .i64 i] w fun e w' => ∃ z : Rv, e = .returned (.agg #[.bool z.s, .slice z.A z.n z.c, .slice z.B z.m z.d]) ∧ Rw w' z (atV L i) 1900 ∧ Below w.heap.size w w' := by
  have n0 : (0 : Int) ≤ (n : Int) := by omega
  have n9 : (n : Int) ≤ 1000 := by omega
  have kz := C3.new w (.bool false) (.slice none 0 0) (.slice none 0 0)
  have hB : Below w.heap.size w (w.alloc (.cells #[.bool false, .slice none 0 0, .slice none 0 0] 25)) := (Below.refl _ _).alloc (Nat.le_refl _) _
  have hs : (w.alloc (.cells #[.bool false, .slice none 0 0, .slice none 0 0] 25)).heap.size = w.heap.size + 1 := by simp
  have hlen := hL.len
  rw [hA.len] at hlen
  have HA := Lib.hid (And.intro hA hL)
  clear hA hL
  by_cases hin : 0 ≤ i ∧ i < n
  · obtain ⟨k, rfl⟩ : ∃ k : Nat, i = (k : Int) := ⟨i.toNat, by omega⟩
    have h1 : ¬ (k : Int) < 0 := by omega
    have h2 : ¬ (n : Int) ≤ (k : Int) := by omega
    have h3 : (k : Int) < (n : Int) := by omega
    have h4 : (0 : Int) ≤ (k : Int) := by omega
    obtain ⟨b, off, rfl, hbl, hc⟩ := HA.out.1.mem (by omega)
    obtain ⟨x, y, hx, hy, hr⟩ := HA.out.2.get k (by rw [HA.out.1.len]; omega)
    obtain ⟨x0, x1, x2⟩ := (hc k x hx).keep (hB.block b hbl)
    have hne : ¬ b = w.heap.size := by omega
    have hne' : ¬ w.heap.size = b := by omega
    have HY := Lib.hid hy
    have HR := Lib.hid hr
    clear hc hx hy hr
    go_enter Tryz.func43, Tryz.ntmps43
    go_wp2
    refine ret3c (fn := Tryz.f43) Tryz.results43 rfl rfl (C3.new w (.bool x.s) (.slice x.A x.n x.c) (.slice x.B x.m x.d)) ?_
    refine ⟨x, rfl, ?_, (Below.refl _ _).alloc (Nat.le_refl _) _⟩
    have e : atV L (k : Int) = y := by unfold atV; rw [if_pos (by omega), Int.toNat_natCast, HY.out]; rfl
    rw [e]
    exact HR.out.alloc _
  · have hz : atV L i = ((0 : Int) : Rat) := by
      unfold atV
      split
      · rw [List.getElem?_eq_none (by omega)]; rfl
      · rfl
    have HZ := Lib.hid hz
    have h1 : i < 0 ∨ (¬ i < 0 ∧ (n : Int) ≤ i) := by omega
    clear hz hin
    rcases h1 with h1 | ⟨h1, h2⟩
    all_goals
      go_enter Tryz.func43, Tryz.ntmps43
      go_wp2_with fail
      generalize w.alloc (.cells #[.bool false, .slice none 0 0, .slice none 0 0] 25) = W at *
      refine (Int_any 0 _ (by omega)).mono ?_
      rintro e w2 ⟨z, rfl, hz2, hb⟩
      have kz2 := kz.below hb
      have hB2 := hB.trans (hb.mono (by omega))
      have HZ2 := Lib.hid hz2
      clear hb kz hB hz2
      obtain ⟨z0, z1, z2, t0, t1, t2⟩ := kz2.facts
      go_wp2
      refine ret3 (fn := Tryz.f43) Tryz.results43 rfl rfl kz2 ?_
      refine ⟨z, rfl, ?_, hB2.trans (put3_below (Nat.le_refl _) _ _ _)⟩
      rw [HZ.out]
      have hsz : Sz ((0 : Int) : Rat) 1 := by
        have := Sz.lit (x := 0) (y := 1) (s := false) (by omega) (by omega)
        rw [rn_int] at this
        simpa using this
      exact ((HZ2.out.put (by omega) _ _ _).rw hsz).more (by omega)
end Go.Proofs.YtffnjdfmaebmhaaGreatDoor

namespace Go.Proofs.YtffnjdfmaebmhaaGreatDoor
set_option maxRecDepth 20000
open Go.RowKit

/-- What the first i terms come to. -/
theorem bel_At (w : World) : Below w.heap.size w w.drew := (Below.refl _ _).drew
theorem atL_take (f : Int → Rat) (L : List (Int × Rat)) (k : Rat) (i : Nat) (X : Int × Rat) (h : L[i]? = some X) : atL f (L.take (i + 1)) k = atL f (L.take i) k + X.2 * f X.1 := by
  rw [List.take_add_one, h, atL_append]
  rfl
theorem Rw.tight {w : World} {v : Rv} {r : Rat} {p : Nat} (h : Rw w v r p) : Sz r (v.n + v.m + 1) :=
  Rw.sz (w := w) (v := v) ⟨h.1, h.2, by omega, by omega, h.rows⟩ (by omega)
/-- How great what the first i terms come to is, at the most. -/
def bndA (la : List Tv) (i : Nat) : Nat := 151 + 6 * costK la i
theorem sz_atV {V : List Rat} (h : ∀ y ∈ V, Sz y 3) (i : Int) : Sz (atV V i) 3 := by
  have h0 : Sz (0 : Rat) 3 := by
    have := Sz.lit (x := 0) (y := 1) (s := false) (by omega) (by omega)
    rw [rn_zero (.inl rfl)] at this
    exact this.more (by omega)
  unfold atV
  split
  · cases hq : V[i.toNat]? with
    | none => exact h0
    | some y => exact h y (List.mem_of_getElem? hq)
  · exact h0
theorem RdV.sz {w : World} {p : Nat} (hp : 0 < p) : ∀ {l : List Rv} {V : List Rat}, RdV w p l V → ∀ y ∈ V, Sz y p
  | [], [], _ => fun y hy => by cases hy
  | _ :: _, _ :: _, h => fun y hy => by
    rcases List.mem_cons.1 hy with rfl | hy
    · exact h.1.sz hp
    · exact RdV.sz hp h.2 y hy
  | [], _ :: _, h => h.elim
  | _ :: _, [], h => h.elim
theorem RdV.more {w : World} {p q : Nat} (hq : p ≤ q) : ∀ {l : List Rv} {V : List Rat}, RdV w p l V → RdV w q l V
  | [], [], _ => trivial
  | _ :: _, _ :: _, h => ⟨h.1.more hq, RdV.more hq h.2⟩
  | [], _ :: _, h => h.elim
  | _ :: _, [], h => h.elim
/-- A turn of the loop. -/
theorem AtP.step {w w1 w4 : World} {va : Cv} {zs s : Rv} {la : List Tv} {L : List (Int × Rat)} {V : List Rat} {lv : List Rv} {A : Option Addr} {k : Rat} {n i lo H : Nat} {x : Tv} {X : Int × Rat} {p : Nat}
    (hall : C3 w4 H (.bool zs.s) (.slice zs.A zs.n zs.c) (.slice zs.B zs.m zs.d) ∧ Rt w4 (w.heap.size + 2) zs (atL (atV V) (L.take i) k) ∧ Rw w4 x.r X.2 1900 ∧ (Nums w4 A n lv ∧ RdV w4 1900 lv V) ∧ C5 w4 w.heap.size (.int .i64 va.s) (.slice va.A va.n va.c) (.bool va.K.s) (.slice va.K.A va.K.n va.K.c) (.slice va.K.B va.K.m va.K.d) ∧ C3 w4 (w.heap.size + 1) (.bool false) (.slice none 0 0) (.slice none 0 0) ∧ Below w.heap.size w w4)
    (hs : Rt w4 lo s (atL (atV V) (L.take i) k + X.2 * atV V x.v)) (hx : la[i]? = some x) (hX : L[i]? = some X) (ex : x.v = X.1) (hz : Sz (atL (atV V) (L.take i) k) (bndA la i)) (hr : Rw w1 x.r X.2 p) (hV : ∀ y ∈ V, Sz y 3)
    (hlo : w.heap.size + 2 ≤ H) (hlo2 : H < lo) (hH : H < w4.heap.size) :
    Hid (C3 (put3 w4 H (.bool s.s) (.slice s.A s.n s.c) (.slice s.B s.m s.d)) H (.bool s.s) (.slice s.A s.n s.c) (.slice s.B s.m s.d) ∧ Rt (put3 w4 H (.bool s.s) (.slice s.A s.n s.c) (.slice s.B s.m s.d)) (w.heap.size + 2) s (atL (atV V) (L.take (i + 1)) k) ∧ Sz (atL (atV V) (L.take (i + 1)) k) (bndA la (i + 1)) ∧ C5 (put3 w4 H (.bool s.s) (.slice s.A s.n s.c) (.slice s.B s.m s.d)) w.heap.size (.int .i64 va.s) (.slice va.A va.n va.c) (.bool va.K.s) (.slice va.K.A va.K.n va.K.c) (.slice va.K.B va.K.m va.K.d) ∧ C3 (put3 w4 H (.bool s.s) (.slice s.A s.n s.c) (.slice s.B s.m s.d)) (w.heap.size + 1) (.bool false) (.slice none 0 0) (.slice none 0 0) ∧ Below w.heap.size w (put3 w4 H (.bool s.s) (.slice s.A s.n s.c) (.slice s.B s.m s.d)) ∧ H < (put3 w4 H (.bool s.s) (.slice s.A s.n s.c) (.slice s.B s.m s.d)).heap.size) := by
  have e := atL_take (atV V) L k i X hX
  rw [← ex] at e
  have hk : ∀ g, g ≠ H → (put3 w4 H (.bool s.s) (.slice s.A s.n s.c) (.slice s.B s.m s.d)).heap[g]? = w4.heap[g]? := fun g hg => by
    have h1 : ∀ (w : World) (j : Nat) (x : Value), (w.setCell ⟨H, j, none⟩ x).heap[g]? = w.heap[g]? := fun w j x => by
      show (w.heap.modify H _)[g]? = _
      rw [Array.getElem?_modify, if_neg (fun e => hg e.symm)]
    show (((w4.setCell _ _).setCell _ _).setCell _ _).heap[g]? = _
    rw [h1, h1, h1]
  have hsz : (put3 w4 H (.bool s.s) (.slice s.A s.n s.c) (.slice s.B s.m s.d)).heap.size = w4.heap.size := by simp [World.setCell]
  refine ⟨hall.1.put _ _ _, ?_, ?_, ?_, ?_, hall.2.2.2.2.2.2.trans (put3_below (by omega) _ _ _), by rw [hsz]; exact hH⟩
  · rw [e]
    exact (hs.put hlo2 _ _ _).lower (by omega)
  · rw [e]
    refine (hz.add (hr.tight.mul (sz_atV hV _))).more ?_
    unfold bndA
    rw [costK_succ hx]
    omega
  · exact (hk _ (by omega)).trans hall.2.2.2.2.1
  · exact (hk _ (by omega)).trans hall.2.2.2.2.2.1
set_option maxHeartbeats 12800000 in
theorem AtK_c (va : Cv) (A : Option Addr) (n c : Nat) (la : List Tv) (lv : List Rv) (L : List (Int × Rat)) (V : List Rat) (k : Rat) (w : World) (hcost : cost va la ≤ 150) (ha2 : Tms w 0 va.A va.n la) (ha3 : Rds w 150 la L) (ha4 : Rw w va.K k 150) (hV : Nums w A n lv) (hR : RdV w 3 lv V) (hn : n ≤ 1000) (hv64 : ∀ x ∈ la, -9223372036854775808 ≤ x.v ∧ x.v ≤ 9223372036854775807) :
    Calls Tryz.prog 18 #[.agg #[.int .i64 va.s, .slice va.A va.n va.c, .bool va.K.s, .slice va.K.A va.K.n va.K.c, .slice va.K.B va.K.m va.K.d], .slice A n c] w fun e w' => ∃ z : Rv, e = .returned (.agg #[.bool z.s, .slice z.A z.n z.c, .slice z.B z.m z.d]) ∧ Rt w' w.heap.size z (atL (atV V) L k) ∧ Sz (atL (atV V) L k) 1100 ∧ Below w.heap.size w w' := by
  have hvn : va.n ≤ 150 := by
    have h1 := costK_len la va.n (by rw [ha2.len]; exact Nat.le_refl _)
    unfold cost at hcost; omega
  have n0 : (0 : Int) ≤ (va.n : Int) := by omega
  have n9 : (va.n : Int) ≤ 150 := by omega
  have HW0 := Lib.hid (And.intro ha2 (And.intro (Rds.more (show 150 ≤ 1900 by omega) ha3) ha4))
  have HLL := Lib.hid (And.intro ha2.len ha3.len)
  have HV0 := Lib.hid (And.intro hV (RdV.more (show 3 ≤ 1900 by omega) hR))
  have HSV := Lib.hid (RdV.sz (by omega) hR)
  have H64 := Lib.hid hv64
  have HCO := Lib.hid hcost
  clear ha2 ha3 ha4 hV hR hv64 hcost
  have ka := (C5.new w (.int .i64 va.s) (.slice va.A va.n va.c) (.bool va.K.s) (.slice va.K.A va.K.n va.K.c) (.slice va.K.B va.K.m va.K.d)).alloc (.cells #[.bool false, .slice none 0 0, .slice none 0 0] 25)
  have kz := C3.new (w.alloc (.cells #[.int .i64 va.s, .slice va.A va.n va.c, .bool va.K.s, .slice va.K.A va.K.n va.K.c, .slice va.K.B va.K.m va.K.d] 27)) (.bool false) (.slice none 0 0) (.slice none 0 0)
  have hs1 : (w.alloc (.cells #[.int .i64 va.s, .slice va.A va.n va.c, .bool va.K.s, .slice va.K.A va.K.n va.K.c, .slice va.K.B va.K.m va.K.d] 27)).heap.size = w.heap.size + 1 := by simp
  rw [hs1] at kz
  have hB : Below w.heap.size w ((w.alloc (.cells #[.int .i64 va.s, .slice va.A va.n va.c, .bool va.K.s, .slice va.K.A va.K.n va.K.c, .slice va.K.B va.K.m va.K.d] 27)).alloc (.cells #[.bool false, .slice none 0 0, .slice none 0 0] 25)) := ((Below.refl _ _).alloc (Nat.le_refl _) _).alloc (by simp) _
  have hs2 : ((w.alloc (.cells #[.int .i64 va.s, .slice va.A va.n va.c, .bool va.K.s, .slice va.K.A va.K.n va.K.c, .slice va.K.B va.K.m va.K.d] 27)).alloc (.cells #[.bool false, .slice none 0 0, .slice none 0 0] 25)).heap.size = w.heap.size + 2 := by simp
  obtain ⟨a0, a1, a2, a3, a4⟩ := ka.facts
  go_enter Tryz.func18, Tryz.ntmps18
  go_wp2_with fail
  clear a0 a1 a2 a3 a4 hs1
  generalize (w.alloc (.cells #[.int .i64 va.s, .slice va.A va.n va.c, .bool va.K.s, .slice va.K.A va.K.n va.K.c, .slice va.K.B va.K.m va.K.d] 27)).alloc (.cells #[.bool false, .slice none 0 0, .slice none 0 0] 25) = W at *
  refine (Norm_any va.K k _ ((HW0.out.2.2.below hB).more (by omega))).mono ?_
  rintro e w1 ⟨z, rfl, hz, hb⟩
  have KA := Lib.hid (And.intro (ka.below hb) (kz.below hb))
  have HB1 := Lib.hid (hB.trans (hb.mono (by omega)))
  have hz1 := hb.size
  have HZ := Lib.hid (hz.lower (show w.heap.size + 2 ≤ W.heap.size by omega))
  clear hb ka kz hB hz
  have ks := C3.new w1 (.bool z.s) (.slice z.A z.n z.c) (.slice z.B z.m z.d)
  have hba : Below w1.heap.size w1 (w1.alloc (.cells #[.bool z.s, .slice z.A z.n z.c, .slice z.B z.m z.d] 25)) := (Below.refl _ _).alloc (Nat.le_refl _) _
  have hsA : (w1.alloc (.cells #[.bool z.s, .slice z.A z.n z.c, .slice z.B z.m z.d] 25)).heap.size = w1.heap.size + 1 := by simp
  obtain ⟨a0, a1, a2, a3, a4⟩ := (KA.out.1.below hba).facts
  have HST : Hid (C3 (w1.alloc (.cells #[.bool z.s, .slice z.A z.n z.c, .slice z.B z.m z.d] 25)) w1.heap.size (.bool z.s) (.slice z.A z.n z.c) (.slice z.B z.m z.d) ∧ Rt (w1.alloc (.cells #[.bool z.s, .slice z.A z.n z.c, .slice z.B z.m z.d] 25)) (w.heap.size + 2) z (atL (atV V) (L.take 0) k) ∧ Sz (atL (atV V) (L.take 0) k) (bndA la 0) ∧ C5 (w1.alloc (.cells #[.bool z.s, .slice z.A z.n z.c, .slice z.B z.m z.d] 25)) w.heap.size (.int .i64 va.s) (.slice va.A va.n va.c) (.bool va.K.s) (.slice va.K.A va.K.n va.K.c) (.slice va.K.B va.K.m va.K.d) ∧ C3 (w1.alloc (.cells #[.bool z.s, .slice z.A z.n z.c, .slice z.B z.m z.d] 25)) (w.heap.size + 1) (.bool false) (.slice none 0 0) (.slice none 0 0) ∧ Below w.heap.size w (w1.alloc (.cells #[.bool z.s, .slice z.A z.n z.c, .slice z.B z.m z.d] 25)) ∧ w1.heap.size < (w1.alloc (.cells #[.bool z.s, .slice z.A z.n z.c, .slice z.B z.m z.d] 25)).heap.size) :=
    ⟨ks, HZ.out.below hba, (HW0.out.2.2.sz (by omega)).more (by unfold bndA; omega), KA.out.1.below hba, KA.out.2.below hba, HB1.out.trans (hba.mono HB1.out.size), by omega⟩
  clear ks hba
  go_wp2
  clear a0 a1 a2 a3 a4
  go_loopw [7, 14] (fun _ iv wr => ∃ (i : Nat) (z : Rv), i ≤ va.n ∧ iv = .int .i64 i ∧ Hid (C3 wr w1.heap.size (.bool z.s) (.slice z.A z.n z.c) (.slice z.B z.m z.d) ∧ Rt wr (w.heap.size + 2) z (atL (atV V) (L.take i) k) ∧ Sz (atL (atV V) (L.take i) k) (bndA la i) ∧ C5 wr w.heap.size (.int .i64 va.s) (.slice va.A va.n va.c) (.bool va.K.s) (.slice va.K.A va.K.n va.K.c) (.slice va.K.B va.K.m va.K.d) ∧ C3 wr (w.heap.size + 1) (.bool false) (.slice none 0 0) (.slice none 0 0) ∧ Below w.heap.size w wr ∧ w1.heap.size < wr.heap.size)) (fun _ iv _ => va.n - (intOf iv).toNat)
  case atStart => exact ⟨0, z, by omega, rfl, HST⟩
  case round =>
    clear HST HZ
    obtain ⟨i, zs, hi, rfl, HST⟩ := hrel
    by_cases hlt : i < va.n
    · have i0 : (0 : Int) ≤ (i : Int) := by omega
      have i1 : (i : Int) < (va.n : Int) := by omega
      obtain ⟨b, off, hvA, _, hbw, hc⟩ := HW0.out.1.mem (by omega)
      rw [hvA]
      obtain ⟨x, X, hx, hX, hxv, hxr⟩ := HW0.out.2.1.get i (by rw [HLL.out.1]; omega)
      obtain ⟨x0, x1, x2, x3⟩ := (hc i x hx).keep (HST.out.2.2.2.2.2.1.block b hbw)
      have hx64 := H64.out x (List.mem_of_getElem? hx)
      have HX := Lib.hid (And.intro hx (And.intro hX hxv))
      have HXR := Lib.hid hxr
      have HVA := Lib.hid hvA
      clear hx hX hxv hxr hc hvA
      go_wp2_with fail
      have ax := At4.new wr x
      have hba : Below wr.heap.size wr (wr.alloc (.cells #[.int .i64 x.v, .bool x.r.s, .slice x.r.A x.r.n x.r.c, .slice x.r.B x.r.m x.r.d] 61)) := (Below.refl _ _).alloc (Nat.le_refl _) _
      have hzA : (wr.alloc (.cells #[.int .i64 x.v, .bool x.r.s, .slice x.r.A x.r.n x.r.c, .slice x.r.B x.r.m x.r.d] 61)).heap.size = wr.heap.size + 1 := by simp
      clear x0 x1 x2 x3
      obtain ⟨x0, x1, x2, x3⟩ := ax
      have HBA := Lib.hid hba
      clear hba
      generalize wr.alloc (.cells #[.int .i64 x.v, .bool x.r.s, .slice x.r.A x.r.n x.r.c, .slice x.r.B x.r.m x.r.d] 61) = WA at *
      have HALL : Hid (∀ w', Below WA.heap.size WA w' → C3 w' w1.heap.size (.bool zs.s) (.slice zs.A zs.n zs.c) (.slice zs.B zs.m zs.d) ∧ Rt w' (w.heap.size + 2) zs (atL (atV V) (L.take i) k) ∧ Rw w' x.r X.2 1900 ∧ (Nums w' A n lv ∧ RdV w' 1900 lv V) ∧ C5 w' w.heap.size (.int .i64 va.s) (.slice va.A va.n va.c) (.bool va.K.s) (.slice va.K.A va.K.n va.K.c) (.slice va.K.B va.K.m va.K.d) ∧ C3 w' (w.heap.size + 1) (.bool false) (.slice none 0 0) (.slice none 0 0) ∧ Below w.heap.size w w') := fun w' h => by
        have h1 : Below wr.heap.size wr w' := HBA.out.trans (h.mono (by omega))
        have h2 := HST.out.2.2.2.2.2.1.trans (h1.mono HST.out.2.2.2.2.2.1.size)
        exact ⟨HST.out.1.below h1, HST.out.2.1.below h1, HXR.out.below h2, ⟨HV0.out.1.below h2, RdV.below h2 HV0.out.2⟩, HST.out.2.2.2.1.below h1, HST.out.2.2.2.2.1.below h1, h2⟩
      have hw1 : w1.heap.size < wr.heap.size := HST.out.2.2.2.2.2.2
      have hne : ¬ wr.heap.size = w1.heap.size := by omega
      have hne' : ¬ w1.heap.size = wr.heap.size := by omega
      obtain ⟨s0, s1, s2, t0, t1, t2⟩ := (HALL.out _ (bel_At WA)).1.facts
      have HSZ : Hid (bndA la i ≤ 2000 ∧ x.r.n + x.r.m + 1 + 3 ≤ 2000) := by
        have h1 := costK_mono la (show i + 1 ≤ va.n by omega)
        rw [costK_succ HX.out.1] at h1
        have h2 := HCO.out
        unfold cost at h2
        refine ⟨?_, by omega⟩
        unfold bndA
        omega
      refine wp_region_held_drew (S := fun w' => w'.cell? ⟨wr.heap.size, 0, none⟩ = some (.int .i64 x.v) ∧ w'.cell? ⟨wr.heap.size, 0 + 1, none⟩ = some (.bool x.r.s) ∧ w'.cell? ⟨wr.heap.size, 0 + 2, none⟩ = some (.slice x.r.A x.r.n x.r.c) ∧ w'.cell? ⟨wr.heap.size, 0 + 3, none⟩ = some (.slice x.r.B x.r.m x.r.d)) (by kernel_rfl) ?_ (fun hHeld => ?_)
      · (try dsimp only)
        go_keep
      refine wpAnyH_take (i := 1) (oi := { dst := some 19, op := Op.fieldAddr 61 (Operand.tmp 7) 1, type := 0, pos := "sum.go:60", after := #[], guard := none }) (v := ?vq1x) rfl (by kernel_rfl) (by kernel_rfl) (by kernel_rfl) (fun _ _ _ h => h) (Or.inl ⟨by rfl, ?hyq1x⟩) (by assumption) ?restq1x
      case hyq1x =>
        intro w hSw
        (try dsimp only at hSw)
        go_simp
        all_goals (with_reducible rfl)
      try simp only [Act.put, List.setIfInBounds_toArray, List.set_cons_zero, List.set_cons_succ]
      refine wpAnyH_take (i := 2) (oi := { dst := some 20, op := Op.load 25 (Operand.tmp 19), type := 25, pos := "sum.go:60", after := #[{ on := 1, ground := Ground.data }], guard := none }) (v := ?vq2x) rfl (by kernel_rfl) (by kernel_rfl) (by kernel_rfl) (fun _ _ _ h => h) (Or.inl ⟨by rfl, ?hyq2x⟩) (by assumption) ?restq2x
      case hyq2x =>
        intro w hSw
        (try dsimp only at hSw)
        go_simp
        all_goals (with_reducible rfl)
      try simp only [Act.put, List.setIfInBounds_toArray, List.set_cons_zero, List.set_cons_succ]
      refine wpAnyH_take (i := 3) (oi := { dst := some 21, op := Op.move (Operand.tmp 1), type := 28, pos := "sum.go:60", after := #[], guard := none }) (v := ?vq3x) rfl (by kernel_rfl) (by kernel_rfl) (by kernel_rfl) (fun _ _ _ h => h) (Or.inl ⟨by rfl, ?hyq3x⟩) (by assumption) ?restq3x
      case hyq3x =>
        intro w hSw
        (try dsimp only at hSw)
        go_simp
        all_goals (with_reducible rfl)
      try simp only [Act.put, List.setIfInBounds_toArray, List.set_cons_zero, List.set_cons_succ]
      refine wpAnyH_take (i := 4) (oi := { dst := some 22, op := Op.fieldAddr 61 (Operand.tmp 7) 0, type := 0, pos := "sum.go:60", after := #[], guard := none }) (v := ?vq4x) rfl (by kernel_rfl) (by kernel_rfl) (by kernel_rfl) (fun _ _ _ h => h) (Or.inl ⟨by rfl, ?hyq4x⟩) (by assumption) ?restq4x
      case hyq4x =>
        intro w hSw
        (try dsimp only at hSw)
        go_simp
        all_goals (with_reducible rfl)
      try simp only [Act.put, List.setIfInBounds_toArray, List.set_cons_zero, List.set_cons_succ]
      refine wpAnyH_take (i := 5) (oi := { dst := some 23, op := Op.load 3 (Operand.tmp 22), type := 3, pos := "sum.go:60", after := #[{ on := 4, ground := Ground.data }], guard := none }) (v := ?vq5x) rfl (by kernel_rfl) (by kernel_rfl) (by kernel_rfl) (fun _ _ _ h => h) (Or.inl ⟨by rfl, ?hyq5x⟩) (by assumption) ?restq5x
      case hyq5x =>
        intro w hSw
        (try dsimp only at hSw)
        go_simp
        all_goals (with_reducible rfl)
      try simp only [Act.put, List.setIfInBounds_toArray, List.set_cons_zero, List.set_cons_succ]
      refine wpAnyH_ready (rs := [0, 6]) (by kernel_rfl) (by simp) ?_
      refine AllReadyH.cons (o := { dst := some 18, op := Op.load 25 (Operand.tmp 5), type := 25, pos := "sum.go:60", after := #[], guard := none }) rfl (fun K hK => ?_) (AllReadyH.cons (o := { dst := some 24, op := Op.call { callee := Callee.value (Operand.func 43), args := #[Operand.tmp 21, Operand.tmp 23], argTypes := #[28, 3] }, type := 25, pos := "sum.go:60", after := #[{ on := 3, ground := Ground.data }, { on := 5, ground := Ground.data }], guard := none }) rfl (fun K hK => ?_) AllReadyH.nil)
      · skip
        go_simp
        try go_wp2_with fail
        refine hK.out _ _ ?_ (fun hHeld => ?_)
        · (try dsimp only)
          go_keep
        clear hK K
        try simp only [Act.put, List.setIfInBounds_toArray, List.set_cons_zero, List.set_cons_succ]
        refine wpAnyH_ready (rs := [6]) (by kernel_rfl) (by simp) ?_
        refine AllReadyH.cons (o := { dst := some 24, op := Op.call { callee := Callee.value (Operand.func 43), args := #[Operand.tmp 21, Operand.tmp 23], argTypes := #[28, 3] }, type := 25, pos := "sum.go:60", after := #[{ on := 3, ground := Ground.data }, { on := 5, ground := Ground.data }], guard := none }) rfl (fun K hK => ?_) AllReadyH.nil
        go_simp
        go_at_call 43
        refine (pick_c A n c lv V x.v _ (HALL.out _ (bel_At WA)).2.2.2.1.1 (HALL.out _ (bel_At WA)).2.2.2.1.2 hn hx64).mono ?_
        rintro ee w2 ⟨y, rfl, hy, hb⟩
        have hbW := (bel_At WA).trans hb
        have hk := hbW.block wr.heap.size (by omega)
        replace x0 := (World.cell?_of_block hk).trans x0
        replace x1 := (World.cell?_of_block hk).trans x1
        replace x2 := (World.cell?_of_block hk).trans x2
        replace x3 := (World.cell?_of_block hk).trans x3
        obtain ⟨s0, s1, s2, t0, t1, t2⟩ := (HALL.out _ hbW).1.facts
        have HY := Lib.hid hy
        have HW2 := Lib.hid hbW
        clear hk hb hbW hy
        try go_wp2_with fail
        refine hK.out _ _ ?_ (fun hHeld => ?_)
        · (try dsimp only)
          go_keep
        clear hK K
        try simp only [Act.put, List.setIfInBounds_toArray, List.set_cons_zero, List.set_cons_succ]
        refine wpAnyH_ready (rs := [7]) (by kernel_rfl) (by simp) ?_
        refine AllReadyH.cons (o := { dst := some 25, op := Op.call { callee := Callee.value (Operand.func 38), args := #[Operand.tmp 20, Operand.tmp 24], argTypes := #[25, 25] }, type := 25, pos := "sum.go:60", after := #[{ on := 2, ground := Ground.data }, { on := 6, ground := Ground.data }, { on := 6, ground := Ground.chain }], guard := none }) rfl (fun K hK => ?_) AllReadyH.nil
        go_simp
        go_at_call 38
        refine (Mul_c x.r y X.2 (atV V x.v) _ ((HALL.out _ HW2.out).2.2.1.more (by omega)) (HY.out.more (by omega))).mono ?_
        rintro ee w3 ⟨u, rfl, hu, hb⟩
        have hbW := HW2.out.trans (hb.mono HW2.out.size)
        have hk := hb.block wr.heap.size (by have := HW2.out.size; omega)
        replace x0 := (World.cell?_of_block hk).trans x0
        replace x1 := (World.cell?_of_block hk).trans x1
        replace x2 := (World.cell?_of_block hk).trans x2
        replace x3 := (World.cell?_of_block hk).trans x3
        obtain ⟨s0, s1, s2, t0, t1, t2⟩ := (HALL.out _ hbW).1.facts
        have HU := Lib.hid hu
        have HW3 := Lib.hid hbW
        clear hk hb hbW hu
        try go_wp2_with fail
        refine hK.out _ _ ?_ (fun hHeld => ?_)
        · (try dsimp only)
          go_keep
        clear hK K
        try simp only [Act.put, List.setIfInBounds_toArray, List.set_cons_zero, List.set_cons_succ]
        refine wpAnyH_ready (rs := [8]) (by kernel_rfl) (by simp) ?_
        refine AllReadyH.cons (o := { dst := some 26, op := Op.call { callee := Callee.value (Operand.func 34), args := #[Operand.tmp 18, Operand.tmp 25], argTypes := #[25, 25] }, type := 25, pos := "sum.go:60", after := #[{ on := 0, ground := Ground.data }, { on := 7, ground := Ground.data }, { on := 7, ground := Ground.chain }], guard := none }) rfl (fun K hK => ?_) AllReadyH.nil
        go_simp
        go_at_call 34
        refine (Add_c zs u (atL (atV V) (L.take i) k) (X.2 * atV V x.v) _ (((HALL.out _ HW3.out).2.1.rw HST.out.2.2.1).more HSZ.out.1) ((HU.out.rw ((HXR.out.tight).mul (sz_atV HSV.out _))).more HSZ.out.2)).mono ?_
        rintro ee w4 ⟨s, rfl, hs, hb⟩
        have hbW := HW3.out.trans (hb.mono HW3.out.size)
        have hk := hb.block wr.heap.size (by have := HW3.out.size; omega)
        replace x0 := (World.cell?_of_block hk).trans x0
        replace x1 := (World.cell?_of_block hk).trans x1
        replace x2 := (World.cell?_of_block hk).trans x2
        replace x3 := (World.cell?_of_block hk).trans x3
        obtain ⟨s0, s1, s2, t0, t1, t2⟩ := (HALL.out _ hbW).1.facts
        have HS := Lib.hid hs
        have HW4 := Lib.hid hbW
        have hz3 := HW3.out.size
        have hz4 := HW4.out.size
        clear hk hb hbW hs
        try go_wp2_with fail
        refine hK.out _ _ ?_ (fun hHeld => ?_)
        · (try dsimp only)
          go_keep
        clear hK K
        try simp only [Act.put, List.setIfInBounds_toArray, List.set_cons_zero, List.set_cons_succ]
        refine wpAnyH_ready (rs := [9]) (by kernel_rfl) (by simp) ?_
        refine AllReadyH.cons (o := { dst := none, op := Op.store 25 (Operand.tmp 5) (Operand.tmp 26), type := 0, pos := "sum.go:60", after := #[{ on := 8, ground := Ground.data }, { on := 8, ground := Ground.chain }, { on := 0, ground := Ground.phase }, { on := 1, ground := Ground.phase }, { on := 2, ground := Ground.phase }, { on := 3, ground := Ground.phase }, { on := 4, ground := Ground.phase }, { on := 5, ground := Ground.phase }, { on := 6, ground := Ground.phase }, { on := 7, ground := Ground.phase }, { on := 8, ground := Ground.phase }], guard := none }) rfl (fun K hK => ?_) AllReadyH.nil
        go_simp
        try go_wp2_with fail
        refine hK.out _ _ ?_ (fun hHeld => ?_)
        · (try dsimp only)
          go_keep
        clear hK K
        try simp only [Act.put, List.setIfInBounds_toArray, List.set_cons_zero, List.set_cons_succ]
        refine wpAnyH_done (by kernel_rfl) ?_ _
        clear x0 x1 x2 x3 s0 s1 s2 t0 t1 t2
        go_wp2
        go_roundw
        case rel =>
          have hst := AtP.step (HALL.out _ HW4.out) HS.out HX.out.1 HX.out.2.1 HX.out.2.2 HST.out.2.2.1 HXR.out HSV.out (by omega) (by omega) (by omega)
          rw [HVA.out] at hst
          exact ⟨i + 1, s, by omega, by go_num, hst⟩
        case measure => simp [intOf]; omega
      · skip
        go_simp
        go_at_call 43
        refine (pick_c A n c lv V x.v _ (HALL.out _ (bel_At WA)).2.2.2.1.1 (HALL.out _ (bel_At WA)).2.2.2.1.2 hn hx64).mono ?_
        rintro ee w2 ⟨y, rfl, hy, hb⟩
        have hbW := (bel_At WA).trans hb
        have hk := hbW.block wr.heap.size (by omega)
        replace x0 := (World.cell?_of_block hk).trans x0
        replace x1 := (World.cell?_of_block hk).trans x1
        replace x2 := (World.cell?_of_block hk).trans x2
        replace x3 := (World.cell?_of_block hk).trans x3
        obtain ⟨s0, s1, s2, t0, t1, t2⟩ := (HALL.out _ hbW).1.facts
        have HY := Lib.hid hy
        have HW2 := Lib.hid hbW
        clear hk hb hbW hy
        try go_wp2_with fail
        refine hK.out _ _ ?_ (fun hHeld => ?_)
        · (try dsimp only)
          go_keep
        clear hK K
        try simp only [Act.put, List.setIfInBounds_toArray, List.set_cons_zero, List.set_cons_succ]
        refine wpAnyH_ready (rs := [0, 7]) (by kernel_rfl) (by simp) ?_
        refine AllReadyH.cons (o := { dst := some 18, op := Op.load 25 (Operand.tmp 5), type := 25, pos := "sum.go:60", after := #[], guard := none }) rfl (fun K hK => ?_) (AllReadyH.cons (o := { dst := some 25, op := Op.call { callee := Callee.value (Operand.func 38), args := #[Operand.tmp 20, Operand.tmp 24], argTypes := #[25, 25] }, type := 25, pos := "sum.go:60", after := #[{ on := 2, ground := Ground.data }, { on := 6, ground := Ground.data }, { on := 6, ground := Ground.chain }], guard := none }) rfl (fun K hK => ?_) AllReadyH.nil)
        · skip
          go_simp
          try go_wp2_with fail
          refine hK.out _ _ ?_ (fun hHeld => ?_)
          · (try dsimp only)
            go_keep
          clear hK K
          try simp only [Act.put, List.setIfInBounds_toArray, List.set_cons_zero, List.set_cons_succ]
          refine wpAnyH_ready (rs := [7]) (by kernel_rfl) (by simp) ?_
          refine AllReadyH.cons (o := { dst := some 25, op := Op.call { callee := Callee.value (Operand.func 38), args := #[Operand.tmp 20, Operand.tmp 24], argTypes := #[25, 25] }, type := 25, pos := "sum.go:60", after := #[{ on := 2, ground := Ground.data }, { on := 6, ground := Ground.data }, { on := 6, ground := Ground.chain }], guard := none }) rfl (fun K hK => ?_) AllReadyH.nil
          go_simp
          go_at_call 38
          refine (Mul_c x.r y X.2 (atV V x.v) _ ((HALL.out _ HW2.out).2.2.1.more (by omega)) (HY.out.more (by omega))).mono ?_
          rintro ee w3 ⟨u, rfl, hu, hb⟩
          have hbW := HW2.out.trans (hb.mono HW2.out.size)
          have hk := hb.block wr.heap.size (by have := HW2.out.size; omega)
          replace x0 := (World.cell?_of_block hk).trans x0
          replace x1 := (World.cell?_of_block hk).trans x1
          replace x2 := (World.cell?_of_block hk).trans x2
          replace x3 := (World.cell?_of_block hk).trans x3
          obtain ⟨s0, s1, s2, t0, t1, t2⟩ := (HALL.out _ hbW).1.facts
          have HU := Lib.hid hu
          have HW3 := Lib.hid hbW
          clear hk hb hbW hu
          try go_wp2_with fail
          refine hK.out _ _ ?_ (fun hHeld => ?_)
          · (try dsimp only)
            go_keep
          clear hK K
          try simp only [Act.put, List.setIfInBounds_toArray, List.set_cons_zero, List.set_cons_succ]
          refine wpAnyH_ready (rs := [8]) (by kernel_rfl) (by simp) ?_
          refine AllReadyH.cons (o := { dst := some 26, op := Op.call { callee := Callee.value (Operand.func 34), args := #[Operand.tmp 18, Operand.tmp 25], argTypes := #[25, 25] }, type := 25, pos := "sum.go:60", after := #[{ on := 0, ground := Ground.data }, { on := 7, ground := Ground.data }, { on := 7, ground := Ground.chain }], guard := none }) rfl (fun K hK => ?_) AllReadyH.nil
          go_simp
          go_at_call 34
          refine (Add_c zs u (atL (atV V) (L.take i) k) (X.2 * atV V x.v) _ (((HALL.out _ HW3.out).2.1.rw HST.out.2.2.1).more HSZ.out.1) ((HU.out.rw ((HXR.out.tight).mul (sz_atV HSV.out _))).more HSZ.out.2)).mono ?_
          rintro ee w4 ⟨s, rfl, hs, hb⟩
          have hbW := HW3.out.trans (hb.mono HW3.out.size)
          have hk := hb.block wr.heap.size (by have := HW3.out.size; omega)
          replace x0 := (World.cell?_of_block hk).trans x0
          replace x1 := (World.cell?_of_block hk).trans x1
          replace x2 := (World.cell?_of_block hk).trans x2
          replace x3 := (World.cell?_of_block hk).trans x3
          obtain ⟨s0, s1, s2, t0, t1, t2⟩ := (HALL.out _ hbW).1.facts
          have HS := Lib.hid hs
          have HW4 := Lib.hid hbW
          have hz3 := HW3.out.size
          have hz4 := HW4.out.size
          clear hk hb hbW hs
          try go_wp2_with fail
          refine hK.out _ _ ?_ (fun hHeld => ?_)
          · (try dsimp only)
            go_keep
          clear hK K
          try simp only [Act.put, List.setIfInBounds_toArray, List.set_cons_zero, List.set_cons_succ]
          refine wpAnyH_ready (rs := [9]) (by kernel_rfl) (by simp) ?_
          refine AllReadyH.cons (o := { dst := none, op := Op.store 25 (Operand.tmp 5) (Operand.tmp 26), type := 0, pos := "sum.go:60", after := #[{ on := 8, ground := Ground.data }, { on := 8, ground := Ground.chain }, { on := 0, ground := Ground.phase }, { on := 1, ground := Ground.phase }, { on := 2, ground := Ground.phase }, { on := 3, ground := Ground.phase }, { on := 4, ground := Ground.phase }, { on := 5, ground := Ground.phase }, { on := 6, ground := Ground.phase }, { on := 7, ground := Ground.phase }, { on := 8, ground := Ground.phase }], guard := none }) rfl (fun K hK => ?_) AllReadyH.nil
          go_simp
          try go_wp2_with fail
          refine hK.out _ _ ?_ (fun hHeld => ?_)
          · (try dsimp only)
            go_keep
          clear hK K
          try simp only [Act.put, List.setIfInBounds_toArray, List.set_cons_zero, List.set_cons_succ]
          refine wpAnyH_done (by kernel_rfl) ?_ _
          clear x0 x1 x2 x3 s0 s1 s2 t0 t1 t2
          go_wp2
          go_roundw
          case rel =>
            have hst := AtP.step (HALL.out _ HW4.out) HS.out HX.out.1 HX.out.2.1 HX.out.2.2 HST.out.2.2.1 HXR.out HSV.out (by omega) (by omega) (by omega)
            rw [HVA.out] at hst
            exact ⟨i + 1, s, by omega, by go_num, hst⟩
          case measure => simp [intOf]; omega
        · skip
          go_simp
          go_at_call 38
          refine (Mul_c x.r y X.2 (atV V x.v) _ ((HALL.out _ HW2.out).2.2.1.more (by omega)) (HY.out.more (by omega))).mono ?_
          rintro ee w3 ⟨u, rfl, hu, hb⟩
          have hbW := HW2.out.trans (hb.mono HW2.out.size)
          have hk := hb.block wr.heap.size (by have := HW2.out.size; omega)
          replace x0 := (World.cell?_of_block hk).trans x0
          replace x1 := (World.cell?_of_block hk).trans x1
          replace x2 := (World.cell?_of_block hk).trans x2
          replace x3 := (World.cell?_of_block hk).trans x3
          obtain ⟨s0, s1, s2, t0, t1, t2⟩ := (HALL.out _ hbW).1.facts
          have HU := Lib.hid hu
          have HW3 := Lib.hid hbW
          clear hk hb hbW hu
          try go_wp2_with fail
          refine hK.out _ _ ?_ (fun hHeld => ?_)
          · (try dsimp only)
            go_keep
          clear hK K
          try simp only [Act.put, List.setIfInBounds_toArray, List.set_cons_zero, List.set_cons_succ]
          refine wpAnyH_ready (rs := [0]) (by kernel_rfl) (by simp) ?_
          refine AllReadyH.cons (o := { dst := some 18, op := Op.load 25 (Operand.tmp 5), type := 25, pos := "sum.go:60", after := #[], guard := none }) rfl (fun K hK => ?_) AllReadyH.nil
          go_simp
          try go_wp2_with fail
          refine hK.out _ _ ?_ (fun hHeld => ?_)
          · (try dsimp only)
            go_keep
          clear hK K
          try simp only [Act.put, List.setIfInBounds_toArray, List.set_cons_zero, List.set_cons_succ]
          refine wpAnyH_ready (rs := [8]) (by kernel_rfl) (by simp) ?_
          refine AllReadyH.cons (o := { dst := some 26, op := Op.call { callee := Callee.value (Operand.func 34), args := #[Operand.tmp 18, Operand.tmp 25], argTypes := #[25, 25] }, type := 25, pos := "sum.go:60", after := #[{ on := 0, ground := Ground.data }, { on := 7, ground := Ground.data }, { on := 7, ground := Ground.chain }], guard := none }) rfl (fun K hK => ?_) AllReadyH.nil
          go_simp
          go_at_call 34
          refine (Add_c zs u (atL (atV V) (L.take i) k) (X.2 * atV V x.v) _ (((HALL.out _ HW3.out).2.1.rw HST.out.2.2.1).more HSZ.out.1) ((HU.out.rw ((HXR.out.tight).mul (sz_atV HSV.out _))).more HSZ.out.2)).mono ?_
          rintro ee w4 ⟨s, rfl, hs, hb⟩
          have hbW := HW3.out.trans (hb.mono HW3.out.size)
          have hk := hb.block wr.heap.size (by have := HW3.out.size; omega)
          replace x0 := (World.cell?_of_block hk).trans x0
          replace x1 := (World.cell?_of_block hk).trans x1
          replace x2 := (World.cell?_of_block hk).trans x2
          replace x3 := (World.cell?_of_block hk).trans x3
          obtain ⟨s0, s1, s2, t0, t1, t2⟩ := (HALL.out _ hbW).1.facts
          have HS := Lib.hid hs
          have HW4 := Lib.hid hbW
          have hz3 := HW3.out.size
          have hz4 := HW4.out.size
          clear hk hb hbW hs
          try go_wp2_with fail
          refine hK.out _ _ ?_ (fun hHeld => ?_)
          · (try dsimp only)
            go_keep
          clear hK K
          try simp only [Act.put, List.setIfInBounds_toArray, List.set_cons_zero, List.set_cons_succ]
          refine wpAnyH_ready (rs := [9]) (by kernel_rfl) (by simp) ?_
          refine AllReadyH.cons (o := { dst := none, op := Op.store 25 (Operand.tmp 5) (Operand.tmp 26), type := 0, pos := "sum.go:60", after := #[{ on := 8, ground := Ground.data }, { on := 8, ground := Ground.chain }, { on := 0, ground := Ground.phase }, { on := 1, ground := Ground.phase }, { on := 2, ground := Ground.phase }, { on := 3, ground := Ground.phase }, { on := 4, ground := Ground.phase }, { on := 5, ground := Ground.phase }, { on := 6, ground := Ground.phase }, { on := 7, ground := Ground.phase }, { on := 8, ground := Ground.phase }], guard := none }) rfl (fun K hK => ?_) AllReadyH.nil
          go_simp
          try go_wp2_with fail
          refine hK.out _ _ ?_ (fun hHeld => ?_)
          · (try dsimp only)
            go_keep
          clear hK K
          try simp only [Act.put, List.setIfInBounds_toArray, List.set_cons_zero, List.set_cons_succ]
          refine wpAnyH_done (by kernel_rfl) ?_ _
          clear x0 x1 x2 x3 s0 s1 s2 t0 t1 t2
          go_wp2
          go_roundw
          case rel =>
            have hst := AtP.step (HALL.out _ HW4.out) HS.out HX.out.1 HX.out.2.1 HX.out.2.2 HST.out.2.2.1 HXR.out HSV.out (by omega) (by omega) (by omega)
            rw [HVA.out] at hst
            exact ⟨i + 1, s, by omega, by go_num, hst⟩
          case measure => simp [intOf]; omega
    · have i1 : ¬ (i : Int) < (va.n : Int) := by omega
      have heq : L.take i = L := List.take_of_length_le (by rw [← HLL.out.2, HLL.out.1]; omega)
      rw [heq] at HST
      have hbd : Hid (bndA la i ≤ 1100) := by
        have h1 := costK_mono la (show i ≤ va.n by omega)
        have h2 := HCO.out
        unfold cost at h2
        show bndA la i ≤ 1100
        unfold bndA
        omega
      obtain ⟨s0, s1, s2, t0, t1, t2⟩ := HST.out.1.facts
      obtain ⟨q0, q1, q2, r0, r1, r2⟩ := HST.out.2.2.2.2.1.facts
      have hsw := HST.out.2.2.2.2.2.2
      clear heq
      go_wp2
      refine ret3 (fn := Tryz.f18) Tryz.results18 rfl rfl HST.out.2.2.2.2.1 ?_
      exact ⟨zs, rfl, (HST.out.2.1.put (by omega) _ _ _).lower (by omega), HST.out.2.2.1.more hbd.out, HST.out.2.2.2.2.2.1.trans (put3_below (by omega) _ _ _)⟩
end Go.Proofs.YtffnjdfmaebmhaaGreatDoor
