/-
  Two variables joined; two rows of numbers compared.
-/
import Derived.Test.YtjbhhccklfddaaaVGrA
namespace Go.Proofs.Ytjbhhccklfddaaa
set_option maxRecDepth 20000
open Go.RowKit
theorem grown_any {w w' : World} (h : Below w.heap.size w w') (g : Option Nat) : w.grownBy w' g := ⟨h.os, h.tape, h.output, h.size, fun k hk _ => h.block k hk⟩
def BPost (P : Prop) (e : Ending) : Prop := ∃ r : Bool, e = .returned (.bool r) ∧ (r = true ↔ P)
theorem BPost.yes {P : Prop} {e : Ending} (h : P) (he : e = .returned (.bool true)) : BPost P e := ⟨true, he, fun _ => h, fun _ => rfl⟩
theorem BPost.no {P : Prop} {e : Ending} (h : ¬ P) (he : e = .returned (.bool false)) : BPost P e := ⟨false, he, fun g => (by cases g), fun g => absurd g h⟩
def halfT (l : List Nat) (lo hi k : Nat) : List Nat := (l.take k).map (trn lo hi) ++ l.drop k
theorem halfT_len {l : List Nat} {lo hi k : Nat} : (halfT l lo hi k).length = l.length := by
 unfold halfT; rw [List.length_append, List.length_map, List.length_take, List.length_drop]; omega
theorem halfT_rt {l : List Nat} {lo hi k : Nat} (h : k < l.length) : rt (halfT l lo hi k) k = rt l k := by
 rw [rt_eq, rt_eq, halfT, List.getElem?_append_right (by simp; omega), List.getElem?_drop]
 simp only [List.length_map, List.length_take]
 rw [show k + (k - min k l.length) = k by omega]
theorem halfT_step {l : List Nat} {lo hi k : Nat} (h : k < l.length) : (halfT l lo hi k).set k (trn lo hi (rt l k)) = halfT l lo hi (k + 1) := by
 unfold halfT
 rw [List.set_append_right _ _ (by simp; omega), List.length_map, List.length_take, Nat.min_eq_left (by omega), Nat.sub_self, List.drop_eq_getElem_cons h, List.take_add_one, List.getElem?_eq_getElem h, List.map_append, List.append_assoc]
 have e : rt l k = l[k] := by rw [rt_eq, List.getElem?_eq_getElem h]; rfl
 rw [e]
 rfl
theorem set_self {l : List Nat} {k : Nat} (h : k < l.length) : l.set k (rt l k) = l := by
 have e : rt l k = l[k] := by rw [rt_eq, List.getElem?_eq_getElem h]; rfl
 rw [e, List.set_getElem_self]
theorem halfT_keep {l : List Nat} {lo hi k : Nat} (h : k < l.length) (hne : rt l k ≠ hi) : halfT l lo hi k = halfT l lo hi (k + 1) := by
 rw [← halfT_step h, trn, if_neg hne, ← halfT_rt (lo := lo) (hi := hi) h, set_self (by rw [halfT_len]; exact h)]
theorem halfT_turn {l : List Nat} {lo hi k : Nat} (h : k < l.length) (he : rt l k = hi) : (halfT l lo hi k).set k lo = halfT l lo hi (k + 1) := by
 rw [← halfT_step h, trn, if_pos he]
theorem halfT_all {l : List Nat} {lo hi : Nat} : halfT l lo hi l.length = l.map (trn lo hi) := by
 unfold halfT; rw [List.take_length, List.drop_length, List.append_nil]
set_option maxHeartbeats 6400000 in
theorem join_c (g N a b lo : Nat) (l : List Nat) (w : World) (ho : OwnN w lo (some ⟨g, 0, none⟩) N N l) (hN : N ≤ 64) (ha : a < N) (hb : b < N) :
  Calls Try.prog 93 #[.slice (some ⟨g, 0, none⟩) N N, .int .i64 (a : Int), .int .i64 (b : Int)] w fun e w' => BPost (rt l a ≠ rt l b) e ∧ OwnN w' lo (some ⟨g, 0, none⟩) N N (mrg l a b) ∧ w.grownBy w' (some g) := by
 have c0 := ho.cell ha
 have c1 := ho.cell hb
 have HO := Lib.hid ho
 have HL := Lib.hid ho.len
 clear ho
 obtain ⟨x, hx⟩ : ∃ x, x = rt l a := ⟨_, rfl⟩
 obtain ⟨y, hy⟩ : ∃ y, y = rt l b := ⟨_, rfl⟩
 rw [← hx] at c0
 rw [← hy] at c1
 have HX : Hid (rt l a ≠ rt l b ↔ x ≠ y) := by show _ ↔ _; rw [hx, hy]
 have em : Hid (mrg l a b = l.map (trn (min x y) (max x y))) := by show _ = _; rw [hx, hy]; rfl
 clear hx hy
 have a0 : (0 : Int) ≤ (a : Int) := by omega
 have b0 : (0 : Int) ≤ (b : Int) := by omega
 have a1 : (a : Int) < (N : Int) := by omega
 have b1 : (b : Int) < (N : Int) := by omega
 go_enter Try.func93, Try.ntmps93
 go_upto_region 1 with fail
 go_cut [7, 8] (fun lv hv wx => lv = .int .i64 ((min x y : Nat) : Int) ∧ hv = .int .i64 ((max x y : Nat) : Int) ∧ Hid (Below w.heap.size w wx))
 case first =>
  rcases Nat.lt_trichotomy x y with h | h | h
  ·
   have h1 : (x : Int) < (y : Int) := by omega
   have h2 : ¬ (y : Int) < (x : Int) := by omega
   have h3 : Hid (((min x y : Nat) : Int) = (x : Int) ∧ ((max x y : Nat) : Int) = (y : Int)) := by constructor <;> omega
   clear h
   go_wp2
   go_region
   go_wp2
   go_meet
   exact ⟨by rw [h3.out.1], by rw [h3.out.2], Lib.hid ((Below.refl _ _).drew)⟩
  ·
   have h3 : Hid (((min x y : Nat) : Int) = (x : Int) ∧ ((max x y : Nat) : Int) = (x : Int)) := by constructor <;> omega
   subst h
   go_wp2
   go_region
   go_wp2
   go_meet
   exact ⟨by rw [h3.out.1], by rw [h3.out.2], Lib.hid ((Below.refl _ _).drew)⟩
  ·
   have h1 : (y : Int) < (x : Int) := by omega
   have h2 : ¬ (x : Int) < (y : Int) := by omega
   have h3 : Hid (((min x y : Nat) : Int) = (y : Int) ∧ ((max x y : Nat) : Int) = (x : Int)) := by constructor <;> omega
   clear h
   go_wp2
   go_region
   go_wp2
   go_meet
   exact ⟨by rw [h3.out.1], by rw [h3.out.2], Lib.hid ((Below.refl _ _).drew)⟩
 case rest =>
  obtain ⟨rfl, rfl, HB⟩ := hcut
  clear c0 c1
  obtain ⟨p, hp⟩ : ∃ p, p = min x y := ⟨_, rfl⟩
  obtain ⟨q, hq⟩ : ∃ q, q = max x y := ⟨_, rfl⟩
  rw [← hp, ← hq] at em
  rw [← hp, ← hq]
  have HPQ : Hid (x ≠ y ↔ p ≠ q) := by show _ ↔ _; omega
  clear hp hq
  by_cases hpq : p = q
  ·
   have hm : mrg l a b = l := by
    rw [em.out, hpq]
    refine (List.map_congr_left (g := id) fun z _ => ?_).trans (List.map_id _)
    unfold trn; split <;> simp_all
   have HE := Lib.hid (And.intro hm (show ¬ x ≠ y from fun h => HPQ.out.1 h hpq))
   clear hm HPQ em
   subst hpq
   have e1 : ((p : Int) == (p : Int)) = true := by simp
   go_wp2
   go_ret
   exact ⟨.no (fun h => HE.out.2 (HX.out.1 h)) rfl, by rw [HE.out.1]; exact HO.out.below HB.out, grown_any HB.out _⟩
  ·
   have e1 : ((p : Int) == (q : Int)) = false := beq_eq_false_iff_ne.2 (by omega)
   have e2 : ¬ (p : Int) = (q : Int) := by omega
   have HE : Hid (x ≠ y) := HPQ.out.2 hpq
   have n0 : (0 : Int) ≤ (N : Int) := by omega
   have n1 : (N : Int) ≤ 64 := by omega
   clear HPQ hpq
   go_wp2
   go_loopw [9, 10, 34] (fun _ _ iv wr => ∃ k : Nat, k ≤ N ∧ iv = .int .i64 k ∧ Hid (OwnN wr lo (some ⟨g, 0, none⟩) N N (halfT l p q k) ∧ w.grownBy wr (some g))) (fun _ _ iv _ => N - (intOf iv).toNat)
   case atStart => exact ⟨0, Nat.zero_le _, rfl, Lib.hid ⟨HO.out.below HB.out, grown_any HB.out _⟩⟩
   case round =>
    clear HB
    obtain ⟨k, hk, rfl, HR⟩ := hrel
    have k0 : (0 : Int) ≤ (k : Int) := by omega
    by_cases hlt : k < N
    ·
     have k1 : (k : Int) < (N : Int) := by omega
     have hkl : k < l.length := by rw [HL.out]; exact hlt
     have hc := HR.out.1.cell hlt
     rw [halfT_rt hkl] at hc
     have ht := HR.out.1.thaw k
     by_cases hz : rt l k = q
     ·
      have HR2 : Hid (OwnN (wr.setCell ⟨g, k, none⟩ (.int .i64 (p : Int))) lo (some ⟨g, 0, none⟩) N N (halfT l p q (k + 1)) ∧ w.grownBy (wr.setCell ⟨g, k, none⟩ (.int .i64 (p : Int))) (some g)) := ⟨halfT_turn hkl hz ▸ HR.out.1.set k p, HR.out.2.trans (set_grown wr g k _)⟩
      rw [hz] at hc
      have e3 : ((q : Int) == (q : Int)) = true := by simp
      clear hz hkl HR
      go_wp2
      go_roundw
      case rel => exact ⟨k + 1, by omega, by go_num, HR2⟩
      case measure => simp [intOf]; omega
     ·
      have HR2 : Hid (OwnN wr lo (some ⟨g, 0, none⟩) N N (halfT l p q (k + 1)) ∧ w.grownBy wr (some g)) := by
       have := HR.out
       rw [halfT_keep hkl hz] at this
       exact this
      generalize rt l k = z at *
      have e3 : ((z : Int) == (q : Int)) = false := beq_eq_false_iff_ne.2 (by omega)
      have e4 : ¬ (z : Int) = (q : Int) := by omega
      clear hz hkl HR
      go_wp2
      go_roundw
      case rel => exact ⟨k + 1, by omega, by go_num, HR2⟩
      case measure => simp [intOf]; omega
    ·
     have e : k = l.length := by rw [HL.out]; omega
     have HR2 : Hid (OwnN wr lo (some ⟨g, 0, none⟩) N N (mrg l a b) ∧ w.grownBy wr (some g)) := by
      have := HR.out
      rw [e, halfT_all, ← em.out] at this
      exact this
     have k1 : ¬ (k : Int) < (N : Int) := by omega
     clear e HR
     go_wp2
     go_ret
     exact ⟨.yes (HX.out.2 HE.out) rfl, HR2.out.1, HR2.out.2⟩
end Go.Proofs.Ytjbhhccklfddaaa
