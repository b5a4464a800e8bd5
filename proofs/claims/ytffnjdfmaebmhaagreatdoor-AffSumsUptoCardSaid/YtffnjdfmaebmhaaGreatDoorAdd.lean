/-
  Both together: the document's way and the program's.
-/
import Derived.Test.YtffnjdfmaebmhaaGreatDoorLimbs
namespace Go.Proofs.YtffnjdfmaebmhaaGreatDoor
set_option maxRecDepth 20000
open Go.RowKit

theorem L32.snoc {l : List Nat} {x : Nat} (h : L32 l) (hx : x < 4294967296) : L32 (l ++ [x]) := by
  intro i
  rw [dg_eq, List.getElem?_append]
  split
  · rw [← dg_eq]; exact h i
  · rw [← dg_eq]; exact (L32.cons hx L32.nil) _
theorem val_snoc (l : List Nat) (x : Nat) : val (l ++ [x]) = val l + 4294967296 ^ l.length * x := by
  rw [val_append]; simp [val]

/-- A new block of one limb reads as that limb. -/
theorem Row.one {w : World} {x : Nat} {v : Int} {lo : Nat} (hv : v = (x : Int)) (hx : x < 4294967296) (hlo : lo ≤ w.heap.size) : Row (w.alloc (.cells #[.int .u32 v] 74)) lo (some ⟨w.heap.size, 0, none⟩) 1 [x] := by
  subst hv
  refine ⟨rfl, L32.cons hx L32.nil, fun _ => ⟨w.heap.size, 0, rfl, hlo, by simp, fun j hj => ?_⟩⟩
  have : j = 0 := by omega
  subst this
  rw [World.cell?_alloc_at _ _ _ _ rfl]; rfl

/-- What a loop over two rows keeps: k digits are made. -/
structure AddAt (w wr : World) (a b : List Nat) (k c : Nat) (A : Option Addr) (cap : Nat) (r : List Nat) : Prop where
  own : Own wr w.heap.size A cap k r
  sum : val r + 4294967296 ^ k * c = S (fun i => dg a i) k + S (fun i => dg b i) k
  below : Below w.heap.size w wr

theorem AddAt.step {w wr wr' : World} {a b : List Nat} {k c : Nat} {A A' : Option Addr} {cap cap' : Nat} {r : List Nat} (h : AddAt w wr a b k c A cap r) {x : Nat}
    (hx : x + 4294967296 * ((c + dg a k + dg b k) / 4294967296) = c + dg a k + dg b k)
    (ho : Own wr' w.heap.size A' cap' (k + 1) (r ++ [x])) (hb : Below w.heap.size wr wr') : AddAt w wr' a b (k + 1) ((c + dg a k + dg b k) / 4294967296) A' cap' (r ++ [x]) := by
  refine ⟨ho, ?_, h.below.trans hb⟩
  rw [val_snoc, h.own.len, S, S, Nat.pow_succ]
  exact add_step h.sum (by omega)

set_option maxHeartbeats 400000 in
theorem rAdd_any (A B : Option Addr) (n m c d : Nat) (a b : List Nat) (w : World) (hn : n ≤ 100000) (hm : m ≤ 100000) (ha : Row w 0 A n a) (hb : Row w 0 B m b) :
    Calls Tryz.prog 65 #[.slice A n c, .slice B m d] w fun e w' => ∃ A2 c2, e = .returned (.slice A2 (lim (val a + val b)).length c2) ∧ Own w' w.heap.size A2 c2 (lim (val a + val b)).length (lim (val a + val b)) ∧ Below w.heap.size w w' := by
  have HST : Hid (AddAt w w a b 0 0 none 0 []) := ⟨Own.nil_ w _, by simp [val, S], Below.refl _ _⟩
  go_enter Tryz.func65, Tryz.ntmps65
  go_wp2
  go_loopw [5, 6, 7] (fun o c i wr => ∃ (k cy : Nat) (A2 : Option Addr) (c2 : Nat) (r : List Nat), k ≤ max n m + 1 ∧ cy ≤ 1 ∧ i = .int .i64 k ∧ c = .int .u64 cy ∧ o = .slice A2 k c2 ∧ Hid (AddAt w wr a b k cy A2 c2 r)) (fun _ _ i _ => max n m + 1 - (intOf i).toNat)
  case atStart => exact ⟨0, 0, none, 0, [], by omega, by omega, rfl, rfl, rfl, HST⟩
  case round =>
    obtain ⟨k, cy, A2, c2, r, hk, hcy, rfl, rfl, rfl, HA⟩ := hrel
    have ha1 := ha.below HA.out.below
    have hb1 := hb.below HA.out.below
    by_cases h0 : k < max n m + 1
    · have hxa := ha.l32 k
      have hxb := hb.l32 k
      have STEP := fun (A' : Option Addr) (cap' : Nat) (wr' : World) (x : Nat) hx ho hb => HA.out.step (A' := A') (cap' := cap') (wr' := wr') (x := x) hx ho hb
      have STEP1 := Lib.hid STEP; clear STEP
      have OWN := Lib.hid HA.out.own
      have hz := HA.out.below.size
      have FIN : Hid (∀ (A3 : Option Addr) (c3 : Nat) (w1 w3 : World), Own w3 w.heap.size A3 c3 (k + 1) (r ++ [(cy + dg a k + dg b k) % 4294967296]) → Below w.heap.size wr w1 → w.heap.size ≤ w1.heap.size → w1.grownBy w3 (A2.map (·.block)) →
          AddAt w w3 a b (k + 1) ((cy + dg a k + dg b k) / 4294967296) A3 c3 (r ++ [(cy + dg a k + dg b k) % 4294967296])) := by
        intro A3 c3 w1 w3 ho hb1 hs1 hg
        refine STEP1.out A3 c3 w3 _ (by omega) ho ?_
        refine hb1.trans ⟨hg.os, hg.tape, hg.output, hg.size, fun q hq => hg.block q (by omega) ?_⟩
        cases A2 with
        | none => simp
        | some ad =>
          have := OWN.out.own.lt ad.block rfl
          simp; omega
      clear STEP1
      have hcy' : (cy + dg a k + dg b k) / 4294967296 ≤ 1 := by omega
      have G1 : Hid (dg a k = dg a k) := rfl
      by_cases hnm : n < m
      all_goals
        go_wp2_with fail
        refine (at_any A n c a k k _ (by omega) ha1 rfl).mono ?_
        rintro e w' ⟨rfl, rfl⟩
        go_wp2_with fail
        refine (at_any B m d b k k _ (by omega) hb1 rfl).mono ?_
        rintro e w' ⟨rfl, rfl⟩
        generalize dg a k = x at *
        generalize dg b k = y at *
        go_wp2_with (at_builtin; refine wpl_append rfl _ _ rfl rfl rfl (OWN.out.alloc _) (Row.one (x := (cy + x + y) % 4294967296) (lo := 0) ?c1 ?c2 ?c3) ?c4 ?c5 ?_)
        case c1 => omega
        case c2 => omega
        case c3 => omega
        case c4 => omega
        case c5 => simp; omega
        intro A3 c3 w3 ho3 hg3
        have HA3 := Lib.hid (FIN.out A3 c3 _ w3 ho3 ((Below.refl _ _).alloc hz _) (by simp; omega) hg3)
        clear FIN ho3 hg3 ha1 hb1
        go_wp2
        go_roundw
        case rel => exact ⟨k + 1, (cy + x + y) / 4294967296, A3, c3, _, by omega, by omega, by go_num, by go_num, rfl, HA3⟩
        case measure => simp [intOf]; omega
    · have hr := HA.out.own.row
      have hlow := hr.lower (Nat.zero_le _)
      have hz := HA.out.below.size
      have e1 : val r = val a + val b := by
        have h1 := HA.out.sum
        have e : k = max n m + 1 := by omega
        have hla := ha.len
        have hlb := hb.len
        rw [S_more _ _ (by omega), S_more _ _ (by omega)] at h1
        have h2 := val_lt ha.l32
        have h3 := val_lt hb.l32
        have h4 : 4294967296 ^ a.length ≤ 4294967296 ^ max n m := Nat.pow_le_pow_right (by omega) (by omega)
        have h5 : 4294967296 ^ b.length ≤ 4294967296 ^ max n m := Nat.pow_le_pow_right (by omega) (by omega)
        have h6 : 4294967296 ^ k = 4294967296 ^ max n m * 4294967296 := by rw [e, Nat.pow_succ]
        have h7 : cy = 0 := by
          rcases Nat.eq_zero_or_pos cy with h0 | h0
          · exact h0
          · have : cy = 1 := by omega
            subst this
            omega
        subst h7
        omega
      have hcap := HA.out.own.capLe
      have E1 := Lib.hid e1; clear e1
      have FIN : Hid (∀ (A3 : Option Addr) (c3 : Nat) (w3 : World), Own w3 wr.heap.size A3 c3 (lim (val r)).length (lim (val r)) → Below wr.heap.size wr w3 →
          Own w3 w.heap.size A3 c3 (lim (val a + val b)).length (lim (val a + val b)) ∧ Below w.heap.size w w3 ∧ (lim (val r)).length = (lim (val a + val b)).length) := by
        intro A3 c3 w3 ho hb
        rw [E1.out] at ho ⊢
        exact ⟨ho.lower hz, HA.out.below.trans (hb.mono hz), rfl⟩
      clear ha1 hb1
      by_cases hnm : n < m
      all_goals
        go_wp2_with fail
        refine (rTrim_any A2 k c2 r _ (by omega) hcap hlow).mono ?_
        rintro e w3 ⟨A3, c3, rfl, ho3, hb3⟩
        obtain ⟨f1, f2, f3⟩ := FIN.out A3 c3 w3 ho3 hb3
        clear ho3 hb3
        have F3 := Lib.hid f3; clear f3
        go_wp2
        go_ret
        exact ⟨A3, c3, by rw [← F3.out]; rfl, f1, f2⟩
end Go.Proofs.YtffnjdfmaebmhaaGreatDoor
