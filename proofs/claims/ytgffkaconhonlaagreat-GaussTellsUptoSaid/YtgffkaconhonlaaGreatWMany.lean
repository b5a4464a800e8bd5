/-
  Whether numbers are more than is looked at; whether terms rise.
-/
import Derived.Test.YtgffkaconhonlaaGreatWPick
import Derived.BigQuiet
namespace Go.Proofs.YtgffkaconhonlaaGreat
set_option maxRecDepth 20000
open Go.RowKit
def MPost (n : Nat) (l : List Rv) (w : World) (e : Ending) (w' : World) : Prop := ∃ r : Bool, e = .returned (.bool r) ∧ (r = false → n ≤ 100 ∧ ∀ x ∈ l, x.n ≤ 3 ∧ x.m ≤ 3) ∧ Below w.heap.size w w'
set_option maxHeartbeats 3200000 in
theorem many_c (A : Option Addr) (n c : Nat) (l : List Rv) (w : World) (hA : Nums w A n l) (hn : n ≤ 1048576) (hb : ∀ x ∈ l, x.n ≤ 1048576 ∧ x.m ≤ 1048576) :
  Calls Tryz.prog 12 #[.slice A n c] w (MPost n l w) := by
 have n0 : (0 : Int) ≤ (n : Int) := by omega
 have n9 : (n : Int) ≤ 1048576 := by omega
 have HA := Lib.hid hA
 have HB := Lib.hid hb
 clear hA hb
 go_enter Tryz.func12, Tryz.ntmps12
 go_wp2
 go_loopw [2, 3, 4] (fun _ nv iv wr => ∃ (i q : Nat), i ≤ n ∧ i ≤ q ∧ q ≤ 100 ∧ iv = .int .i64 i ∧ nv = .int .i64 q ∧ Hid (∀ j x, j < i → l[j]? = some x → x.n ≤ 3 ∧ x.m ≤ 3) ∧ Hid (Below w.heap.size w wr)) (fun _ _ iv _ => n - (intOf iv).toNat)
 case atStart => exact ⟨0, 0, by omega, by omega, by omega, rfl, rfl, Lib.hid (fun j x hj => absurd hj (Nat.not_lt_zero _)), Lib.hid (Below.refl _ _)⟩
 case round =>
  obtain ⟨i, q, hi, hiq, hq, rfl, rfl, HS, HBR⟩ := hrel
  have q0 : (0 : Int) ≤ (q : Int) := by omega
  have q1 : (q : Int) ≤ 100 := by omega
  have i0 : (0 : Int) ≤ (i : Int) := by omega
  by_cases hlt : i < n
  ·
   have i1 : (i : Int) < (n : Int) := by omega
   obtain ⟨b, off, rfl, hbl, hc⟩ := HA.out.mem (by omega)
   have hil : i < l.length := by rw [HA.out.len]; exact hlt
   have hx := List.getElem?_eq_getElem hil
   have HX := Lib.hid hx
   have hm := HB.out _ (List.getElem_mem hil)
   obtain ⟨x0, x1, x2⟩ := (hc i _ hx).keep (HBR.out.block b hbl)
   generalize l[i] = x at *
   have m1 : (x.n : Int) ≤ 1048576 := by omega
   have m2 : (x.m : Int) ≤ 1048576 := by omega
   clear hx hc
   go_wp2_with fail
   go_region
   by_cases h1 : 100 < q + 1 + x.n + x.m
   ·
    have h1' : (100 : Int) < (q : Int) + 1 + (x.n : Int) + (x.m : Int) := by omega
    clear h1
    go_wp2
    go_ret
    exact ⟨true, rfl, (fun h => by cases h), HBR.out.drew⟩
   have h1' : ¬ (100 : Int) < (q : Int) + 1 + (x.n : Int) + (x.m : Int) := by omega
   by_cases h2 : 3 < x.n
   ·
    have h2' : (3 : Int) < (x.n : Int) := by omega
    clear h1 h2
    go_wp2
    go_ret
    exact ⟨true, rfl, (fun h => by cases h), HBR.out.drew⟩
   have h2' : ¬ (3 : Int) < (x.n : Int) := by omega
   by_cases h3 : 3 < x.m
   ·
    have h3' : (3 : Int) < (x.m : Int) := by omega
    clear h1 h2 h3
    go_wp2
    go_ret
    exact ⟨true, rfl, (fun h => by cases h), HBR.out.drew⟩
   have h3' : ¬ (3 : Int) < (x.m : Int) := by omega
   have HL := Lib.hid (And.intro h1 (And.intro h2 h3))
   clear h1 h2 h3
   go_wp2
   go_roundw
   case rel =>
    have h9 := HL.out
    exact ⟨i + 1, q + 1 + x.n + x.m, by omega, by omega, by omega, by go_num, by go_num, Lib.hid (fun j y hj hy => by
     by_cases e : j = i
     ·
      subst e
      rw [HX.out] at hy
      injection hy with hy
      subst hy
      omega
     · exact HS.out j y (by omega) hy), Lib.hid HBR.out.drew⟩
   case measure => simp [intOf]; omega
  ·
   have i1 : ¬ (i : Int) < (n : Int) := by omega
   go_wp2
   go_ret
   exact ⟨false, rfl, (fun _ => ⟨by omega, fun x hx => by
    obtain ⟨j, hj, e⟩ := List.getElem_of_mem hx
    exact HS.out j x (by rw [HA.out.len] at hj; omega) (by rw [List.getElem?_eq_getElem hj, e])⟩), HBR.out⟩
end Go.Proofs.YtgffkaconhonlaaGreat
