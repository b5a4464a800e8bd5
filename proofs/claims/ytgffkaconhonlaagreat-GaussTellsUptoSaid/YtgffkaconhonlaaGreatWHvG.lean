/-
  Whether sums are more than is looked at.
  Whether sums are more than is looked at (chapter 10's).
-/
import Derived.Test.YtgffkaconhonlaaGreatWMAa
import Derived.BigQuiet
import Derived.Test.YtgffkaconhonlaaGreatWCRow
namespace Go.Proofs.YtgffkaconhonlaaGreat
set_option maxRecDepth 20000
open Go.RowKit
def costK (l : List Tv) : Nat → Nat
 | 0 => 0
 | k + 1 => costK l k + (match l[k]? with | some x => 1 + x.r.n + x.r.m | none => 0)
theorem costK_succ {l : List Tv} {k : Nat} {x : Tv} (h : l[k]? = some x) : costK l (k + 1) = costK l k + (1 + x.r.n + x.r.m) := by
 rw [costK, h]
theorem costK_mono (l : List Tv) {i j : Nat} (h : i ≤ j) : costK l i ≤ costK l j := by
 induction j with
 | zero => rw [show i = 0 by omega]; exact Nat.le_refl _
 |
  succ j ih =>
  by_cases e : i = j + 1
  · rw [e]; exact Nat.le_refl _
  · exact Nat.le_trans (ih (by omega)) (by rw [costK]; omega)
theorem costK_le (l : List Tv) (B : Nat) (hB : ∀ x ∈ l, x.r.n ≤ B ∧ x.r.m ≤ B) (k : Nat) : costK l k ≤ k * (1 + 2 * B) := by
 induction k with
 | zero => exact Nat.zero_le _
 |
  succ k ih =>
  rw [costK, Nat.succ_mul]
  cases hx : l[k]? with
  | none => show _ + 0 ≤ _; omega
  |
   some x =>
   have := hB x (List.mem_of_getElem? hx)
   show _ + (1 + x.r.n + x.r.m) ≤ _
   omega
def cost (v : Cv) (l : List Tv) : Nat := 2 + v.K.n + v.K.m + costK l v.n
theorem cost_get {v : Cv} {l : List Tv} {i : Nat} {x : Tv} (hl : l.length = v.n) (h : l[i]? = some x) : x.r.n ≤ cost v l ∧ x.r.m ≤ cost v l := by
 have hi := (List.getElem?_eq_some_iff.1 h).1
 have h1 := costK_mono l (show i + 1 ≤ v.n by omega)
 rw [costK_succ h] at h1
 unfold cost
 omega
theorem costK_len (l : List Tv) : ∀ k, k ≤ l.length → k ≤ costK l k
 | 0, _ => Nat.zero_le _
 |
  k + 1, h => by
  have := costK_len l k (by omega)
  rw [costK_succ (List.getElem?_eq_getElem (by omega))]
  omega
structure Fit (w : World) (v : Cv) (l : List Tv) : Prop where
 row : Tms w 0 v.A v.n l
 n : v.n ≤ 1048576
 kn : v.K.n ≤ 1048576
 km : v.K.m ≤ 1048576
 cap : v.n ≤ v.c
 each : ∀ x ∈ l, x.r.n ≤ 1048576 ∧ x.r.m ≤ 1048576
def HPost (S : Nat) (w : World) (e : Ending) (w' : World) : Prop := ∃ r : Bool, e = .returned (.bool r) ∧ (r = false → S ≤ 150) ∧ Below w.heap.size w w'
end Go.Proofs.YtgffkaconhonlaaGreat

namespace Go.Proofs.YtgffkaconhonlaaGreat
set_option maxRecDepth 20000
open Go.RowKit
def costA (ps : List (Cv × List Tv)) : Nat → Nat
 | 0 => 0
 | i + 1 => costA ps i + (match ps[i]? with | some x => cost x.1 x.2 | none => 0)
theorem costA_succ {ps : List (Cv × List Tv)} {i : Nat} {x : Cv × List Tv} (h : ps[i]? = some x) : costA ps (i + 1) = costA ps i + cost x.1 x.2 := by
 rw [costA, h]
theorem costA_mono (l : List (Cv × List Tv)) {i j : Nat} (h : i ≤ j) : costA l i ≤ costA l j := by
 induction j with
 | zero => rw [show i = 0 by omega]; exact Nat.le_refl _
 |
  succ j ih =>
  by_cases e : i = j + 1
  · rw [e]; exact Nat.le_refl _
  · exact Nat.le_trans (ih (by omega)) (by rw [costA]; omega)
theorem costA_get {ps : List (Cv × List Tv)} {i : Nat} {x : Cv × List Tv} (h : ps[i]? = some x) : cost x.1 x.2 ≤ costA ps ps.length := by
 have hi := (List.getElem?_eq_some_iff.1 h).1
 have h1 := costA_mono ps (show i + 1 ≤ ps.length by omega)
 rw [costA_succ h] at h1
 omega
theorem costA_len (ps : List (Cv × List Tv)) : ∀ k, k ≤ ps.length → 2 * k ≤ costA ps k
 | 0, _ => Nat.zero_le _
 |
  k + 1, h => by
  have := costA_len ps k (by omega)
  rw [costA_succ (List.getElem?_eq_getElem (by omega))]
  unfold cost
  omega
set_option maxHeartbeats 6400000 in
theorem heavyG_c (A : Option Addr) (m c : Nat) (ps : List (Cv × List Tv)) (w : World) (hk : Kons w A m (ps.map (·.1))) (hf : ∀ x ∈ ps, Fit w x.1 x.2) (hm : m ≤ 1048576) :
  Calls Tryz.prog 11 #[.slice A m c] w (HPost (costA ps m) w) := by
 have HK := Lib.hid hk
 have HF := Lib.hid hf
 clear hk hf
 have m1 : (m : Int) ≤ 1048576 := by omega
 have m0 : (0 : Int) ≤ (m : Int) := by omega
 go_enter Tryz.func11, Tryz.ntmps11
 go_wp2
 go_loopw [2, 3, 4, 5] (fun _ nv iv _ wr => ∃ (i n : Nat), i ≤ m ∧ n ≤ 150 ∧ iv = .int .i64 i ∧ nv = .int .i64 n ∧ Hid (Below w.heap.size w wr) ∧ Hid (n = costA ps i)) (fun _ _ iv _ _ => m - (intOf iv).toNat)
 case atStart => exact ⟨0, 0, by omega, by omega, rfl, rfl, Lib.hid (Below.refl _ _), Lib.hid rfl⟩
 case round =>
  obtain ⟨i, n, hi, hn, rfl, rfl, HBR, HC⟩ := hrel
  have n0 : (0 : Int) ≤ (n : Int) := by omega
  have n1 : (n : Int) ≤ 150 := by omega
  have i0 : (0 : Int) ≤ (i : Int) := by omega
  by_cases him : i < m
  ·
   have i1 : (i : Int) < (m : Int) := by omega
   have hlen : ps.length = m := by have := HK.out.len; rw [List.length_map] at this; exact this
   have hil : i < ps.length := by omega
   obtain ⟨b, off, hA, hbw, hcc⟩ := HK.out.mem (by omega)
   have hx := List.getElem?_eq_getElem hil
   have hxm : (ps.map (·.1))[i]? = some ps[i].1 := by rw [List.getElem?_map, hx]; rfl
   have HF1 := Lib.hid (HF.out _ (List.getElem_mem hil))
   have HX := Lib.hid hx
   have HCC : Hid (∀ w', Below w.heap.size w w' → At5 w' b (off + i * 5) ps[i].1) := fun w' h => (hcc i _ hxm).keep (h.block b hbw)
   generalize ps[i] = x at *
   obtain ⟨va, la⟩ := x
   replace HCC : Hid (∀ w', Below w.heap.size w w' → At5 w' b (off + i * 5) va) := HCC
   replace HF1 : Hid (Fit w va la) := HF1
   replace HX : Hid (ps[i]? = some (va, la)) := HX
   obtain ⟨k0, k1, k2, k3, k4⟩ := HCC.out _ HBR.out
   have a1 := HF1.out.kn
   have a2 := HF1.out.km
   have a3 := HF1.out.n
   have c1 : (va.K.n : Int) ≤ 1048576 := by omega
   have c2 : (va.K.m : Int) ≤ 1048576 := by omega
   have c3 : (va.n : Int) ≤ 1048576 := by omega
   have c0 : (0 : Int) ≤ (va.n : Int) := by omega
   subst hA
   clear hx hxm hcc hlen
   go_wp2_with fail
   go_region
   go_wp2
   clear k0 k1 k2 k3 k4
   go_loopw [3, 5] (fun nv kv wx => ∃ (k q : Nat), k ≤ va.n ∧ q ≤ 3000000000000 ∧ kv = .int .i64 k ∧ nv = .int .i64 q ∧ Hid (q = n + (2 + va.K.n + va.K.m + costK la k)) ∧ Hid (Below w.heap.size w wx)) (fun _ kv _ => va.n - (intOf kv).toNat)
   case atStart => exact ⟨0, n + 2 + va.K.n + va.K.m, by omega, by omega, rfl, by go_num, Lib.hid (by simp only [costK]; omega), Lib.hid (HBR.out.drew)⟩
   case round =>
    clear HBR
    obtain ⟨k, q, hk, hq, rfl, rfl, HQ, HBR⟩ := hrel
    obtain ⟨k0, k1, k2, k3, k4⟩ := HCC.out _ HBR.out
    have q0 : (0 : Int) ≤ (q : Int) := by omega
    have q1 : (q : Int) ≤ 3000000000000 := by omega
    by_cases hlt : k < va.n
    ·
     have g0 : (0 : Int) ≤ (k : Int) := by omega
     have g1 : (k : Int) < (va.n : Int) := by omega
     obtain ⟨g, off2, hA2, _, hgw, hc⟩ := HF1.out.row.mem (by omega)
     have hkl : k < la.length := by have := HF1.out.row.len; omega
     have hx := List.getElem?_eq_getElem hkl
     have HX2 := Lib.hid hx
     have hm2 := HF1.out.each _ (List.getElem_mem hkl)
     obtain ⟨x0, x1, x2, x3⟩ := (hc k _ hx).keep (HBR.out.block g hgw)
     generalize la[k] = x at *
     have m1 : (x.r.n : Int) ≤ 1048576 := by omega
     have m2 : (x.r.m : Int) ≤ 1048576 := by omega
     rw [hA2] at k1
     clear hx hc hA2
     go_wp2_with fail
     go_region
     clear k0 k1 k2 k3 k4 x0 x1 x2 x3
     go_wp2
     go_roundw
     case rel =>
      have hb := costK_le la 1048576 HF1.out.each (k + 1)
      have hs := costK_succ HX2.out
      have hQ := HQ.out
      exact ⟨k + 1, q + 1 + x.r.n + x.r.m, by omega, by omega, by go_num, by go_num, Lib.hid (by omega), Lib.hid HBR.out.drew⟩
     case measure => simp [intOf]; omega
    ·
     have e : k = va.n := by omega
     have hQ : q = n + cost va la := by have := HQ.out; rw [e] at this; unfold cost; omega
     have HQ2 := Lib.hid hQ
     clear hQ HQ e
     have g1 : ¬ (k : Int) < (va.n : Int) := by omega
     by_cases h150 : 150 < q
     ·
      have q2 : (150 : Int) < (q : Int) := by omega
      go_wp2
      go_ret
      exact ⟨true, rfl, (fun h => by cases h), HBR.out⟩
     ·
      have q2 : ¬ (150 : Int) < (q : Int) := by omega
      go_wp2
      go_roundw
      case rel =>
       have hQ := HQ2.out
       have hN := HC.out
       have hS : costA ps (i + 1) = costA ps i + cost va la := costA_succ HX.out
       exact ⟨i + 1, q, by omega, by omega, by go_num, rfl, HBR, Lib.hid (by omega)⟩
      case measure => simp [intOf]; omega
  ·
   have e : i = m := by omega
   have HC2 : Hid (n = costA ps m) := by rw [← e]; exact HC
   clear HC
   have i1 : ¬ (i : Int) < (m : Int) := by omega
   clear e
   go_wp2
   go_ret
   exact ⟨false, rfl, (fun _ => by have := HC2.out; omega), HBR.out⟩
end Go.Proofs.YtgffkaconhonlaaGreat
