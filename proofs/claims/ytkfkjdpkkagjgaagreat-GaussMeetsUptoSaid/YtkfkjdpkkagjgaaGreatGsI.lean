/-
  Whether sums can hold, how many are independent.
-/
import Derived.Test.YtkfkjdpkkagjgaaGreatGsH
namespace Go.Proofs.YtkfkjdpkkagjgaaGreat
set_option maxRecDepth 20000
open Go.RowKit
theorem sums_mem {n : Nat} {us vs : List Kin} (h : us.Perm vs) (f : Nat → Rat) : f ∈ sums n us ↔ f ∈ sums n vs := ((h.filter _).map _).mem_iff
theorem sat_perm {n : Nat} {us vs : List Kin} (h : us.Perm vs) (x : Nat → Rat) : Sat n (sums n us) x ↔ Sat n (sums n vs) x :=
 ⟨fun g f hf => g f ((sums_mem h f).2 hf), fun g f hf => g f ((sums_mem h f).1 hf)⟩
theorem basis_perm {n : Nat} {us vs : List Kin} {R : List (Nat → Rat)} (h : us.Perm vs) (hb : Basis n (sums n us) R) : Basis n (sums n vs) R :=
 ⟨hb.ind, fun r hr => (hb.down r hr).more fun s hs => (sums_mem h s).1 hs, fun s hs => hb.up s ((sums_mem h s).2 hs)⟩
def heldN (n : Int) : Nat := (min (max n 0) 64).toNat
theorem heldN_int (n : Int) : ((heldN n : Nat) : Int) = min (max n 0) 64 := by unfold heldN; omega
set_option maxHeartbeats 1600000 in
theorem held_c (n : Int) (w : World) : Calls Tryz.prog 29 #[.int .i64 n] w fun e w' => e = .returned (.int .i64 ((heldN n : Nat) : Int)) ∧ w = w' := by
 by_cases h0 : n < 0
 ·
  have e : ((heldN n : Nat) : Int) = 0 := by rw [heldN_int]; omega
  have h1 : ¬ (0 : Int) < n := by omega
  rw [e]
  clear e
  go_enter Tryz.func29, Tryz.ntmps29
  go_wp2
  go_ret
  first
   | exact ⟨rfl, rfl⟩
   | exact ⟨by simp; omega, rfl⟩
 ·
  by_cases h2 : 64 < n
  ·
   have e : ((heldN n : Nat) : Int) = 64 := by rw [heldN_int]; omega
   have h1 : (0 : Int) < n := by omega
   have h3 : ¬ n < 64 := by omega
   rw [e]
   clear e
   go_enter Tryz.func29, Tryz.ntmps29
   go_wp2
   go_ret
   first
    | exact ⟨rfl, rfl⟩
    | exact ⟨by simp; omega, rfl⟩
  ·
   have e : ((heldN n : Nat) : Int) = n := by rw [heldN_int]; omega
   rw [e]
   clear e
   go_enter Tryz.func29, Tryz.ntmps29
   go_wp2
   go_ret
   first
    | exact ⟨rfl, rfl⟩
    | exact ⟨by simp; omega, rfl⟩
def Room (s N : Nat) : Prop := N ≤ 64 ∧ 1 ≤ s ∧ s ≤ 1000 ∧ (s * (N + 1) + 1) * 2 ^ N ≤ 10000000
def ConsPost (N : Nat) (vs : List Kin) (w : World) (e : Ending) (w' : World) : Prop := ∃ b : Bool, e = .returned (.bool b) ∧ (b = true ↔ ∃ x, Sat N (sums N vs) x) ∧ Below w.heap.size w w'
set_option maxHeartbeats 3200000 in
theorem Consistent_c (n : Int) (N s : Nat) (A : Option Addr) (m c : Nat) (vs : List Kin) (w : World) (hN : heldN n = N) (h : Kns N s w A m vs) (hm : m ≤ 1000) (hr : Room s N) :
  Calls Tryz.prog 13 #[.slice A m c, .int .i64 n] w (ConsPost N vs w) := by
 have HH := Lib.hid h
 have HR := Lib.hid hr
 have HN := Lib.hid hN
 clear h hr hN
 go_enter Tryz.func13, Tryz.ntmps13
 go_wp2_with fail
 refine (held_c n _).mono ?_
 rintro e w1 ⟨rfl, rfl⟩
 rw [HN.out]
 go_wp2_with fail
 refine (stairsOf_c N s A m c vs _ HH.out HR.out.1 hm HR.out.2.1 HR.out.2.2.1 HR.out.2.2.2).mono ?_
 rintro e w2 ⟨sb, mb, hi, us, rs, ok, rfl, hp, hs, _, hb⟩
 obtain ⟨s0, s1, _⟩ := hs.st.facts
 have HS := Lib.hid (And.intro hp (And.intro hs hb))
 clear hp hs hb
 go_wp2
 go_ret
 refine ⟨ok, by cases ok <;> rfl, ?_, HS.out.2.2⟩
 rw [HS.out.2.1.stair.cons]
 exact ⟨fun ⟨x, hx⟩ => ⟨x, (sat_perm HS.out.1 x).1 hx⟩, fun ⟨x, hx⟩ => ⟨x, (sat_perm HS.out.1 x).2 hx⟩⟩
def RankPost (N : Nat) (vs : List Kin) (w : World) (e : Ending) (w' : World) : Prop := ∃ R : List (Nat → Rat), e = .returned (.int .i64 (R.length : Int)) ∧ Basis N (sums N vs) R ∧ Below w.heap.size w w'
set_option maxHeartbeats 3200000 in
theorem Rank_c (n : Int) (N s : Nat) (A : Option Addr) (m c : Nat) (vs : List Kin) (w : World) (hN : heldN n = N) (h : Kns N s w A m vs) (hm : m ≤ 1000) (hr : Room s N) :
  Calls Tryz.prog 15 #[.slice A m c, .int .i64 n] w (RankPost N vs w) := by
 have HH := Lib.hid h
 have HR := Lib.hid hr
 have HN := Lib.hid hN
 clear h hr hN
 go_enter Tryz.func15, Tryz.ntmps15
 go_wp2_with fail
 refine (held_c n _).mono ?_
 rintro e w1 ⟨rfl, rfl⟩
 rw [HN.out]
 go_wp2_with fail
 refine (stairsOf_c N s A m c vs _ HH.out HR.out.1 hm HR.out.2.1 HR.out.2.2.1 HR.out.2.2.2).mono ?_
 rintro e w2 ⟨sb, mb, hi, us, rs, ok, rfl, hp, hs, _, hb⟩
 obtain ⟨s0, s1, _⟩ := hs.st.facts
 obtain ⟨D, hD, _, hsz, _⟩ := hs.st.map
 have HS := Lib.hid (And.intro hp (And.intro hs hb))
 have HD := Lib.hid (And.intro hD hsz)
 clear hp hs hb hD hsz
 go_wp2_with (at_len; refine wpList_len_own _ rfl _ _ rfl _ _ map_type conR mb rs.length D rfl HD.out.1 ?_)
 go_wp2
 go_ret
 refine ⟨rows N rs, ?_, basis_perm HS.out.1 HS.out.2.1.stair.basis, HS.out.2.2⟩
 have e1 : (rows N rs).length = rs.length := by unfold rows; rw [List.length_map]
 rw [e1, ← HD.out.2]
 rfl
end Go.Proofs.YtkfkjdpkkagjgaaGreat
