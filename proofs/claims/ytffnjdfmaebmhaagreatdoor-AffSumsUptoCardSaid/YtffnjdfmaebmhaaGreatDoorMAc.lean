/-
  The known expression may be: the program's looks at a + a.
  a + a may be: the program's Is.
  The sum of a + a: the program's Of.
  The sum of a + a: the program's walk; what is known.
  The sum of a + a: the program's walk of it; what is known.
  What is known: a + a is twice a.
-/
import Derived.Test.YtffnjdfmaebmhaaGreatDoorMAa
import Derived.Test.YtffnjdfmaebmhaaGreatDoorRefI
import Derived.Test.YtffnjdfmaebmhaaGreatDoorRefH
namespace Go.Proofs.YtffnjdfmaebmhaaGreatDoor
set_option maxRecDepth 20000
open Go.RowKit

theorem letter_a (w : World) : Calls Tryz.prog 136 #[.int .u8 97] w fun e w' => e = .returned (.bool true) ∧ w = w' := by
  go_enter Tryz.func136, Tryz.ntmps136
  go_wp2
  go_ret
  exact ⟨rfl, rfl⟩
theorem byte_a (w : World) : Calls Tryz.prog 137 #[.int .u8 97] w fun e w' => e = .returned (.bool true) ∧ w = w' := by
  go_enter Tryz.func137, Tryz.ntmps137
  go_wp2_with fail
  refine (letter_a _).mono ?_
  rintro e w' ⟨rfl, rfl⟩
  go_wp2
  go_ret
  exact ⟨rfl, rfl⟩
set_option maxHeartbeats 1600000 in
theorem name_a (w : World) : Calls Tryz.prog 128 #[.string ⟨#[97]⟩] w fun e w' => e = .returned (.bool true) ∧ w = w' := by
  go_enter Tryz.func128, Tryz.ntmps128
  go_wp2_with fail
  refine (letter_a _).mono ?_
  rintro e w' ⟨rfl, rfl⟩
  go_wp2
  go_loopw [3, 19] (fun _ iv wr => w = wr ∧ (iv = .int .i64 0 ∨ iv = .int .i64 1)) (fun _ iv _ => 1 - (intOf iv).toNat)
  case atStart => exact ⟨rfl, .inl rfl⟩
  case round =>
    obtain ⟨rfl, rfl | rfl⟩ := hrel
    · go_wp2_with fail
      refine (byte_a _).mono ?_
      rintro e w' ⟨rfl, rfl⟩
      go_wp2
      go_roundw
      case rel => simp
      case measure => simp [intOf]
    · go_wp2
      go_ret
      exact ⟨rfl, rfl⟩
theorem noNum_z (w : World) : Calls Tryz.prog 127 #[.agg #[.bool false, .slice none 0 0, .slice none 0 0]] w fun e w' => e = .returned (.bool true) ∧ Below w.heap.size w w' := by
  go_enter Tryz.func127, Tryz.ntmps127
  go_wp2
  go_ret
  exact ⟨rfl, (Below.refl _ _).alloc (Nat.le_refl _) _⟩
/-- The block of an expression's struct. -/
def E6 (w : World) (b : Nat) (k : Int) (s : ByteArray) (K : Option Addr) (n c : Nat) : Prop := w.heap[b]? = some (.cells #[.int .i64 k, .bool false, .slice none 0 0, .slice none 0 0, .string s, .slice K n c] 45 (0, 0))
theorem E6.lt {w : World} {b : Nat} {k : Int} {s : ByteArray} {K : Option Addr} {n c : Nat} (h : E6 w b k s K n c) : b < w.heap.size := by
  rcases Nat.lt_or_ge b w.heap.size with h1 | h1
  · exact h1
  · have : w.heap[b]? = none := Array.getElem?_eq_none h1
    rw [E6, this] at h; cases h
theorem E6.below {w w' : World} {b : Nat} {k : Int} {s : ByteArray} {K : Option Addr} {n c : Nat} (h : E6 w b k s K n c) (hb : Below w.heap.size w w') : E6 w' b k s K n c := (hb.block b h.lt).trans h
theorem E6.facts {w : World} {b : Nat} {k : Int} {s : ByteArray} {K : Option Addr} {n c : Nat} (h : E6 w b k s K n c) :
    w.cell? ⟨b, 0, none⟩ = some (.int .i64 k) ∧ w.cell? ⟨b, 1, none⟩ = some (.bool false) ∧ w.cell? ⟨b, 2, none⟩ = some (.slice none 0 0) ∧ w.cell? ⟨b, 3, none⟩ = some (.slice none 0 0) ∧ w.cell? ⟨b, 4, none⟩ = some (.string s) ∧ w.cell? ⟨b, 5, none⟩ = some (.slice K n c) := by
  have h' : w.heap[b]? = some (.cells #[.int .i64 k, .bool false, .slice none 0 0, .slice none 0 0, .string s, .slice K n c] 45 (0, 0)) := h
  refine ⟨?_, ?_, ?_, ?_, ?_, ?_⟩ <;> simp [World.cell?, h']
theorem E6.new (w : World) (k : Int) (s : ByteArray) (K : Option Addr) (n c : Nat) : E6 (w.alloc (.cells #[.int .i64 k, .bool false, .slice none 0 0, .slice none 0 0, .string s, .slice K n c] 45)) w.heap.size k s K n c := heap_alloc_new w _
set_option maxHeartbeats 1600000 in
theorem node_nm (w : World) : Calls Tryz.prog 114 #[.agg #[.int .i64 2, .bool false, .slice none 0 0, .slice none 0 0, .string ⟨#[97]⟩, .slice none 0 0]] w fun e w' => e = .returned (.bool true) ∧ Below w.heap.size w w' := by
  go_enter Tryz.func114, Tryz.ntmps114
  go_wp2_with fail
  have k := E6.new w 2 ⟨#[97]⟩ none 0 0
  have hB : Below w.heap.size w (w.alloc (.cells #[.int .i64 2, .bool false, .slice none 0 0, .slice none 0 0, .string ⟨#[97]⟩, .slice none 0 0] 45)) := (Below.refl _ _).alloc (Nat.le_refl _) _
  have hs : (w.alloc (.cells #[.int .i64 2, .bool false, .slice none 0 0, .slice none 0 0, .string ⟨#[97]⟩, .slice none 0 0] 45)).heap.size = w.heap.size + 1 := by simp
  generalize w.alloc (.cells #[.int .i64 2, .bool false, .slice none 0 0, .slice none 0 0, .string ⟨#[97]⟩, .slice none 0 0] 45) = W at *
  refine (noNum_z _).mono ?_
  rintro e w1 ⟨rfl, hb⟩
  replace k := k.below hb
  replace hB := hB.trans (hb.mono (by omega))
  clear hb
  obtain ⟨k0, k1, k2, k3, k4, k5⟩ := k.facts
  go_wp2_with fail
  refine (name_a _).mono ?_
  rintro e w' ⟨rfl, rfl⟩
  go_wp2
  go_ret
  exact ⟨rfl, hB⟩
set_option maxHeartbeats 1600000 in
theorem node_add (b : Nat) (w : World) : Calls Tryz.prog 114 #[.agg #[.int .i64 3, .bool false, .slice none 0 0, .slice none 0 0, .string ⟨#[]⟩, .slice (some ⟨b, 0, none⟩) 2 2]] w fun e w' => e = .returned (.bool true) ∧ Below w.heap.size w w' := by
  go_enter Tryz.func114, Tryz.ntmps114
  go_wp2_with fail
  have k := E6.new w 3 ⟨#[]⟩ (some ⟨b, 0, none⟩) 2 2
  have hB : Below w.heap.size w (w.alloc (.cells #[.int .i64 3, .bool false, .slice none 0 0, .slice none 0 0, .string ⟨#[]⟩, .slice (some ⟨b, 0, none⟩) 2 2] 45)) := (Below.refl _ _).alloc (Nat.le_refl _) _
  have hs : (w.alloc (.cells #[.int .i64 3, .bool false, .slice none 0 0, .slice none 0 0, .string ⟨#[]⟩, .slice (some ⟨b, 0, none⟩) 2 2] 45)).heap.size = w.heap.size + 1 := by simp
  generalize w.alloc (.cells #[.int .i64 3, .bool false, .slice none 0 0, .slice none 0 0, .string ⟨#[]⟩, .slice (some ⟨b, 0, none⟩) 2 2] 45) = W at *
  refine (noNum_z _).mono ?_
  rintro e w1 ⟨rfl, hb⟩
  replace k := k.below hb
  replace hB := hB.trans (hb.mono (by omega))
  clear hb
  obtain ⟨k0, k1, k2, k3, k4, k5⟩ := k.facts
  go_wp2
  go_ret
  exact ⟨rfl, hB⟩
end Go.Proofs.YtffnjdfmaebmhaaGreatDoor

namespace Go.Proofs.YtffnjdfmaebmhaaGreatDoor
set_option maxRecDepth 20000
open Go.RowKit

/-- How many nodes are left. -/
def Left (w : World) (b : Nat) (v : Int) : Prop := w.heap[b]? = some (.cells #[.int .i64 v] 3 (0, 0))
theorem Left.lt {w : World} {b : Nat} {v : Int} (h : Left w b v) : b < w.heap.size := by
  rcases Nat.lt_or_ge b w.heap.size with h1 | h1
  · exact h1
  · have : w.heap[b]? = none := Array.getElem?_eq_none h1
    rw [Left, this] at h; cases h
theorem Left.below {w w' : World} {b : Nat} {v : Int} (h : Left w b v) (hb : Below w.heap.size w w') : Left w' b v := (hb.block b h.lt).trans h
theorem Left.facts {w : World} {b : Nat} {v : Int} (h : Left w b v) : w.cell? ⟨b, 0, none⟩ = some (.int .i64 v) ∧ w.frozen? ⟨b, 0, none⟩ = false := by
  have h' : w.heap[b]? = some (.cells #[.int .i64 v] 3 (0, 0)) := h
  refine ⟨?_, ?_⟩ <;> simp [World.cell?, World.frozen?, h']
theorem Left.set {w : World} {b : Nat} {v : Int} (h : Left w b v) (u : Int) : Left (w.setCell ⟨b, 0, none⟩ (.int .i64 u)) b u := by
  have h' : w.heap[b]? = some (.cells #[.int .i64 v] 3 (0, 0)) := h
  show (w.heap.modify b _)[b]? = _
  rw [Array.getElem?_modify, if_pos rfl, h']; rfl
theorem grown_put (w : World) (b j : Nat) (x : Value) : w.grownBy (w.setCell ⟨b, j, none⟩ x) (some b) :=
  ⟨rfl, rfl, rfl, by simp [World.setCell], fun k _ hk => by
    show (w.heap.modify b _)[k]? = _
    rw [Array.getElem?_modify, if_neg (fun e => hk (by rw [e]))]⟩
theorem grown_two {w w1 w2 : World} {row : Option Nat} (h1 : w.grownBy w1 row) (h2 : w1.grownBy w2 row) : w.grownBy w2 row :=
  ⟨h2.os.trans h1.os, h2.tape.trans h1.tape, h2.output.trans h1.output, Nat.le_trans h1.size h2.size, fun k hk hr => (h2.block k (Nat.lt_of_lt_of_le hk h1.size) hr).trans (h1.block k hk hr)⟩
set_option maxHeartbeats 3200000 in
theorem mayBe_nm (b : Nat) (v : Int) (w : World) (hl : Left w b v) (hv : 1 ≤ v ∧ v ≤ 1000) :
    Calls Tryz.prog 103 #[.agg #[.int .i64 2, .bool false, .slice none 0 0, .slice none 0 0, .string ⟨#[97]⟩, .slice none 0 0], .int .i64 31, .pointer (some ⟨b, 0, none⟩)] w fun e w' => e = .returned (.bool true) ∧ w.grownBy w' (some b) ∧ Left w' b (v - 1) := by
  have hblt := hl.lt
  have hv0 : ¬ v = 0 := by omega
  go_enter Tryz.func103, Tryz.ntmps103
  have k := E6.new w 2 ⟨#[97]⟩ none 0 0
  have hB : Below w.heap.size w (w.alloc (.cells #[.int .i64 2, .bool false, .slice none 0 0, .slice none 0 0, .string ⟨#[97]⟩, .slice none 0 0] 45)) := (Below.refl _ _).alloc (Nat.le_refl _) _
  have hs : (w.alloc (.cells #[.int .i64 2, .bool false, .slice none 0 0, .slice none 0 0, .string ⟨#[97]⟩, .slice none 0 0] 45)).heap.size = w.heap.size + 1 := by simp
  have hl2 := hl.below hB
  obtain ⟨l0, l1⟩ := hl2.facts
  obtain ⟨m0, m1⟩ := hl.facts
  go_wp2_with fail
  generalize w.alloc (.cells #[.int .i64 2, .bool false, .slice none 0 0, .slice none 0 0, .string ⟨#[97]⟩, .slice none 0 0] 45) = W at *
  refine (node_nm _).mono ?_
  rintro e w1 ⟨rfl, hb⟩
  replace k := k.below hb
  replace hB := hB.trans (hb.mono (by omega))
  have hl3 := hl2.below hb
  have hne : ¬ b = w.heap.size := by omega
  have hne' : ¬ w.heap.size = b := by omega
  clear hb l0 l1 m0 m1
  obtain ⟨l0, l1⟩ := hl3.facts
  obtain ⟨k0, k1, k2, k3, k4, k5⟩ := k.facts
  go_wp2
  go_loopw [8, 30] (fun _ iv wr => w1.setCell ⟨b, 0, none⟩ (.int .i64 (v - 1)) = wr ∧ iv = .int .i64 0) (fun _ _ _ => 0)
  case atStart => exact ⟨rfl, rfl⟩
  case round =>
    obtain ⟨rfl, rfl⟩ := hrel
    go_wp2
    go_ret
    exact ⟨rfl, grown_two (grown_row hB _) (grown_put w1 b 0 _), hl3.set _⟩
/-- The block of the two names. -/
def Two (w : World) (b : Nat) : Prop := w.heap[b]? = some (.cells #[.int .i64 2, .bool false, .slice none 0 0, .slice none 0 0, .string ⟨#[97]⟩, .slice none 0 0, .int .i64 2, .bool false, .slice none 0 0, .slice none 0 0, .string ⟨#[97]⟩, .slice none 0 0] 45 (0, 0))
theorem Two.lt {w : World} {b : Nat} (h : Two w b) : b < w.heap.size := by
  rcases Nat.lt_or_ge b w.heap.size with h1 | h1
  · exact h1
  · have : w.heap[b]? = none := Array.getElem?_eq_none h1
    rw [Two, this] at h; cases h
theorem Two.facts {w : World} {b : Nat} (h : Two w b) :
    w.cell? ⟨b, 0, none⟩ = some (.int .i64 2) ∧ w.cell? ⟨b, 1, none⟩ = some (.bool false) ∧ w.cell? ⟨b, 2, none⟩ = some (.slice none 0 0) ∧ w.cell? ⟨b, 3, none⟩ = some (.slice none 0 0) ∧ w.cell? ⟨b, 4, none⟩ = some (.string ⟨#[97]⟩) ∧ w.cell? ⟨b, 5, none⟩ = some (.slice none 0 0) ∧
    w.cell? ⟨b, 6, none⟩ = some (.int .i64 2) ∧ w.cell? ⟨b, 7, none⟩ = some (.bool false) ∧ w.cell? ⟨b, 8, none⟩ = some (.slice none 0 0) ∧ w.cell? ⟨b, 9, none⟩ = some (.slice none 0 0) ∧ w.cell? ⟨b, 10, none⟩ = some (.string ⟨#[97]⟩) ∧ w.cell? ⟨b, 11, none⟩ = some (.slice none 0 0) := by
  have h' : w.heap[b]? = some (.cells #[.int .i64 2, .bool false, .slice none 0 0, .slice none 0 0, .string ⟨#[97]⟩, .slice none 0 0, .int .i64 2, .bool false, .slice none 0 0, .slice none 0 0, .string ⟨#[97]⟩, .slice none 0 0] 45 (0, 0)) := h
  refine ⟨?_, ?_, ?_, ?_, ?_, ?_, ?_, ?_, ?_, ?_, ?_, ?_⟩ <;> simp [World.cell?, h']
set_option maxHeartbeats 6400000 in
theorem mayBe_add (kb b : Nat) (w : World) (hk : Two w kb) (hl : Left w b 256) (hbk : kb ≠ b) :
    Calls Tryz.prog 103 #[.agg #[.int .i64 3, .bool false, .slice none 0 0, .slice none 0 0, .string ⟨#[]⟩, .slice (some ⟨kb, 0, none⟩) 2 2], .int .i64 32, .pointer (some ⟨b, 0, none⟩)] w fun e w' => e = .returned (.bool true) ∧ w.grownBy w' (some b) := by
  have hblt := hl.lt
  have hklt := hk.lt
  have HK := Lib.hid hk
  go_enter Tryz.func103, Tryz.ntmps103
  have k := E6.new w 3 ⟨#[]⟩ (some ⟨kb, 0, none⟩) 2 2
  have hB : Below w.heap.size w (w.alloc (.cells #[.int .i64 3, .bool false, .slice none 0 0, .slice none 0 0, .string ⟨#[]⟩, .slice (some ⟨kb, 0, none⟩) 2 2] 45)) := (Below.refl _ _).alloc (Nat.le_refl _) _
  have hs : (w.alloc (.cells #[.int .i64 3, .bool false, .slice none 0 0, .slice none 0 0, .string ⟨#[]⟩, .slice (some ⟨kb, 0, none⟩) 2 2] 45)).heap.size = w.heap.size + 1 := by simp
  have hl2 := hl.below hB
  obtain ⟨l0, l1⟩ := hl2.facts
  obtain ⟨m0, m1⟩ := hl.facts
  clear hk
  go_wp2_with fail
  generalize w.alloc (.cells #[.int .i64 3, .bool false, .slice none 0 0, .slice none 0 0, .string ⟨#[]⟩, .slice (some ⟨kb, 0, none⟩) 2 2] 45) = W at *
  refine (node_add kb _).mono ?_
  rintro e w1 ⟨rfl, hb⟩
  replace k := k.below hb
  replace hB := hB.trans (hb.mono (by omega))
  have hl3 := hl2.below hb
  have hne : ¬ b = w.heap.size := by omega
  have hne' : ¬ w.heap.size = b := by omega
  clear hb l0 l1 m0 m1
  obtain ⟨l0, l1⟩ := hl3.facts
  obtain ⟨k0, k1, k2, k3, k4, k5⟩ := k.facts
  have HG : Hid (w.grownBy (w1.setCell ⟨b, 0, none⟩ (.int .i64 ((255 : Int)))) (some b) ∧ Left (w1.setCell ⟨b, 0, none⟩ (.int .i64 ((255 : Int)))) b ((255 : Int))) := ⟨grown_two (grown_row hB _) (grown_put w1 b 0 _), hl3.set _⟩
  go_wp2
  go_loopw [6, 8, 30] (fun _ _ iv wr => ∃ i : Nat, i ≤ 2 ∧ iv = .int .i64 i ∧ Hid (w.grownBy wr (some b) ∧ Left wr b ((255 : Int) - i))) (fun _ _ iv _ => 2 - (intOf iv).toNat)
  case atStart => exact ⟨0, by omega, rfl, ⟨HG.out.1, HG.out.2⟩⟩
  case round =>
    clear HG l0 l1 k0 k1 k2 k3 k4 k5 k hl3 hB hl2
    obtain ⟨i, hi, rfl, HG⟩ := hrel
    have hcase : i = 0 ∨ i = 1 ∨ i = 2 := by omega
    have hsz := HG.out.1.size
    have hk : Two wr kb := (HG.out.1.block kb hklt (fun e => hbk (by injection e))).trans HK.out
    obtain ⟨c0, c1, c2, c3, c4, c5, c6, c7, c8, c9, c10, c11⟩ := hk.facts
    clear hk
    have ONE : Hid (∀ u, Left wr b u → Left (wr.alloc (.cells #[.int .i64 2, .bool false, .slice none 0 0, .slice none 0 0, .string ⟨#[97]⟩, .slice none 0 0] 45)) b u ∧ w.grownBy (wr.alloc (.cells #[.int .i64 2, .bool false, .slice none 0 0, .slice none 0 0, .string ⟨#[97]⟩, .slice none 0 0] 45)) (some b)) := fun u h =>
      ⟨h.below ((Below.refl _ _).alloc (Nat.le_refl _) _), grown_two HG.out.1 (grown_row ((Below.refl _ _).alloc (Nat.le_refl _) _) _)⟩
    have KN := E6.new wr 2 ⟨#[97]⟩ none 0 0
    rcases hcase with rfl | rfl | rfl
    · go_wp2_with fail
      have L1 := ONE.out _ HG.out.2
      clear ONE
      generalize wr.alloc (.cells #[.int .i64 2, .bool false, .slice none 0 0, .slice none 0 0, .string ⟨#[97]⟩, .slice none 0 0] 45) = WA at *
      obtain ⟨k0, k1, k2, k3, k4, k5⟩ := KN.facts
      go_wp2_with fail
      refine (mayBe_nm b _ _ L1.1 (by omega)).mono ?_
      rintro e w2 ⟨rfl, hg, hl⟩
      have G2 := Lib.hid (And.intro (grown_two L1.2 hg) hl)
      clear hg hl L1 KN k0 k1 k2 k3 k4 k5 c0 c1 c2 c3 c4 c5 c6 c7 c8 c9 c10 c11
      go_wp2
      go_roundw
      case rel => exact ⟨1, by omega, rfl, ⟨G2.out.1, by rw [show (255 : Int) - ((1 : Nat) : Int) = (255 : Int) - ((0 : Nat) : Int) - 1 by omega]; exact G2.out.2⟩⟩
      case measure => simp [intOf]
    · go_wp2_with fail
      have L1 := ONE.out _ HG.out.2
      clear ONE
      generalize wr.alloc (.cells #[.int .i64 2, .bool false, .slice none 0 0, .slice none 0 0, .string ⟨#[97]⟩, .slice none 0 0] 45) = WA at *
      obtain ⟨k0, k1, k2, k3, k4, k5⟩ := KN.facts
      go_wp2_with fail
      refine (mayBe_nm b _ _ L1.1 (by omega)).mono ?_
      rintro e w2 ⟨rfl, hg, hl⟩
      have G2 := Lib.hid (And.intro (grown_two L1.2 hg) hl)
      clear hg hl L1 KN k0 k1 k2 k3 k4 k5 c0 c1 c2 c3 c4 c5 c6 c7 c8 c9 c10 c11
      go_wp2
      go_roundw
      case rel => exact ⟨2, by omega, rfl, ⟨G2.out.1, by rw [show (255 : Int) - ((2 : Nat) : Int) = (255 : Int) - ((1 : Nat) : Int) - 1 by omega]; exact G2.out.2⟩⟩
      case measure => simp [intOf]
    · clear c0 c1 c2 c3 c4 c5 c6 c7 c8 c9 c10 c11
      go_wp2
      go_ret
      exact ⟨rfl, HG.out.1⟩
set_option maxHeartbeats 1600000 in
theorem Is_add (kb : Nat) (w : World) (hk : Two w kb) :
    Calls Tryz.prog 78 #[.agg #[.int .i64 3, .bool false, .slice none 0 0, .slice none 0 0, .string ⟨#[]⟩, .slice (some ⟨kb, 0, none⟩) 2 2]] w fun e w' => e = .returned (.bool true) ∧ Below w.heap.size w w' := by
  have hklt := hk.lt
  go_enter Tryz.func78, Tryz.ntmps78
  have k := E6.new w 3 ⟨#[]⟩ (some ⟨kb, 0, none⟩) 2 2
  have hB : Below w.heap.size w (w.alloc (.cells #[.int .i64 3, .bool false, .slice none 0 0, .slice none 0 0, .string ⟨#[]⟩, .slice (some ⟨kb, 0, none⟩) 2 2] 45)) := (Below.refl _ _).alloc (Nat.le_refl _) _
  have hs : (w.alloc (.cells #[.int .i64 3, .bool false, .slice none 0 0, .slice none 0 0, .string ⟨#[]⟩, .slice (some ⟨kb, 0, none⟩) 2 2] 45)).heap.size = w.heap.size + 1 := by simp
  have HK := Lib.hid hk
  clear hk
  go_wp2_with fail
  have hl : Left ((w.alloc (.cells #[.int .i64 3, .bool false, .slice none 0 0, .slice none 0 0, .string ⟨#[]⟩, .slice (some ⟨kb, 0, none⟩) 2 2] 45)).alloc (.cells #[.int .i64 256] 3)) (w.heap.size + 1) 256 := by
    have := heap_alloc_new (w.alloc (.cells #[.int .i64 3, .bool false, .slice none 0 0, .slice none 0 0, .string ⟨#[]⟩, .slice (some ⟨kb, 0, none⟩) 2 2] 45)) (.cells #[.int .i64 256] 3)
    rw [hs] at this
    exact this
  have hB2 := hB.alloc hB.size (.cells #[.int .i64 256] 3)
  refine (mayBe_add kb (w.heap.size + 1) _ ((hB2.block kb hklt).trans HK.out) hl (by omega)).mono ?_
  rintro e w2 ⟨rfl, hg⟩
  have hB3 : Below w.heap.size w w2 := hB2.trans ⟨hg.os, hg.tape, hg.output, hg.size, fun k hk => hg.block k (by have := hB2.size; omega) (fun e => by injection e with e; omega)⟩
  clear hg hl hB2 hB k
  go_wp2
  go_ret
  exact ⟨rfl, hB3⟩
end Go.Proofs.YtffnjdfmaebmhaaGreatDoor

namespace Go.Proofs.YtffnjdfmaebmhaaGreatDoor
set_option maxRecDepth 20000
open Go.RowKit

/-- The block of the one name. -/
def One (w : World) (b : Nat) : Prop := w.heap[b]? = some (.cells #[.string ⟨#[97]⟩] 9 (0, 0))
theorem One.lt {w : World} {b : Nat} (h : One w b) : b < w.heap.size := by
  rcases Nat.lt_or_ge b w.heap.size with h1 | h1
  · exact h1
  · have : w.heap[b]? = none := Array.getElem?_eq_none h1
    rw [One, this] at h; cases h
theorem One.facts {w : World} {b : Nat} (h : One w b) : w.cell? ⟨b, 0, none⟩ = some (.string ⟨#[97]⟩) := by
  have h' : w.heap[b]? = some (.cells #[.string ⟨#[97]⟩] 9 (0, 0)) := h
  simp [World.cell?, h']
set_option maxHeartbeats 1600000 in
theorem index_a (b : Nat) (w : World) (h : One w b) : Calls Tryz.prog 115 #[.slice (some ⟨b, 0, none⟩) 1 1, .string ⟨#[97]⟩] w fun e w' => e = .returned (.int .i64 0) ∧ w = w' := by
  have h0 := h.facts
  go_enter Tryz.func115, Tryz.ntmps115
  go_wp2
  go_loopw [4, 5, 8] (fun _ _ iv wr => w = wr ∧ iv = .int .i64 0) (fun _ _ _ _ => 0)
  case atStart => exact ⟨rfl, rfl⟩
  case round =>
    obtain ⟨rfl, rfl⟩ := hrel
    go_wp2
    go_ret
    exact ⟨rfl, rfl⟩
theorem Ct.of {w : World} {lo b n2 c2 : Nat} {s : Int} {A2 : Option Addr} {l2 : List Tv} {L : List (Int × Rat)} {k : Rat} {z : Rv} (hc : n2 ≤ c2) (hg : Tms w lo A2 n2 l2) (hr : RdN w lo l2 L) (hz : Rt w lo z k) (hb : b < lo) :
    Ct (put5 w b (.int .i64 s) (.slice A2 n2 c2) (.bool z.s) (.slice z.A z.n z.c) (.slice z.B z.m z.d)) lo ⟨s, A2, n2, c2, z⟩ L k :=
  ⟨hc, ⟨l2, hg.but hb (by rw [put5_size]; exact Nat.le_refl _) (put5_but _ _ _ _ _ _ _), RdN.but hb (by rw [put5_size]; exact Nat.le_refl _) (put5_but _ _ _ _ _ _ _) hr⟩, hz.but hb (by rw [put5_size]; exact Nat.le_refl _) (put5_but _ _ _ _ _ _ _)⟩
set_option maxHeartbeats 3200000 in
theorem variable_c (i : Int) (w : World) :
    Calls Tryz.prog 51 #[.int .i64 i] w fun e w' => ∃ z : Cv, e = .returned (.agg #[.int .i64 z.s, .slice z.A z.n z.c, .bool z.K.s, .slice z.K.A z.K.n z.K.c, .slice z.K.B z.K.m z.K.d]) ∧ z.s = 0 ∧ z.n = 1 ∧ Ct w' w.heap.size z [(i, ((1 : Int) : Rat))] ((0 : Int) : Rat) ∧ Below w.heap.size w w' := by
  go_enter Tryz.func51, Tryz.ntmps51
  go_wp2_with fail
  have kz := C5.new w (.int .i64 0) (.slice none 0 0) (.bool false) (.slice none 0 0) (.slice none 0 0)
  have hB : Below w.heap.size w (w.alloc (.cells #[.int .i64 0, .slice none 0 0, .bool false, .slice none 0 0, .slice none 0 0] 27)) := (Below.refl _ _).alloc (Nat.le_refl _) _
  have hs : (w.alloc (.cells #[.int .i64 0, .slice none 0 0, .bool false, .slice none 0 0, .slice none 0 0] 27)).heap.size = w.heap.size + 1 := by simp
  generalize w.alloc (.cells #[.int .i64 0, .slice none 0 0, .bool false, .slice none 0 0, .slice none 0 0] 27) = W at *
  refine (Int_any 1 _ (by omega)).mono ?_
  rintro e w1 ⟨x, rfl, hx, hb⟩
  have kz1 := kz.below hb
  have hB1 := hB.trans (hb.mono (by omega))
  have hs1 := hb.size
  clear hb kz hB
  go_wp2_with fail
  have ht := At4.new w1 ⟨i, x⟩
  have hba : Below w1.heap.size w1 (w1.alloc (.cells #[.int .i64 i, .bool x.s, .slice x.A x.n x.c, .slice x.B x.m x.d] 61)) := (Below.refl _ _).alloc (Nat.le_refl _) _
  have ht1 : At4 (w1.alloc (.cells #[.int .i64 i, .bool x.s, .slice x.A x.n x.c, .slice x.B x.m x.d] 61)) w1.heap.size 0 ⟨i, x⟩ := ht
  have hsa : (w1.alloc (.cells #[.int .i64 i, .bool x.s, .slice x.A x.n x.c, .slice x.B x.m x.d] 61)).heap.size = w1.heap.size + 1 := by simp
  clear ht
  generalize w1.alloc (.cells #[.int .i64 i, .bool x.s, .slice x.A x.n x.c, .slice x.B x.m x.d] 61) = W1 at *
  refine (Int_any 0 _ (by omega)).mono ?_
  rintro e w2 ⟨y, rfl, hy, hb⟩
  have hb2 := hba.trans (hb.mono (by omega))
  have kz2 := kz1.below hb2
  have hB2 := hB1.trans (hb2.mono hB1.size)
  have hx2 := Lib.hid ((hx.below hb2).lower (show w.heap.size + 1 ≤ W.heap.size by omega))
  have hy2 := Lib.hid (hy.lower (show w.heap.size + 1 ≤ W1.heap.size by have := hB1.size; omega))
  have ht2 : Hid (Tms w2 (w.heap.size + 1) (some ⟨w1.heap.size, 0, none⟩) 1 [⟨i, x⟩]) := ⟨rfl, fun _ => ⟨w1.heap.size, 0, rfl, by have := hB1.size; omega, by have := hb.size; omega, fun j t ht => by
    cases j with
    | zero =>
      simp at ht
      subst ht
      have := ht1.keep (hb.block w1.heap.size (by omega))
      simpa using this
    | succ j => simp at ht⟩⟩
  clear hb hba hb2 kz1 hx hy ht1
  obtain ⟨z0, z1, z2, z3, z4⟩ := kz2.facts
  obtain ⟨t0, t1, t2, t3, t4⟩ := kz2.thaw
  go_wp2
  refine ret5 (fn := Tryz.f51) Tryz.results51 rfl rfl kz2 ?_
  have hrd : RdN w2 (w.heap.size + 1) [⟨i, x⟩] [(i, ((1 : Int) : Rat))] := ⟨⟨rfl, hx2.out⟩, trivial⟩
  exact ⟨⟨0, some ⟨w1.heap.size, 0, none⟩, 1, 1, y⟩, rfl, rfl, rfl, (Ct.of (Nat.le_refl _) ht2.out hrd hy2.out (by omega)).lower (by omega), hB2.trans (put5_below (Nat.le_refl _) _ _ _ _ _)⟩
theorem ret5t {fn : Func} {t u : Tmp} {R : Ending → World → Prop} {a : Act} {w : World} {b : Nat} {x0 x1 x2 x3 x4 y : Value} (hres : fn.results = #[.cell t 27, .tmp u]) (ht : a.tmps.getD t undef = .pointer (some ⟨b, 0, none⟩)) (hu : a.tmps.getD u undef = y) (hd : a.defers = [])
    (hk : C5 w b x0 x1 x2 x3 x4) (hR : R (.returned (.tuple #[.agg #[x0, x1, x2, x3, x4], y])) w) : bodyPost Tryz.prog fn R .ret a w := by
  obtain ⟨q0, q1, q2, q3, q4⟩ := hk.facts
  have ht' : (a.tmps[t]?.getD undef) = .pointer (some ⟨b, 0, none⟩) := by simpa using ht
  have hu' : (a.tmps[u]?.getD undef) = y := by simpa using hu
  refine bodyPost_ret (v := .tuple #[.agg #[x0, x1, x2, x3, x4], y]) ?_ hd hR
  simp [results, hres, go_sem, ht', hu', q0, q1, q2, q3, q4]
theorem Ct.put {w : World} {lo b : Nat} {v : Cv} {L : List (Int × Rat)} {k : Rat} (h : Ct w lo v L k) (hb : b < lo) (x0 x1 x2 x3 x4 : Value) : Ct (put5 w b x0 x1 x2 x3 x4) lo v L k := by
  obtain ⟨h1, ⟨l, h2, h3⟩, h4⟩ := h
  exact ⟨h1, ⟨l, h2.but hb (by rw [put5_size]; exact Nat.le_refl _) (put5_but _ _ _ _ _ _ _), RdN.but hb (by rw [put5_size]; exact Nat.le_refl _) (put5_but _ _ _ _ _ _ _) h3⟩, h4.but hb (by rw [put5_size]; exact Nat.le_refl _) (put5_but _ _ _ _ _ _ _)⟩
/-- The block of a reader of the one name. -/
def R4 (w : World) (g b : Nat) : Prop := w.heap[g]? = some (.cells #[.slice (some ⟨b, 0, none⟩) 1 1, .slice none 0 0, .slice none 0 0, .func (.func 51) #[] #[]] 79 (0, 0))
theorem R4.lt {w : World} {g b : Nat} (h : R4 w g b) : g < w.heap.size := by
  rcases Nat.lt_or_ge g w.heap.size with h1 | h1
  · exact h1
  · have : w.heap[g]? = none := Array.getElem?_eq_none h1
    rw [R4, this] at h; cases h
theorem R4.below {w w' : World} {g b : Nat} (h : R4 w g b) (hb : Below w.heap.size w w') : R4 w' g b := (hb.block g h.lt).trans h
theorem R4.facts {w : World} {g b : Nat} (h : R4 w g b) : w.cell? ⟨g, 0, none⟩ = some (.slice (some ⟨b, 0, none⟩) 1 1) ∧ w.cell? ⟨g, 1, none⟩ = some (.slice none 0 0) ∧ w.cell? ⟨g, 2, none⟩ = some (.slice none 0 0) ∧ w.cell? ⟨g, 3, none⟩ = some (.func (.func 51) #[] #[]) := by
  have h' : w.heap[g]? = some (.cells #[.slice (some ⟨b, 0, none⟩) 1 1, .slice none 0 0, .slice none 0 0, .func (.func 51) #[] #[]] 79 (0, 0)) := h
  refine ⟨?_, ?_, ?_, ?_⟩ <;> simp [World.cell?, h']
abbrev RV (b : Nat) : Value := .agg #[.slice (some ⟨b, 0, none⟩) 1 1, .slice none 0 0, .slice none 0 0, .func (.func 51) #[] #[]]
abbrev RO (b : Nat) : Obj := .cells #[.slice (some ⟨b, 0, none⟩) 1 1, .slice none 0 0, .slice none 0 0, .func (.func 51) #[] #[]] 79
set_option maxHeartbeats 3200000 in
theorem named_a (b : Nat) (w : World) (h1 : One w b) :
    Calls Tryz.prog 104 #[.agg #[.slice (some ⟨b, 0, none⟩) 1 1, .slice none 0 0, .slice none 0 0, .func (.func 51) #[] #[]], .string ⟨#[97]⟩] w fun e w' => ∃ z : Cv, e = .returned (.tuple #[.agg #[.int .i64 z.s, .slice z.A z.n z.c, .bool z.K.s, .slice z.K.A z.K.n z.K.c, .slice z.K.B z.K.m z.K.d], .int .i64 0]) ∧ z.s = 0 ∧ z.n = 1 ∧ Ct w' w.heap.size z [((0 : Int), ((1 : Int) : Rat))] ((0 : Int) : Rat) ∧ Below w.heap.size w w' := by
  have hlt := h1.lt
  go_enter Tryz.func104, Tryz.ntmps104
  go_wp2_with fail
  have hg : R4 (w.alloc (RO b)) w.heap.size b := heap_alloc_new w _
  have hB : Below w.heap.size w ((w.alloc (RO b)).alloc (.cells #[.int .i64 0, .slice none 0 0, .bool false, .slice none 0 0, .slice none 0 0] 27)) := ((Below.refl _ _).alloc (Nat.le_refl _) _).alloc (by simp) _
  have hg2 := hg.below ((Below.refl _ _).alloc (Nat.le_refl _) (.cells #[.int .i64 0, .slice none 0 0, .bool false, .slice none 0 0, .slice none 0 0] 27))
  have hz := C5.new (w.alloc (RO b)) (.int .i64 0) (.slice none 0 0) (.bool false) (.slice none 0 0) (.slice none 0 0)
  have hs1 : (w.alloc (RO b)).heap.size = w.heap.size + 1 := by simp
  rw [hs1] at hz
  have hs : ((w.alloc (RO b)).alloc (.cells #[.int .i64 0, .slice none 0 0, .bool false, .slice none 0 0, .slice none 0 0] 27)).heap.size = w.heap.size + 1 + 1 := by simp
  clear hg hs1
  simp only [RO] at hg2 hB hz hs
  generalize (w.alloc (.cells #[.slice (some ⟨b, 0, none⟩) 1 1, .slice none 0 0, .slice none 0 0, .func (.func 51) #[] #[]] 79)).alloc (.cells #[.int .i64 0, .slice none 0 0, .bool false, .slice none 0 0, .slice none 0 0] 27) = W at *
  refine (index_a b _ ((hB.block b hlt).trans h1)).mono ?_
  rintro e w' ⟨rfl, rfl⟩
  obtain ⟨g0, g1, g2, g3⟩ := hg2.facts
  go_wp2_with fail
  refine (variable_c 0 _).mono ?_
  rintro e w2 ⟨z, rfl, z0, z1, hc, hb⟩
  have kz := hz.below hb
  have hB2 := hB.trans (hb.mono (by omega))
  have hg3 := hg2.below hb
  clear g0 g1 g2 g3 hb hg2 hz hB
  obtain ⟨q0, q1, q2, q3, q4⟩ := kz.facts
  obtain ⟨t0, t1, t2, t3, t4⟩ := kz.thaw
  have HZ := Lib.hid (And.intro z0 z1)
  clear z0 z1
  go_wp2
  refine ret5t (fn := Tryz.f104) Tryz.results104 rfl rfl rfl (kz.put _ _ _ _ _) ?_
  exact ⟨z, rfl, HZ.out.1, HZ.out.2, (hc.put (by omega) _ _ _ _ _).lower (by omega), hB2.trans (put5_below (by omega) _ _ _ _ _)⟩
end Go.Proofs.YtffnjdfmaebmhaaGreatDoor

namespace Go.Proofs.YtffnjdfmaebmhaaGreatDoor
set_option maxRecDepth 20000
open Go.RowKit

set_option maxHeartbeats 3200000 in
theorem walk_nm (b : Nat) (w : World) (h1 : One w b) :
    Calls Tryz.prog 79 #[.agg #[.slice (some ⟨b, 0, none⟩) 1 1, .slice none 0 0, .slice none 0 0, .func (.func 51) #[] #[]], .agg #[.int .i64 2, .bool false, .slice none 0 0, .slice none 0 0, .string ⟨#[97]⟩, .slice none 0 0]] w fun e w' => ∃ z : Cv, e = .returned (.tuple #[.agg #[.int .i64 z.s, .slice z.A z.n z.c, .bool z.K.s, .slice z.K.A z.K.n z.K.c, .slice z.K.B z.K.m z.K.d], .int .i64 0]) ∧ z.s = 0 ∧ z.n = 1 ∧ Ct w' w.heap.size z [((0 : Int), ((1 : Int) : Rat))] ((0 : Int) : Rat) ∧ Below w.heap.size w w' := by
  have hlt := h1.lt
  go_enter Tryz.func79, Tryz.ntmps79
  have hg : R4 (w.alloc (RO b)) w.heap.size b := heap_alloc_new w _
  have he := E6.new (w.alloc (RO b)) 2 ⟨#[97]⟩ none 0 0
  have hz := C5.new ((w.alloc (RO b)).alloc (.cells #[.int .i64 2, .bool false, .slice none 0 0, .slice none 0 0, .string ⟨#[97]⟩, .slice none 0 0] 45)) (.int .i64 0) (.slice none 0 0) (.bool false) (.slice none 0 0) (.slice none 0 0)
  have hB1 : Below w.heap.size w ((w.alloc (RO b)).alloc (.cells #[.int .i64 2, .bool false, .slice none 0 0, .slice none 0 0, .string ⟨#[97]⟩, .slice none 0 0] 45)) := ((Below.refl _ _).alloc (Nat.le_refl _) _).alloc (by simp) _
  have hB := hB1.alloc hB1.size (.cells #[.int .i64 0, .slice none 0 0, .bool false, .slice none 0 0, .slice none 0 0] 27)
  have hg2 := (hg.below ((Below.refl _ _).alloc (Nat.le_refl _) (.cells #[.int .i64 2, .bool false, .slice none 0 0, .slice none 0 0, .string ⟨#[97]⟩, .slice none 0 0] 45))).below ((Below.refl _ _).alloc (Nat.le_refl _) (.cells #[.int .i64 0, .slice none 0 0, .bool false, .slice none 0 0, .slice none 0 0] 27))
  have he2 := he.below ((Below.refl _ _).alloc (Nat.le_refl _) (.cells #[.int .i64 0, .slice none 0 0, .bool false, .slice none 0 0, .slice none 0 0] 27))
  have hs1 : (w.alloc (RO b)).heap.size = w.heap.size + 1 := by simp
  have hs2 : ((w.alloc (RO b)).alloc (.cells #[.int .i64 2, .bool false, .slice none 0 0, .slice none 0 0, .string ⟨#[97]⟩, .slice none 0 0] 45)).heap.size = w.heap.size + 1 + 1 := by simp
  have hs : (((w.alloc (RO b)).alloc (.cells #[.int .i64 2, .bool false, .slice none 0 0, .slice none 0 0, .string ⟨#[97]⟩, .slice none 0 0] 45)).alloc (.cells #[.int .i64 0, .slice none 0 0, .bool false, .slice none 0 0, .slice none 0 0] 27)).heap.size = w.heap.size + 1 + 1 + 1 := by simp
  rw [hs2] at hz
  rw [hs1] at he2
  clear hg he hs1 hs2 hB1
  simp only [RO] at hg2 hB hz hs he2
  obtain ⟨g0, g1, g2, g3⟩ := hg2.facts
  obtain ⟨e0, e1, e2, e3, e4, e5⟩ := he2.facts
  go_wp2_with fail
  generalize ((w.alloc (.cells #[.slice (some ⟨b, 0, none⟩) 1 1, .slice none 0 0, .slice none 0 0, .func (.func 51) #[] #[]] 79)).alloc (.cells #[.int .i64 2, .bool false, .slice none 0 0, .slice none 0 0, .string ⟨#[97]⟩, .slice none 0 0] 45)).alloc (.cells #[.int .i64 0, .slice none 0 0, .bool false, .slice none 0 0, .slice none 0 0] 27) = W at *
  refine (named_a b _ ((hB.block b hlt).trans h1)).mono ?_
  rintro e w2 ⟨z, rfl, z0, z1, hc, hb⟩
  have kz := hz.below hb
  have hB2 := hB.trans (hb.mono (by omega))
  clear g0 g1 g2 g3 e0 e1 e2 e3 e4 e5 hb hg2 he2 hz hB
  obtain ⟨q0, q1, q2, q3, q4⟩ := kz.facts
  obtain ⟨t0, t1, t2, t3, t4⟩ := kz.thaw
  have HZ := Lib.hid (And.intro z0 z1)
  clear z0 z1
  go_wp2
  refine ret5t (fn := Tryz.f79) Tryz.results79 rfl rfl rfl (kz.put _ _ _ _ _) ?_
  exact ⟨z, rfl, HZ.out.1, HZ.out.2, (hc.put (by omega) _ _ _ _ _).lower (by omega), hB2.trans (put5_below (by omega) _ _ _ _ _)⟩
set_option maxHeartbeats 3200000 in
theorem joined_add (va vb : Cv) (L M : List (Int × Rat)) (k q : Rat) (w : World) (ha : Cw w va L k 1900) (hb : Cw w vb M q 1900) (hn : va.n ≤ 1000) (hm : vb.n ≤ 1000) :
    Calls Tryz.prog 106 #[.int .i64 3, .agg #[.int .i64 va.s, .slice va.A va.n va.c, .bool va.K.s, .slice va.K.A va.K.n va.K.c, .slice va.K.B va.K.m va.K.d], .agg #[.int .i64 vb.s, .slice vb.A vb.n vb.c, .bool vb.K.s, .slice vb.K.A vb.K.n vb.K.c, .slice vb.K.B vb.K.m vb.K.d]] w fun e w' => ∃ z : Cv, e = .returned (.tuple #[.agg #[.int .i64 z.s, .slice z.A z.n z.c, .bool z.K.s, .slice z.K.A z.K.n z.K.c, .slice z.K.B z.K.m z.K.d], .int .i64 0]) ∧ z.s = va.s ∧ z.n ≤ va.n + vb.n ∧ Ct w' w.heap.size z (addL L M) (k + q) ∧ Below w.heap.size w w' := by
  have HA := Lib.hid ha
  have HBB := Lib.hid hb
  clear ha hb
  obtain ⟨ka, kb, kz, HW, hsW⟩ := openK2z w va vb _ rfl
  obtain ⟨a0, a1, a2, a3, a4⟩ := ka.facts
  obtain ⟨b0, b1, b2, b3, b4⟩ := kb.facts
  go_enter Tryz.func106, Tryz.ntmps106
  go_wp2_with fail
  generalize ((w.alloc (.cells #[.int .i64 va.s, .slice va.A va.n va.c, .bool va.K.s, .slice va.K.A va.K.n va.K.c, .slice va.K.B va.K.m va.K.d] 27)).alloc (.cells #[.int .i64 vb.s, .slice vb.A vb.n vb.c, .bool vb.K.s, .slice vb.K.A vb.K.n vb.K.c, .slice vb.K.B vb.K.m vb.K.d] 27)).alloc (.cells #[.int .i64 0, .slice none 0 0, .bool false, .slice none 0 0, .slice none 0 0] 27) = W at *
  refine (AddK_c va vb L M k q _ (HA.out.below HW) (HBB.out.below HW) hn hm).mono ?_
  rintro e w2 ⟨z, rfl, z0, z1, hc, hb⟩
  have kz2 := kz.below hb
  have hB2 := HW.trans (hb.mono (by omega))
  clear a0 a1 a2 a3 a4 b0 b1 b2 b3 b4 hb ka kb kz HW
  obtain ⟨q0, q1, q2, q3, q4⟩ := kz2.facts
  obtain ⟨t0, t1, t2, t3, t4⟩ := kz2.thaw
  have HZ := Lib.hid (And.intro z0 z1)
  clear z0 z1
  go_wp2
  refine ret5t (fn := Tryz.f106) Tryz.results106 rfl rfl rfl (kz2.put _ _ _ _ _) ?_
  exact ⟨z, rfl, HZ.out.1, HZ.out.2, (hc.put (by omega) _ _ _ _ _).lower (by omega), hB2.trans (put5_below (by omega) _ _ _ _ _)⟩
end Go.Proofs.YtffnjdfmaebmhaaGreatDoor

namespace Go.Proofs.YtffnjdfmaebmhaaGreatDoor
set_option maxRecDepth 20000
open Go.RowKit

theorem Two.below {w w' : World} {b : Nat} (h : Two w b) (hb : Below w.heap.size w w') : Two w' b := (hb.block b h.lt).trans h
theorem One.below {w w' : World} {b : Nat} (h : One w b) (hb : Below w.heap.size w w') : One w' b := (hb.block b h.lt).trans h
/-- One side of the sum, in a block of its own. -/
structure KAt (W wx : World) (lb : Nat) (z : Cv) : Prop where
  cell : C5 wx lb (.int .i64 z.s) (.slice z.A z.n z.c) (.bool z.K.s) (.slice z.K.A z.K.n z.K.c) (.slice z.K.B z.K.m z.K.d)
  below : Below W.heap.size W wx
  ct : Ct wx W.heap.size z [((0 : Int), ((1 : Int) : Rat))] ((0 : Int) : Rat)
  s0 : z.s = 0
  n1 : z.n = 1
  lb : W.heap.size ≤ lb
theorem sz_int (n : Nat) (h : n < 4294967296) : Sz (((n : Int)) : Rat) 1 := by
  have := Sz.lit (x := n) (y := 1) (s := false) h (by omega)
  rw [rn_int] at this
  simpa using this
theorem sz_one (v : Int) : SzL 1 [(v, ((1 : Int) : Rat))] := fun y hy => by
  rcases List.mem_cons.1 hy with rfl | hy
  · exact sz_int 1 (by omega)
  · cases hy
theorem sz_nought : Sz ((0 : Int) : Rat) 1 := sz_int 0 (by omega)
theorem KAt.new {W w2 : World} {z : Cv} {lo : Nat} (hc : Ct w2 lo z [((0 : Int), ((1 : Int) : Rat))] ((0 : Int) : Rat)) (hlo : W.heap.size ≤ lo) (hb : Below W.heap.size W w2) (z0 : z.s = 0) (z1 : z.n = 1) : KAt W (w2.alloc (.cells #[.int .i64 z.s, .slice z.A z.n z.c, .bool z.K.s, .slice z.K.A z.K.n z.K.c, .slice z.K.B z.K.m z.K.d] 27)) w2.heap.size z :=
  ⟨C5.new w2 (.int .i64 z.s) (.slice z.A z.n z.c) (.bool z.K.s) (.slice z.K.A z.K.n z.K.c) (.slice z.K.B z.K.m z.K.d), hb.alloc hb.size _, (hc.below ((Below.refl _ _).alloc (Nat.le_refl _) _)).lower hlo, z0, z1, hb.size⟩
theorem KAt.put {W w2 : World} {z : Cv} {lo : Nat} (hk : C5 w2 W.heap.size (.int .i64 0) (.slice none 0 0) (.bool false) (.slice none 0 0) (.slice none 0 0)) (hc : Ct w2 lo z [((0 : Int), ((1 : Int) : Rat))] ((0 : Int) : Rat)) (hlo : W.heap.size < lo) (hb : Below W.heap.size W w2) (z0 : z.s = 0) (z1 : z.n = 1) : KAt W (put5 w2 W.heap.size (.int .i64 z.s) (.slice z.A z.n z.c) (.bool z.K.s) (.slice z.K.A z.K.n z.K.c) (.slice z.K.B z.K.m z.K.d)) W.heap.size z :=
  ⟨hk.put _ _ _ _ _, hb.trans (put5_below (Nat.le_refl _) _ _ _ _ _), (hc.put hlo _ _ _ _ _).lower (by omega), z0, z1, Nat.le_refl _⟩
set_option maxHeartbeats 25600000 in
theorem walk_add (kb b : Nat) (w : World) (h1 : One w b) (hk : Two w kb) :
    Calls Tryz.prog 79 #[.agg #[.slice (some ⟨b, 0, none⟩) 1 1, .slice none 0 0, .slice none 0 0, .func (.func 51) #[] #[]], .agg #[.int .i64 3, .bool false, .slice none 0 0, .slice none 0 0, .string ⟨#[]⟩, .slice (some ⟨kb, 0, none⟩) 2 2]] w fun e w' => ∃ z : Cv, e = .returned (.tuple #[.agg #[.int .i64 z.s, .slice z.A z.n z.c, .bool z.K.s, .slice z.K.A z.K.n z.K.c, .slice z.K.B z.K.m z.K.d], .int .i64 0]) ∧ Ct w' w.heap.size z (addL [((0 : Int), ((1 : Int) : Rat))] [((0 : Int), ((1 : Int) : Rat))]) (((0 : Int) : Rat) + ((0 : Int) : Rat)) ∧ Below w.heap.size w w' := by
  have hlt := h1.lt
  have hkl := hk.lt
  go_enter Tryz.func79, Tryz.ntmps79
  have hg : R4 (w.alloc (RO b)) w.heap.size b := heap_alloc_new w _
  have he := E6.new (w.alloc (RO b)) 3 ⟨#[]⟩ (some ⟨kb, 0, none⟩) 2 2
  have hz := C5.new ((w.alloc (RO b)).alloc (.cells #[.int .i64 3, .bool false, .slice none 0 0, .slice none 0 0, .string ⟨#[]⟩, .slice (some ⟨kb, 0, none⟩) 2 2] 45)) (.int .i64 0) (.slice none 0 0) (.bool false) (.slice none 0 0) (.slice none 0 0)
  have hB1 : Below w.heap.size w ((w.alloc (RO b)).alloc (.cells #[.int .i64 3, .bool false, .slice none 0 0, .slice none 0 0, .string ⟨#[]⟩, .slice (some ⟨kb, 0, none⟩) 2 2] 45)) := ((Below.refl _ _).alloc (Nat.le_refl _) _).alloc (by simp) _
  have hB := hB1.alloc hB1.size (.cells #[.int .i64 0, .slice none 0 0, .bool false, .slice none 0 0, .slice none 0 0] 27)
  have hg2 := (hg.below ((Below.refl _ _).alloc (Nat.le_refl _) (.cells #[.int .i64 3, .bool false, .slice none 0 0, .slice none 0 0, .string ⟨#[]⟩, .slice (some ⟨kb, 0, none⟩) 2 2] 45))).below ((Below.refl _ _).alloc (Nat.le_refl _) (.cells #[.int .i64 0, .slice none 0 0, .bool false, .slice none 0 0, .slice none 0 0] 27))
  have he2 := he.below ((Below.refl _ _).alloc (Nat.le_refl _) (.cells #[.int .i64 0, .slice none 0 0, .bool false, .slice none 0 0, .slice none 0 0] 27))
  have hs1 : (w.alloc (RO b)).heap.size = w.heap.size + 1 := by simp
  have hs2 : ((w.alloc (RO b)).alloc (.cells #[.int .i64 3, .bool false, .slice none 0 0, .slice none 0 0, .string ⟨#[]⟩, .slice (some ⟨kb, 0, none⟩) 2 2] 45)).heap.size = w.heap.size + 1 + 1 := by simp
  have hs : (((w.alloc (RO b)).alloc (.cells #[.int .i64 3, .bool false, .slice none 0 0, .slice none 0 0, .string ⟨#[]⟩, .slice (some ⟨kb, 0, none⟩) 2 2] 45)).alloc (.cells #[.int .i64 0, .slice none 0 0, .bool false, .slice none 0 0, .slice none 0 0] 27)).heap.size = w.heap.size + 1 + 1 + 1 := by simp
  rw [hs2] at hz
  rw [hs1] at he2
  clear hg he hs1 hs2 hB1
  simp only [RO] at hg2 hB hz hs he2
  obtain ⟨g0, g1, g2, g3⟩ := hg2.facts
  obtain ⟨e0, e1, e2, e3, e4, e5⟩ := he2.facts
  have H1 := Lib.hid h1
  have HK := Lib.hid hk
  clear h1 hk
  go_wp2_with fail
  generalize ((w.alloc (.cells #[.slice (some ⟨b, 0, none⟩) 1 1, .slice none 0 0, .slice none 0 0, .func (.func 51) #[] #[]] 79)).alloc (.cells #[.int .i64 3, .bool false, .slice none 0 0, .slice none 0 0, .string ⟨#[]⟩, .slice (some ⟨kb, 0, none⟩) 2 2] 45)).alloc (.cells #[.int .i64 0, .slice none 0 0, .bool false, .slice none 0 0, .slice none 0 0] 27) = W at *
  have hk2 : Two W kb := (hB.block kb hkl).trans HK.out
  have h12 : One W b := (hB.block b hlt).trans H1.out
  have HS : Hid (w.heap.size + 3 ≤ W.heap.size) := by show _ ≤ _; omega
  clear hs g0 g1 g2 g3 e0 e1 e2 e3 e4 e5
  go_cut [6, 7] from 24 to 32 (fun lv ev wx => ∃ (lb : Nat) (z : Cv), lv = .pointer (some ⟨lb, 0, none⟩) ∧ ev = .int .i64 0 ∧ Hid (KAt W wx lb z))
  case first =>
    have hs := HS.out
    obtain ⟨g0, g1, g2, g3⟩ := hg2.facts
    obtain ⟨e0, e1, e2, e3, e4, e5⟩ := he2.facts
    obtain ⟨c0, c1, c2, c3, c4, c5, c6, c7, c8, c9, c10, c11⟩ := hk2.facts
    have m1 : ¬ w.heap.size = W.heap.size := by omega
    have m2 : ¬ W.heap.size = w.heap.size := by omega
    have m3 : ¬ w.heap.size + 1 = W.heap.size := by omega
    have m4 : ¬ W.heap.size = w.heap.size + 1 := by omega
    have m5 : ¬ kb = W.heap.size := by have := hk2.lt; omega
    have m6 : ¬ W.heap.size = kb := by have := hk2.lt; omega
    clear hs
    have hWA : Below W.heap.size W (W.alloc (.cells #[.int .i64 0, .slice none 0 0, .bool false, .slice none 0 0, .slice none 0 0] 27)).drew := ((Below.refl _ _).alloc (Nat.le_refl _) _).drew
    have kl : C5 (W.alloc (.cells #[.int .i64 0, .slice none 0 0, .bool false, .slice none 0 0, .slice none 0 0] 27)).drew W.heap.size (.int .i64 0) (.slice none 0 0) (.bool false) (.slice none 0 0) (.slice none 0 0) := C5.new W (.int .i64 0) (.slice none 0 0) (.bool false) (.slice none 0 0) (.slice none 0 0)
    go_region_held3 (fun w' => w'.cell? ⟨w.heap.size, 0, none⟩ = some (.slice (some ⟨b, 0, none⟩) 1 1) ∧ w'.cell? ⟨w.heap.size, 1, none⟩ = some (.slice none 0 0) ∧ w'.cell? ⟨w.heap.size, 2, none⟩ = some (.slice none 0 0) ∧ w'.cell? ⟨w.heap.size, 3, none⟩ = some (.func (.func 51) #[] #[]) ∧ w'.cell? ⟨w.heap.size + 1, 5, none⟩ = some (.slice (some ⟨kb, 0, none⟩) 2 2) ∧ w'.cell? ⟨kb, 0, none⟩ = some (.int .i64 2) ∧ w'.cell? ⟨kb, 1, none⟩ = some (.bool false) ∧ w'.cell? ⟨kb, 2, none⟩ = some (.slice none 0 0) ∧ w'.cell? ⟨kb, 3, none⟩ = some (.slice none 0 0) ∧ w'.cell? ⟨kb, 4, none⟩ = some (.string ⟨#[97]⟩) ∧ w'.cell? ⟨kb, 5, none⟩ = some (.slice none 0 0)) (go_keep)
      (first
      | (go_at_call 79
         refine (walk_nm b _ (h12.below (bel1 W))).mono ?_
         rintro e w2 ⟨z, rfl, z0, z1, hc, hb⟩
         have hb' := Below.trans (bel1 W) (hb.mono (Below.size (bel1 W)))
         have hsz := hb'.size
         obtain ⟨g0, g1, g2, g3⟩ := (hg2.below hb').facts
         obtain ⟨e0, e1, e2, e3, e4, e5⟩ := (he2.below hb').facts
         obtain ⟨c0, c1, c2, c3, c4, c5, c6, c7, c8, c9, c10, c11⟩ := (hk2.below hb').facts
         have hs := HS.out
         have n1 : ¬ w.heap.size = w2.heap.size := by omega
         have n2 : ¬ w2.heap.size = w.heap.size := by omega
         have n3 : ¬ w.heap.size + 1 = w2.heap.size := by omega
         have n4 : ¬ w2.heap.size = w.heap.size + 1 := by omega
         have n5 : ¬ kb = w2.heap.size := by omega
         have n6 : ¬ w2.heap.size = kb := by omega
         clear hs
         have F2 := Lib.hid (And.intro hc (And.intro hb' (And.intro z0 z1)))
         clear hb hb' hc z0 z1)
      | (go_at_call 79
         refine (walk_nm b _ (h12.below hWA)).mono ?_
         rintro e w2 ⟨z, rfl, z0, z1, hc, hb⟩
         have hb' := Below.trans hWA (hb.mono (Below.size hWA))
         have hsz := hb'.size
         obtain ⟨g0, g1, g2, g3⟩ := (hg2.below hb').facts
         obtain ⟨e0, e1, e2, e3, e4, e5⟩ := (he2.below hb').facts
         obtain ⟨c0, c1, c2, c3, c4, c5, c6, c7, c8, c9, c10, c11⟩ := (hk2.below hb').facts
         have kl2 := kl.below hb
         obtain ⟨q0, q1, q2, q3, q4⟩ := kl2.facts
         obtain ⟨t0, t1, t2, t3, t4⟩ := kl2.thaw
         have hz9 : W.heap.size + 1 ≤ (W.alloc (.cells #[.int .i64 0, .slice none 0 0, .bool false, .slice none 0 0, .slice none 0 0] 27)).drew.heap.size := by simp
         have KL2 := Lib.hid kl2
         clear kl2
         have F2 := Lib.hid (And.intro hc (And.intro hb' (And.intro z0 z1)))
         clear hb hb' hc z0 z1))
    all_goals
      go_wp2_with fail
      go_meet
      first
      | exact ⟨_, z, rfl, rfl, Lib.hid (KAt.put KL2.out F2.out.1 hz9 F2.out.2.1 F2.out.2.2.1 F2.out.2.2.2)⟩
      | exact ⟨_, z, rfl, rfl, Lib.hid (KAt.new F2.out.1 (show W.heap.size ≤ W.drew.heap.size from Nat.le_refl _) F2.out.2.1 F2.out.2.2.1 F2.out.2.2.2)⟩
  case rest =>
    obtain ⟨lb, zl, rfl, rfl, HL⟩ := hcut
    have hbc := HL.out.below
    have hg3 := hg2.below hbc
    have he3 := he2.below hbc
    have hz3 := hz.below hbc
    have hB3 := hB.trans (hbc.mono hB.size)
    have hk3 := hk2.below hbc
    have h13 := h12.below hbc
    have HS3 : Hid (w.heap.size + 3 ≤ wc.heap.size) := by have := HS.out; have := hbc.size; show _ ≤ _; omega
    clear hbc hg2 he2 hz hB hk2 h12
    have hk2 := hk3
    have h12 := h13
    clear hk3 h13
    obtain ⟨e0, e1, e2, e3, e4, e5⟩ := he3.facts
    go_wp2_with fail
    clear e0 e1 e2 e3 e4 e5
    go_cut [7, 8] from 42 to 50 (fun ev lv wx => ∃ (lb : Nat) (z : Cv), lv = .pointer (some ⟨lb, 0, none⟩) ∧ ev = .int .i64 0 ∧ Hid (KAt wc wx lb z))
    case first =>
      have hs := HS3.out
      obtain ⟨g0, g1, g2, g3⟩ := hg3.facts
      obtain ⟨e0, e1, e2, e3, e4, e5⟩ := he3.facts
      obtain ⟨c0, c1, c2, c3, c4, c5, c6, c7, c8, c9, c10, c11⟩ := hk2.facts
      have m1 : ¬ w.heap.size = wc.heap.size := by omega
      have m2 : ¬ wc.heap.size = w.heap.size := by omega
      have m3 : ¬ w.heap.size + 1 = wc.heap.size := by omega
      have m4 : ¬ wc.heap.size = w.heap.size + 1 := by omega
      have m5 : ¬ kb = wc.heap.size := by have := hk2.lt; omega
      have m6 : ¬ wc.heap.size = kb := by have := hk2.lt; omega
      clear hs
      have hWA : Below wc.heap.size wc (wc.alloc (.cells #[.int .i64 0, .slice none 0 0, .bool false, .slice none 0 0, .slice none 0 0] 27)).drew := ((Below.refl _ _).alloc (Nat.le_refl _) _).drew
      have kl : C5 (wc.alloc (.cells #[.int .i64 0, .slice none 0 0, .bool false, .slice none 0 0, .slice none 0 0] 27)).drew wc.heap.size (.int .i64 0) (.slice none 0 0) (.bool false) (.slice none 0 0) (.slice none 0 0) := C5.new wc (.int .i64 0) (.slice none 0 0) (.bool false) (.slice none 0 0) (.slice none 0 0)
      go_region_held3 (fun w' => w'.cell? ⟨w.heap.size, 0, none⟩ = some (.slice (some ⟨b, 0, none⟩) 1 1) ∧ w'.cell? ⟨w.heap.size, 1, none⟩ = some (.slice none 0 0) ∧ w'.cell? ⟨w.heap.size, 2, none⟩ = some (.slice none 0 0) ∧ w'.cell? ⟨w.heap.size, 3, none⟩ = some (.func (.func 51) #[] #[]) ∧ w'.cell? ⟨w.heap.size + 1, 5, none⟩ = some (.slice (some ⟨kb, 0, none⟩) 2 2) ∧ w'.cell? ⟨kb, 6, none⟩ = some (.int .i64 2) ∧ w'.cell? ⟨kb, 7, none⟩ = some (.bool false) ∧ w'.cell? ⟨kb, 8, none⟩ = some (.slice none 0 0) ∧ w'.cell? ⟨kb, 9, none⟩ = some (.slice none 0 0) ∧ w'.cell? ⟨kb, 10, none⟩ = some (.string ⟨#[97]⟩) ∧ w'.cell? ⟨kb, 11, none⟩ = some (.slice none 0 0)) (go_keep)
        (first
        | (go_at_call 79
           refine (walk_nm b _ (h12.below (bel1 wc))).mono ?_
           rintro e w2 ⟨z, rfl, z0, z1, hc, hb⟩
           have hb' := Below.trans (bel1 wc) (hb.mono (Below.size (bel1 wc)))
           have hsz := hb'.size
           obtain ⟨g0, g1, g2, g3⟩ := (hg3.below hb').facts
           obtain ⟨e0, e1, e2, e3, e4, e5⟩ := (he3.below hb').facts
           obtain ⟨c0, c1, c2, c3, c4, c5, c6, c7, c8, c9, c10, c11⟩ := (hk2.below hb').facts
           have hs := HS3.out
           have n1 : ¬ w.heap.size = w2.heap.size := by omega
           have n2 : ¬ w2.heap.size = w.heap.size := by omega
           have n3 : ¬ w.heap.size + 1 = w2.heap.size := by omega
           have n4 : ¬ w2.heap.size = w.heap.size + 1 := by omega
           have n5 : ¬ kb = w2.heap.size := by omega
           have n6 : ¬ w2.heap.size = kb := by omega
           clear hs
           have F2 := Lib.hid (And.intro hc (And.intro hb' (And.intro z0 z1)))
           clear hb hb' hc z0 z1)
        | (go_at_call 79
           refine (walk_nm b _ (h12.below hWA)).mono ?_
           rintro e w2 ⟨z, rfl, z0, z1, hc, hb⟩
           have hb' := Below.trans hWA (hb.mono (Below.size hWA))
           have hsz := hb'.size
           obtain ⟨g0, g1, g2, g3⟩ := (hg3.below hb').facts
           obtain ⟨e0, e1, e2, e3, e4, e5⟩ := (he3.below hb').facts
           obtain ⟨c0, c1, c2, c3, c4, c5, c6, c7, c8, c9, c10, c11⟩ := (hk2.below hb').facts
           have kl2 := kl.below hb
           obtain ⟨q0, q1, q2, q3, q4⟩ := kl2.facts
           obtain ⟨t0, t1, t2, t3, t4⟩ := kl2.thaw
           have hz9 : wc.heap.size + 1 ≤ (wc.alloc (.cells #[.int .i64 0, .slice none 0 0, .bool false, .slice none 0 0, .slice none 0 0] 27)).drew.heap.size := by simp
           have KL2 := Lib.hid kl2
           clear kl2
           have F2 := Lib.hid (And.intro hc (And.intro hb' (And.intro z0 z1)))
           clear hb hb' hc z0 z1))
      all_goals
        go_wp2_with fail
        go_meet
        first
        | exact ⟨_, z, rfl, rfl, Lib.hid (KAt.put KL2.out F2.out.1 hz9 F2.out.2.1 F2.out.2.2.1 F2.out.2.2.2)⟩
        | exact ⟨_, z, rfl, rfl, Lib.hid (KAt.new F2.out.1 (show wc.heap.size ≤ wc.drew.heap.size from Nat.le_refl _) F2.out.2.1 F2.out.2.2.1 F2.out.2.2.2)⟩
    case rest =>
      obtain ⟨rb, zr, rfl, rfl, HR⟩ := hcut
      have hbd := HR.out.below
      have hz4 := hz3.below hbd
      have he4 := he3.below hbd
      have hB4 := hB3.trans (hbd.mono hB3.size)
      have kl := HL.out.cell.below hbd
      have kr := HR.out.cell
      have cl := HL.out.ct.below hbd
      have cr := HR.out.ct
      have nl := HL.out.n1
      have nr := HR.out.n1
      have HCL := Lib.hid (cl.cw (sz_one 0) sz_nought)
      have HCR := Lib.hid (cr.cw (sz_one 0) sz_nought)
      have HN := Lib.hid (And.intro nl nr)
      have hs4 := hbd.size
      have HS4 := HS.out
      have hsW := HL.out.below.size
      obtain ⟨q0, q1, q2, q3, q4⟩ := kl.facts
      obtain ⟨r0, r1, r2, r3, r4⟩ := kr.facts
      obtain ⟨e0, e1, e2, e3, e4, e5⟩ := he4.facts
      clear hbd cl cr nl nr
      go_wp2_with fail
      refine (joined_add zl zr [((0 : Int), ((1 : Int) : Rat))] [((0 : Int), ((1 : Int) : Rat))] ((0 : Int) : Rat) ((0 : Int) : Rat) _ (HCL.out.more (by omega)) (HCR.out.more (by omega)) (by have := HN.out.1; omega) (by have := HN.out.2; omega)).mono ?_
      rintro e w2 ⟨z, rfl, z0, z1, hc, hb⟩
      have kz := hz4.below hb
      have hB5 := hB4.trans (hb.mono hB4.size)
      have HC := Lib.hid hc
      clear q0 q1 q2 q3 q4 r0 r1 r2 r3 r4 e0 e1 e2 e3 e4 e5 hb kl kr hc z0 z1
      obtain ⟨q0, q1, q2, q3, q4⟩ := kz.facts
      obtain ⟨t0, t1, t2, t3, t4⟩ := kz.thaw
      go_wp2
      refine ret5t (fn := Tryz.f79) Tryz.results79 rfl rfl rfl (kz.put _ _ _ _ _) ?_
      exact ⟨z, rfl, (HC.out.put (by omega) _ _ _ _ _).lower (by omega), hB5.trans (put5_below (by omega) _ _ _ _ _)⟩
end Go.Proofs.YtffnjdfmaebmhaaGreatDoor

namespace Go.Proofs.YtffnjdfmaebmhaaGreatDoor
set_option maxRecDepth 20000
open Go.RowKit

/-- The sum of a + a. -/
abbrev LA : List (Int × Rat) := addL [((0 : Int), ((1 : Int) : Rat))] [((0 : Int), ((1 : Int) : Rat))]
abbrev kA : Rat := ((0 : Int) : Rat) + ((0 : Int) : Rat)
theorem LA_is : LA = [((0 : Int), ((2 : Int) : Rat))] := by
  have e : ((1 : Int) : Rat) + ((1 : Int) : Rat) = ((2 : Int) : Rat) := by rw [← Rat.intCast_add]; rfl
  have n2 : ((2 : Int) : Rat) ≠ 0 := by decide
  show addL _ _ = _
  rw [addL_eq (by omega) (by omega), e, lay1, if_neg n2, addL]; rfl
set_option maxHeartbeats 3200000 in
theorem read_add (kb b : Nat) (w : World) (h1 : One w b) (hk : Two w kb) :
    Calls Tryz.prog 52 #[.agg #[.slice (some ⟨b, 0, none⟩) 1 1, .slice none 0 0, .slice none 0 0, .func (.func 51) #[] #[]], .agg #[.int .i64 3, .bool false, .slice none 0 0, .slice none 0 0, .string ⟨#[]⟩, .slice (some ⟨kb, 0, none⟩) 2 2]] w fun e w' => ∃ z : Cv, e = .returned (.tuple #[.agg #[.int .i64 z.s, .slice z.A z.n z.c, .bool z.K.s, .slice z.K.A z.K.n z.K.c, .slice z.K.B z.K.m z.K.d], .int .i64 0]) ∧ Ct w' w.heap.size z LA kA ∧ Below w.heap.size w w' := by
  have hlt := h1.lt
  have hkl := hk.lt
  go_enter Tryz.func52, Tryz.ntmps52
  have hg : R4 (w.alloc (RO b)) w.heap.size b := heap_alloc_new w _
  have he := E6.new (w.alloc (RO b)) 3 ⟨#[]⟩ (some ⟨kb, 0, none⟩) 2 2
  have hz := C5.new ((w.alloc (RO b)).alloc (.cells #[.int .i64 3, .bool false, .slice none 0 0, .slice none 0 0, .string ⟨#[]⟩, .slice (some ⟨kb, 0, none⟩) 2 2] 45)) (.int .i64 0) (.slice none 0 0) (.bool false) (.slice none 0 0) (.slice none 0 0)
  have hB1 : Below w.heap.size w ((w.alloc (RO b)).alloc (.cells #[.int .i64 3, .bool false, .slice none 0 0, .slice none 0 0, .string ⟨#[]⟩, .slice (some ⟨kb, 0, none⟩) 2 2] 45)) := ((Below.refl _ _).alloc (Nat.le_refl _) _).alloc (by simp) _
  have hB := hB1.alloc hB1.size (.cells #[.int .i64 0, .slice none 0 0, .bool false, .slice none 0 0, .slice none 0 0] 27)
  have hg2 := (hg.below ((Below.refl _ _).alloc (Nat.le_refl _) (.cells #[.int .i64 3, .bool false, .slice none 0 0, .slice none 0 0, .string ⟨#[]⟩, .slice (some ⟨kb, 0, none⟩) 2 2] 45))).below ((Below.refl _ _).alloc (Nat.le_refl _) (.cells #[.int .i64 0, .slice none 0 0, .bool false, .slice none 0 0, .slice none 0 0] 27))
  have he2 := he.below ((Below.refl _ _).alloc (Nat.le_refl _) (.cells #[.int .i64 0, .slice none 0 0, .bool false, .slice none 0 0, .slice none 0 0] 27))
  have hs1 : (w.alloc (RO b)).heap.size = w.heap.size + 1 := by simp
  have hs2 : ((w.alloc (RO b)).alloc (.cells #[.int .i64 3, .bool false, .slice none 0 0, .slice none 0 0, .string ⟨#[]⟩, .slice (some ⟨kb, 0, none⟩) 2 2] 45)).heap.size = w.heap.size + 1 + 1 := by simp
  have hs : (((w.alloc (RO b)).alloc (.cells #[.int .i64 3, .bool false, .slice none 0 0, .slice none 0 0, .string ⟨#[]⟩, .slice (some ⟨kb, 0, none⟩) 2 2] 45)).alloc (.cells #[.int .i64 0, .slice none 0 0, .bool false, .slice none 0 0, .slice none 0 0] 27)).heap.size = w.heap.size + 1 + 1 + 1 := by simp
  rw [hs2] at hz
  rw [hs1] at he2
  clear hg he hs1 hs2 hB1
  simp only [RO] at hg2 hB hz hs he2
  have H1 := Lib.hid h1
  have HK := Lib.hid hk
  clear h1 hk
  obtain ⟨g0, g1, g2, g3⟩ := hg2.facts
  obtain ⟨e0, e1, e2, e3, e4, e5⟩ := he2.facts
  go_wp2_with fail
  generalize ((w.alloc (.cells #[.slice (some ⟨b, 0, none⟩) 1 1, .slice none 0 0, .slice none 0 0, .func (.func 51) #[] #[]] 79)).alloc (.cells #[.int .i64 3, .bool false, .slice none 0 0, .slice none 0 0, .string ⟨#[]⟩, .slice (some ⟨kb, 0, none⟩) 2 2] 45)).alloc (.cells #[.int .i64 0, .slice none 0 0, .bool false, .slice none 0 0, .slice none 0 0] 27) = W at *
  refine (Is_add kb _ ((hB.block kb hkl).trans HK.out)).mono ?_
  rintro e w1 ⟨rfl, hb⟩
  have hg3 := hg2.below hb
  have he3 := he2.below hb
  have hz3 := hz.below hb
  have hB3 := hB.trans (hb.mono (by omega))
  have hs3 := hb.size
  clear hb hg2 he2 hz hB g0 g1 g2 g3 e0 e1 e2 e3 e4 e5
  obtain ⟨g0, g1, g2, g3⟩ := hg3.facts
  obtain ⟨e0, e1, e2, e3, e4, e5⟩ := he3.facts
  go_wp2_with fail
  refine (walk_add kb b _ ((hB3.block b hlt).trans H1.out) ((hB3.block kb hkl).trans HK.out)).mono ?_
  rintro e w2 ⟨z, rfl, hc, hb⟩
  have kz := hz3.below hb
  have hB2 := hB3.trans (hb.mono hB3.size)
  clear g0 g1 g2 g3 e0 e1 e2 e3 e4 e5 hb hg3 he3 hz3 hB3
  obtain ⟨q0, q1, q2, q3, q4⟩ := kz.facts
  obtain ⟨t0, t1, t2, t3, t4⟩ := kz.thaw
  have HC := Lib.hid hc
  clear hc
  go_wp2
  refine ret5t (fn := Tryz.f52) Tryz.results52 rfl rfl rfl (kz.put _ _ _ _ _) ?_
  exact ⟨z, rfl, (HC.out.put (by omega) _ _ _ _ _).lower (by omega), hB2.trans (put5_below (by omega) _ _ _ _ _)⟩
/-- The block of what names mean. -/
def V3 (w : World) (g b : Nat) : Prop := w.heap[g]? = some (.cells #[.slice (some ⟨b, 0, none⟩) 1 1, .slice none 0 0, .slice none 0 0] 48 (0, 0))
theorem V3.lt {w : World} {g b : Nat} (h : V3 w g b) : g < w.heap.size := by
  rcases Nat.lt_or_ge g w.heap.size with h1 | h1
  · exact h1
  · have : w.heap[g]? = none := Array.getElem?_eq_none h1
    rw [V3, this] at h; cases h
theorem V3.below {w w' : World} {g b : Nat} (h : V3 w g b) (hb : Below w.heap.size w w') : V3 w' g b := (hb.block g h.lt).trans h
theorem V3.facts {w : World} {g b : Nat} (h : V3 w g b) : w.cell? ⟨g, 0, none⟩ = some (.slice (some ⟨b, 0, none⟩) 1 1) ∧ w.cell? ⟨g, 1, none⟩ = some (.slice none 0 0) ∧ w.cell? ⟨g, 2, none⟩ = some (.slice none 0 0) := by
  have h' : w.heap[g]? = some (.cells #[.slice (some ⟨b, 0, none⟩) 1 1, .slice none 0 0, .slice none 0 0] 48 (0, 0)) := h
  refine ⟨?_, ?_, ?_⟩ <;> simp [World.cell?, h']
set_option maxHeartbeats 3200000 in
theorem Of_add (kb b : Nat) (w : World) (h1 : One w b) (hk : Two w kb) :
    Calls Tryz.prog 28 #[.agg #[.int .i64 3, .bool false, .slice none 0 0, .slice none 0 0, .string ⟨#[]⟩, .slice (some ⟨kb, 0, none⟩) 2 2], .agg #[.slice (some ⟨b, 0, none⟩) 1 1, .slice none 0 0, .slice none 0 0]] w fun e w' => ∃ z : Cv, e = .returned (.tuple #[.agg #[.int .i64 z.s, .slice z.A z.n z.c, .bool z.K.s, .slice z.K.A z.K.n z.K.c, .slice z.K.B z.K.m z.K.d], .int .i64 0]) ∧ Ct w' w.heap.size z LA kA ∧ Below w.heap.size w w' := by
  have hlt := h1.lt
  have hkl := hk.lt
  go_enter Tryz.func28, Tryz.ntmps28
  have hz := C5.new ((w.alloc (.cells #[.int .i64 3, .bool false, .slice none 0 0, .slice none 0 0, .string ⟨#[]⟩, .slice (some ⟨kb, 0, none⟩) 2 2] 45)).alloc (.cells #[.slice (some ⟨b, 0, none⟩) 1 1, .slice none 0 0, .slice none 0 0] 48)) (.int .i64 0) (.slice none 0 0) (.bool false) (.slice none 0 0) (.slice none 0 0)
  have hB1 : Below w.heap.size w ((w.alloc (.cells #[.int .i64 3, .bool false, .slice none 0 0, .slice none 0 0, .string ⟨#[]⟩, .slice (some ⟨kb, 0, none⟩) 2 2] 45)).alloc (.cells #[.slice (some ⟨b, 0, none⟩) 1 1, .slice none 0 0, .slice none 0 0] 48)) := ((Below.refl _ _).alloc (Nat.le_refl _) _).alloc (by simp) _
  have hB := hB1.alloc hB1.size (.cells #[.int .i64 0, .slice none 0 0, .bool false, .slice none 0 0, .slice none 0 0] 27)
  have hs2 : ((w.alloc (.cells #[.int .i64 3, .bool false, .slice none 0 0, .slice none 0 0, .string ⟨#[]⟩, .slice (some ⟨kb, 0, none⟩) 2 2] 45)).alloc (.cells #[.slice (some ⟨b, 0, none⟩) 1 1, .slice none 0 0, .slice none 0 0] 48)).heap.size = w.heap.size + 1 + 1 := by simp
  have hs : (((w.alloc (.cells #[.int .i64 3, .bool false, .slice none 0 0, .slice none 0 0, .string ⟨#[]⟩, .slice (some ⟨kb, 0, none⟩) 2 2] 45)).alloc (.cells #[.slice (some ⟨b, 0, none⟩) 1 1, .slice none 0 0, .slice none 0 0] 48)).alloc (.cells #[.int .i64 0, .slice none 0 0, .bool false, .slice none 0 0, .slice none 0 0] 27)).heap.size = w.heap.size + 1 + 1 + 1 := by simp
  rw [hs2] at hz
  clear hs2 hB1
  have H1 := Lib.hid h1
  have HK := Lib.hid hk
  clear h1 hk
  go_wp2_with fail
  generalize ((w.alloc (.cells #[.int .i64 3, .bool false, .slice none 0 0, .slice none 0 0, .string ⟨#[]⟩, .slice (some ⟨kb, 0, none⟩) 2 2] 45)).alloc (.cells #[.slice (some ⟨b, 0, none⟩) 1 1, .slice none 0 0, .slice none 0 0] 48)).alloc (.cells #[.int .i64 0, .slice none 0 0, .bool false, .slice none 0 0, .slice none 0 0] 27) = W at *
  refine (read_add kb b _ ((hB.block b hlt).trans H1.out) ((hB.block kb hkl).trans HK.out)).mono ?_
  rintro e w2 ⟨z, rfl, hc, hb⟩
  have kz := hz.below hb
  have hB2 := hB.trans (hb.mono (by omega))
  clear hb hz hB
  obtain ⟨q0, q1, q2, q3, q4⟩ := kz.facts
  obtain ⟨t0, t1, t2, t3, t4⟩ := kz.thaw
  have HC := Lib.hid hc
  clear hc
  go_wp2
  refine ret5t (fn := Tryz.f28) Tryz.results28 rfl rfl rfl (kz.put _ _ _ _ _) ?_
  exact ⟨z, rfl, (HC.out.put (by omega) _ _ _ _ _).lower (by omega), hB2.trans (put5_below (by omega) _ _ _ _ _)⟩
set_option maxHeartbeats 6400000 in
theorem known8_c (w : World) : Calls Tryz.prog 11 #[] w fun e w' => e = .returned (.bool true) ∧ Below w.heap.size w w' := by
  go_enter Tryz.func11, Tryz.ntmps11
  go_wp2_with fail
  have hk : Two ((w.alloc (.cells #[.int .i64 2, .bool false, .slice none 0 0, .slice none 0 0, .string ⟨#[97]⟩, .slice none 0 0] 45)).alloc (.cells #[.int .i64 2, .bool false, .slice none 0 0, .slice none 0 0, .string ⟨#[97]⟩, .slice none 0 0, .int .i64 2, .bool false, .slice none 0 0, .slice none 0 0, .string ⟨#[97]⟩, .slice none 0 0] 45)) (w.heap.size + 1) := by
    have := heap_alloc_new (w.alloc (.cells #[.int .i64 2, .bool false, .slice none 0 0, .slice none 0 0, .string ⟨#[97]⟩, .slice none 0 0] 45)) (.cells #[.int .i64 2, .bool false, .slice none 0 0, .slice none 0 0, .string ⟨#[97]⟩, .slice none 0 0, .int .i64 2, .bool false, .slice none 0 0, .slice none 0 0, .string ⟨#[97]⟩, .slice none 0 0] 45)
    rw [show (w.alloc (.cells #[.int .i64 2, .bool false, .slice none 0 0, .slice none 0 0, .string ⟨#[97]⟩, .slice none 0 0] 45)).heap.size = w.heap.size + 1 by simp] at this
    exact this
  have hk2 := hk.below ((Below.refl _ _).alloc (Nat.le_refl _) (.cells #[.string ⟨#[97]⟩] 9))
  have ho : One (((w.alloc (.cells #[.int .i64 2, .bool false, .slice none 0 0, .slice none 0 0, .string ⟨#[97]⟩, .slice none 0 0] 45)).alloc (.cells #[.int .i64 2, .bool false, .slice none 0 0, .slice none 0 0, .string ⟨#[97]⟩, .slice none 0 0, .int .i64 2, .bool false, .slice none 0 0, .slice none 0 0, .string ⟨#[97]⟩, .slice none 0 0] 45)).alloc (.cells #[.string ⟨#[97]⟩] 9)) (w.heap.size + 1 + 1) := by
    have := heap_alloc_new ((w.alloc (.cells #[.int .i64 2, .bool false, .slice none 0 0, .slice none 0 0, .string ⟨#[97]⟩, .slice none 0 0] 45)).alloc (.cells #[.int .i64 2, .bool false, .slice none 0 0, .slice none 0 0, .string ⟨#[97]⟩, .slice none 0 0, .int .i64 2, .bool false, .slice none 0 0, .slice none 0 0, .string ⟨#[97]⟩, .slice none 0 0] 45)) (.cells #[.string ⟨#[97]⟩] 9)
    rw [show ((w.alloc (.cells #[.int .i64 2, .bool false, .slice none 0 0, .slice none 0 0, .string ⟨#[97]⟩, .slice none 0 0] 45)).alloc (.cells #[.int .i64 2, .bool false, .slice none 0 0, .slice none 0 0, .string ⟨#[97]⟩, .slice none 0 0, .int .i64 2, .bool false, .slice none 0 0, .slice none 0 0, .string ⟨#[97]⟩, .slice none 0 0] 45)).heap.size = w.heap.size + 1 + 1 by simp] at this
    exact this
  have hB : Below w.heap.size w (((w.alloc (.cells #[.int .i64 2, .bool false, .slice none 0 0, .slice none 0 0, .string ⟨#[97]⟩, .slice none 0 0] 45)).alloc (.cells #[.int .i64 2, .bool false, .slice none 0 0, .slice none 0 0, .string ⟨#[97]⟩, .slice none 0 0, .int .i64 2, .bool false, .slice none 0 0, .slice none 0 0, .string ⟨#[97]⟩, .slice none 0 0] 45)).alloc (.cells #[.string ⟨#[97]⟩] 9)) := (((Below.refl _ _).alloc (Nat.le_refl _) _).alloc (by simp) _).alloc (by simp; omega) _
  clear hk
  generalize ((w.alloc (.cells #[.int .i64 2, .bool false, .slice none 0 0, .slice none 0 0, .string ⟨#[97]⟩, .slice none 0 0] 45)).alloc (.cells #[.int .i64 2, .bool false, .slice none 0 0, .slice none 0 0, .string ⟨#[97]⟩, .slice none 0 0, .int .i64 2, .bool false, .slice none 0 0, .slice none 0 0, .string ⟨#[97]⟩, .slice none 0 0] 45)).alloc (.cells #[.string ⟨#[97]⟩] 9) = WW at *
  refine (Of_add (w.heap.size + 1) (w.heap.size + 1 + 1) _ ho hk2).mono ?_
  rintro e w2 ⟨z, rfl, hc, hb⟩
  have hB2 := hB.trans (hb.mono hB.size)
  clear hb hk2 ho hB
  obtain ⟨hcap, ⟨l, ht, hr⟩, _⟩ := hc
  rw [LA_is] at hr
  have hl1 : l.length = 1 := hr.len
  obtain ⟨x, rfl⟩ : ∃ x, l = [x] := List.length_eq_one_iff.1 hl1
  have hzn : z.n = 1 := by rw [← ht.len]; rfl
  have hxr : Rt w2 WW.heap.size x.r ((2 : Int) : Rat) := hr.1.2
  obtain ⟨b, off, hzA, _, hbl, hc⟩ := ht.mem (by omega)
  have hx := hc 0 x rfl
  rw [Nat.zero_mul, Nat.add_zero] at hx
  have kc := C5.new w2 (.int .i64 z.s) (.slice z.A z.n z.c) (.bool z.K.s) (.slice z.K.A z.K.n z.K.c) (.slice z.K.B z.K.m z.K.d)
  rw [hzA, hzn] at kc
  have hxa := hx.keep (((Below.refl w2.heap.size w2).alloc (Nat.le_refl _) (.cells #[.int .i64 z.s, .slice z.A z.n z.c, .bool z.K.s, .slice z.K.A z.K.n z.K.c, .slice z.K.B z.K.m z.K.d] 27)).block b hbl)
  rw [hzA, hzn] at hxa
  have HXR := Lib.hid hxr
  have HB2 := Lib.hid hB2
  have HZ := Lib.hid (And.intro hzA hzn)
  clear hc ht hr hl1 hx hxr hB2 hcap
  go_wp2_with fail
  have hba : Below w2.heap.size w2 (w2.alloc (.cells #[.int .i64 z.s, .slice (some ⟨b, off, none⟩) 1 z.c, .bool z.K.s, .slice z.K.A z.K.n z.K.c, .slice z.K.B z.K.m z.K.d] 27)).drew := ((Below.refl _ _).alloc (Nat.le_refl _) _).drew
  have hzs : (w2.alloc (.cells #[.int .i64 z.s, .slice (some ⟨b, off, none⟩) 1 z.c, .bool z.K.s, .slice z.K.A z.K.n z.K.c, .slice z.K.B z.K.m z.K.d] 27)).heap.size = w2.heap.size + 1 := by simp
  clear hzA hzn
  have HBA := Lib.hid hba
  clear hba
  generalize w2.alloc (.cells #[.int .i64 z.s, .slice (some ⟨b, off, none⟩) 1 z.c, .bool z.K.s, .slice z.K.A z.K.n z.K.c, .slice z.K.B z.K.m z.K.d] 27) = WA at *
  obtain ⟨c0, c1, c2, c3, c4⟩ := kc.facts
  obtain ⟨x0, x1, x2, x3⟩ := hxa
  go_region_held3 (fun w' => w'.cell? ⟨w2.heap.size, 1, none⟩ = some (.slice (some ⟨b, off, none⟩) 1 z.c) ∧ w'.cell? ⟨b, off + 1, none⟩ = some (.bool x.r.s) ∧ w'.cell? ⟨b, off + 2, none⟩ = some (.slice x.r.A x.r.n x.r.c) ∧ w'.cell? ⟨b, off + 3, none⟩ = some (.slice x.r.B x.r.m x.r.d)) (go_keep)
    (first
    | (go_at_call 21
       refine (rInt_c 2 _ (by omega)).mono ?_
       rintro ee w3 ⟨y, rfl, hy, hb⟩
       have hk := hb.block b (by show b < WA.heap.size; omega)
       have hk2 := hb.block w2.heap.size (by show _ < WA.heap.size; omega)
       replace c1 := (World.cell?_of_block hk2).trans c1
       replace x1 := (World.cell?_of_block hk).trans x1
       replace x2 := (World.cell?_of_block hk).trans x2
       replace x3 := (World.cell?_of_block hk).trans x3
       have HB3 := Lib.hid (HBA.out.trans (hb.mono (by show _ ≤ WA.heap.size; omega)))
       have HY := Lib.hid hy
       have hw3 : w2.heap.size + 1 ≤ w3.heap.size := by have h9 : WA.heap.size ≤ w3.heap.size := hb.size; omega
       clear hb hk hk2 hy)
    | (go_at_call 17
       refine (rSame_v x.r y ((2 : Int) : Rat) ((2 : Int) : Rat) true _ (((HXR.out.below HB3.out).rw (sz_int 2 (by omega))).more (by omega)) ((HY.out.rw (sz_int 2 (by omega))).more (by omega)) (decide_eq_true rfl)).mono ?_
       rintro ee w4 ⟨rfl, hb⟩
       have hk := hb.block b (by have := HB3.out.size; omega)
       have hk2 := hb.block w2.heap.size (by omega)
       replace c1 := (World.cell?_of_block hk2).trans c1
       replace x1 := (World.cell?_of_block hk).trans x1
       replace x2 := (World.cell?_of_block hk).trans x2
       replace x3 := (World.cell?_of_block hk).trans x3
       have HB4 := Lib.hid (HB3.out.trans (hb.mono HB3.out.size))
       clear hb hk hk2))
  clear c0 c1 c2 c3 c4 x0 x1 x2 x3
  go_wp2
  go_ret
  exact ⟨rfl, HB2.out.trans (HB4.out.mono HB2.out.size)⟩
end Go.Proofs.YtffnjdfmaebmhaaGreatDoor
