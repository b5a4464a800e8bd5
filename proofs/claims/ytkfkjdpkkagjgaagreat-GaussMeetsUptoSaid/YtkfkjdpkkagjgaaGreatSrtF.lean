/-
  The stable sort of sums: they are what they were, in some order.
-/
import Derived.Test.YtkfkjdpkkagjgaaGreatSrtG
namespace Go.Proofs.YtkfkjdpkkagjgaaGreat
set_option maxRecDepth 20000
open Go.RowKit
theorem insertion_i (lo c n g : Nat) (a b : Int) (l : List Cv) (w : World) (h : OwnC w lo (some ⟨g, 0, none⟩) c n l) (a0 : 0 ≤ a) (b0 : 0 ≤ b) (hb : b ≤ n) (hn : n ≤ 1000) (ha : a ≤ 1000) :
  Calls Tryz.prog 98 #[.slice (some ⟨g, 0, none⟩) n c, .int .i64 a, .int .i64 b, .func (.func 57) #[] #[]] w fun e w' => e = .returned (.tuple #[]) ∧ Srt lo c n g l w w' := by
 obtain ⟨a, rfl⟩ := Int.eq_ofNat_of_zero_le a0
 obtain ⟨b, rfl⟩ := Int.eq_ofNat_of_zero_le b0
 exact insertion_c lo c n g a b l w h (by omega) hn (by omega)
theorem symMerge_i (lo c n g : Nat) (a m b : Int) (l : List Cv) (w : World) (h : OwnC w lo (some ⟨g, 0, none⟩) c n l) (a0 : 0 ≤ a) (am : a < m) (mb : m < b) (bn : b ≤ n) (hn : n ≤ 1000) :
  Calls Tryz.prog 99 #[.slice (some ⟨g, 0, none⟩) n c, .int .i64 a, .int .i64 m, .int .i64 b, .func (.func 57) #[] #[]] w fun e w' => e = .returned (.tuple #[]) ∧ Srt lo c n g l w w' := by
 obtain ⟨a, rfl⟩ := Int.eq_ofNat_of_zero_le a0
 obtain ⟨m, rfl⟩ := Int.eq_ofNat_of_zero_le (show 0 ≤ m by omega)
 obtain ⟨b, rfl⟩ := Int.eq_ofNat_of_zero_le (show 0 ≤ b by omega)
 exact symMerge_c lo c n g hn b a m b l w (by omega) (by omega) (by omega) (by omega) h
set_option maxHeartbeats 12800000 in
theorem stable_c (lo c n g : Nat) (l : List Cv) (w : World) (h : OwnC w lo (some ⟨g, 0, none⟩) c n l) (hn : n ≤ 1000) :
  Calls Tryz.prog 80 #[.slice (some ⟨g, 0, none⟩) n c, .int .i64 (n : Int), .func (.func 57) #[] #[]] w fun e w' => e = .returned (.tuple #[]) ∧ Srt lo c n g l w w' := by
 have HS := Lib.hid (Srt.start h)
 have n0 : (0 : Int) ≤ (n : Int) := by omega
 have n9 : (n : Int) ≤ 1000 := by omega
 clear h
 go_enter Tryz.func80, Tryz.ntmps80
 go_wp2
 go_loopw [7, 8] (fun av bv wr => ∃ a : Nat, a ≤ n ∧ av = .int .i64 (a : Int) ∧ bv = .int .i64 ((a : Int) + 20) ∧ Hid (Srt lo c n g l w wr)) (fun av _ _ => 1001 - (intOf av).toNat)
 case atStart => exact ⟨0, by omega, rfl, rfl, HS⟩
 case round =>
  clear HS
  obtain ⟨a, ha, rfl, rfl, HS⟩ := hrel
  have a0 : (0 : Int) ≤ (a : Int) := by omega
  have a9 : (a : Int) ≤ 1000 := by omega
  by_cases hlt : a + 20 ≤ n
  ·
   have i1 : (a : Int) + 20 ≤ (n : Int) := by omega
   obtain ⟨⟨l1, hp, ho⟩, hg⟩ := HS.out
   have HP := Lib.hid (And.intro hp (And.intro ho hg))
   clear hp ho hg
   go_wp2_with fail
   refine (insertion_i lo c n g _ _ l1 _ HP.out.2.1 (by omega) (by omega) (by omega) hn (by omega)).mono ?_
   rintro e w2 ⟨rfl, hs⟩
   have HS2 : Hid (Srt lo c n g l w w2) := ⟨by obtain ⟨⟨l2, h3, h4⟩, _⟩ := hs; exact ⟨l2, h3.trans HP.out.1, h4⟩, HP.out.2.2.trans hs.grown⟩
   clear hs HP HS
   have HS := HS2
   clear HS2
   go_wp2
   go_roundw
   case rel => exact ⟨a + 20, by omega, by go_num, by go_num, HS⟩
   case measure => simp [intOf]; omega
  ·
   have i1 : ¬ (a : Int) + 20 ≤ (n : Int) := by omega
   obtain ⟨⟨l1, hp, ho⟩, hg⟩ := HS.out
   have HP := Lib.hid (And.intro hp (And.intro ho hg))
   clear hp ho hg
   go_wp2_with fail
   refine (insertion_i lo c n g _ _ l1 _ HP.out.2.1 (by omega) (by omega) (by omega) hn (by omega)).mono ?_
   rintro e w2 ⟨rfl, hs⟩
   have HS2 : Hid (Srt lo c n g l w w2) := ⟨by obtain ⟨⟨l2, h3, h4⟩, _⟩ := hs; exact ⟨l2, h3.trans HP.out.1, h4⟩, HP.out.2.2.trans hs.grown⟩
   clear hs HP HS
   have HS := HS2
   clear HS2
   go_wp2
   go_loopw [6] (fun sv wr => ∃ s : Nat, 20 ≤ s ∧ s ≤ 2000 ∧ sv = .int .i64 (s : Int) ∧ Hid (Srt lo c n g l w wr)) (fun sv _ => 2001 - (intOf sv).toNat)
   case atStart => exact ⟨20, by omega, by omega, rfl, HS⟩
   case round =>
    clear HS
    obtain ⟨s, hs1, hs2, rfl, HS⟩ := hrel
    have s0 : (20 : Int) ≤ (s : Int) := by omega
    have s9 : (s : Int) ≤ 2000 := by omega
    by_cases hsn : s < n
    ·
     have k1 : (s : Int) < (n : Int) := by omega
     go_wp2
     go_loopw [7, 8] (fun av bv wr => ∃ p : Nat, p ≤ n ∧ av = .int .i64 (p : Int) ∧ bv = .int .i64 ((p : Int) + 2 * (s : Int)) ∧ Hid (Srt lo c n g l w wr)) (fun av _ _ => 1001 - (intOf av).toNat)
     case atStart => exact ⟨0, by omega, rfl, by go_num, HS⟩
     case round =>
      clear HS
      obtain ⟨p, hp9, rfl, rfl, HS⟩ := hrel
      have p0 : (0 : Int) ≤ (p : Int) := by omega
      have p9 : (p : Int) ≤ 1000 := by omega
      by_cases hpl : p + 2 * s ≤ n
      ·
       have k2 : (p : Int) + 2 * (s : Int) ≤ (n : Int) := by omega
       obtain ⟨⟨l1, hp, ho⟩, hg⟩ := HS.out
       have HP := Lib.hid (And.intro hp (And.intro ho hg))
       clear hp ho hg
       go_wp2_with fail
       refine (symMerge_i lo c n g _ _ _ l1 _ HP.out.2.1 (by omega) (by omega) (by omega) (by omega) hn).mono ?_
       rintro e w2 ⟨rfl, hs⟩
       have HS2 : Hid (Srt lo c n g l w w2) := ⟨by obtain ⟨⟨l2, h3, h4⟩, _⟩ := hs; exact ⟨l2, h3.trans HP.out.1, h4⟩, HP.out.2.2.trans hs.grown⟩
       clear hs HP HS
       have HS := HS2
       clear HS2
       go_wp2
       go_roundw
       case rel => exact ⟨p + 2 * s, by omega, by go_num, by go_num, HS⟩
       case measure => simp [intOf]; omega
      ·
       have k2 : ¬ (p : Int) + 2 * (s : Int) ≤ (n : Int) := by omega
       by_cases hm : p + s < n
       ·
        have k3 : (p : Int) + (s : Int) < (n : Int) := by omega
        obtain ⟨⟨l1, hp, ho⟩, hg⟩ := HS.out
        have HP := Lib.hid (And.intro hp (And.intro ho hg))
        clear hp ho hg
        go_wp2_with fail
        refine (symMerge_i lo c n g _ _ _ l1 _ HP.out.2.1 (by omega) (by omega) (by omega) (by omega) hn).mono ?_
        rintro e w2 ⟨rfl, hs⟩
        have HS2 : Hid (Srt lo c n g l w w2) := ⟨by obtain ⟨⟨l2, h3, h4⟩, _⟩ := hs; exact ⟨l2, h3.trans HP.out.1, h4⟩, HP.out.2.2.trans hs.grown⟩
        clear hs HP HS
        have HS := HS2
        clear HS2
        go_wp2
        go_roundw
        case rel => exact ⟨s * 2, by omega, by omega, by go_num, HS⟩
        case measure => simp [intOf]; omega
       ·
        have k3 : ¬ (p : Int) + (s : Int) < (n : Int) := by omega
        go_wp2
        go_roundw
        case rel => exact ⟨s * 2, by omega, by omega, by go_num, HS⟩
        case measure => simp [intOf]; omega
    ·
     have k1 : ¬ (s : Int) < (n : Int) := by omega
     go_wp2
     refine bodyPost_end (results_none rfl _ _ _) rfl ?_
     exact ⟨rfl, HS.out⟩
set_option maxHeartbeats 3200000 in
theorem insertion_nil (A : Option Addr) (c : Nat) (w : World) :
  Calls Tryz.prog 98 #[.slice A 0 c, .int .i64 0, .int .i64 0, .func (.func 57) #[] #[]] w fun e w' => e = .returned (.tuple #[]) ∧ w = w' := by
 go_enter Tryz.func98, Tryz.ntmps98
 go_wp2
 go_loopw [8] (fun iv wr => iv = .int .i64 1 ∧ w = wr) (fun _ _ => 0)
 case atStart => exact ⟨rfl, rfl⟩
 case round =>
  obtain ⟨rfl, rfl⟩ := hrel
  go_wp2
  refine bodyPost_end (results_none rfl _ _ _) rfl ?_
  exact ⟨rfl, rfl⟩
set_option maxHeartbeats 3200000 in
theorem stable_nil (A : Option Addr) (c : Nat) (w : World) :
  Calls Tryz.prog 80 #[.slice A 0 c, .int .i64 0, .func (.func 57) #[] #[]] w fun e w' => e = .returned (.tuple #[]) ∧ w = w' := by
 go_enter Tryz.func80, Tryz.ntmps80
 go_wp2
 go_loopw [7, 8] (fun av bv wr => av = .int .i64 0 ∧ bv = .int .i64 20 ∧ w = wr) (fun _ _ _ => 0)
 case atStart => exact ⟨rfl, rfl, rfl⟩
 case round =>
  obtain ⟨rfl, rfl, rfl⟩ := hrel
  go_wp2_with fail
  refine (insertion_nil A c _).mono ?_
  rintro e w2 ⟨rfl, rfl⟩
  go_wp2
  go_loopw [6] (fun sv wr => sv = .int .i64 20 ∧ w = wr) (fun _ _ => 0)
  case atStart => exact ⟨rfl, rfl⟩
  case round =>
   obtain ⟨rfl, rfl⟩ := hrel
   go_wp2
   refine bodyPost_end (results_none rfl _ _ _) rfl ?_
   exact ⟨rfl, rfl⟩
theorem SortStable_c (lo c n : Nat) (A : Option Addr) (l : List Cv) (w : World) (h : OwnC w lo A c n l) (hn : n ≤ 1000) :
  Calls Tryz.prog 56 #[.slice A n c, .func (.func 57) #[] #[]] w fun e w' => e = .returned (.tuple #[]) ∧ ∃ l2 : List Cv, l2.Perm l ∧ OwnC w' lo A c n l2 ∧ w.grownBy w' (A.map (·.block)) := by
 rcases Nat.eq_zero_or_pos n with rfl | hp
 ·
  go_enter Tryz.func56, Tryz.ntmps56
  have HS := Lib.hid h
  clear h
  go_wp2_with fail
  refine (stable_nil A c _).mono ?_
  rintro e w2 ⟨rfl, rfl⟩
  go_wp2
  refine bodyPost_end (results_none rfl _ _ _) rfl ?_
  exact ⟨rfl, l, .refl _, HS.out, grown_refl _ _⟩
 ·
  obtain ⟨g, rfl, _, _, _⟩ := h.mem hp
  have HS := Lib.hid h
  have n9 : (n : Int) ≤ 1000 := by omega
  clear h
  go_enter Tryz.func56, Tryz.ntmps56
  go_wp2_with fail
  refine (stable_c lo c n g l _ HS.out hn).mono ?_
  rintro e w2 ⟨rfl, hs⟩
  have HS2 := Lib.hid hs
  clear hs
  go_wp2
  refine bodyPost_end (results_none rfl _ _ _) rfl ?_
  obtain ⟨⟨l2, h1, h2⟩, h3⟩ := HS2.out
  exact ⟨rfl, l2, h1, h2, h3⟩
end Go.Proofs.YtkfkjdpkkagjgaaGreat
