/-
  Two neighbouring ranges of sums change places.
-/
import Derived.Test.YtkfkjdpkkagjgaaGreatSrtB
namespace Go.Proofs.YtkfkjdpkkagjgaaGreat
set_option maxRecDepth 20000
open Go.RowKit
theorem swapRange_i (lo c n g : Nat) (a b k : Int) (l : List Cv) (w : World) (h : OwnC w lo (some ⟨g, 0, none⟩) c n l) (a0 : 0 ≤ a) (b0 : 0 ≤ b) (k0 : 0 ≤ k) (ha : a + k ≤ n) (hb : b + k ≤ n) (hn : n ≤ 1000) :
  Calls Tryz.prog 117 #[.slice (some ⟨g, 0, none⟩) n c, .int .i64 a, .int .i64 b, .int .i64 k, .func (.func 57) #[] #[]] w fun e w' => e = .returned (.tuple #[]) ∧ Srt lo c n g l w w' := by
 obtain ⟨a, rfl⟩ := Int.eq_ofNat_of_zero_le a0
 obtain ⟨b, rfl⟩ := Int.eq_ofNat_of_zero_le b0
 obtain ⟨k, rfl⟩ := Int.eq_ofNat_of_zero_le k0
 exact swapRange_c lo c n g a b k l w h (by omega) (by omega) hn
set_option maxHeartbeats 6400000 in
theorem rotate_c (lo c n g : Nat) (a m b : Int) (l : List Cv) (w : World) (h : OwnC w lo (some ⟨g, 0, none⟩) c n l) (a0 : 0 ≤ a) (am : a < m) (mb : m < b) (bn : b ≤ n) (hn : n ≤ 1000) :
  Calls Tryz.prog 111 #[.slice (some ⟨g, 0, none⟩) n c, .int .i64 a, .int .i64 m, .int .i64 b, .func (.func 57) #[] #[]] w fun e w' => e = .returned (.tuple #[]) ∧ Srt lo c n g l w w' := by
 have HS := Lib.hid (Srt.start h)
 clear h
 have b9 : b ≤ 1000 := by omega
 go_enter Tryz.func111, Tryz.ntmps111
 go_wp2
 go_loopw [10, 11] (fun iv jv wr => ∃ i j : Int, 0 < i ∧ 0 < j ∧ i ≤ m - a ∧ m + j ≤ b ∧ iv = .int .i64 i ∧ jv = .int .i64 j ∧ Hid (Srt lo c n g l w wr)) (fun iv jv _ => (intOf iv).toNat + (intOf jv).toNat)
 case atStart => exact ⟨m - a, b - m, by omega, by omega, by omega, by omega, rfl, rfl, HS⟩
 case round =>
  clear HS
  obtain ⟨i, j, hi, hj, hi2, hj2, rfl, rfl, HS⟩ := hrel
  obtain ⟨⟨l1, hp, ho⟩, hg⟩ := HS.out
  have HP := Lib.hid (And.intro hp (And.intro ho hg))
  clear hp ho hg
  rcases Int.lt_trichotomy i j with h | h | h
  ·
   have h1 : ¬ i = j := by omega
   have h2 : ¬ j < i := by omega
   go_wp2_with fail
   refine (swapRange_i lo c n g _ _ _ l1 _ HP.out.2.1 (by omega) (by omega) (by omega) (by omega) (by omega) hn).mono ?_
   rintro e w2 ⟨rfl, hs⟩
   have HS2 : Hid (Srt lo c n g l w w2) := ⟨by obtain ⟨⟨l2, h3, h4⟩, _⟩ := hs; exact ⟨l2, h3.trans HP.out.1, h4⟩, HP.out.2.2.trans hs.grown⟩
   clear hs
   go_wp2
   go_roundw
   case rel => exact ⟨i, j - i, by omega, by omega, by omega, by omega, rfl, rfl, HS2⟩
   case measure => simp [intOf]; omega
  ·
   subst h
   have h2 : ¬ i < i := by omega
   go_wp2_with fail
   refine (swapRange_i lo c n g _ _ _ l1 _ HP.out.2.1 (by omega) (by omega) (by omega) (by omega) (by omega) hn).mono ?_
   rintro e w2 ⟨rfl, hs⟩
   have HS2 : Hid (Srt lo c n g l w w2) := ⟨by obtain ⟨⟨l2, h3, h4⟩, _⟩ := hs; exact ⟨l2, h3.trans HP.out.1, h4⟩, HP.out.2.2.trans hs.grown⟩
   clear hs
   go_wp2
   refine bodyPost_end (results_none rfl _ _ _) rfl ?_
   exact ⟨rfl, HS2.out⟩
  ·
   have h1 : ¬ i = j := by omega
   go_wp2_with fail
   refine (swapRange_i lo c n g _ _ _ l1 _ HP.out.2.1 (by omega) (by omega) (by omega) (by omega) (by omega) hn).mono ?_
   rintro e w2 ⟨rfl, hs⟩
   have HS2 : Hid (Srt lo c n g l w w2) := ⟨by obtain ⟨⟨l2, h3, h4⟩, _⟩ := hs; exact ⟨l2, h3.trans HP.out.1, h4⟩, HP.out.2.2.trans hs.grown⟩
   clear hs
   go_wp2
   go_roundw
   case rel => exact ⟨i - j, j, by omega, by omega, by omega, by omega, rfl, rfl, HS2⟩
   case measure => simp [intOf]; omega
end Go.Proofs.YtkfkjdpkkagjgaaGreat
