/-
  NatTexts: the walk of the law.
-/
import Derived.Test.YtcmomoalohibiaaDoorNatPrints
namespace Go.Proofs.YtcmomoalohibiaaDoor
set_option maxRecDepth 20000
open Go.RowKit

set_option maxHeartbeats 3200000 in
theorem NatTexts_small (A : Option Addr) (n c : Nat) (a : List Nat) (s : ByteArray) (w : World) (hn : n ≤ 20) (hcn : n ≤ c) (hs : s.size ≤ 450) (ha : Row w 0 A n a) (ht : Tb w) :
    Calls Tryd.prog 3 #[.slice A n c, .string s] w fun e w' => e = .returned (.bool true) ∧ Below w.heap.size w w' := by
  obtain ⟨x, hx⟩ : ∃ x, val a = x := ⟨_, rfl⟩
  obtain ⟨S, hS⟩ : ∃ S : ByteArray, S = ⟨(Lib.decDigits x).toArray⟩ := ⟨_, rfl⟩
  have HS := Lib.hid hS
  have HTB := Lib.hid ht
  have HX := Lib.hid hx
  have hcc : (n : Int) ≤ 20 := by omega
  clear hS ht hx
  by_cases hnum : IsNum s.data.toList
  · have HN := Lib.hid hnum
    have hvl := nu_len' HN.out.dig HN.out.len
    clear hnum
    go_enter Tryd.func3, Tryd.ntmps3
    go_wp2_with fail
    refine (Parse_yes s _ HN.out).mono ?_
    rintro e w1 ⟨B, d, rfl, ho, hb⟩
    have HB1 := Lib.hid hb
    have HT1 := Lib.hid (HTB.out.below hb)
    replace ha := ha.below hb
    have hr := ho.row.lower (Nat.zero_le _)
    have hs1 := hb.size
    clear hb ho HTB
    go_wp2_with fail
    refine (rParse_yes s _ HN.out).mono ?_
    rintro e w2 ⟨C, f, rfl, ho, hb⟩
    have HB2 := Lib.hid (HB1.out.trans (hb.mono hs1))
    have HT2 := Lib.hid (HT1.out.below hb)
    replace ha := ha.below hb
    replace hr := hr.below hb
    have hr2 := ho.row.lower (Nat.zero_le _)
    have hs2 := HB2.out.size
    clear hb ho HT1 HB1
    go_wp2_with fail
    refine (Print_any A n c a x _ HX.out (by omega) hcn ha HT2.out).mono ?_
    rintro e w3 ⟨rfl, hb⟩
    rw [← HS.out]
    have HB3 := Lib.hid (HB2.out.trans (hb.mono hs2))
    replace ha := ha.below hb
    replace hr := hr.below hb
    replace hr2 := hr2.below hb
    have hs3 := HB3.out.size
    clear hb HT2 HB2
    go_wp2_with fail
    refine (rPrint_any A n c a x _ HX.out (by omega) hcn ha).mono ?_
    rintro e w4 ⟨rfl, hb⟩
    rw [← HS.out]
    have HB4 := Lib.hid (HB3.out.trans (hb.mono hs3))
    replace hr := hr.below hb
    replace hr2 := hr2.below hb
    have hs4 := HB4.out.size
    clear hb HB3 ha HS HX
    go_wp2_with fail
    refine (limbs1_v _ _ _ _ _ _ _ rfl (by omega) hr hr2).mono ?_
    rintro e w5 ⟨rfl, hb⟩
    have HB5 := Lib.hid (HB4.out.trans (hb.mono hs4))
    have hs5 := HB5.out.size
    clear hb HB4 hr hr2
    go_wp2_with fail
    refine (known1_any _).mono ?_
    rintro e w6 ⟨rfl, hb⟩
    have HB6 := Lib.hid (HB5.out.trans (hb.mono hs5))
    clear hb
    go_wp2
    go_ret
    exact ⟨rfl, HB6.out⟩
  · have HN := Lib.hid hnum
    clear hnum
    go_enter Tryd.func3, Tryd.ntmps3
    go_wp2_with fail
    refine (Parse_no s _ (by omega) HN.out).mono ?_
    rintro e w1 ⟨rfl, rfl⟩
    go_wp2_with fail
    refine (rParse_no s _ (by omega) HN.out).mono ?_
    rintro e w2 ⟨rfl, hb⟩
    have HB2 := Lib.hid hb
    have HT2 := Lib.hid (HTB.out.below hb)
    replace ha := ha.below hb
    have hs2 := HB2.out.size
    clear hb HTB
    go_wp2_with fail
    refine (Print_any A n c a x _ HX.out (by omega) hcn ha HT2.out).mono ?_
    rintro e w3 ⟨rfl, hb⟩
    rw [← HS.out]
    have HB3 := Lib.hid (HB2.out.trans (hb.mono hs2))
    replace ha := ha.below hb
    have hs3 := HB3.out.size
    clear hb HT2 HB2
    go_wp2_with fail
    refine (rPrint_any A n c a x _ HX.out (by omega) hcn ha).mono ?_
    rintro e w4 ⟨rfl, hb⟩
    rw [← HS.out]
    have HB4 := Lib.hid (HB3.out.trans (hb.mono hs3))
    have hs4 := HB4.out.size
    clear hb HB3 ha HS HX
    go_wp2_with fail
    refine (limbs1_yes _ _ 0 _ _ [] _ (by omega) (Row.nil_ _ _ _) (Row.nil_ _ _ _)).mono ?_
    rintro e w5 ⟨rfl, q, rfl⟩
    go_wp2_with fail
    refine (known1_any _).mono ?_
    rintro e w6 ⟨rfl, hb⟩
    have HB6 : Hid (Below w.heap.size w w6) := HB4.out.trans ((below_drewN' _ _ q).trans (hb.mono hs4))
    clear hb
    go_wp2
    go_ret
    exact ⟨rfl, HB6.out⟩

set_option maxHeartbeats 400000 in
theorem NatTexts_long (A : Option Addr) (n c : Nat) (s : ByteArray) (w : World) (h : 20 < n) (hn : n ≤ 9223372036854775807) :
    Calls Tryd.prog 3 #[.slice A n c, .string s] w fun e w' => e = .returned (.bool true) ∧ Below w.heap.size w w' := by
  have hh : (20 : Int) < n := by omega
  clear h
  go_enter Tryd.func3, Tryd.ntmps3
  go_wp2
  go_ret
  exact ⟨rfl, Below.refl _ _⟩
set_option maxHeartbeats 400000 in
theorem NatTexts_far (A : Option Addr) (n c : Nat) (s : ByteArray) (w : World) (h : n ≤ 20) (hs : 450 < s.size) :
    Calls Tryd.prog 3 #[.slice A n c, .string s] w fun e w' => e = .returned (.bool true) ∧ Below w.heap.size w w' := by
  have hh : (n : Int) ≤ 20 := by omega
  have h2 : (450 : Int) < s.size := by omega
  clear h hs
  go_enter Tryd.func3, Tryd.ntmps3
  go_wp2
  go_ret
  exact ⟨rfl, Below.refl _ _⟩
theorem NatTexts_any (A : Option Addr) (n c : Nat) (a : List Nat) (s : ByteArray) (w : World) (hcn : n ≤ c) (hc : c ≤ 9223372036854775807) (ha : Row w 0 A n a) (ht : Tb w) :
    Calls Tryd.prog 3 #[.slice A n c, .string s] w fun e w' => e = .returned (.bool true) ∧ Below w.heap.size w w' := by
  by_cases h : 20 < n
  · exact NatTexts_long A n c s w h (by omega)
  · by_cases h2 : 450 < s.size
    · exact NatTexts_far A n c s w (by omega) h2
    · exact NatTexts_small A n c a s w (by omega) hcn (by omega) ha ht
end Go.Proofs.YtcmomoalohibiaaDoor
