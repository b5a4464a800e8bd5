/-
  NatPrints: the walk of the law over rows of few limbs.
-/
import Derived.Test.YtcmomoalohibiaaDoorTxtF
import Derived.Test.YtcmomoalohibiaaDoorLaw1
namespace Go.Proofs.YtcmomoalohibiaaDoor
set_option maxRecDepth 20000
open Go.RowKit

/-- A text that is a number's digits. -/
structure TxtOf (S : ByteArray) (x : Nat) : Prop where
  data : S.data.toList = Lib.decDigits x
theorem TxtOf.size {S : ByteArray} {x : Nat} (h : TxtOf S x) : S.size = (Lib.decDigits x).length := by rw [Lib.size_eq, h.data]
theorem TxtOf.isNum {S : ByteArray} {x p : Nat} (h : TxtOf S x) (hp : 0 < p) (hx : (lim x).length ≤ p) (h40 : p ≤ 40) : IsNum S.data.toList := by
  rw [h.data]
  exact ⟨dec_len_pos x, by have := dec_len_lim hp hx; omega, Dig_dec x⟩
theorem TxtOf.head {S : ByteArray} {x : Nat} (h : TxtOf S x) (h1 : S.size ≠ 1) (h0 : 0 < S.size) : S[0].toNat ≠ 48 := by
  have hx : x ≠ 0 := by
    rintro rfl
    rw [h.size, dec_small (by omega)] at h1
    simp at h1
  have hb := byte_eq S 0 h0
  rw [h.data] at hb
  exact dec_head hx _ (by rw [List.head?_eq_getElem?]; exact hb)

set_option maxHeartbeats 3200000 in
theorem NatPrints_small (A : Option Addr) (n c : Nat) (a : List Nat) (w : World) (hn : n ≤ 20) (hcn : n ≤ c) (ha : Row w 0 A n a) (ht : Tb w) :
    Calls Tryd.prog 4 #[.slice A n c] w fun e w' => e = .returned (.bool true) ∧ Below w.heap.size w w' := by
  obtain ⟨x, hx⟩ : ∃ x, val a = x := ⟨_, rfl⟩
  have hlen : (lim x).length ≤ 20 := by rw [← hx]; have := lim_len_le ha.l32; have := ha.len; omega
  obtain ⟨S, hS⟩ : ∃ S : ByteArray, S = ⟨(Lib.decDigits x).toArray⟩ := ⟨_, rfl⟩
  have HT : Hid (TxtOf S x) := ⟨by rw [hS]⟩
  have HS := Lib.hid hS
  have hpos : 0 < S.size := by rw [HT.out.size]; exact dec_len_pos x
  have hle : S.size ≤ 200 := by rw [HT.out.size]; have := dec_len_lim (p := 20) (by omega) hlen; omega
  have HTB := Lib.hid ht
  have HX := Lib.hid hx
  clear hS ht hx
  go_enter Tryd.func4, Tryd.ntmps4
  go_wp2_with fail
  refine (Print_any A n c a x _ HX.out (by omega) hcn ha HTB.out).mono ?_
  rintro e w1 ⟨rfl, hb⟩
  rw [← HS.out]
  have HB1 := Lib.hid hb
  replace ha := ha.below hb
  have hs1 := hb.size
  clear hb HS HTB
  go_wp2_with fail
  refine (Parse_yes S _ (HT.out.isNum (by omega) hlen (by omega))).mono ?_
  rintro e w2 ⟨B, d, rfl, ho, hb⟩
  rw [HT.out.data, nu_dec] at ho ⊢
  have HB2 := Lib.hid (HB1.out.trans (hb.mono hs1))
  replace ha := ha.below hb
  have hr := ho.row.lower (Nat.zero_le _)
  have hs2 := HB2.out.size
  clear hb ho HB1
  go_wp2_with fail
  refine (rTrim_any A n c a _ (by omega) hcn ha).mono ?_
  rintro e w3 ⟨C, f, rfl, ho, hb⟩
  rw [HX.out] at ho ⊢
  have HB3 := Lib.hid (HB2.out.trans (hb.mono hs2))
  replace hr := hr.below hb
  have hr3 := ho.row.lower (Nat.zero_le _)
  have hs3 := HB3.out.size
  clear hb ho HB2 ha
  go_wp2_with fail
  refine (limbs1_v x x _ _ _ _ _ rfl (by omega) hr hr3).mono ?_
  rintro e w4 ⟨rfl, hb⟩
  have HB4 := Lib.hid (HB3.out.trans (hb.mono hs3))
  have hs4 := HB4.out.size
  clear hb HB3 hr hr3
  by_cases h1 : S.size = 1
  · have q1 : ((S.size : Int) == 1) = true := by rw [beq_iff_eq]; omega
    clear h1
    go_wp2_with fail
    refine (known1_any _).mono ?_
    rintro e w5 ⟨rfl, hb⟩
    have HB5 := Lib.hid (HB4.out.trans (hb.mono hs4))
    clear hb
    go_wp2
    go_ret
    exact ⟨rfl, HB5.out⟩
  · have q1 : ((S.size : Int) == 1) = false := by rw [beq_eq_false_iff_ne]; omega
    have q2 := HT.out.head h1 hpos
    have q3 : ((S[0].toNat : Int) != 48) = true := by rw [bne_iff_ne]; omega
    clear h1 q2
    go_wp2_with fail
    refine (known1_any _).mono ?_
    rintro e w5 ⟨rfl, hb⟩
    have HB5 := Lib.hid (HB4.out.trans (hb.mono hs4))
    clear hb
    go_wp2
    go_ret
    exact ⟨rfl, HB5.out⟩

set_option maxHeartbeats 400000 in
theorem NatPrints_long (A : Option Addr) (n c : Nat) (w : World) (h : 20 < n) (hn : n ≤ 9223372036854775807) :
    Calls Tryd.prog 4 #[.slice A n c] w fun e w' => e = .returned (.bool true) ∧ Below w.heap.size w w' := by
  go_enter Tryd.func4, Tryd.ntmps4
  go_wp2
  go_ret
  exact ⟨rfl, Below.refl _ _⟩
theorem NatPrints_any (A : Option Addr) (n c : Nat) (a : List Nat) (w : World) (hcn : n ≤ c) (hc : c ≤ 9223372036854775807) (ha : Row w 0 A n a) (ht : Tb w) :
    Calls Tryd.prog 4 #[.slice A n c] w fun e w' => e = .returned (.bool true) ∧ Below w.heap.size w w' := by
  by_cases h : 20 < n
  · exact NatPrints_long A n c w h (by omega)
  · exact NatPrints_small A n c a w (by omega) hcn ha ht
end Go.Proofs.YtcmomoalohibiaaDoor
