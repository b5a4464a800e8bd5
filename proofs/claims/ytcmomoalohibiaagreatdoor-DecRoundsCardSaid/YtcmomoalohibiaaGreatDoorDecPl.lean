/-
  A number over ten, again and again; the text of digits behind a point.
-/
import Derived.Test.YtcmomoalohibiaaGreatDoorDecR
import Derived.Test.YtcmomoalohibiaaGreatDoorRefI
import Derived.Test.YtcmomoalohibiaaGreatDoorRefP
namespace Go.Proofs.YtcmomoalohibiaaGreatDoor
set_option maxRecDepth 20000
open Go.RowKit

theorem ten_rn : ((10 : Int) : Rat) = rn false 10 1 := by rw [rn_int]; rfl
theorem over_ten (s : Bool) (n k : Nat) : rn s n (10 ^ k) / ((10 : Int) : Rat) = rn s n (10 ^ (k + 1)) := by
  rw [ten_rn, rn_div s false (by omega) (by omega), Nat.mul_one, Nat.pow_succ]
  cases s <;> rfl
theorem ten_sz : Sz ((10 : Int) : Rat) 1 := ⟨show ((10 : Int) : Rat).num.natAbs < 4294967296 ^ 1 by decide, show ((10 : Int) : Rat).den < 4294967296 ^ 1 by decide⟩
theorem ten_nz : ((10 : Int) : Rat) ≠ 0 := by decide
theorem tens_sz {s : Bool} {n k : Nat} (hn : n < 4294967296) (hk : k ≤ 45) : Sz (rn s n (10 ^ k)) 6 := by
  refine Sz.ofRn rfl ?_ (Bd.ofL ?_) (by omega)
  · show n < 4294967296 ^ 6; omega
  · exact Nat.le_trans (ten_len (k := k) (m := 45) hk) (by omega)
theorem nu_zeros (k : Nat) : nu (List.replicate k 48) = 0 := by
  induction k with
  | zero => rfl
  | succ k ih => rw [List.replicate_succ', nu_snoc, ih]; rfl
theorem dig_zeros (k : Nat) : Dig (List.replicate k 48) := fun c hc => by
  have e := (List.mem_replicate.1 hc).2
  subst e; decide
theorem pl_txt {F : ByteArray} {n k : Nat} (hF : F.data.toList = 48 :: 46 :: (List.replicate k 48 ++ Lib.decDigits n)) (hn : n < 4294967296) (hk : k ≤ 30) : Txt F (rn false n (10 ^ (k + (Lib.decDigits n).length))) := by
  have hl : (Lib.decDigits n).length ≤ 10 := dec_len_le (by omega) (by omega)
  refine ⟨by rw [str_size hF]; simp; omega, false, F, n, _, ⟨(fun h => by cases h), fun _ => ⟨rfl, by rw [hF]; simp⟩⟩, ?_, rfl⟩
  have hb : IsDs (List.replicate k 48 ++ Lib.decDigits n) := ⟨by intro e; have := (ds_dec n).pos; exact this (List.append_eq_nil_iff.1 e).2, (dig_zeros k).app (Dig_dec n)⟩
  have h := Num.point (m := F.data.toList) [48] (List.replicate k 48 ++ Lib.decDigits n) (by rw [hF]; rfl) ⟨by simp, Dig.one (by decide) (by decide)⟩ hb
  have e1 : nu ([48] ++ (List.replicate k 48 ++ Lib.decDigits n)) = n := by
    rw [nu_append, nu_append, nu_zeros, nu_dec]; simp [nu]
  rw [e1] at h
  simpa using h
/-- What a loop of divisions keeps. -/
structure TnAt (w wx : World) (b n k : Nat) (z : Rv) : Prop where
  cell : C3 wx b (.bool z.s) (.slice z.A z.n z.c) (.slice z.B z.m z.d)
  num : Rt wx 0 z (rn false n (10 ^ k))
  lt : w.heap.size ≤ b
  below : Below w.heap.size w wx
end Go.Proofs.YtcmomoalohibiaaGreatDoor
