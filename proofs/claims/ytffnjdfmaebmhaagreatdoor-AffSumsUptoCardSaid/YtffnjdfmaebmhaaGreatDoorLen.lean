/-
  How many bits a limb takes: math/bits.Len32.
-/
import Derived.Test.YtffnjdfmaebmhaaGreatDoorLeaf
import Derived.Lib.Strings
import Derived.Lib.Slices
import Derived.Lib.Small
import Derived.Lib.Walk
import Derived.Lib.BitFns
namespace Go.Proofs.YtffnjdfmaebmhaaGreatDoor
set_option maxRecDepth 20000
open Go.RowKit

/-- The table's byte. -/
theorem len_at {x y : Int} {k : Nat} (h0 : 0 ≤ y) (h1 : y ≤ 255) (hs : Lib.bitLen x.toNat = k + Lib.bitLen y.toNat) : (k : Int) + Lib.len8 y = (Lib.bitLen x.toNat : Int) ∧ 0 ≤ Lib.len8 y ∧ Lib.len8 y ≤ 8 := by
  have := Lib.bitLen_le8' y h0 h1
  rw [Lib.len8_of _ h0 h1, hs]
  omega

set_option maxRecDepth 100000 in
set_option maxHeartbeats 1000000 in
theorem Len32_int (x : Int) (w : World) (h0 : 0 ≤ x) (h1 : x ≤ 4294967295) :
    Calls Tryz.prog 107 #[.int .u32 x] w fun e w' => e = .returned (.int .i64 ((Lib.bitLen x.toNat : Nat) : Int)) ∧ w = w' := by
  by_cases c1 : x < 65536
  · by_cases c2 : x < 256
    · have f1 : x ≤ 255 := by omega
      have L := len_at (x := x) (k := 0) h0 f1 (by omega)
      have l1 := L.2.1
      have l2 := L.2.2
      have E := Lib.hid L.1
      clear L
      go_enter Tryz.func107, Tryz.ntmps107
      go_wp2
      go_ret
      exact ⟨ret_int (by have := E.out; omega), rfl⟩
    · have f0 : 0 ≤ x / 256 := by omega
      have f1 : x / 256 ≤ 255 := by omega
      have L := len_at (x := x) (k := 8) f0 f1 (by
        have := Lib.bitLen_shift8 x.toNat (by omega) (by omega)
        rw [this]; congr 2; omega)
      have l1 := L.2.1
      have l2 := L.2.2
      have E := Lib.hid L.1
      clear L
      go_enter Tryz.func107, Tryz.ntmps107
      go_wp2
      go_ret
      exact ⟨ret_int (by have := E.out; omega), rfl⟩
  · by_cases c2 : x < 16777216
    · have f0 : 0 ≤ x / 65536 := by omega
      have f1 : x / 65536 ≤ 255 := by omega
      have c3 : x / 65536 < 256 := by omega
      have L := len_at (x := x) (k := 16) f0 f1 (by
        have := Lib.bitLen_shift16 x.toNat (by omega) (by omega)
        rw [this]; congr 2; omega)
      have l1 := L.2.1
      have l2 := L.2.2
      have E := Lib.hid L.1
      clear L c2
      go_enter Tryz.func107, Tryz.ntmps107
      go_wp2
      go_ret
      exact ⟨ret_int (by have := E.out; omega), rfl⟩
    · have f0 : 0 ≤ x / 65536 / 256 := by omega
      have f1 : x / 65536 / 256 ≤ 255 := by omega
      have c3 : 256 ≤ x / 65536 := by omega
      have L := len_at (x := x) (k := 24) f0 f1 (by
        have := Lib.bitLen_shift24 x.toNat (by omega) (by omega)
        rw [this]; congr 2; omega)
      have l1 := L.2.1
      have l2 := L.2.2
      have E := Lib.hid L.1
      clear L c2
      go_enter Tryz.func107, Tryz.ntmps107
      go_wp2
      go_ret
      exact ⟨ret_int (by have := E.out; omega), rfl⟩
theorem Len32_any (x : Nat) (w : World) (hx : x < 4294967296) :
    Calls Tryz.prog 107 #[.int .u32 (x : Int)] w fun e w' => e = .returned (.int .i64 ((Lib.bitLen x : Nat) : Int)) ∧ w = w' :=
  Len32_int x w (by omega) (by omega)
end Go.Proofs.YtffnjdfmaebmhaaGreatDoor
