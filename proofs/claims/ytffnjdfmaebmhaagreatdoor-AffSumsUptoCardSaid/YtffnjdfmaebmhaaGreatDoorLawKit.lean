/-
  What a law's walk keeps: bounds on numbers, contracts said of numbers.
-/
import Derived.Test.YtffnjdfmaebmhaaGreatDoorKnown
import Derived.Test.YtffnjdfmaebmhaaGreatDoorRMul
import Derived.Test.YtffnjdfmaebmhaaGreatDoorRCmp
import Derived.Test.YtffnjdfmaebmhaaGreatDoorNAdd
namespace Go.Proofs.YtffnjdfmaebmhaaGreatDoor
set_option maxRecDepth 20000
open Go.RowKit

/-- A number of at most p limbs. -/
def Bd (x p : Nat) : Prop := x < 4294967296 ^ p
theorem Bd.add {x y p q : Nat} (hx : Bd x p) (hy : Bd y q) : Bd (x + y) (max p q + 1) := by
  unfold Bd at *
  have h1 : 4294967296 ^ p ≤ 4294967296 ^ max p q := Nat.pow_le_pow_right (by omega) (by omega)
  have h2 : 4294967296 ^ q ≤ 4294967296 ^ max p q := Nat.pow_le_pow_right (by omega) (by omega)
  rw [Nat.pow_succ]
  omega
theorem Bd.mul {x y p q : Nat} (hx : Bd x p) (hy : Bd y q) : Bd (x * y) (p + q) := by
  unfold Bd at *
  rw [Nat.pow_add]
  exact Nat.mul_lt_mul'' hx hy
theorem Bd.more {x p q : Nat} (hx : Bd x p) (h : p ≤ q) : Bd x q := Nat.lt_of_lt_of_le hx (Nat.pow_le_pow_right (by omega) h)
theorem Bd.le {x y p : Nat} (hx : Bd x p) (h : y ≤ x) : Bd y p := Nat.lt_of_le_of_lt h hx
theorem Bd.len {x p : Nat} (hx : Bd x p) : (lim x).length ≤ p := lim_len_lt hx
theorem Row.bd {w : World} {lo n p : Nat} {A : Option Addr} {l : List Nat} (h : Row w lo A n l) (hp : n ≤ p) : Bd (val l) p := by
  have h1 := val_lt h.l32
  exact Nat.lt_of_lt_of_le h1 (Nat.pow_le_pow_right (by omega) (by rw [h.len]; exact hp))

theorem Add_v (x y : Nat) (A B : Option Addr) (n m c d : Nat) (a b : List Nat) (w : World) (hx : val a = x) (hy : val b = y) (hn : n ≤ 100000) (hm : m ≤ 100000) (hcn : n ≤ c) (hdm : m ≤ d) (ha : Row w 0 A n a) (hb : Row w 0 B m b) :
    Calls Tryz.prog 110 #[.slice A n c, .slice B m d] w fun e w' => ∃ A2 c2, e = .returned (.slice A2 (lim (x + y)).length c2) ∧ Own w' w.heap.size A2 c2 (lim (x + y)).length (lim (x + y)) ∧ Below w.heap.size w w' := by
  subst hx hy; exact Add_any A B n m c d a b w hn hm hcn hdm ha hb
theorem Mul_v (x y : Nat) (A B : Option Addr) (n m c d : Nat) (a b : List Nat) (w : World) (hx : val a = x) (hy : val b = y) (hn : n ≤ 100000) (hm : m ≤ 100000) (hcn : n ≤ c) (hdm : m ≤ d) (ha : Row w 0 A n a) (hb : Row w 0 B m b) :
    Calls Tryz.prog 68 #[.slice A n c, .slice B m d] w fun e w' => ∃ A2 c2, e = .returned (.slice A2 (lim (x * y)).length c2) ∧ Own w' w.heap.size A2 c2 (lim (x * y)).length (lim (x * y)) ∧ Below w.heap.size w w' := by
  subst hx hy; exact Mul_any A B n m c d a b w hn hm hcn hdm ha hb
theorem rCmp_v (x y : Nat) (s : Int) (A B : Option Addr) (n m c d : Nat) (a b : List Nat) (w : World) (hx : val a = x) (hy : val b = y) (hs : cmpI x y = s) (hn : n ≤ 1000000) (hm : m ≤ 1000000) (hcn : n ≤ c) (hdm : m ≤ d) (ha : Row w 0 A n a) (hb : Row w 0 B m b) :
    Calls Tryz.prog 66 #[.slice A n c, .slice B m d] w fun e w' => e = .returned (.int .i64 s) ∧ Below w.heap.size w w' := by
  subst hx hy hs; exact rCmp_any A B n m c d a b w hn hm hcn hdm ha hb
theorem rMul_v (x y : Nat) (A B : Option Addr) (n m c d : Nat) (a b : List Nat) (w : World) (hx : val a = x) (hy : val b = y) (hn : n ≤ 100000) (hm : m ≤ 100000) (ha : Row w 0 A n a) (hb : Row w 0 B m b) :
    Calls Tryz.prog 64 #[.slice A n c, .slice B m d] w fun e w' => ∃ A2 c2, e = .returned (.slice A2 (lim (x * y)).length c2) ∧ Own w' w.heap.size A2 c2 (lim (x * y)).length (lim (x * y)) ∧ Below w.heap.size w w' := by
  subst hx hy; exact rMul_any A B n m c d a b w hn hm ha hb
theorem rAdd_v (x y : Nat) (A B : Option Addr) (n m c d : Nat) (a b : List Nat) (w : World) (hx : val a = x) (hy : val b = y) (hn : n ≤ 100000) (hm : m ≤ 100000) (ha : Row w 0 A n a) (hb : Row w 0 B m b) :
    Calls Tryz.prog 65 #[.slice A n c, .slice B m d] w fun e w' => ∃ A2 c2, e = .returned (.slice A2 (lim (x + y)).length c2) ∧ Own w' w.heap.size A2 c2 (lim (x + y)).length (lim (x + y)) ∧ Below w.heap.size w w' := by
  subst hx hy; exact rAdd_any A B n m c d a b w hn hm ha hb

end Go.Proofs.YtffnjdfmaebmhaaGreatDoor
