/-
  One less the other: the program's way.
-/
import Derived.Test.YtcmomoalohibiaaGreatDoorSub
import Derived.Test.YtcmomoalohibiaaGreatDoorSub32
import Derived.Test.YtcmomoalohibiaaGreatDoorNAdd
namespace Go.Proofs.YtcmomoalohibiaaGreatDoor
set_option maxRecDepth 20000
open Go.RowKit

/-- What the loop keeps: k digits of the difference are made, the rest is a's. -/
structure NSubAt (w wr : World) (a b : List Nat) (n k c g : Nat) (r : List Nat) : Prop where
  len : r.length = k
  own : Own wr w.heap.size (some ⟨g, 0, none⟩) n n (r ++ a.drop k)
  sum : val r + S (fun i => dg b i) k = S (fun i => dg a i) k + 4294967296 ^ k * c
  below : Below w.heap.size w wr

theorem NSubAt.step {w wr : World} {a b : List Nat} {n k c g : Nat} {r : List Nat} (h : NSubAt w wr a b n k c g r) (ha : a.length = n) (hk : k < n) (hg : w.heap.size ≤ g) (hx : dg a k < 4294967296) (hy : dg b k < 4294967296) (hc : c ≤ 1) :
    NSubAt w (wr.drew.setCell ⟨g, k, none⟩ (.int .u32 ((dif (dg a k) (dg b k) c : Nat) : Int))) a b n (k + 1) (bor (dg a k) (dg b k) c) g (r ++ [dif (dg a k) (dg b k) c]) := by
  obtain ⟨h1, h2, _⟩ := dif_bor hx hy hc
  refine ⟨by simp [h.len], ?_, ?_, h.below.drew.setCell hg _⟩
  · have h3 := h.own.drew.set (j := k) h2
    rw [set_split h.len (by omega)] at h3
    exact h3
  · rw [val_snoc, h.len, S, S, Nat.pow_succ]
    exact sub_step h.sum h1

end Go.Proofs.YtcmomoalohibiaaGreatDoor
