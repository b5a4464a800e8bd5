/-
  How great the numbers of an elimination may be.
-/
import Derived.Test.YtkfkjdpkkagjgaaGreatEch
import Derived.Test.YtkfkjdpkkagjgaaGreatMRb
namespace Go.Proofs.YtkfkjdpkkagjgaaGreat
set_option maxRecDepth 20000
def SzR (n p : Nat) (f : Nat → Rat) : Prop := ∀ j, j ≤ n → Sz (f j) p
theorem SzR.more {n p q : Nat} {f : Nat → Rat} (h : SzR n p f) (hq : p ≤ q) : SzR n q f := fun j hj => (h j hj).more hq
theorem SzR.lss {n p q c : Nat} {f g : Nat → Rat} {k : Rat} (hf : SzR n p f) (hg : SzR n q g) (hk : Sz k c) : SzR n (p + (c + q) + 1) (Go.Proofs.YtkfkjdpkkagjgaaGreat.lss f g k) := fun j hj => (hf j hj).sub (hk.mul (hg j hj))
theorem Good.len {n : Nat} {R : List (Nat → Rat)} (h : Good n R) : R.length ≤ n := by
 refine ind_le (B' := fun i j => if i = j then 1 else 0) h.ind fun i hi => ?_
 refine ⟨fun k => ((R[i]?).getD fun _ => 0) k, fun j hj => ?_⟩
 show _ = sm (fun k => ((R[i]?).getD fun _ => 0) k * (if k = j then 1 else 0)) n
 rw [sm_single (k := j) (fun k _ hne => by rw [if_neg hne, Rat.mul_zero]) hj, if_pos rfl, Rat.mul_one]
theorem inv_sz {a : Rat} {p : Nat} (h : Sz a p) (h0 : a ≠ 0) : Sz (1 / a) (p + 1) := by
 have h1 : Sz ((1 : Int) : Rat) 1 := by
  have := Sz.lit (x := 1) (y := 1) (s := false) (by omega) (by omega)
  rw [rn_int] at this
  simpa using this
 have h2 : Sz (1 : Rat) 1 := h1
 exact (h2.div h h0).more (by omega)
end Go.Proofs.YtkfkjdpkkagjgaaGreat
