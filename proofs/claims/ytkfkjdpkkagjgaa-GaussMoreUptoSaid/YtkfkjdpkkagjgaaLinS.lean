/-
  How great the numbers of an elimination may be.
-/
import Derived.Test.YtkfkjdpkkagjgaaLin
import Derived.Test.YtkfkjdpkkagjgaaMRb
namespace Go.Proofs.Ytkfkjdpkkagjgaa
set_option maxRecDepth 20000

/-- All numbers of a row are of at most p limbs. -/
def SzR (n p : Nat) (f : Nat → Rat) : Prop := ∀ j, j ≤ n → Sz (f j) p
theorem SzR.more {n p q : Nat} {f : Nat → Rat} (h : SzR n p f) (hq : p ≤ q) : SzR n q f := fun j hj => (h j hj).more hq
theorem SzR.lss {n p q c : Nat} {f g : Nat → Rat} {k : Rat} (hf : SzR n p f) (hg : SzR n q g) (hk : Sz k c) : SzR n (p + (c + q) + 1) (Go.Proofs.Ytkfkjdpkkagjgaa.lss f g k) := fun j hj => (hf j hj).sub (hk.mul (hg j hj))
theorem red_sz {n s t : Nat} : ∀ {R : List (Nat → Rat)} {a : Nat → Rat} {p : Nat}, (∀ r ∈ R, SzR n s r) → (∀ r ∈ R, Sz (a (lead n r)) t) → (R.Pairwise fun r s => s (lead n r) = 0 ∧ r (lead n s) = 0) → SzR n p a → SzR n (p + R.length * (t + s + 1)) (red n R a)
  | [], _, _, _, _, _, h => by rw [red, List.length_nil, Nat.zero_mul, Nat.add_zero]; exact h
  | r :: R, a, p, hR, ha, hp, h => by
    show SzR n _ (red n R (lss a r (a (lead n r))))
    have hp2 := List.pairwise_cons.1 hp
    have h1 := h.lss (hR r List.mem_cons_self) (ha r List.mem_cons_self)
    have h2 : ∀ q ∈ R, Sz (lss a r (a (lead n r)) (lead n q)) t := fun q hq => by
      have e : lss a r (a (lead n r)) (lead n q) = a (lead n q) := by
        show a _ - _ * r _ = _
        rw [(hp2.1 q hq).2, Rat.mul_zero, sub_nil]
      rw [e]
      exact ha q (List.mem_cons_of_mem _ hq)
    refine (red_sz (R := R) (fun q hq => hR q (List.mem_cons_of_mem _ hq)) h2 hp2.2 h1).more ?_
    rw [List.length_cons, Nat.add_mul, Nat.one_mul]; omega
/-- The bound behind so many rows. -/
def bdS (t : Nat) : Nat → Nat
  | 0 => 0
  | i + 1 => 2 * bdS t i + 2 * (t + i * (t + bdS t i + 1)) + 2
theorem bdS_le (t i : Nat) : bdS t i ≤ bdS t (i + 1) := by show _ ≤ 2 * bdS t i + _ + 2; omega
theorem bdS_mono {t i : Nat} : ∀ {k : Nat}, i ≤ k → bdS t i ≤ bdS t k
  | 0, h => by obtain rfl : i = 0 := by omega
               exact Nat.le_refl _
  | k + 1, h => by
    by_cases e : i = k + 1
    · subst e; exact Nat.le_refl _
    · exact Nat.le_trans (bdS_mono (k := k) (by omega)) (bdS_le t k)
theorem Good.len {n : Nat} {R : List (Nat → Rat)} (h : Good n R) : R.length ≤ n := by
  refine ind_le (B' := fun i j => if i = j then 1 else 0) h.ind fun i hi => ?_
  refine ⟨fun k => ((R[i]?).getD fun _ => 0) k, fun j hj => ?_⟩
  show _ = sm (fun k => ((R[i]?).getD fun _ => 0) k * (if k = j then 1 else 0)) n
  rw [sm_single (k := j) (fun k _ hne => by rw [if_neg hne, Rat.mul_zero]) hj, if_pos rfl, Rat.mul_one]
theorem red_bd {n t : Nat} {R : List (Nat → Rat)} {e : Nat → Rat} (hg : Good n R) (hR : ∀ r ∈ R, SzR n (bdS t R.length) r) (he : SzR n t e) : SzR n (t + R.length * (t + bdS t R.length + 1)) (red n R e) :=
  red_sz hR (fun r hr => he _ (Nat.le_of_lt (hg.lt r hr))) hg.two he
theorem inv_sz {a : Rat} {p : Nat} (h : Sz a p) (h0 : a ≠ 0) : Sz (1 / a) (p + 1) := by
  have h1 : Sz ((1 : Int) : Rat) 1 := by
    have := Sz.lit (x := 1) (y := 1) (s := false) (by omega) (by omega)
    rw [rn_int] at this
    simpa using this
  have h2 : Sz (1 : Rat) 1 := h1
  exact (h2.div h h0).more (by omega)
theorem step_bd {n t : Nat} {R : List (Nat → Rat)} {ok : Bool} {e : Nat → Rat} (hg : Good n R) (hR : ∀ r ∈ R, SzR n (bdS t R.length) r) (he : SzR n t e) : ∀ r ∈ (stepS n R ok e).1, SzR n (bdS t (stepS n R ok e).1.length) r := by
  have hr := red_bd hg hR he
  unfold stepS
  split
  · exact hR
  · next hl =>
    have hk : lead n (red n R e) < n := by have := lead_le n (red n R e); omega
    have ha := lead_ne hk
    have hc := inv_sz (hr _ (Nat.le_of_lt hk)) ha
    have ht : SzR n (2 * (t + R.length * (t + bdS t R.length + 1)) + 1) (tms (red n R e) (1 / red n R e (lead n (red n R e)))) := fun j hj => ((hr j hj).mul hc).more (by omega)
    have e1 : (R.map (fun r => lss r (tms (red n R e) (1 / red n R e (lead n (red n R e)))) (r (lead n (red n R e)))) ++ [tms (red n R e) (1 / red n R e (lead n (red n R e)))]).length = R.length + 1 := by simp
    intro s hs
    rw [e1]
    show SzR n (2 * bdS t R.length + 2 * (t + R.length * (t + bdS t R.length + 1)) + 2) s
    rcases List.mem_append.1 hs with hs | hs
    · obtain ⟨r, hr', rfl⟩ := List.mem_map.1 hs
      exact ((hR r hr').lss ht (hR r hr' _ (Nat.le_of_lt hk))).more (by omega)
    · rw [List.mem_singleton.1 hs]
      exact ht.more (by omega)
theorem bdS_8 : bdS 150 8 ≤ 5000000000 := by decide +kernel
theorem bdS_10 : bdS 150 10 ≤ 2000000000000 := by decide +kernel
theorem bdS_12 : bdS 150 12 ≤ 900000000000000 := by decide +kernel
end Go.Proofs.Ytkfkjdpkkagjgaa
