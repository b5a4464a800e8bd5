/-
  Variables that are joined, no program: roots, what joins them, how many there are.
  Words for memory: a slice of ints reads as a row of numbers; rows of a call's own.
  Variables by themselves; two of them joined; two rows of numbers.
-/
import Derived.WalkKit
import Derived.Test.YtjbhhccklfddaaaVMNa
import Derived.Deep.Cut
namespace Go.Proofs.Ytjbhhccklfddaaa
set_option maxRecDepth 20000
def rt (r : List Nat) (v : Nat) : Nat := r.getD v 0
theorem rt_eq (r : List Nat) (v : Nat) : rt r v = r[v]?.getD 0 := by unfold rt; rw [List.getD_eq_getElem?_getD]
theorem rt_get {r : List Nat} {v : Nat} (h : v < r.length) : r[v]? = some (rt r v) := by rw [rt_eq, List.getElem?_eq_getElem h]; rfl
theorem rt_ext {r s : List Nat} (hl : r.length = s.length) (h : ∀ v, v < r.length → rt r v = rt s v) : r = s := by
 apply List.ext_getElem? ; intro i
 by_cases hi : i < r.length
 · rw [rt_get hi, rt_get (hl ▸ hi), h i hi]
 · rw [List.getElem?_eq_none (by omega), List.getElem?_eq_none (by omega)]
def trn (lo hi z : Nat) : Nat := if z = hi then lo else z
def mrg (r : List Nat) (a b : Nat) : List Nat := r.map (trn (min (rt r a) (rt r b)) (max (rt r a) (rt r b)))
theorem mrg_len (r : List Nat) (a b : Nat) : (mrg r a b).length = r.length := List.length_map ..
theorem rt_mrg (r : List Nat) (a b v : Nat) : rt (mrg r a b) v = trn (min (rt r a) (rt r b)) (max (rt r a) (rt r b)) (rt r v) := by
 by_cases hv : v < r.length
 · rw [rt_eq (mrg r a b), mrg, List.getElem?_map, rt_get hv]; rfl
 ·
  have e : rt r v = 0 := by rw [rt_eq, List.getElem?_eq_none (by omega)]; rfl
  rw [rt_eq (mrg r a b), mrg, List.getElem?_map, List.getElem?_eq_none (by omega), e]
  show 0 = _
  unfold trn
  split <;> omega
theorem mrg_same {r : List Nat} {a b : Nat} (h : rt r a = rt r b) : mrg r a b = r := by
 apply rt_ext (mrg_len ..)
 intro v _
 rw [rt_mrg, h]
 unfold trn
 split <;> omega
structure Rts (N : Nat) (r : List Nat) (K : (Nat → Nat) → Prop) : Prop where
 len : r.length = N
 le : ∀ v, v < N → rt r v ≤ v
 idem : ∀ v, v < N → rt r (rt r v) = rt r v
 resp : K (rt r)
 sep : ∀ u v, u < N → v < N → rt r u = rt r v → ∀ f, K f → f u = f v
theorem Rts.same {N : Nat} {r s : List Nat} {K L : (Nat → Nat) → Prop} (h : Rts N r K) (g : Rts N s L) (e : ∀ f, K f ↔ L f) : r = s := by
 apply rt_ext (h.len.trans g.len.symm)
 intro v hv
 rw [h.len] at hv
 have one : ∀ {r s : List Nat} {K L : (Nat → Nat) → Prop}, Rts N r K → Rts N s L → (∀ f, K f ↔ L f) → rt s v ≤ rt r v := fun {r s K L} h g e => by
  have h1 := h.le v hv
  have h2 := h.sep (rt r v) v (by omega) hv (h.idem v hv) (rt s) ((e _).2 g.resp)
  rw [← h2]
  exact g.le _ (by omega)
 exact Nat.le_antisymm (one g h fun f => (e f).symm) (one h g e)
theorem Rts.turn {N : Nat} {r : List Nat} {K L : (Nat → Nat) → Prop} (h : Rts N r K) (e : ∀ f, K f ↔ L f) : Rts N r L :=
 ⟨h.len, h.le, h.idem, (e _).1 h.resp, fun u v hu hv hr f hf => h.sep u v hu hv hr f ((e f).2 hf)⟩
theorem rt_range {N v : Nat} (h : v < N) : rt (List.range N) v = v := by
 rw [rt_eq, List.getElem?_range h]; rfl
theorem Rts.start (N : Nat) : Rts N (List.range N) (fun _ => True) :=
 ⟨List.length_range, fun v hv => by rw [rt_range hv]; exact Nat.le_refl _, fun v hv => by rw [rt_range hv, rt_range hv], trivial,
  fun u v hu hv h f _ => by rw [rt_range hu, rt_range hv] at h; rw [h]⟩
def Clo1 (K : (Nat → Nat) → Prop) : Prop := ∀ f g : Nat → Nat, K f → K fun v => g (f v)
theorem Rts.mrg {N : Nat} {r : List Nat} {K : (Nat → Nat) → Prop} (h : Rts N r K) (hK : Clo1 K) {a b : Nat} (ha : a < N) (hb : b < N) :
  Rts N (mrg r a b) (fun f => K f ∧ f a = f b) := by
 have hra := h.le a ha
 have hrb := h.le b hb
 have ia := h.idem a ha
 have ib := h.idem b hb
 refine ⟨(mrg_len ..).trans h.len, fun v hv => ?_, fun v hv => ?_, ⟨?_, ?_⟩, fun u v hu hv e f hf => ?_⟩
 ·
  have := h.le v hv
  rw [rt_mrg]
  unfold trn
  split <;> omega
 ·
  have hm : rt r (min (rt r a) (rt r b)) = min (rt r a) (rt r b) := by
   rcases Nat.le_total (rt r a) (rt r b) with g | g
   · rw [Nat.min_eq_left g, ia]
   · rw [Nat.min_eq_right g, ib]
  have hv' := h.idem v hv
  simp only [rt_mrg]
  unfold trn
  split
  ·
   next e1 =>
   rw [hm]
   split <;> rfl
  · next e1 => rw [hv', if_neg e1]
 ·
  have := hK (rt r) (trn (min (rt r a) (rt r b)) (max (rt r a) (rt r b))) h.resp
  have e : rt (Go.Proofs.Ytjbhhccklfddaaa.mrg r a b) = fun v => trn (min (rt r a) (rt r b)) (max (rt r a) (rt r b)) (rt r v) := funext fun v => rt_mrg r a b v
  rw [e]
  exact this
 ·
  rw [rt_mrg, rt_mrg]
  unfold trn
  split <;> split <;> omega
 ·
  rw [rt_mrg, rt_mrg] at e
  have ab := hf.2
  have sx : ∀ x y, x < N → y < N → rt r x = rt r y → f x = f y := fun x y hx hy e => h.sep x y hx hy e f hf.1
  unfold trn at e
  have c : rt r u = rt r v ∨ (rt r u = rt r a ∧ rt r v = rt r b) ∨ (rt r u = rt r b ∧ rt r v = rt r a) := by
   split at e <;> split at e <;> omega
  rcases c with c | ⟨c, d⟩ | ⟨c, d⟩
  · exact sx u v hu hv c
  · rw [sx u a hu ha c, sx v b hv hb d, ab]
  · rw [sx u b hu hb c, sx v a hv ha d, ab]
def cnt (r : List Nat) : Nat → Nat
 | 0 => 0
 | n + 1 => cnt r n + (if rt r n < n then 1 else 0)
theorem cnt_mrg {N : Nat} {r : List Nat} {K : (Nat → Nat) → Prop} (h : Rts N r K) {a b : Nat} (ha : a < N) (hb : b < N) (hne : rt r a ≠ rt r b) :
  ∀ n, n ≤ N → cnt (mrg r a b) n = cnt r n + (if max (rt r a) (rt r b) < n then 1 else 0)
 | 0, _ => by simp [cnt]
 |
  n + 1, hn => by
  rw [cnt, cnt, cnt_mrg h ha hb hne n (by omega), rt_mrg]
  have h1 := h.le n (by omega)
  have ia := h.idem a ha
  have ib := h.idem b hb
  by_cases e : n = max (rt r a) (rt r b)
  ·
   have e2 : rt r n = n := by
    rcases Nat.le_total (rt r a) (rt r b) with g | g
    · rw [e, Nat.max_eq_right g, ib]
    · rw [e, Nat.max_eq_left g, ia]
   unfold trn
   rw [if_pos (e2.trans e), if_neg (show ¬ max (rt r a) (rt r b) < n by omega), if_pos (show max (rt r a) (rt r b) < n + 1 by omega), if_neg (show ¬ rt r n < n by omega), if_pos (show min (rt r a) (rt r b) < n by omega)]
  ·
   unfold trn
   by_cases e1 : rt r n = max (rt r a) (rt r b)
   · rw [if_pos e1, if_pos (show min (rt r a) (rt r b) < n by omega), if_pos (show rt r n < n by omega), if_pos (show max (rt r a) (rt r b) < n by omega), if_pos (show max (rt r a) (rt r b) < n + 1 by omega)]
   ·
    rw [if_neg e1]
    by_cases e3 : max (rt r a) (rt r b) < n
    · rw [if_pos e3, if_pos (show max (rt r a) (rt r b) < n + 1 by omega)]; omega
    · rw [if_neg e3, if_neg (show ¬ max (rt r a) (rt r b) < n + 1 by omega)]; omega
theorem cnt_range (N : Nat) : ∀ n, n ≤ N → cnt (List.range N) n = 0
 | 0, _ => rfl
 | n + 1, h => by rw [cnt, cnt_range N n (by omega), rt_range (by omega), if_neg (by omega)]
def nth (c : List Nat) (j : Nat) : Nat := c.getD j 0
theorem nth_get {c : List Nat} {j : Nat} (h : j < c.length) : c[j]? = some (nth c j) := by
 unfold nth; rw [List.getD_eq_getElem?_getD, List.getElem?_eq_getElem h]; rfl
theorem nth_mem {c : List Nat} {j : Nat} (h : j < c.length) : nth c j ∈ c := List.mem_of_getElem? (nth_get h)
theorem mem_nth {c : List Nat} {u : Nat} (h : u ∈ c) : ∃ j, j < c.length ∧ nth c j = u := by
 obtain ⟨j, hj, e⟩ := List.getElem_of_mem h
 refine ⟨j, hj, ?_⟩
 have := nth_get hj
 rw [List.getElem?_eq_getElem hj, e] at this
 injection this with this
 exact this.symm
def chainTo (r c : List Nat) : Nat → List Nat
 | 0 => r
 | k + 1 => mrg (chainTo r c k) (nth c k) (nth c (k + 1))
def failTo (r c : List Nat) : Nat → Nat
 | 0 => 0
 | k + 1 => failTo r c k + (if rt (chainTo r c k) (nth c k) = rt (chainTo r c k) (nth c (k + 1)) then 1 else 0)
def stepR (r c : List Nat) : List Nat := chainTo r c (c.length - 1)
def failR (r c : List Nat) : Nat := failTo r c (c.length - 1)
def starTo (r c : List Nat) : Nat → List Nat
 | 0 => r
 | k + 1 => mrg (starTo r c k) (nth c 0) (nth c (k + 1))
theorem Clo1.and {K : (Nat → Nat) → Prop} (h : Clo1 K) (a b : Nat) : Clo1 fun f => K f ∧ f a = f b := fun f g hf => ⟨h f g hf.1, by show g (f a) = g (f b); rw [hf.2]⟩
theorem chain_rts {N : Nat} {r c : List Nat} {K : (Nat → Nat) → Prop} (h : Rts N r K) (hK : Clo1 K) (hc : ∀ v ∈ c, v < N) :
  ∀ k, k < c.length → ∃ L, Clo1 L ∧ Rts N (chainTo r c k) L ∧ ∀ f, L f ↔ K f ∧ ∀ j, j ≤ k → f (nth c j) = f (nth c 0)
 | 0, _ => ⟨K, hK, h, fun f => ⟨fun g => ⟨g, fun j hj => by rw [show j = 0 by omega]⟩, fun g => g.1⟩⟩
 |
  k + 1, hk => by
  obtain ⟨L, hL, hR, e⟩ := chain_rts h hK hc k (by omega)
  refine ⟨_, hL.and _ _, hR.mrg hL (hc _ (nth_mem (show k < c.length by omega))) (hc _ (nth_mem hk)), fun f => ?_⟩
  constructor
  ·
   rintro ⟨g1, g2⟩
   obtain ⟨g3, g4⟩ := (e f).1 g1
   refine ⟨g3, fun j hj => ?_⟩
   by_cases hjk : j ≤ k
   · exact g4 j hjk
   · rw [show j = k + 1 by omega, ← g2]; exact g4 k (Nat.le_refl _)
  ·
   rintro ⟨g1, g2⟩
   exact ⟨(e f).2 ⟨g1, fun j hj => g2 j (by omega)⟩, (g2 k (by omega)).trans (g2 (k + 1) (Nat.le_refl _)).symm⟩
theorem star_rts {N : Nat} {r c : List Nat} {K : (Nat → Nat) → Prop} (h : Rts N r K) (hK : Clo1 K) (hc : ∀ v ∈ c, v < N) :
  ∀ k, k < c.length → ∃ L, Clo1 L ∧ Rts N (starTo r c k) L ∧ ∀ f, L f ↔ K f ∧ ∀ j, j ≤ k → f (nth c j) = f (nth c 0)
 | 0, _ => ⟨K, hK, h, fun f => ⟨fun g => ⟨g, fun j hj => by rw [show j = 0 by omega]⟩, fun g => g.1⟩⟩
 |
  k + 1, hk => by
  obtain ⟨L, hL, hR, e⟩ := star_rts h hK hc k (by omega)
  refine ⟨_, hL.and _ _, hR.mrg hL (hc _ (nth_mem (show 0 < c.length by omega))) (hc _ (nth_mem hk)), fun f => ?_⟩
  constructor
  ·
   rintro ⟨g1, g2⟩
   obtain ⟨g3, g4⟩ := (e f).1 g1
   refine ⟨g3, fun j hj => ?_⟩
   by_cases hjk : j ≤ k
   · exact g4 j hjk
   · rw [show j = k + 1 by omega, ← g2]
  ·
   rintro ⟨g1, g2⟩
   exact ⟨(e f).2 ⟨g1, fun j hj => g2 j (by omega)⟩, (g2 (k + 1) (Nat.le_refl _)).symm⟩
theorem star_chain {N : Nat} {r c : List Nat} {K : (Nat → Nat) → Prop} (h : Rts N r K) (hK : Clo1 K) (hc : ∀ v ∈ c, v < N) {k : Nat} (hk : k < c.length) : starTo r c k = chainTo r c k := by
 obtain ⟨L, _, g1, e1⟩ := star_rts h hK hc k hk
 obtain ⟨M, _, g2, e2⟩ := chain_rts h hK hc k hk
 exact g1.same g2 fun f => (e1 f).trans (e2 f).symm
theorem star_step {N : Nat} {r c : List Nat} {K : (Nat → Nat) → Prop} (h : Rts N r K) (hK : Clo1 K) (hc : ∀ v ∈ c, v < N) : starTo r c (c.length - 1) = stepR r c := by
 cases c with
 | nil => rfl
 | cons x c => exact star_chain h hK hc (by rw [List.length_cons]; omega)
theorem step_rts {N : Nat} {r c : List Nat} {K : (Nat → Nat) → Prop} (h : Rts N r K) (hK : Clo1 K) (hc : ∀ v ∈ c, v < N) :
  ∃ L, Clo1 L ∧ Rts N (stepR r c) L ∧ ∀ f, L f ↔ K f ∧ ∀ u ∈ c, ∀ v ∈ c, f u = f v := by
 cases hcl : c with
 | nil => exact ⟨K, hK, h, fun f => ⟨fun g => ⟨g, fun u hu => by cases hu⟩, fun g => g.1⟩⟩
 |
  cons x c' =>
  rw [← hcl]
  have hl : 0 < c.length := by rw [hcl, List.length_cons]; omega
  obtain ⟨L, hL, hR, e⟩ := chain_rts h hK hc (c.length - 1) (by omega)
  refine ⟨L, hL, hR, fun f => (e f).trans ?_⟩
  constructor
  ·
   rintro ⟨g1, g2⟩
   refine ⟨g1, fun u hu v hv => ?_⟩
   obtain ⟨i, hi, rfl⟩ := mem_nth hu
   obtain ⟨j, hj, rfl⟩ := mem_nth hv
   exact (g2 i (by omega)).trans (g2 j (by omega)).symm
  ·
   rintro ⟨g1, g2⟩
   exact ⟨g1, fun j hj => g2 _ (nth_mem (by omega)) _ (nth_mem hl)⟩
theorem cnt_chain {N : Nat} {r c : List Nat} {K : (Nat → Nat) → Prop} (h : Rts N r K) (hK : Clo1 K) (hc : ∀ v ∈ c, v < N) :
  ∀ k, k < c.length → cnt (chainTo r c k) N + failTo r c k = cnt r N + k
 | 0, _ => rfl
 |
  k + 1, hk => by
  have ih := cnt_chain h hK hc k (by omega)
  obtain ⟨L, hL, hR, e⟩ := chain_rts h hK hc k (by omega)
  rw [chainTo, failTo]
  have h1 := hc _ (nth_mem (show k < c.length by omega))
  have h2 := hc _ (nth_mem hk)
  by_cases e : rt (chainTo r c k) (nth c k) = rt (chainTo r c k) (nth c (k + 1))
  · rw [mrg_same e, if_pos e]; omega
  ·
   have g1 := hR.le _ h1
   have g2 := hR.le _ h2
   rw [cnt_mrg hR h1 h2 e N (Nat.le_refl _), if_neg e, if_pos (by omega)]; omega
theorem cnt_step {N : Nat} {r c : List Nat} {K : (Nat → Nat) → Prop} (h : Rts N r K) (hK : Clo1 K) (hc : ∀ v ∈ c, v < N) : cnt (stepR r c) N + failR r c = cnt r N + (c.length - 1) := by
 cases c with
 | nil => rfl
 | cons x c => exact cnt_chain h hK hc _ (by rw [List.length_cons]; omega)
def Gapt (r c : List Nat) (k : Nat) : Prop := ∀ i j, i < j → j ≤ k → rt r (nth c i) ≠ rt r (nth c j)
theorem chain_apt {r c : List Nat} : ∀ k, Gapt r c k → failTo r c k = 0 ∧ (∃ i, i ≤ k ∧ rt (chainTo r c k) (nth c k) = rt r (nth c i)) ∧ ∀ v, (∀ i, i ≤ k → rt r v ≠ rt r (nth c i)) → rt (chainTo r c k) v = rt r v
 | 0, _ => ⟨rfl, ⟨0, Nat.le_refl _, rfl⟩, fun _ _ => rfl⟩
 |
  k + 1, h => by
  obtain ⟨h1, ⟨i, hi, h2⟩, h3⟩ := chain_apt k fun i j hij hj => h i j hij (by omega)
  have e1 : rt (chainTo r c k) (nth c (k + 1)) = rt r (nth c (k + 1)) := h3 _ fun i hi => (h i (k + 1) (by omega) (Nat.le_refl _)).symm
  have ne : rt (chainTo r c k) (nth c k) ≠ rt (chainTo r c k) (nth c (k + 1)) := by
   rw [h2, e1]; exact h i (k + 1) (by omega) (Nat.le_refl _)
  refine ⟨by rw [failTo, h1, if_neg ne], ?_, fun v hv => ?_⟩
  ·
   rw [chainTo, rt_mrg, h2, e1]
   unfold trn
   rcases Nat.le_total (rt r (nth c i)) (rt r (nth c (k + 1))) with g | g
   · exact ⟨i, by omega, by rw [Nat.max_eq_right g, Nat.min_eq_left g, if_pos rfl]⟩
   ·
    refine ⟨k + 1, Nat.le_refl _, ?_⟩
    rw [Nat.max_eq_left g, Nat.min_eq_right g, if_neg]
    rw [h2, e1] at ne
    exact fun e => ne e.symm
  ·
   have ev := h3 v fun i hi => hv i (by omega)
   rw [chainTo, rt_mrg, ev, h2, e1]
   have d1 := hv i (by omega)
   have d2 := hv (k + 1) (Nat.le_refl _)
   unfold trn
   rw [if_neg (by omega)]
theorem fail_zero {r c : List Nat} : failR r c = 0 ↔ ∀ i j, i < j → j < c.length → rt r (nth c i) ≠ rt r (nth c j) := by
 constructor
 ·
  intro h i j hij hj e
  -- equal roots stay equal, and the step that brings j in finds them so
  have keep : ∀ k u v, rt r u = rt r v → rt (chainTo r c k) u = rt (chainTo r c k) v := by
   intro k u v e
   induction k with
   | zero => exact e
   | succ k ih => rw [chainTo, rt_mrg, rt_mrg, ih]
  have one : ∀ k i, i ≤ k → rt (chainTo r c k) (nth c i) = rt (chainTo r c k) (nth c k) := by
   intro k
   induction k with
   | zero => intro i hi; rw [show i = 0 by omega]
   |
    succ k ih =>
    intro i hi
    by_cases hik : i ≤ k
    ·
     rw [chainTo, rt_mrg, rt_mrg, ih i hik]
     unfold trn
     split <;> split <;> omega
    · rw [show i = k + 1 by omega]
  obtain ⟨k, rfl⟩ : ∃ k, j = k + 1 := ⟨j - 1, by omega⟩
  have mono : ∀ m, failTo r c (k + 1) ≤ failTo r c (k + 1 + m) := by
   intro m
   induction m with
   | zero => exact Nat.le_refl _
   | succ m ih => exact Nat.le_trans ih (by rw [← Nat.add_assoc, failTo]; omega)
  have h1 := mono (c.length - 1 - (k + 1))
  rw [show k + 1 + (c.length - 1 - (k + 1)) = c.length - 1 by omega] at h1
  have h2 : failTo r c (c.length - 1) = 0 := h
  have h3 : failTo r c (k + 1) = 0 := by omega
  rw [failTo, if_pos ((one k i (by omega)).symm.trans (keep k _ _ e))] at h3
  omega
 ·
  intro h
  rcases Nat.eq_zero_or_pos c.length with h0 | h0
  · unfold failR; rw [h0]; rfl
  · exact (chain_apt (c.length - 1) fun i j hij hj => h i j hij (by omega)).1
def runL (r : List Nat) (cs : List (List Nat)) : List Nat := cs.foldl stepR r
def failL (r : List Nat) : List (List Nat) → Nat
 | [] => 0
 | c :: cs => failR r c + failL (stepR r c) cs
theorem runL_app (r : List Nat) (a b : List (List Nat)) : runL r (a ++ b) = runL (runL r a) b := List.foldl_append ..
theorem failL_app : ∀ (r : List Nat) (a b : List (List Nat)), failL r (a ++ b) = failL r a + failL (runL r a) b
 | r, [], b => by rw [List.nil_append, failL, Nat.zero_add]; rfl
 | r, c :: a, b => by rw [List.cons_append, failL, failL, failL_app (stepR r c) a b, Nat.add_assoc]; rfl
def bnd (N : Nat) (cs : List (List Nat)) : Prop := ∀ c ∈ cs, ∀ v ∈ c, v < N
theorem run_rts {N : Nat} : ∀ {cs : List (List Nat)} {r : List Nat} {K : (Nat → Nat) → Prop}, Rts N r K → Clo1 K → bnd N cs →
  ∃ L, Clo1 L ∧ Rts N (runL r cs) L ∧ ∀ f, L f ↔ K f ∧ ∀ c ∈ cs, ∀ u ∈ c, ∀ v ∈ c, f u = f v
 | [], r, K, h, hK, _ => ⟨K, hK, h, fun f => ⟨fun g => ⟨g, fun c hc => by cases hc⟩, fun g => g.1⟩⟩
 |
  c :: cs, r, K, h, hK, hb => by
  obtain ⟨L, hL, hR, e⟩ := step_rts h hK (hb c List.mem_cons_self)
  obtain ⟨M, hM, hS, e2⟩ := run_rts hR hL (cs := cs) fun x hx => hb x (List.mem_cons_of_mem _ hx)
  refine ⟨M, hM, hS, fun f => (e2 f).trans ?_⟩
  constructor
  ·
   rintro ⟨g1, g2⟩
   obtain ⟨g3, g4⟩ := (e f).1 g1
   refine ⟨g3, fun x hx => ?_⟩
   rcases List.mem_cons.1 hx with rfl | hx
   · exact g4
   · exact g2 x hx
  ·
   rintro ⟨g1, g2⟩
   exact ⟨(e f).2 ⟨g1, g2 c List.mem_cons_self⟩, fun x hx => g2 x (List.mem_cons_of_mem _ hx)⟩
theorem clo_true : Clo1 fun _ => True := fun _ _ _ => trivial
def runN (N : Nat) (cs : List (List Nat)) : List Nat := runL (List.range N) cs
theorem runN_rts {N : Nat} {cs : List (List Nat)} (hb : bnd N cs) : ∃ L, Clo1 L ∧ Rts N (runN N cs) L ∧ ∀ f, L f ↔ ∀ c ∈ cs, ∀ u ∈ c, ∀ v ∈ c, f u = f v := by
 obtain ⟨L, h1, h2, h3⟩ := run_rts (Rts.start N) clo_true hb
 exact ⟨L, h1, h2, fun f => (h3 f).trans ⟨fun g => g.2, fun g => ⟨trivial, g⟩⟩⟩
theorem runN_mem {N : Nat} {cs ds : List (List Nat)} (hc : bnd N cs) (hm : ∀ c, c ∈ cs ↔ c ∈ ds) : runN N cs = runN N ds := by
 obtain ⟨K, _, h1, e1⟩ := runN_rts hc
 obtain ⟨L, _, h2, e2⟩ := runN_rts (N := N) (cs := ds) fun c h => hc c ((hm c).2 h)
 exact h1.same h2 fun f => (e1 f).trans ⟨fun g => ((e2 f).2 fun c h => g c ((hm c).2 h)), fun g c h => ((e2 f).1 g) c ((hm c).1 h)⟩
def joinsL (cs : List (List Nat)) : Nat := (cs.map fun c => c.length - 1).sum
theorem total {N : Nat} : ∀ {cs : List (List Nat)} {r : List Nat} {K : (Nat → Nat) → Prop}, Rts N r K → Clo1 K → bnd N cs → cnt (runL r cs) N + failL r cs = cnt r N + joinsL cs
 | [], r, K, _, _, _ => rfl
 |
  c :: cs, r, K, h, hK, hb => by
  obtain ⟨L, hL, hR, _⟩ := step_rts h hK (hb c List.mem_cons_self)
  have h1 := cnt_step h hK (hb c List.mem_cons_self)
  have h2 := total hR hL (cs := cs) fun x hx => hb x (List.mem_cons_of_mem _ hx)
  have e : joinsL (c :: cs) = (c.length - 1) + joinsL cs := by unfold joinsL; rw [List.map_cons, List.sum_cons]
  have e2 : runL r (c :: cs) = runL (stepR r c) cs := rfl
  rw [e2, failL, e]; omega
def failN (N : Nat) (cs : List (List Nat)) : Nat := failL (List.range N) cs
theorem totalN {N : Nat} {cs : List (List Nat)} (hb : bnd N cs) : cnt (runN N cs) N + failN N cs = joinsL cs := by
 have := total (Rts.start N) clo_true hb
 rw [cnt_range N N (Nat.le_refl _), Nat.zero_add] at this
 exact this
theorem joins_perm {cs ds : List (List Nat)} (h : cs.Perm ds) : joinsL cs = joinsL ds := (h.map _).sum_nat
theorem fail_perm {N : Nat} {cs ds : List (List Nat)} (hc : bnd N cs) (h : cs.Perm ds) : failN N cs = failN N ds := by
 have h1 := totalN hc
 have h2 := totalN (N := N) (cs := ds) fun c g => hc c (h.mem_iff.2 g)
 rw [runN_mem hc fun c => h.mem_iff, joins_perm h] at h1
 omega
def ringAt (N : Nat) (cs : List (List Nat)) (i : Nat) : Prop := failR (runN N (cs.take i)) (cs.getD i []) ≠ 0
def IsFst (N : Nat) (cs : List (List Nat)) (k : Int) : Prop := (k = -1 ∧ ∀ i, i < cs.length → ¬ ringAt N cs i) ∨ ∃ i : Nat, k = (i : Int) ∧ i < cs.length ∧ ringAt N cs i ∧ ∀ j, j < i → ¬ ringAt N cs j
theorem IsFst.uniq {N : Nat} {cs : List (List Nat)} {k m : Int} (h : IsFst N cs k) (g : IsFst N cs m) : k = m := by
 rcases h with ⟨rfl, h⟩ | ⟨i, rfl, hi, h1, h2⟩ <;> rcases g with ⟨rfl, g⟩ | ⟨j, rfl, hj, g1, g2⟩
 · rfl
 · exact absurd g1 (h j hj)
 · exact absurd h1 (g i hi)
 ·
  rcases Nat.lt_trichotomy i j with l | l | l
  · exact absurd h1 (g2 i l)
  · rw [l]
  · exact absurd g1 (h2 j l)
theorem take_get {α : Type} {l : List α} {i : Nat} {x : α} (h : l[i]? = some x) : l.take (i + 1) = l.take i ++ [x] := by
 rw [List.take_add_one, h]; rfl
theorem getD_get {cs : List (List Nat)} {i : Nat} {c : List Nat} (h : cs[i]? = some c) : cs.getD i [] = c := by
 rw [List.getD_eq_getElem?_getD, h]; rfl
theorem runN_succ {N : Nat} {cs : List (List Nat)} {i : Nat} {c : List Nat} (h : cs[i]? = some c) : runN N (cs.take (i + 1)) = stepR (runN N (cs.take i)) c := by
 rw [take_get h, runN, runL_app]; rfl
theorem fail_sum {N : Nat} (cs : List (List Nat)) : ∀ i, i ≤ cs.length → (failN N (cs.take i) = 0 ↔ ∀ j, j < i → ¬ ringAt N cs j)
 | 0, _ => ⟨fun _ j hj => absurd hj (Nat.not_lt_zero _), fun _ => by rw [List.take_zero]; rfl⟩
 |
  i + 1, h => by
  have hx := List.getElem?_eq_getElem (show i < cs.length by omega)
  have ih := fail_sum cs i (by omega) (N := N)
  have e : failN N (cs.take (i + 1)) = failN N (cs.take i) + failR (runN N (cs.take i)) (cs.getD i []) := by
   rw [take_get hx, failN, failL_app, getD_get hx, failL, failL]; rfl
  rw [e]
  constructor
  ·
   intro g j hj
   by_cases hji : j = i
   · subst hji; unfold ringAt; omega
   · exact ih.1 (by omega) j (by omega)
  ·
   intro g
   have g1 := ih.2 fun j hj => g j (by omega)
   have g2 := g i (by omega)
   unfold ringAt at g2
   omega
theorem IsFst.forest {N : Nat} {cs : List (List Nat)} {k : Int} (h : IsFst N cs k) : k < 0 ↔ failN N cs = 0 := by
 have h1 := fail_sum (N := N) cs cs.length (Nat.le_refl _)
 rw [List.take_length] at h1
 rw [h1]
 rcases h with ⟨rfl, h⟩ | ⟨i, rfl, hi, h2, _⟩
 · exact ⟨fun _ => h, fun _ => by omega⟩
 · exact ⟨fun g => absurd g (by omega), fun g => absurd h2 (g i hi)⟩
theorem ring_app {N : Nat} {a b : List (List Nat)} {i : Nat} (hi : i < a.length) : ringAt N (a ++ b) i ↔ ringAt N a i := by
 unfold ringAt
 rw [List.take_append_of_le_length (by omega), List.getD_eq_getElem?_getD, List.getD_eq_getElem?_getD, List.getElem?_append_left hi]
theorem ring_take {N : Nat} {a : List (List Nat)} {i k : Nat} (hi : i < k) : ringAt N (a.take k) i ↔ ringAt N a i := by
 unfold ringAt
 rw [List.take_take, Nat.min_eq_left (by omega), List.getD_eq_getElem?_getD, List.getD_eq_getElem?_getD, List.getElem?_take, if_pos hi]
theorem IsFst.more {N : Nat} {a b : List (List Nat)} {k m : Int} (h : IsFst N a k) (g : IsFst N (a ++ b) m) : (0 ≤ k → m = k) ∧ (k < 0 → m < 0 ∨ (a.length : Int) ≤ m) := by
 rcases h with ⟨rfl, h⟩ | ⟨i, rfl, hi, h1, h2⟩
 ·
  refine ⟨fun e => absurd e (by omega), fun _ => ?_⟩
  rcases g with ⟨rfl, _⟩ | ⟨j, rfl, hj, g1, _⟩
  · left; omega
  ·
   right
   rcases Nat.lt_or_ge j a.length with l | l
   · exact absurd ((ring_app l).1 g1) (h j l)
   · omega
 ·
  refine ⟨fun _ => ?_, fun e => absurd e (by omega)⟩
  refine g.uniq (.inr ⟨i, rfl, by rw [List.length_append]; omega, (ring_app hi).2 h1, fun j hj => ?_⟩)
  exact fun e => h2 j hj ((ring_app (by omega)).1 e)
theorem IsFst.ahead {N : Nat} {a : List (List Nat)} {k : Nat} {m : Int} (h : IsFst N a (k : Int)) (g : IsFst N (a.take k) m) : m < 0 := by
 rcases h with ⟨e, _⟩ | ⟨i, e, hi, _, h2⟩
 · omega
 ·
  have : i = k := by omega
  subst this
  rcases g with ⟨rfl, _⟩ | ⟨j, rfl, hj, g1, _⟩
  · omega
  ·
   have hj2 : j < i := by rw [List.length_take] at hj; omega
   exact absurd ((ring_take hj2).1 g1) (h2 j hj2)
end Go.Proofs.Ytjbhhccklfddaaa

namespace Go.Proofs.Ytjbhhccklfddaaa
set_option maxRecDepth 20000
open Go.RowKit
def inum (x : Nat) : Value := .int .i64 (x : Int)
structure IRow (w : World) (A : Option Addr) (n : Nat) (l : List Nat) : Prop where
 len : l.length = n
 mem : 0 < n → ∃ b off, A = some ⟨b, off, none⟩ ∧ b < w.heap.size ∧ ∀ j, j < n → w.cell? ⟨b, off + j, none⟩ = some (.int .i64 ((rt l j : Nat) : Int))
theorem IRow.below {w w' : World} {n : Nat} {A : Option Addr} {l : List Nat} (h : IRow w A n l) (hb : Below w.heap.size w w') : IRow w' A n l :=
 ⟨h.len, fun hn => by
  obtain ⟨b, off, e, h1, hc⟩ := h.mem hn
  exact ⟨b, off, e, Nat.lt_of_lt_of_le h1 hb.size, fun j hj => (hb.cell h1).trans (hc j hj)⟩⟩
theorem Try.info3 : (Try.prog.info? 3).map (fun i => (i.zero, i.size, i.bytes)) = some (some (.int .i64 0), 1, 8) := by kernel_rfl
theorem Try.size3 : (Try.prog.info? 3).map (·.size) = some 1 := by kernel_rfl
structure OwnN (w : World) (lo : Nat) (A : Option Addr) (c n : Nat) (l : List Nat) : Prop where
 own : w.ownsRow lo 3 1 (.slice A n c) n (l.map inum)
section
variable {w w' : World} {lo lo' n c : Nat} {A : Option Addr} {l : List Nat}
theorem OwnN.len (h : OwnN w lo A c n l) : l.length = n := by simpa using h.own.1
theorem OwnN.form (h : OwnN w lo A c n l) (hn : 0 < n) : ∃ g, A = some ⟨g, 0, none⟩ ∧ lo ≤ g ∧ g < w.heap.size := by
 obtain ⟨g, cap, hv, hb, hlt⟩ := h.own.form hn
 injection hv with hA
 exact ⟨g, hA, hb, hlt⟩
theorem OwnN.capLe (h : OwnN w lo A c n l) : n ≤ c := by
 rcases h.own.2 with ⟨hv, hn⟩ | ⟨g, cap, cur, hv, _, _, hc, _⟩
 · omega
 · injection hv with _ _ hc2; omega
theorem getD_map_inum (l : List Nat) (j : Nat) (hj : j < l.length) : (l.map inum)[j]? = some (.int .i64 ((rt l j : Nat) : Int)) := by
 simp [inum, rt_eq, hj]
theorem OwnN.row (h : OwnN w lo A c n l) : IRow w A n l := by
 refine ⟨h.len, fun hn => ?_⟩
 obtain ⟨g, rfl, h1, h2⟩ := h.form hn
 refine ⟨g, 0, rfl, h2, fun j hj => ?_⟩
 rw [Nat.zero_add, h.own.cellAt j (by omega)]
 exact getD_map_inum l j (by rw [h.len]; exact hj)
theorem OwnN.cell {g j : Nat} (h : OwnN w lo (some ⟨g, 0, none⟩) c n l) (hj : j < n) : w.cell? ⟨g, j, none⟩ = some (.int .i64 ((rt l j : Nat) : Int)) := by
 rw [h.own.cellAt j (by omega)]
 exact getD_map_inum l j (by rw [h.len]; exact hj)
theorem OwnN.nil_ (w : World) (lo : Nat) : OwnN w lo none 0 0 [] := ⟨World.ownsRow_nil w lo _ 1⟩
theorem OwnN.grown (h : OwnN w lo A c n l) {row : Option Nat} (hg : w.grownBy w' row) (hne : ∀ ad, A = some ad → some ad.block ≠ row) : OwnN w' lo A c n l := by
 refine ⟨h.own.kept hg ?_⟩
 cases A with
 | none => left; rfl
 | some ad => right; exact hne ad rfl
theorem OwnN.below (h : OwnN w lo A c n l) (hb : Below w.heap.size w w') : OwnN w' lo A c n l := h.grown (grown_of_below hb) (fun _ _ => by simp)
theorem OwnN.drew (h : OwnN w lo A c n l) : OwnN w.drew lo A c n l := h.below ⟨rfl, rfl, rfl, Nat.le_refl _, fun _ _ => rfl⟩
theorem OwnN.alloc (h : OwnN w lo A c n l) (o : Obj) : OwnN (w.alloc o) lo A c n l := h.below ((Below.refl _ _).alloc (Nat.le_refl _) o)
theorem OwnN.lower (h : OwnN w lo A c n l) (hl : lo' ≤ lo) : OwnN w lo' A c n l := by
 refine ⟨h.own.1, ?_⟩
 rcases h.own.2 with hn | ⟨g, cap, cur, hv, hb, rest⟩
 · exact .inl hn
 · exact .inr ⟨g, cap, cur, hv, by omega, rest⟩
theorem OwnN.thaw {g : Nat} (h : OwnN w lo (some ⟨g, 0, none⟩) c n l) (j : Nat) : w.frozen? ⟨g, j, none⟩ = false := h.own.frozenAt _
theorem OwnN.lt {g : Nat} (h : OwnN w lo (some ⟨g, 0, none⟩) c n l) : lo ≤ g ∧ g < w.heap.size := h.own.lt g rfl
theorem OwnN.set {g : Nat} (h : OwnN w lo (some ⟨g, 0, none⟩) c n l) (j x : Nat) : OwnN (w.setCell ⟨g, j, none⟩ (.int .i64 (x : Int))) lo (some ⟨g, 0, none⟩) c n (l.set j x) := by
 refine ⟨?_⟩
 have := h.own.stored j (inum x)
 rw [List.map_set]
 exact this.1
theorem set_grown (w : World) (g j : Nat) (x : Value) : w.grownBy (w.setCell ⟨g, j, none⟩ x) (some g) :=
 ⟨rfl, rfl, rfl, by simp [World.setCell], fun k _ hk => heap_setCell_other w ⟨g, j, none⟩ k x (fun e => hk (by simp [e]))⟩
theorem OwnN.made (hg : w'.ownsRow lo 3 1 (.slice A n c) n (madeCells #[.int .i64 0] n).toList) : OwnN w' lo A c n (List.replicate n 0) := by
 refine ⟨?_⟩
 have e : (madeCells #[.int .i64 0] n).toList = (List.replicate n 0).map inum := by
  rw [toList_madeCells_one]; simp [inum]
 rw [← e]; exact hg
end
theorem IRow.src {w : World} {n : Nat} {A : Option Addr} {l : List Nat} (h : IRow w A n l) {ad : Addr} (hA : A = some ad) : ∀ j v, (l.map inum)[j]? = some v → w.cell? (ad.add j) = some v := by
 intro j v hv
 have hj : j < l.length := by
  have := (List.getElem?_eq_some_iff.1 hv).1
  simpa using this
 have hlen := h.len
 obtain ⟨b, off, e, h2, hc⟩ := h.mem (by omega)
 rw [hA] at e
 injection e with e
 subst e
 rw [getD_map_inum l j hj] at hv
 rw [← hv, ← hc j (by omega)]
 congr 1
 unfold Addr.add
 split
 · subst_vars; simp
 · rfl
theorem inum_one (l : List Nat) : ∀ u ∈ l.map inum, u.oneCell' = true := fun v hv => by
 obtain ⟨x, _, rfl⟩ := List.mem_map.1 hv
 rfl
theorem wpn_append {w : World} {ops : Array Oper} {rest : List Oper} {o : Oper} {a : Act} {Q : Exit → Act → World → Prop} (hgd : o.guard = none) (s x : Operand)
  (ho : o.op = .call { callee := .builtin .append, args := #[s, x], argTypes := #[23, 23] })
  {A : Option Addr} {ad : Addr} {lo n m c c' : Nat} {l k : List Nat} (hs : a.eval s = .slice A n c) (hx : a.eval x = .slice (some ad) m c')
  (h1 : OwnN w lo A c n l) (h2 : IRow w (some ad) m k) (hm : n + m ≤ 2000000) (hlo : lo ≤ w.heap.size)
  (h : ∀ A2 c2 w', OwnN w' lo A2 c2 (n + m) (l ++ k) → w.grownBy w' (A.map (·.block)) → wpList Try.prog ops Q rest (a.put o.dst (.slice A2 (n + m) c2)) w') :
  wpList Try.prog ops Q (o :: rest) a w := by
 obtain ⟨i0, hi, hz0, hz1, hz2⟩ := info_parts Try.info3
 have hk := h2.len
 have hlen := h1.len
 have eb : (Value.slice A n c).ownBlock = A.map (·.block) := by cases A <;> rfl
 refine wpList_append_own w hgd s x _ ho lo 3 i0 (.int .i64 0) 1 8 Try.underlying23 hi hz0 hz1 hz2 rfl (by omega) _ n _ hs h1.own ad m c' (k.map inum) hx (by simp [hk]) (h2.src rfl) (inum_one k) (by unfold maxLen; omega) (by omega) hlo ?_
 intro v' w' ho' hg' _
 rw [eb] at hg'
 have ho2 := ho'
 rw [← List.map_append] at ho2
 rcases ho'.2 with ⟨rfl, h0⟩ | ⟨g, cap, cur, rfl, _⟩
 ·
  have e : n + m = 0 := h0
  have hh := h none 0 w' ⟨by rw [e] at ho2 ⊢; exact ho2⟩ hg'
  rw [e] at hh; exact hh
 · exact h _ _ w' ⟨ho2⟩ hg'
theorem IRow.one {w : World} (x : Nat) : IRow (w.alloc (.cells #[.int .i64 (x : Int)] 3)) (some ⟨w.heap.size, 0, none⟩) 1 [x] :=
 ⟨rfl, fun _ => ⟨w.heap.size, 0, rfl, by simp, fun j hj => by
  have : j = 0 := by omega
  subst this
  rw [World.cell?_alloc_at _ _ _ _ rfl]; rfl⟩⟩
end Go.Proofs.Ytjbhhccklfddaaa

namespace Go.Proofs.Ytjbhhccklfddaaa
set_option maxRecDepth 20000
open Go.RowKit
def bndN (n : Int) : Nat := (min (max n 0) 64).toNat
theorem bndN_int (n : Int) : ((bndN n : Nat) : Int) = min (max n 0) 64 := by unfold bndN; omega
theorem bndN_le (n : Int) : bndN n ≤ 64 := by unfold bndN; omega
def halfR (N k : Nat) : List Nat := List.range k ++ List.replicate (N - k) 0
theorem halfR_step {N k : Nat} (h : k < N) : (halfR N k).set k k = halfR N (k + 1) := by
 unfold halfR
 rw [List.set_append_right _ _ (by simp), List.length_range, Nat.sub_self, List.range_succ, List.append_assoc, show N - k = (N - (k + 1)) + 1 by omega, List.replicate_succ]
 rfl
theorem halfR_all (N : Nat) : halfR N N = List.range N := by unfold halfR; rw [Nat.sub_self]; simp
set_option maxHeartbeats 3200000 in
theorem alone_c (n : Int) (N : Nat) (hN : bndN n = N) (w : World) : Calls Try.prog 75 #[.int .i64 n] w fun e w' => ∃ g, e = .returned (.slice (some ⟨g, 0, none⟩) N N) ∧ OwnN w' w.heap.size (some ⟨g, 0, none⟩) N N (List.range N) ∧ Below w.heap.size w w' := by
 obtain ⟨i0, hi, hz0, hz1, hz2⟩ := info_parts Try.info3
 have h64 := bndN_le n
 rw [hN] at h64
 have HN := Lib.hid hN
 clear hN
 go_enter Try.func75, Try.ntmps75
 go_upto_region 1 with fail
 go_cut [3] (fun v wx => ∃ g, v = .slice (some ⟨g, 0, none⟩) N N ∧ Hid (OwnN wx w.heap.size (some ⟨g, 0, none⟩) N N (List.replicate N 0) ∧ Below w.heap.size w wx))
 case first =>
  have hn1 := bndN_int n
  rw [HN.out] at hn1
  by_cases h1 : n < 0
  ·
   have e : N = 0 := by omega
   clear hn1 HN
   subst e
   go_wp2_with (at_make; refine wpList_make_full _ rfl _ _ _ rfl w.heap.size 3 i0 (.int .i64 0) 1 Try.underlying100 hi hz0 hz1 .i64 .i64 _ _ 0 rfl rfl (by first | rfl | omega) (by first | rfl | omega) (by first | omega | (rw [hz2]; omega)) (by unfold maxLen; omega) (Nat.le_refl _) ?_)
   intro w1 ho hg
   have HO : Hid (OwnN w1 w.heap.size (some ⟨w.heap.size, 0, none⟩) 0 0 (List.replicate 0 0) ∧ Below w.heap.size w w1) := ⟨OwnN.made ho, below_of_grown hg⟩
   clear ho hg
   go_wp2
   go_meet
   exact ⟨_, rfl, HO⟩
  ·
   by_cases h2 : 64 < n
   ·
    have e : N = 64 := by omega
    clear hn1 HN
    subst e
    go_wp2_with (at_make; refine wpList_make_full _ rfl _ _ _ rfl w.heap.size 3 i0 (.int .i64 0) 1 Try.underlying100 hi hz0 hz1 .i64 .i64 _ _ 64 rfl rfl (by first | rfl | omega) (by first | rfl | omega) (by first | omega | (rw [hz2]; omega)) (by unfold maxLen; omega) (Nat.le_refl _) ?_)
    intro w1 ho hg
    have HO : Hid (OwnN w1 w.heap.size (some ⟨w.heap.size, 0, none⟩) 64 64 (List.replicate 64 0) ∧ Below w.heap.size w w1) := ⟨OwnN.made ho, below_of_grown hg⟩
    clear ho hg
    go_wp2
    go_meet
    exact ⟨_, rfl, HO⟩
   ·
    have e : n = (N : Int) := by omega
    clear hn1 HN
    subst e
    go_wp2_with (at_make; refine wpList_make_full _ rfl _ _ _ rfl w.heap.size 3 i0 (.int .i64 0) 1 Try.underlying100 hi hz0 hz1 .i64 .i64 _ _ N rfl rfl (by first | rfl | omega) (by first | rfl | omega) (by first | omega | (rw [hz2]; omega)) (by unfold maxLen; omega) (Nat.le_refl _) ?_)
    intro w1 ho hg
    have HO : Hid (OwnN w1 w.heap.size (some ⟨w.heap.size, 0, none⟩) N N (List.replicate N 0) ∧ Below w.heap.size w w1) := ⟨OwnN.made ho, below_of_grown hg⟩
    clear ho hg
    go_wp2
    go_meet
    exact ⟨_, rfl, HO⟩
 case rest =>
  obtain ⟨g, rfl, HO⟩ := hcut
  clear HN
  have n1 : (N : Int) ≤ 64 := by omega
  have n0 : (0 : Int) ≤ (N : Int) := by omega
  go_wp2
  go_loopw [4, 11] (fun _ iv wr => ∃ k : Nat, k ≤ N ∧ iv = .int .i64 k ∧ Hid (OwnN wr w.heap.size (some ⟨g, 0, none⟩) N N (halfR N k) ∧ Below w.heap.size w wr)) (fun _ iv _ => N - (intOf iv).toNat)
  case atStart => exact ⟨0, Nat.zero_le _, rfl, HO⟩
  case round =>
   clear HO
   obtain ⟨k, hk, rfl, HO⟩ := hrel
   have k0 : (0 : Int) ≤ (k : Int) := by omega
   by_cases hlt : k < N
   ·
    have k1 : (k : Int) < (N : Int) := by omega
    have c0 := HO.out.1.cell hlt
    have t0 := HO.out.1.thaw k
    have HO2 : Hid (OwnN (wr.setCell ⟨g, k, none⟩ (.int .i64 (k : Int))) w.heap.size (some ⟨g, 0, none⟩) N N (halfR N (k + 1)) ∧ Below w.heap.size w (wr.setCell ⟨g, k, none⟩ (.int .i64 (k : Int)))) :=
     ⟨halfR_step hlt ▸ HO.out.1.set k k, HO.out.2.trans (below_of_grown_row (set_grown wr g k _) (by obtain ⟨g', e, h1, _⟩ := HO.out.1.form (by omega); injection e with e; injection e with e; omega) HO.out.2.size)⟩
    go_wp2
    go_roundw
    case rel => exact ⟨k + 1, by omega, by go_num, HO2⟩
    case measure => simp [intOf]; omega
   ·
    have e : k = N := by omega
    have k1 : ¬ (k : Int) < (N : Int) := by omega
    have HO2 : Hid (OwnN wr w.heap.size (some ⟨g, 0, none⟩) N N (List.range N) ∧ Below w.heap.size w wr) := by
     have := HO.out
     rw [e, halfR_all] at this
     exact this
    clear e HO
    go_wp2
    go_ret
    exact ⟨g, rfl, HO2.out.1, HO2.out.2⟩
end Go.Proofs.Ytjbhhccklfddaaa
