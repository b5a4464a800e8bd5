/-
  Variables that are joined, no program: roots, what joins them, how many there are.
-/
import Derived.WalkKit
namespace Go.Proofs.Ytkfkjdpkkagjgaa
set_option maxRecDepth 20000

/-- The root of a variable. -/
def rt (r : List Nat) (v : Nat) : Nat := r.getD v 0
theorem rt_eq (r : List Nat) (v : Nat) : rt r v = r[v]?.getD 0 := by unfold rt; rw [List.getD_eq_getElem?_getD]
theorem rt_get {r : List Nat} {v : Nat} (h : v < r.length) : r[v]? = some (rt r v) := by rw [rt_eq, List.getElem?_eq_getElem h]; rfl
theorem rt_ext {r s : List Nat} (hl : r.length = s.length) (h : ∀ v, v < r.length → rt r v = rt s v) : r = s := by
  apply List.ext_getElem? ; intro i
  by_cases hi : i < r.length
  · rw [rt_get hi, rt_get (hl ▸ hi), h i hi]
  · rw [List.getElem?_eq_none (by omega), List.getElem?_eq_none (by omega)]
/-- The root hi turned to lo. -/
def trn (lo hi z : Nat) : Nat := if z = hi then lo else z
/-- One root of two: the greater one is turned to the less. -/
def mrg (r : List Nat) (a b : Nat) : List Nat := r.map (trn (min (rt r a) (rt r b)) (max (rt r a) (rt r b)))
theorem mrg_len (r : List Nat) (a b : Nat) : (mrg r a b).length = r.length := List.length_map ..
theorem rt_mrg (r : List Nat) (a b v : Nat) : rt (mrg r a b) v = trn (min (rt r a) (rt r b)) (max (rt r a) (rt r b)) (rt r v) := by
  by_cases hv : v < r.length
  · rw [rt_eq (mrg r a b), mrg, List.getElem?_map, rt_get hv]; rfl
  · have e : rt r v = 0 := by rw [rt_eq, List.getElem?_eq_none (by omega)]; rfl
    rw [rt_eq (mrg r a b), mrg, List.getElem?_map, List.getElem?_eq_none (by omega), e]
    show 0 = _
    unfold trn
    split <;> omega
theorem mrg_same {r : List Nat} {a b : Nat} (h : rt r a = rt r b) : mrg r a b = r := by
  apply rt_ext (mrg_len ..)
  intro v _
  rw [rt_mrg, h]
  unfold trn
  split <;> omega
/-- r holds the roots of N variables, of which K says what has one root with what. -/
structure Rts (N : Nat) (r : List Nat) (K : (Nat → Nat) → Prop) : Prop where
  len : r.length = N
  le : ∀ v, v < N → rt r v ≤ v
  idem : ∀ v, v < N → rt r (rt r v) = rt r v
  resp : K (rt r)
  sep : ∀ u v, u < N → v < N → rt r u = rt r v → ∀ f, K f → f u = f v
theorem Rts.same {N : Nat} {r s : List Nat} {K L : (Nat → Nat) → Prop} (h : Rts N r K) (g : Rts N s L) (e : ∀ f, K f ↔ L f) : r = s := by
  apply rt_ext (h.len.trans g.len.symm)
  intro v hv
  rw [h.len] at hv
  have one : ∀ {r s : List Nat} {K L : (Nat → Nat) → Prop}, Rts N r K → Rts N s L → (∀ f, K f ↔ L f) → rt s v ≤ rt r v := fun {r s K L} h g e => by
    have h1 := h.le v hv
    have h2 := h.sep (rt r v) v (by omega) hv (h.idem v hv) (rt s) ((e _).2 g.resp)
    rw [← h2]
    exact g.le _ (by omega)
  exact Nat.le_antisymm (one g h fun f => (e f).symm) (one h g e)
theorem Rts.turn {N : Nat} {r : List Nat} {K L : (Nat → Nat) → Prop} (h : Rts N r K) (e : ∀ f, K f ↔ L f) : Rts N r L :=
  ⟨h.len, h.le, h.idem, (e _).1 h.resp, fun u v hu hv hr f hf => h.sep u v hu hv hr f ((e f).2 hf)⟩
theorem rt_range {N v : Nat} (h : v < N) : rt (List.range N) v = v := by
  rw [rt_eq, List.getElem?_range h]; rfl
theorem Rts.start (N : Nat) : Rts N (List.range N) (fun _ => True) :=
  ⟨List.length_range, fun v hv => by rw [rt_range hv]; exact Nat.le_refl _, fun v hv => by rw [rt_range hv, rt_range hv], trivial,
    fun u v hu hv h f _ => by rw [rt_range hu, rt_range hv] at h; rw [h]⟩
/-- What is told by K is told of what is put behind a function, too. -/
def Clo1 (K : (Nat → Nat) → Prop) : Prop := ∀ f g : Nat → Nat, K f → K fun v => g (f v)
theorem Rts.mrg {N : Nat} {r : List Nat} {K : (Nat → Nat) → Prop} (h : Rts N r K) (hK : Clo1 K) {a b : Nat} (ha : a < N) (hb : b < N) :
    Rts N (mrg r a b) (fun f => K f ∧ f a = f b) := by
  have hra := h.le a ha
  have hrb := h.le b hb
  have ia := h.idem a ha
  have ib := h.idem b hb
  refine ⟨(mrg_len ..).trans h.len, fun v hv => ?_, fun v hv => ?_, ⟨?_, ?_⟩, fun u v hu hv e f hf => ?_⟩
  · have := h.le v hv
    rw [rt_mrg]
    unfold trn
    split <;> omega
  · have hm : rt r (min (rt r a) (rt r b)) = min (rt r a) (rt r b) := by
      rcases Nat.le_total (rt r a) (rt r b) with g | g
      · rw [Nat.min_eq_left g, ia]
      · rw [Nat.min_eq_right g, ib]
    have hv' := h.idem v hv
    simp only [rt_mrg]
    unfold trn
    split
    · next e1 =>
      rw [hm]
      split <;> rfl
    · next e1 => rw [hv', if_neg e1]
  · have := hK (rt r) (trn (min (rt r a) (rt r b)) (max (rt r a) (rt r b))) h.resp
    have e : rt (Go.Proofs.Ytkfkjdpkkagjgaa.mrg r a b) = fun v => trn (min (rt r a) (rt r b)) (max (rt r a) (rt r b)) (rt r v) := funext fun v => rt_mrg r a b v
    rw [e]
    exact this
  · rw [rt_mrg, rt_mrg]
    unfold trn
    split <;> split <;> omega
  · rw [rt_mrg, rt_mrg] at e
    have ab := hf.2
    have sx : ∀ x y, x < N → y < N → rt r x = rt r y → f x = f y := fun x y hx hy e => h.sep x y hx hy e f hf.1
    unfold trn at e
    have c : rt r u = rt r v ∨ (rt r u = rt r a ∧ rt r v = rt r b) ∨ (rt r u = rt r b ∧ rt r v = rt r a) := by
      split at e <;> split at e <;> omega
    rcases c with c | ⟨c, d⟩ | ⟨c, d⟩
    · exact sx u v hu hv c
    · rw [sx u a hu ha c, sx v b hv hb d, ab]
    · rw [sx u b hu hb c, sx v a hv ha d, ab]
/-- How many of the first n are not their own root. -/
def cnt (r : List Nat) : Nat → Nat
  | 0 => 0
  | n + 1 => cnt r n + (if rt r n < n then 1 else 0)
theorem cnt_mrg {N : Nat} {r : List Nat} {K : (Nat → Nat) → Prop} (h : Rts N r K) {a b : Nat} (ha : a < N) (hb : b < N) (hne : rt r a ≠ rt r b) :
    ∀ n, n ≤ N → cnt (mrg r a b) n = cnt r n + (if max (rt r a) (rt r b) < n then 1 else 0)
  | 0, _ => by simp [cnt]
  | n + 1, hn => by
    rw [cnt, cnt, cnt_mrg h ha hb hne n (by omega), rt_mrg]
    have h1 := h.le n (by omega)
    have ia := h.idem a ha
    have ib := h.idem b hb
    by_cases e : n = max (rt r a) (rt r b)
    · have e2 : rt r n = n := by
        rcases Nat.le_total (rt r a) (rt r b) with g | g
        · rw [e, Nat.max_eq_right g, ib]
        · rw [e, Nat.max_eq_left g, ia]
      unfold trn
      rw [if_pos (e2.trans e), if_neg (show ¬ max (rt r a) (rt r b) < n by omega), if_pos (show max (rt r a) (rt r b) < n + 1 by omega), if_neg (show ¬ rt r n < n by omega), if_pos (show min (rt r a) (rt r b) < n by omega)]
    · unfold trn
      by_cases e1 : rt r n = max (rt r a) (rt r b)
      · rw [if_pos e1, if_pos (show min (rt r a) (rt r b) < n by omega), if_pos (show rt r n < n by omega), if_pos (show max (rt r a) (rt r b) < n by omega), if_pos (show max (rt r a) (rt r b) < n + 1 by omega)]
      · rw [if_neg e1]
        by_cases e3 : max (rt r a) (rt r b) < n
        · rw [if_pos e3, if_pos (show max (rt r a) (rt r b) < n + 1 by omega)]; omega
        · rw [if_neg e3, if_neg (show ¬ max (rt r a) (rt r b) < n + 1 by omega)]; omega
theorem cnt_range (N : Nat) : ∀ n, n ≤ N → cnt (List.range N) n = 0
  | 0, _ => rfl
  | n + 1, h => by rw [cnt, cnt_range N n (by omega), rt_range (by omega), if_neg (by omega)]
/-- The place j of a constraint's variables. -/
def nth (c : List Nat) (j : Nat) : Nat := c.getD j 0
theorem nth_get {c : List Nat} {j : Nat} (h : j < c.length) : c[j]? = some (nth c j) := by
  unfold nth; rw [List.getD_eq_getElem?_getD, List.getElem?_eq_getElem h]; rfl
theorem nth_mem {c : List Nat} {j : Nat} (h : j < c.length) : nth c j ∈ c := List.mem_of_getElem? (nth_get h)
theorem mem_nth {c : List Nat} {u : Nat} (h : u ∈ c) : ∃ j, j < c.length ∧ nth c j = u := by
  obtain ⟨j, hj, e⟩ := List.getElem_of_mem h
  refine ⟨j, hj, ?_⟩
  have := nth_get hj
  rw [List.getElem?_eq_getElem hj, e] at this
  injection this with this
  exact this.symm
/-- The first k neighbours of c joined, and how often two had one root. -/
def chainTo (r c : List Nat) : Nat → List Nat
  | 0 => r
  | k + 1 => mrg (chainTo r c k) (nth c k) (nth c (k + 1))
def failTo (r c : List Nat) : Nat → Nat
  | 0 => 0
  | k + 1 => failTo r c k + (if rt (chainTo r c k) (nth c k) = rt (chainTo r c k) (nth c (k + 1)) then 1 else 0)
def stepR (r c : List Nat) : List Nat := chainTo r c (c.length - 1)
def failR (r c : List Nat) : Nat := failTo r c (c.length - 1)
/-- The first k of c joined to its first one. -/
def starTo (r c : List Nat) : Nat → List Nat
  | 0 => r
  | k + 1 => mrg (starTo r c k) (nth c 0) (nth c (k + 1))
theorem Clo1.and {K : (Nat → Nat) → Prop} (h : Clo1 K) (a b : Nat) : Clo1 fun f => K f ∧ f a = f b := fun f g hf => ⟨h f g hf.1, by show g (f a) = g (f b); rw [hf.2]⟩
theorem chain_rts {N : Nat} {r c : List Nat} {K : (Nat → Nat) → Prop} (h : Rts N r K) (hK : Clo1 K) (hc : ∀ v ∈ c, v < N) :
    ∀ k, k < c.length → ∃ L, Clo1 L ∧ Rts N (chainTo r c k) L ∧ ∀ f, L f ↔ K f ∧ ∀ j, j ≤ k → f (nth c j) = f (nth c 0)
  | 0, _ => ⟨K, hK, h, fun f => ⟨fun g => ⟨g, fun j hj => by rw [show j = 0 by omega]⟩, fun g => g.1⟩⟩
  | k + 1, hk => by
    obtain ⟨L, hL, hR, e⟩ := chain_rts h hK hc k (by omega)
    refine ⟨_, hL.and _ _, hR.mrg hL (hc _ (nth_mem (show k < c.length by omega))) (hc _ (nth_mem hk)), fun f => ?_⟩
    constructor
    · rintro ⟨g1, g2⟩
      obtain ⟨g3, g4⟩ := (e f).1 g1
      refine ⟨g3, fun j hj => ?_⟩
      by_cases hjk : j ≤ k
      · exact g4 j hjk
      · rw [show j = k + 1 by omega, ← g2]; exact g4 k (Nat.le_refl _)
    · rintro ⟨g1, g2⟩
      exact ⟨(e f).2 ⟨g1, fun j hj => g2 j (by omega)⟩, (g2 k (by omega)).trans (g2 (k + 1) (Nat.le_refl _)).symm⟩
theorem star_rts {N : Nat} {r c : List Nat} {K : (Nat → Nat) → Prop} (h : Rts N r K) (hK : Clo1 K) (hc : ∀ v ∈ c, v < N) :
    ∀ k, k < c.length → ∃ L, Clo1 L ∧ Rts N (starTo r c k) L ∧ ∀ f, L f ↔ K f ∧ ∀ j, j ≤ k → f (nth c j) = f (nth c 0)
  | 0, _ => ⟨K, hK, h, fun f => ⟨fun g => ⟨g, fun j hj => by rw [show j = 0 by omega]⟩, fun g => g.1⟩⟩
  | k + 1, hk => by
    obtain ⟨L, hL, hR, e⟩ := star_rts h hK hc k (by omega)
    refine ⟨_, hL.and _ _, hR.mrg hL (hc _ (nth_mem (show 0 < c.length by omega))) (hc _ (nth_mem hk)), fun f => ?_⟩
    constructor
    · rintro ⟨g1, g2⟩
      obtain ⟨g3, g4⟩ := (e f).1 g1
      refine ⟨g3, fun j hj => ?_⟩
      by_cases hjk : j ≤ k
      · exact g4 j hjk
      · rw [show j = k + 1 by omega, ← g2]
    · rintro ⟨g1, g2⟩
      exact ⟨(e f).2 ⟨g1, fun j hj => g2 j (by omega)⟩, (g2 (k + 1) (Nat.le_refl _)).symm⟩
theorem star_chain {N : Nat} {r c : List Nat} {K : (Nat → Nat) → Prop} (h : Rts N r K) (hK : Clo1 K) (hc : ∀ v ∈ c, v < N) {k : Nat} (hk : k < c.length) : starTo r c k = chainTo r c k := by
  obtain ⟨L, _, g1, e1⟩ := star_rts h hK hc k hk
  obtain ⟨M, _, g2, e2⟩ := chain_rts h hK hc k hk
  exact g1.same g2 fun f => (e1 f).trans (e2 f).symm
theorem star_step {N : Nat} {r c : List Nat} {K : (Nat → Nat) → Prop} (h : Rts N r K) (hK : Clo1 K) (hc : ∀ v ∈ c, v < N) : starTo r c (c.length - 1) = stepR r c := by
  cases c with
  | nil => rfl
  | cons x c => exact star_chain h hK hc (by rw [List.length_cons]; omega)
theorem step_rts {N : Nat} {r c : List Nat} {K : (Nat → Nat) → Prop} (h : Rts N r K) (hK : Clo1 K) (hc : ∀ v ∈ c, v < N) :
    ∃ L, Clo1 L ∧ Rts N (stepR r c) L ∧ ∀ f, L f ↔ K f ∧ ∀ u ∈ c, ∀ v ∈ c, f u = f v := by
  cases hcl : c with
  | nil => exact ⟨K, hK, h, fun f => ⟨fun g => ⟨g, fun u hu => by cases hu⟩, fun g => g.1⟩⟩
  | cons x c' =>
    rw [← hcl]
    have hl : 0 < c.length := by rw [hcl, List.length_cons]; omega
    obtain ⟨L, hL, hR, e⟩ := chain_rts h hK hc (c.length - 1) (by omega)
    refine ⟨L, hL, hR, fun f => (e f).trans ?_⟩
    constructor
    · rintro ⟨g1, g2⟩
      refine ⟨g1, fun u hu v hv => ?_⟩
      obtain ⟨i, hi, rfl⟩ := mem_nth hu
      obtain ⟨j, hj, rfl⟩ := mem_nth hv
      exact (g2 i (by omega)).trans (g2 j (by omega)).symm
    · rintro ⟨g1, g2⟩
      exact ⟨g1, fun j hj => g2 _ (nth_mem (by omega)) _ (nth_mem hl)⟩
theorem cnt_chain {N : Nat} {r c : List Nat} {K : (Nat → Nat) → Prop} (h : Rts N r K) (hK : Clo1 K) (hc : ∀ v ∈ c, v < N) :
    ∀ k, k < c.length → cnt (chainTo r c k) N + failTo r c k = cnt r N + k
  | 0, _ => rfl
  | k + 1, hk => by
    have ih := cnt_chain h hK hc k (by omega)
    obtain ⟨L, hL, hR, e⟩ := chain_rts h hK hc k (by omega)
    rw [chainTo, failTo]
    have h1 := hc _ (nth_mem (show k < c.length by omega))
    have h2 := hc _ (nth_mem hk)
    by_cases e : rt (chainTo r c k) (nth c k) = rt (chainTo r c k) (nth c (k + 1))
    · rw [mrg_same e, if_pos e]; omega
    · have g1 := hR.le _ h1
      have g2 := hR.le _ h2
      rw [cnt_mrg hR h1 h2 e N (Nat.le_refl _), if_neg e, if_pos (by omega)]; omega
theorem cnt_step {N : Nat} {r c : List Nat} {K : (Nat → Nat) → Prop} (h : Rts N r K) (hK : Clo1 K) (hc : ∀ v ∈ c, v < N) : cnt (stepR r c) N + failR r c = cnt r N + (c.length - 1) := by
  cases c with
  | nil => rfl
  | cons x c => exact cnt_chain h hK hc _ (by rw [List.length_cons]; omega)
/-- Of c's variables the first k have roots of their own each. -/
def Gapt (r c : List Nat) (k : Nat) : Prop := ∀ i j, i < j → j ≤ k → rt r (nth c i) ≠ rt r (nth c j)
theorem chain_apt {r c : List Nat} : ∀ k, Gapt r c k → failTo r c k = 0 ∧ (∃ i, i ≤ k ∧ rt (chainTo r c k) (nth c k) = rt r (nth c i)) ∧ ∀ v, (∀ i, i ≤ k → rt r v ≠ rt r (nth c i)) → rt (chainTo r c k) v = rt r v
  | 0, _ => ⟨rfl, ⟨0, Nat.le_refl _, rfl⟩, fun _ _ => rfl⟩
  | k + 1, h => by
    obtain ⟨h1, ⟨i, hi, h2⟩, h3⟩ := chain_apt k fun i j hij hj => h i j hij (by omega)
    have e1 : rt (chainTo r c k) (nth c (k + 1)) = rt r (nth c (k + 1)) := h3 _ fun i hi => (h i (k + 1) (by omega) (Nat.le_refl _)).symm
    have ne : rt (chainTo r c k) (nth c k) ≠ rt (chainTo r c k) (nth c (k + 1)) := by
      rw [h2, e1]; exact h i (k + 1) (by omega) (Nat.le_refl _)
    refine ⟨by rw [failTo, h1, if_neg ne], ?_, fun v hv => ?_⟩
    · rw [chainTo, rt_mrg, h2, e1]
      unfold trn
      rcases Nat.le_total (rt r (nth c i)) (rt r (nth c (k + 1))) with g | g
      · exact ⟨i, by omega, by rw [Nat.max_eq_right g, Nat.min_eq_left g, if_pos rfl]⟩
      · refine ⟨k + 1, Nat.le_refl _, ?_⟩
        rw [Nat.max_eq_left g, Nat.min_eq_right g, if_neg]
        rw [h2, e1] at ne
        exact fun e => ne e.symm
    · have ev := h3 v fun i hi => hv i (by omega)
      rw [chainTo, rt_mrg, ev, h2, e1]
      have d1 := hv i (by omega)
      have d2 := hv (k + 1) (Nat.le_refl _)
      unfold trn
      rw [if_neg (by omega)]
theorem fail_zero {r c : List Nat} : failR r c = 0 ↔ ∀ i j, i < j → j < c.length → rt r (nth c i) ≠ rt r (nth c j) := by
  constructor
  · intro h i j hij hj e
    -- equal roots stay equal, and the step that brings j in finds them so
    have keep : ∀ k u v, rt r u = rt r v → rt (chainTo r c k) u = rt (chainTo r c k) v := by
      intro k u v e
      induction k with
      | zero => exact e
      | succ k ih => rw [chainTo, rt_mrg, rt_mrg, ih]
    have one : ∀ k i, i ≤ k → rt (chainTo r c k) (nth c i) = rt (chainTo r c k) (nth c k) := by
      intro k
      induction k with
      | zero => intro i hi; rw [show i = 0 by omega]
      | succ k ih =>
        intro i hi
        by_cases hik : i ≤ k
        · rw [chainTo, rt_mrg, rt_mrg, ih i hik]
          unfold trn
          split <;> split <;> omega
        · rw [show i = k + 1 by omega]
    obtain ⟨k, rfl⟩ : ∃ k, j = k + 1 := ⟨j - 1, by omega⟩
    have mono : ∀ m, failTo r c (k + 1) ≤ failTo r c (k + 1 + m) := by
      intro m
      induction m with
      | zero => exact Nat.le_refl _
      | succ m ih => exact Nat.le_trans ih (by rw [← Nat.add_assoc, failTo]; omega)
    have h1 := mono (c.length - 1 - (k + 1))
    rw [show k + 1 + (c.length - 1 - (k + 1)) = c.length - 1 by omega] at h1
    have h2 : failTo r c (c.length - 1) = 0 := h
    have h3 : failTo r c (k + 1) = 0 := by omega
    rw [failTo, if_pos ((one k i (by omega)).symm.trans (keep k _ _ e))] at h3
    omega
  · intro h
    rcases Nat.eq_zero_or_pos c.length with h0 | h0
    · unfold failR; rw [h0]; rfl
    · exact (chain_apt (c.length - 1) fun i j hij hj => h i j hij (by omega)).1
/-- What constraints leave of roots, and how often two had one. -/
def runL (r : List Nat) (cs : List (List Nat)) : List Nat := cs.foldl stepR r
def failL (r : List Nat) : List (List Nat) → Nat
  | [] => 0
  | c :: cs => failR r c + failL (stepR r c) cs
theorem runL_app (r : List Nat) (a b : List (List Nat)) : runL r (a ++ b) = runL (runL r a) b := List.foldl_append ..
theorem failL_app : ∀ (r : List Nat) (a b : List (List Nat)), failL r (a ++ b) = failL r a + failL (runL r a) b
  | r, [], b => by rw [List.nil_append, failL, Nat.zero_add]; rfl
  | r, c :: a, b => by rw [List.cons_append, failL, failL, failL_app (stepR r c) a b, Nat.add_assoc]; rfl
def bnd (N : Nat) (cs : List (List Nat)) : Prop := ∀ c ∈ cs, ∀ v ∈ c, v < N
theorem run_rts {N : Nat} : ∀ {cs : List (List Nat)} {r : List Nat} {K : (Nat → Nat) → Prop}, Rts N r K → Clo1 K → bnd N cs →
    ∃ L, Clo1 L ∧ Rts N (runL r cs) L ∧ ∀ f, L f ↔ K f ∧ ∀ c ∈ cs, ∀ u ∈ c, ∀ v ∈ c, f u = f v
  | [], r, K, h, hK, _ => ⟨K, hK, h, fun f => ⟨fun g => ⟨g, fun c hc => by cases hc⟩, fun g => g.1⟩⟩
  | c :: cs, r, K, h, hK, hb => by
    obtain ⟨L, hL, hR, e⟩ := step_rts h hK (hb c List.mem_cons_self)
    obtain ⟨M, hM, hS, e2⟩ := run_rts hR hL (cs := cs) fun x hx => hb x (List.mem_cons_of_mem _ hx)
    refine ⟨M, hM, hS, fun f => (e2 f).trans ?_⟩
    constructor
    · rintro ⟨g1, g2⟩
      obtain ⟨g3, g4⟩ := (e f).1 g1
      refine ⟨g3, fun x hx => ?_⟩
      rcases List.mem_cons.1 hx with rfl | hx
      · exact g4
      · exact g2 x hx
    · rintro ⟨g1, g2⟩
      exact ⟨(e f).2 ⟨g1, g2 c List.mem_cons_self⟩, fun x hx => g2 x (List.mem_cons_of_mem _ hx)⟩
theorem clo_true : Clo1 fun _ => True := fun _ _ _ => trivial
/-- From variables by themselves. -/
def runN (N : Nat) (cs : List (List Nat)) : List Nat := runL (List.range N) cs
theorem runN_rts {N : Nat} {cs : List (List Nat)} (hb : bnd N cs) : ∃ L, Clo1 L ∧ Rts N (runN N cs) L ∧ ∀ f, L f ↔ ∀ c ∈ cs, ∀ u ∈ c, ∀ v ∈ c, f u = f v := by
  obtain ⟨L, h1, h2, h3⟩ := run_rts (Rts.start N) clo_true hb
  exact ⟨L, h1, h2, fun f => (h3 f).trans ⟨fun g => g.2, fun g => ⟨trivial, g⟩⟩⟩
theorem runN_len {N : Nat} {cs : List (List Nat)} (hb : bnd N cs) : (runN N cs).length = N := by
  obtain ⟨_, _, h, _⟩ := runN_rts hb
  exact h.len
theorem runN_mem {N : Nat} {cs ds : List (List Nat)} (hc : bnd N cs) (hm : ∀ c, c ∈ cs ↔ c ∈ ds) : runN N cs = runN N ds := by
  obtain ⟨K, _, h1, e1⟩ := runN_rts hc
  obtain ⟨L, _, h2, e2⟩ := runN_rts (N := N) (cs := ds) fun c h => hc c ((hm c).2 h)
  exact h1.same h2 fun f => (e1 f).trans ⟨fun g => ((e2 f).2 fun c h => g c ((hm c).2 h)), fun g c h => ((e2 f).1 g) c ((hm c).1 h)⟩
/-- How many joins there are. -/
def joinsL (cs : List (List Nat)) : Nat := (cs.map fun c => c.length - 1).sum
theorem total {N : Nat} : ∀ {cs : List (List Nat)} {r : List Nat} {K : (Nat → Nat) → Prop}, Rts N r K → Clo1 K → bnd N cs → cnt (runL r cs) N + failL r cs = cnt r N + joinsL cs
  | [], r, K, _, _, _ => rfl
  | c :: cs, r, K, h, hK, hb => by
    obtain ⟨L, hL, hR, _⟩ := step_rts h hK (hb c List.mem_cons_self)
    have h1 := cnt_step h hK (hb c List.mem_cons_self)
    have h2 := total hR hL (cs := cs) fun x hx => hb x (List.mem_cons_of_mem _ hx)
    have e : joinsL (c :: cs) = (c.length - 1) + joinsL cs := by unfold joinsL; rw [List.map_cons, List.sum_cons]
    have e2 : runL r (c :: cs) = runL (stepR r c) cs := rfl
    rw [e2, failL, e]; omega
def failN (N : Nat) (cs : List (List Nat)) : Nat := failL (List.range N) cs
theorem totalN {N : Nat} {cs : List (List Nat)} (hb : bnd N cs) : cnt (runN N cs) N + failN N cs = joinsL cs := by
  have := total (Rts.start N) clo_true hb
  rw [cnt_range N N (Nat.le_refl _), Nat.zero_add] at this
  exact this
theorem joins_perm {cs ds : List (List Nat)} (h : cs.Perm ds) : joinsL cs = joinsL ds := (h.map _).sum_nat
theorem fail_perm {N : Nat} {cs ds : List (List Nat)} (hc : bnd N cs) (h : cs.Perm ds) : failN N cs = failN N ds := by
  have h1 := totalN hc
  have h2 := totalN (N := N) (cs := ds) fun c g => hc c (h.mem_iff.2 g)
  rw [runN_mem hc fun c => h.mem_iff, joins_perm h] at h1
  omega
/-- Does the constraint of that place close a ring? -/
def ringAt (N : Nat) (cs : List (List Nat)) (i : Nat) : Prop := failR (runN N (cs.take i)) (cs.getD i []) ≠ 0
/-- k is the first place that does, -1 if there is none. -/
def IsFst (N : Nat) (cs : List (List Nat)) (k : Int) : Prop := (k = -1 ∧ ∀ i, i < cs.length → ¬ ringAt N cs i) ∨ ∃ i : Nat, k = (i : Int) ∧ i < cs.length ∧ ringAt N cs i ∧ ∀ j, j < i → ¬ ringAt N cs j
theorem IsFst.uniq {N : Nat} {cs : List (List Nat)} {k m : Int} (h : IsFst N cs k) (g : IsFst N cs m) : k = m := by
  rcases h with ⟨rfl, h⟩ | ⟨i, rfl, hi, h1, h2⟩ <;> rcases g with ⟨rfl, g⟩ | ⟨j, rfl, hj, g1, g2⟩
  · rfl
  · exact absurd g1 (h j hj)
  · exact absurd h1 (g i hi)
  · rcases Nat.lt_trichotomy i j with l | l | l
    · exact absurd h1 (g2 i l)
    · rw [l]
    · exact absurd g1 (h2 j l)
theorem take_get {α : Type} {l : List α} {i : Nat} {x : α} (h : l[i]? = some x) : l.take (i + 1) = l.take i ++ [x] := by
  rw [List.take_add_one, h]; rfl
theorem getD_get {cs : List (List Nat)} {i : Nat} {c : List Nat} (h : cs[i]? = some c) : cs.getD i [] = c := by
  rw [List.getD_eq_getElem?_getD, h]; rfl
theorem runN_succ {N : Nat} {cs : List (List Nat)} {i : Nat} {c : List Nat} (h : cs[i]? = some c) : runN N (cs.take (i + 1)) = stepR (runN N (cs.take i)) c := by
  rw [take_get h, runN, runL_app]; rfl
theorem fail_sum {N : Nat} (cs : List (List Nat)) : ∀ i, i ≤ cs.length → (failN N (cs.take i) = 0 ↔ ∀ j, j < i → ¬ ringAt N cs j)
  | 0, _ => ⟨fun _ j hj => absurd hj (Nat.not_lt_zero _), fun _ => by rw [List.take_zero]; rfl⟩
  | i + 1, h => by
    have hx := List.getElem?_eq_getElem (show i < cs.length by omega)
    have ih := fail_sum cs i (by omega) (N := N)
    have e : failN N (cs.take (i + 1)) = failN N (cs.take i) + failR (runN N (cs.take i)) (cs.getD i []) := by
      rw [take_get hx, failN, failL_app, getD_get hx, failL, failL]; rfl
    rw [e]
    constructor
    · intro g j hj
      by_cases hji : j = i
      · subst hji; unfold ringAt; omega
      · exact ih.1 (by omega) j (by omega)
    · intro g
      have g1 := ih.2 fun j hj => g j (by omega)
      have g2 := g i (by omega)
      unfold ringAt at g2
      omega
theorem IsFst.forest {N : Nat} {cs : List (List Nat)} {k : Int} (h : IsFst N cs k) : k < 0 ↔ failN N cs = 0 := by
  have h1 := fail_sum (N := N) cs cs.length (Nat.le_refl _)
  rw [List.take_length] at h1
  rw [h1]
  rcases h with ⟨rfl, h⟩ | ⟨i, rfl, hi, h2, _⟩
  · exact ⟨fun _ => h, fun _ => by omega⟩
  · exact ⟨fun g => absurd g (by omega), fun g => absurd h2 (g i hi)⟩
theorem ring_app {N : Nat} {a b : List (List Nat)} {i : Nat} (hi : i < a.length) : ringAt N (a ++ b) i ↔ ringAt N a i := by
  unfold ringAt
  rw [List.take_append_of_le_length (by omega), List.getD_eq_getElem?_getD, List.getD_eq_getElem?_getD, List.getElem?_append_left hi]
theorem ring_take {N : Nat} {a : List (List Nat)} {i k : Nat} (hi : i < k) : ringAt N (a.take k) i ↔ ringAt N a i := by
  unfold ringAt
  rw [List.take_take, Nat.min_eq_left (by omega), List.getD_eq_getElem?_getD, List.getD_eq_getElem?_getD, List.getElem?_take, if_pos hi]
/-- With more behind them: the first one stays; and if there was none, the first is behind. -/
theorem IsFst.more {N : Nat} {a b : List (List Nat)} {k m : Int} (h : IsFst N a k) (g : IsFst N (a ++ b) m) : (0 ≤ k → m = k) ∧ (k < 0 → m < 0 ∨ (a.length : Int) ≤ m) := by
  rcases h with ⟨rfl, h⟩ | ⟨i, rfl, hi, h1, h2⟩
  · refine ⟨fun e => absurd e (by omega), fun _ => ?_⟩
    rcases g with ⟨rfl, _⟩ | ⟨j, rfl, hj, g1, _⟩
    · left; omega
    · right
      rcases Nat.lt_or_ge j a.length with l | l
      · exact absurd ((ring_app l).1 g1) (h j l)
      · omega
  · refine ⟨fun _ => ?_, fun e => absurd e (by omega)⟩
    refine g.uniq (.inr ⟨i, rfl, by rw [List.length_append]; omega, (ring_app hi).2 h1, fun j hj => ?_⟩)
    exact fun e => h2 j hj ((ring_app (by omega)).1 e)
theorem IsFst.ahead {N : Nat} {a : List (List Nat)} {k : Nat} {m : Int} (h : IsFst N a (k : Int)) (g : IsFst N (a.take k) m) : m < 0 := by
  rcases h with ⟨e, _⟩ | ⟨i, e, hi, _, h2⟩
  · omega
  · have : i = k := by omega
    subst this
    rcases g with ⟨rfl, _⟩ | ⟨j, rfl, hj, g1, _⟩
    · omega
    · have hj2 : j < i := by rw [List.length_take] at hj; omega
      exact absurd ((ring_take hj2).1 g1) (h2 j hj2)
theorem fail_less {N : Nat} {cs : List (List Nat)} (hb : bnd N cs) (j : Nat) (h : failN N cs = 0) : failN N (cs.take j ++ cs.drop (j + 1)) = 0 := by
  rcases Nat.lt_or_ge j cs.length with l | l
  · have hx := List.getElem?_eq_getElem l
    have hp : cs.Perm ((cs.take j ++ cs.drop (j + 1)) ++ [cs[j]]) := by
      have e : cs = cs.take j ++ (cs[j] :: cs.drop (j + 1)) := by rw [← List.drop_eq_getElem_cons l, List.take_append_drop]
      have p : (cs.take j ++ (cs[j] :: cs.drop (j + 1))).Perm (cs.take j ++ cs.drop (j + 1) ++ [cs[j]]) := by
        rw [List.append_assoc]
        exact List.Perm.append_left _ (List.perm_append_comm (l₁ := [cs[j]]))
      exact (List.Perm.of_eq e).trans p
    have h1 := fail_perm hb hp
    have h2 : failN N ((cs.take j ++ cs.drop (j + 1)) ++ [cs[j]]) = failN N (cs.take j ++ cs.drop (j + 1)) + _ := failL_app _ _ _
    omega
  · rw [List.take_of_length_le l, List.drop_of_length_le (by omega), List.append_nil]; exact h
theorem fail_back {N : Nat} {cs : List (List Nat)} (hb : bnd N cs) : failN N cs.reverse = failN N cs := (fail_perm hb (List.reverse_perm cs).symm).symm
theorem run_back {N : Nat} {cs : List (List Nat)} (hb : bnd N cs) : runN N cs.reverse = runN N cs := (runN_mem hb fun _ => (List.mem_reverse).symm).symm
end Go.Proofs.Ytkfkjdpkkagjgaa
