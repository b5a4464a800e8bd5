/-
  What a choice is, how strong its variables are, and what enforcing leaves of it; no program.
  Words for memory: a slice of ints of any sign; rows of a call's own; a choice's block.
  A choice in memory: its block, its row; the sums that it speaks of.
-/
import Derived.Test.YtjbhhccklfddaaaVGrA
import Derived.Test.YtjbhhccklfddaaaVGrD
namespace Go.Proofs.Ytjbhhccklfddaaa
set_option maxRecDepth 20000
def Bridge (N : Nat) (vs : Nat → List Nat) : Prop := ∀ d, d < N → ∃ f : Nat → Nat, (∀ e, e < N → e ≠ d → ∀ u ∈ vs e, ∀ v ∈ vs e, f u = f v) ∧ ∀ u ∈ vs d, ∀ v ∈ vs d, f u = f v → u = v
theorem bridge_of {M : Nat} {cs : List (List Nat)} (hb : bnd M cs) (h : failN M cs = 0) : Bridge cs.length fun i => cs.getD i [] := by
 intro d hd
 have hx := List.getElem?_eq_getElem hd
 have hp : cs.Perm ((cs.take d ++ cs.drop (d + 1)) ++ [cs[d]]) := by
  have e : cs = cs.take d ++ (cs[d] :: cs.drop (d + 1)) := by rw [← List.drop_eq_getElem_cons hd, List.take_append_drop]
  have p : (cs.take d ++ (cs[d] :: cs.drop (d + 1))).Perm (cs.take d ++ cs.drop (d + 1) ++ [cs[d]]) := by
   rw [List.append_assoc]
   exact List.Perm.append_left _ (List.perm_append_comm (l₁ := [cs[d]]))
  exact (List.Perm.of_eq e).trans p
 have h1 := fail_perm hb hp
 have h2 : failN M ((cs.take d ++ cs.drop (d + 1)) ++ [cs[d]]) = failN M (cs.take d ++ cs.drop (d + 1)) + failL (runN M (cs.take d ++ cs.drop (d + 1))) [cs[d]] := failL_app _ _ _
 have h3 : failL (runN M (cs.take d ++ cs.drop (d + 1))) [cs[d]] = failR (runN M (cs.take d ++ cs.drop (d + 1))) cs[d] := by rw [failL, failL, Nat.add_zero]
 have h4 : failR (runN M (cs.take d ++ cs.drop (d + 1))) cs[d] = 0 := by omega
 have hb' : bnd M (cs.take d ++ cs.drop (d + 1)) := fun c hc => hb c (by
  rcases List.mem_append.1 hc with g | g
  · exact List.mem_of_mem_take g
  · exact List.mem_of_mem_drop g)
 obtain ⟨L, _, hR, e⟩ := runN_rts hb'
 have hL := (e _).1 hR.resp
 have hgd : cs.getD d [] = cs[d] := getD_get hx
 refine ⟨rt (runN M (cs.take d ++ cs.drop (d + 1))), fun k hk hne u hu v hv => hL (cs.getD k []) ?_ u hu v hv, fun u hu v hv huv => ?_⟩
 ·
  have hk' := List.getElem?_eq_getElem hk
  rw [getD_get hk']
  rcases Nat.lt_or_ge k d with l | l
  ·
   refine List.mem_append_left _ (List.mem_of_getElem? (i := k) ?_)
   rw [List.getElem?_take, if_pos l, hk']
  ·
   refine List.mem_append_right _ (List.mem_of_getElem? (i := k - (d + 1)) ?_)
   rw [List.getElem?_drop, show d + 1 + (k - (d + 1)) = k by omega, hk']
 ·
  simp only [hgd] at hu hv
  obtain ⟨i, hi, rfl⟩ := mem_nth hu
  obtain ⟨j, hj, rfl⟩ := mem_nth hv
  have hz := fail_zero.1 h4
  rcases Nat.lt_trichotomy i j with l | l | l
  · exact absurd huv (hz i j l hj)
  · rw [l]
  · exact absurd huv.symm (hz j i l hi)
structure Cho (N : Nat) (vs : Nat → List Nat) (o : Nat → Option Nat) : Prop where
 mem : ∀ i v, i < N → o i = some v → v ∈ vs i
 inj : ∀ i j v, i < N → j < N → o i = some v → o j = some v → i = j
 out : ∀ i, N ≤ i → o i = none
theorem Cho.lt {N : Nat} {vs : Nat → List Nat} {o : Nat → Option Nat} (h : Cho N vs o) {i v : Nat} (e : o i = some v) : i < N := by
 rcases Nat.lt_or_ge i N with l | l
 · exact l
 · rw [h.out i l] at e; cases e
def tel (N : Nat) (o : Nat → Option Nat) (v : Nat) : Option Nat := (List.range N).find? fun i => o i == some v
theorem tel_none {N : Nat} {o : Nat → Option Nat} {v : Nat} : tel N o v = none ↔ ∀ i, i < N → o i ≠ some v := by
 unfold tel
 rw [List.find?_eq_none]
 constructor
 ·
  intro h i hi e
  exact h i (List.mem_range.2 hi) (by rw [e]; exact beq_self_eq_true _)
 ·
  intro h i hi e
  exact h i (List.mem_range.1 hi) (eq_of_beq e)
theorem tel_of {N : Nat} {o : Nat → Option Nat} {v i : Nat} (h : tel N o v = some i) : i < N ∧ o i = some v := by
 unfold tel at h
 have e := List.find?_some h
 exact ⟨List.mem_range.1 (List.mem_of_find?_eq_some h), eq_of_beq (by simpa using e)⟩
theorem Cho.tel {N : Nat} {vs : Nat → List Nat} {o : Nat → Option Nat} (h : Cho N vs o) {v i : Nat} (e : o i = some v) : tel N o v = some i := by
 have hi := h.lt e
 cases g : Go.Proofs.Ytjbhhccklfddaaa.tel N o v with
 | none => exact absurd e (tel_none.1 g i hi)
 |
  some j =>
  obtain ⟨hj, ej⟩ := tel_of g
  rw [h.inj i j v hi hj e ej]
def mxo (v : Nat) (s : Nat) (l : List Nat) (g : Nat → Nat) : Nat := l.foldl (fun w u => if u = v then w else max w (g u)) s
theorem mxo_snoc (v s : Nat) (l : List Nat) (u : Nat) (g : Nat → Nat) : mxo v s (l ++ [u]) g = if u = v then mxo v s l g else max (mxo v s l g) (g u) := by
 unfold mxo; rw [List.foldl_append]; rfl
theorem mxo_congr {v : Nat} {g g' : Nat → Nat} : ∀ {l : List Nat} {s : Nat}, (∀ u ∈ l, u ≠ v → g u = g' u) → mxo v s l g = mxo v s l g'
 | [], _, _ => rfl
 |
  x :: l, s, h => by
  have ih := fun s' => mxo_congr (v := v) (g := g) (g' := g') (l := l) (s := s') fun u hu => h u (List.mem_cons_of_mem _ hu)
  unfold mxo at ih ⊢
  rw [List.foldl_cons, List.foldl_cons]
  by_cases e : x = v
  · rw [if_pos e, if_pos e]; exact ih s
  · rw [if_neg e, if_neg e, h x List.mem_cons_self e]; exact ih _
theorem mxo_gt {v x : Nat} {g : Nat → Nat} : ∀ {l : List Nat} {s : Nat}, x < mxo v s l g → x < s ∨ ∃ u ∈ l, u ≠ v ∧ x < g u
 | [], _, h => .inl h
 |
  y :: l, s, h => by
  unfold mxo at h
  rw [List.foldl_cons] at h
  rcases mxo_gt (l := l) (v := v) (g := g) (x := x) h with k | ⟨u, hu, k1, k2⟩
  ·
   by_cases e : y = v
   · rw [if_pos e] at k; exact .inl k
   ·
    rw [if_neg e] at k
    by_cases e2 : x < s
    · exact .inl e2
    · exact .inr ⟨y, List.mem_cons_self, e, by omega⟩
  · exact .inr ⟨u, List.mem_cons_of_mem _ hu, k1, k2⟩
def wkF (N : Nat) (vs : Nat → List Nat) (s : Nat → Nat) (o : Nat → Option Nat) : Nat → Nat → Nat
 | 0, _ => 4
 |
  k + 1, v => match tel N o v with
  | none => 4
  | some i => mxo v (s i) (vs i) (wkF N vs s o k)
def Pth (N : Nat) (vs : Nat → List Nat) (o : Nat → Option Nat) (S : List Nat) (v : Nat) : Prop :=
 S.Nodup ∧ (∀ d ∈ S, d < N) ∧ ∀ d ∈ S, ∃ t u, o d = some t ∧ u ∈ vs d ∧ u ≠ t ∧ ∀ f : Nat → Nat, (∀ e, e < N → e ≠ d → ∀ x ∈ vs e, ∀ y ∈ vs e, f x = f y) → f u = f v
theorem Pth.start (N : Nat) (vs : Nat → List Nat) (o : Nat → Option Nat) (v : Nat) : Pth N vs o [] v :=
 ⟨List.nodup_nil, fun _ h => absurd h List.not_mem_nil, fun _ h => absurd h List.not_mem_nil⟩
section
variable {N : Nat} {vs : Nat → List Nat} {s : Nat → Nat} {o : Nat → Option Nat} (hB : Bridge N vs) (hC : Cho N vs o)
include hB hC
theorem Pth.not_mem {S : List Nat} {v i : Nat} (h : Pth N vs o S v) (hi : o i = some v) : i ∉ S := by
 intro hm
 have hN := hC.lt hi
 obtain ⟨t, u, h1, h2, h3, h4⟩ := h.2.2 i hm
 obtain ⟨f, f1, f2⟩ := hB i hN
 have e : v = t := by rw [hi] at h1; injection h1
 exact h3 ((f2 u h2 v (hC.mem i v hN hi) (h4 f f1)).trans e)
theorem Pth.step {S : List Nat} {v i u : Nat} (h : Pth N vs o S v) (hi : o i = some v) (hu : u ∈ vs i) (hne : u ≠ v) : Pth N vs o (i :: S) u := by
 have hn := h.not_mem hB hC hi
 have hN := hC.lt hi
 refine ⟨List.nodup_cons.2 ⟨hn, h.1⟩, fun d hd => ?_, fun d hd => ?_⟩
 ·
  rcases List.mem_cons.1 hd with rfl | hd
  · exact hN
  · exact h.2.1 d hd
 ·
  rcases List.mem_cons.1 hd with rfl | hd
  · exact ⟨v, u, hi, hu, hne, fun f _ => rfl⟩
  ·
   obtain ⟨t, x, h1, h2, h3, h4⟩ := h.2.2 d hd
   have hdi : i ≠ d := fun e => hn (e ▸ hd)
   exact ⟨t, x, h1, h2, h3, fun f hf => (h4 f hf).trans (hf i hN hdi v (hC.mem i v hN hi) u hu)⟩
omit hB hC in
theorem nodup_len : ∀ (N : Nat) (S : List Nat), S.Nodup → (∀ d ∈ S, d < N) → S.length ≤ N
 |
  0, S, _, h => by
  cases S with
  | nil => exact Nat.le_refl _
  | cons x S => exact absurd (h x List.mem_cons_self) (Nat.not_lt_zero _)
 |
  N + 1, S, hn, h => by
  by_cases hm : N ∈ S
  ·
   have := nodup_len N (S.erase N) (hn.erase N) fun d hd => by
    have g := hn.mem_erase_iff.1 hd
    have := h d g.2
    omega
   rw [List.length_erase_of_mem hm] at this
   omega
  ·
   have := nodup_len N S hn fun d hd => by
    have g := h d hd
    have : d ≠ N := fun e => hm (e ▸ hd)
    omega
   omega
theorem Pth.more {S : List Nat} {v i : Nat} (h : Pth N vs o S v) (hi : o i = some v) : S.length + 1 ≤ N := by
 have hn := h.not_mem hB hC hi
 have := nodup_len N (i :: S) (List.nodup_cons.2 ⟨hn, h.1⟩) fun d hd => by
  rcases List.mem_cons.1 hd with rfl | hd
  · exact hC.lt hi
  · exact h.2.1 d hd
 rwa [List.length_cons] at this
theorem wkF_stable : ∀ (k : Nat) (S : List Nat) (v : Nat), Pth N vs o S v → N ≤ k + S.length → wkF N vs s o (k + 1) v = wkF N vs s o k v
 |
  0, S, v, h, hk => by
  rw [wkF, wkF]
  cases g : tel N o v with
  | none => rfl
  |
   some i =>
   have := h.more hB hC (tel_of g).2
   omega
 |
  k + 1, S, v, h, hk => by
  rw [wkF, wkF]
  cases g : tel N o v with
  | none => rfl
  | some i => exact mxo_congr fun u hu hne => wkF_stable k (i :: S) u (h.step hB hC (tel_of g).2 hu hne) (by rw [List.length_cons]; omega)
end
def wk (N : Nat) (vs : Nat → List Nat) (s : Nat → Nat) (o : Nat → Option Nat) (v : Nat) : Nat := wkF N vs s o N v
theorem wk_some {N : Nat} {vs : Nat → List Nat} {s : Nat → Nat} {o : Nat → Option Nat} (hB : Bridge N vs) (hC : Cho N vs o) {v i : Nat} (h : tel N o v = some i) : wk N vs s o v = mxo v (s i) (vs i) (wk N vs s o) := by
 have := wkF_stable (s := s) hB hC N [] v (Pth.start ..) (by simp)
 rw [wkF, h] at this
 exact this.symm
def upd (o : Nat → Option Nat) (i : Nat) (x : Option Nat) : Nat → Option Nat := fun j => if j = i then x else o j
def tellTo (N : Nat) (o : Nat → Option Nat) (i v : Nat) : Nat → Option Nat := match tel N o v with
 | none => upd o i (some v)
 | some d => upd (upd o d none) i (some v)
theorem tellTo_self {N : Nat} {o : Nat → Option Nat} {i v : Nat} : tellTo N o i v i = some v := by
 unfold tellTo; cases tel N o v <;> simp [upd]
theorem tellTo_other {N : Nat} {vs : Nat → List Nat} {o : Nat → Option Nat} (hC : Cho N vs o) {i v j : Nat} (h : j ≠ i) : tellTo N o i v j = if o j = some v then none else o j := by
 unfold tellTo
 cases g : tel N o v with
 |
  none =>
  have : o j ≠ some v := by
   rcases Nat.lt_or_ge j N with l | l
   · exact tel_none.1 g j l
   · rw [hC.out j l]; exact fun e => by cases e
  rw [if_neg this]; simp [upd, h]
 |
  some d =>
  have hd := tel_of g
  by_cases e : j = d
  · subst e; rw [if_pos hd.2]; simp [upd, h]
  ·
   have : o j ≠ some v := fun e2 => e (hC.inj j d v (hC.lt e2) hd.1 e2 hd.2)
   rw [if_neg this]; simp [upd, h, e]
theorem Cho.tellTo {N : Nat} {vs : Nat → List Nat} {o : Nat → Option Nat} (hC : Cho N vs o) {i v : Nat} (hi : i < N) (hv : v ∈ vs i) : Cho N vs (tellTo N o i v) := by
 have key : ∀ j x, j ≠ i → Go.Proofs.Ytjbhhccklfddaaa.tellTo N o i v j = some x → o j = some x ∧ x ≠ v := fun j x hj e => by
  rw [tellTo_other hC hj] at e
  split at e
  · cases e
  · next g => exact ⟨e, fun k => g (k ▸ e)⟩
 refine ⟨fun j x hj e => ?_, fun j k x hj hk e1 e2 => ?_, fun j hj => ?_⟩
 ·
  by_cases h : j = i
  · subst h; rw [tellTo_self] at e; injection e with e; subst e; exact hv
  · exact hC.mem j x hj (key j x h e).1
 ·
  by_cases h : j = i <;> by_cases h2 : k = i
  · rw [h, h2]
  · subst h; rw [tellTo_self] at e1; injection e1 with e1; subst e1; exact absurd rfl (key k _ h2 e2).2
  · subst h2; rw [tellTo_self] at e2; injection e2 with e2; subst e2; exact absurd rfl (key j _ h e1).2
  · exact hC.inj j k x hj hk (key j x h e1).1 (key k x h2 e2).1
 ·
  have h : j ≠ i := by omega
  rw [tellTo_other hC h, hC.out j hj]; simp
theorem tel_tellTo {N : Nat} {vs : Nat → List Nat} {o : Nat → Option Nat} (hC : Cho N vs o) {i v x : Nat} (hi : i < N) (hv : v ∈ vs i) (h0 : o i = none) (hx : x ≠ v) : tel N (tellTo N o i v) x = tel N o x := by
 have hC2 := hC.tellTo hi hv
 cases g : tel N o x with
 |
  none =>
  rw [tel_none]
  intro j hj e
  by_cases h : j = i
  · subst h; rw [tellTo_self] at e; injection e with e; exact hx e.symm
  ·
   rw [tellTo_other hC h] at e
   split at e
   · cases e
   · exact tel_none.1 g j hj e
 |
  some d =>
  have hd := tel_of g
  apply hC2.tel
  have hdi : d ≠ i := fun e => by rw [e, h0] at hd; cases hd.2
  rw [tellTo_other hC hdi, if_neg]
  · exact hd.2
  · rw [hd.2]; exact fun e => hx (by injection e)
theorem wkF_above {N : Nat} {vs : Nat → List Nat} {s : Nat → Nat} {o : Nat → Option Nat} (hB : Bridge N vs) (hC : Cho N vs o) {i v d : Nat} (hi : i < N) (hv : v ∈ vs i) (h0 : o i = none) (hd : o d = some v) :
  ∀ (k : Nat) (S : List Nat) (x : Nat), Pth N vs o S x → d ∈ S → wkF N vs s (tellTo N o i v) k x = wkF N vs s o k x
 | 0, _, _, _, _ => rfl
 |
  k + 1, S, x, h, hS => by
  have hx : x ≠ v := fun e => h.not_mem hB hC (e ▸ hd) hS
  rw [wkF, wkF, tel_tellTo hC hi hv h0 hx]
  cases g : tel N o x with
  | none => rfl
  | some j => exact mxo_congr fun u hu hne => wkF_above hB hC hi hv h0 hd k (j :: S) u (h.step hB hC (tel_of g).2 hu hne) (List.mem_cons_of_mem _ hS)
def pickW (w : Nat → Nat) (f : Nat → Bool) (l : List Nat) (s : Nat) : Option Nat × Nat := l.foldl (fun p u => if f u = true ∧ p.2 < w u then (some u, w u) else p) (none, s)
theorem pickW_snoc (w : Nat → Nat) (f : Nat → Bool) (l : List Nat) (s u : Nat) : pickW w f (l ++ [u]) s = if f u = true ∧ (pickW w f l s).2 < w u then (some u, w u) else pickW w f l s := by
 unfold pickW; rw [List.foldl_append]; rfl
theorem pickW_spec (w : Nat → Nat) (f : Nat → Bool) (s : Nat) (l : List Nat) :
  s ≤ (pickW w f l s).2 ∧ (∀ u ∈ l, f u = true → w u ≤ (pickW w f l s).2) ∧ ((pickW w f l s).1 = none → (pickW w f l s).2 = s) ∧ ∀ v, (pickW w f l s).1 = some v → v ∈ l ∧ f v = true ∧ s < w v ∧ (pickW w f l s).2 = w v := by
 rw [← List.reverse_reverse l]
 generalize l.reverse = m
 induction m with
 | nil => exact ⟨Nat.le_refl _, fun u hu => (by cases hu), fun _ => rfl, fun v hv => (by cases hv)⟩
 |
  cons x m ih =>
  rw [List.reverse_cons]
  generalize m.reverse = l at ih
  obtain ⟨h1, h2, h3, h4⟩ := ih
  rw [pickW_snoc]
  by_cases g : f x = true ∧ (pickW w f l s).2 < w x
  ·
   rw [if_pos g]
   refine ⟨by show s ≤ w x; omega, fun u hu hf => ?_, fun e => (by cases e), fun v e => ?_⟩
   ·
    show w u ≤ w x
    rcases List.mem_append.1 hu with k | k
    · have := h2 u k hf; omega
    · rw [List.mem_singleton.1 k]; exact Nat.le_refl _
   ·
    injection e with e
    subst e
    exact ⟨List.mem_append_right _ (List.mem_singleton.2 rfl), g.1, by omega, rfl⟩
  ·
   rw [if_neg g]
   refine ⟨h1, fun u hu hf => ?_, h3, fun v e => ?_⟩
   ·
    rcases List.mem_append.1 hu with k | k
    · exact h2 u k hf
    ·
     rw [List.mem_singleton.1 k] at hf ⊢
     rcases Nat.lt_or_ge (pickW w f l s).2 (w x) with q | q
     · exact absurd ⟨hf, q⟩ g
     · exact q
   ·
    obtain ⟨k1, k2, k3, k4⟩ := h4 v e
    exact ⟨List.mem_append_left _ k1, k2, k3, k4⟩
theorem pickW_none {w : Nat → Nat} {f : Nat → Bool} {s : Nat} {l : List Nat} (h : (pickW w f l s).1 = none) : ∀ u ∈ l, f u = true → w u ≤ s := by
 obtain ⟨_, h2, h3, _⟩ := pickW_spec w f s l
 rw [h3 h] at h2
 exact h2
inductive Enf (N : Nat) (vs : Nat → List Nat) (s : Nat → Nat) : (Nat → Option Nat) → (Nat → Bool) → Nat → (Nat → Option Nat) → Prop
 | stop (o f i) : (pickW (wk N vs s o) f (vs i) (s i)).1 = none → Enf N vs s o f i o
 | took (o f i v) : (pickW (wk N vs s o) f (vs i) (s i)).1 = some v → tel N o v = none → Enf N vs s o f i (tellTo N o i v)
 | push (o f i v d o') : (pickW (wk N vs s o) f (vs i) (s i)).1 = some v → tel N o v = some d → Enf N vs s (tellTo N o i v) (fun u => f u && !(vs i).contains u) d o' → Enf N vs s o f i o'
theorem Enf.det {N : Nat} {vs : Nat → List Nat} {s : Nat → Nat} {o : Nat → Option Nat} {f : Nat → Bool} {i : Nat} {a b : Nat → Option Nat} (h : Enf N vs s o f i a) (g : Enf N vs s o f i b) : a = b := by
 induction h with
 |
  stop o f i h1 =>
  cases g with
  | stop => rfl
  | took _ _ _ v h2 => rw [h1] at h2; cases h2
  | push _ _ _ v d _ h2 => rw [h1] at h2; cases h2
 |
  took o f i v h1 h2 =>
  cases g with
  | stop _ _ _ h3 => rw [h1] at h3; cases h3
  | took _ _ _ v' h3 => rw [h1] at h3; injection h3 with h3; subst h3; rfl
  | push _ _ _ v' d _ h3 h4 => rw [h1] at h3; injection h3 with h3; subst h3; rw [h2] at h4; cases h4
 |
  push o f i v d o' h1 h2 h3 ih =>
  cases g with
  | stop _ _ _ g1 => rw [h1] at g1; cases g1
  | took _ _ _ v' g1 g2 => rw [h1] at g1; injection g1 with g1; subst g1; rw [h2] at g2; cases g2
  |
   push _ _ _ v' d' _ g1 g2 g3 =>
   rw [h1] at g1; injection g1 with g1; subst g1
   rw [h2] at g2; injection g2 with g2; subst g2
   exact ih g3
structure Chain (N : Nat) (vs : Nat → List Nat) (s : Nat → Nat) (o : Nat → Option Nat) (f : Nat → Bool) (i s0 : Nat) (S : List Nat) : Prop where
 cho : Cho N vs o
 lt : i < N
 none : o i = none
 weak : s0 < s i ∨ ∃ u ∈ vs i, f u = true ∧ s0 < wk N vs s o u
 tells : ∀ e ∈ S, e < N ∧ ∃ t, o e = some t ∧ f t = false
 join : ∀ u, f u = false → ∀ g : Nat → Nat, (∀ e ∈ S, ∀ x ∈ vs e, ∀ y ∈ vs e, g x = g y) → (∀ x ∈ vs i, ∀ y ∈ vs i, g x = g y) → ∀ x ∈ vs i, g u = g x
theorem Chain.push {N : Nat} {vs : Nat → List Nat} {s : Nat → Nat} {o : Nat → Option Nat} {f : Nat → Bool} {i s0 : Nat} {S : List Nat} (hB : Bridge N vs) (h : Chain N vs s o f i s0 S) {v d : Nat}
  (hp : (pickW (wk N vs s o) f (vs i) (s i)).1 = some v) (hd : tel N o v = some d) : Chain N vs s (tellTo N o i v) (fun u => f u && !(vs i).contains u) d s0 (i :: S) := by
 obtain ⟨hd1, hd2⟩ := tel_of hd
 obtain ⟨hv, hfv, hsv, hmx⟩ := (pickW_spec _ _ _ _).2.2.2 v hp
 have hall := (pickW_spec (wk N vs s o) f (s i) (vs i)).2.1
 have hw : s0 < wk N vs s o v := by
  rcases h.weak with g | ⟨u, hu, hf, g⟩
  · omega
  · have := hall u hu hf; omega
 have hdi : d ≠ i := fun e => by rw [e, h.none] at hd2; cases hd2
 have hdS : d ∉ S := fun e => by
  obtain ⟨_, t, h1, h2⟩ := h.tells d e
  rw [hd2] at h1; injection h1 with h1; subst h1
  rw [hfv] at h2; cases h2
 have hcv : (vs i).contains v = true := List.contains_iff_mem.2 hv
 have hvd : v ∈ vs d := h.cho.mem d v hd1 hd2
 refine ⟨h.cho.tellTo h.lt hv, hd1, ?_, ?_, ?_, ?_⟩
 · rw [tellTo_other h.cho hdi, if_pos hd2]
 ·
  rw [wk_some hB h.cho hd] at hw
  rcases mxo_gt hw with g | ⟨u, hu, hne, g⟩
  · exact .inl g
  ·
   refine .inr ⟨u, hu, ?_, ?_⟩
   ·
    -- it is free still: else it were joined to v without d
    cases hfu : (f u && !(vs i).contains u) with
    | true => rfl
    |
     false =>
     exfalso
     obtain ⟨g1, g2, g3⟩ := hB d hd1
     have ci : ∀ x ∈ vs i, ∀ y ∈ vs i, g1 x = g1 y := g2 i h.lt (Ne.symm hdi)
     have cS : ∀ e ∈ S, ∀ x ∈ vs e, ∀ y ∈ vs e, g1 x = g1 y := fun e he => g2 e (h.tells e he).1 fun k => hdS (k ▸ he)
     apply hne
     apply g3 u hu v hvd
     cases hf0 : f u with
     | false => exact h.join u hf0 g1 cS ci v hv
     |
      true =>
      rw [hf0, Bool.true_and, Bool.not_eq_false'] at hfu
      exact ci u (List.contains_iff_mem.1 hfu) v hv
   ·
    have hP := (Pth.start N vs o v).step hB h.cho hd2 hu hne
    unfold wk
    rw [wkF_above hB h.cho h.lt hv h.none hd2 N [d] u hP List.mem_cons_self]
    exact g
 ·
  intro e he
  rcases List.mem_cons.1 he with rfl | he
  · exact ⟨h.lt, v, tellTo_self, by show (f v && !(vs e).contains v) = false; rw [hcv]; simp⟩
  ·
   obtain ⟨h1, t, h2, h3⟩ := h.tells e he
   have hei : e ≠ i := fun k => by rw [k, h.none] at h2; cases h2
   refine ⟨h1, t, ?_, by show (f t && _) = false; rw [h3]; rfl⟩
   rw [tellTo_other h.cho hei, if_neg]
   · exact h2
   · rw [h2]; intro k; injection k with k; subst k; rw [hfv] at h3; cases h3
 ·
  intro u hu g cS cd x hx
  have ci : ∀ x ∈ vs i, ∀ y ∈ vs i, g x = g y := cS i List.mem_cons_self
  have hvx : g v = g x := cd v hvd x hx
  rw [← hvx]
  cases hf0 : f u with
  | false => exact h.join u hf0 g (fun e he => cS e (List.mem_cons_of_mem _ he)) ci v hv
  |
   true =>
   have hu' : (f u && !(vs i).contains u) = false := hu
   rw [hf0, Bool.true_and, Bool.not_eq_false'] at hu'
   exact ci u (List.contains_iff_mem.1 hu') v hv
def Res (N : Nat) (s : Nat → Nat) (o : Nat → Option Nat) (i s0 : Nat) (o' : Nat → Option Nat) : Prop :=
 (∀ k, (o' k).isSome = ((o k).isSome || k == i)) ∨ ∃ j, j < N ∧ s0 < s j ∧ ∀ k, (o' k).isSome = (((o k).isSome || k == i) && k != j)
theorem tells_tellTo {N : Nat} {vs : Nat → List Nat} {o : Nat → Option Nat} (hC : Cho N vs o) {i v : Nat} (k : Nat) : (tellTo N o i v k).isSome = (((o k).isSome && !(o k == some v)) || k == i) := by
 by_cases h : k = i
 · subst h; rw [tellTo_self]; simp
 ·
  rw [tellTo_other hC h]
  by_cases g : o k = some v
  · rw [if_pos g, g]; simp [h]
  ·
   rw [if_neg g]
   have : (o k == some v) = false := by cases e : (o k == some v) with | false => rfl | true => exact absurd (eq_of_beq e) g
   rw [this]; simp [h]
theorem Enf.res {N : Nat} {vs : Nat → List Nat} {s : Nat → Nat} (hB : Bridge N vs) {s0 : Nat} {o : Nat → Option Nat} {f : Nat → Bool} {i : Nat} {o' : Nat → Option Nat} (e : Enf N vs s o f i o') :
  ∀ {S : List Nat}, Chain N vs s o f i s0 S → Res N s o i s0 o' ∧ Cho N vs o' := by
 induction e with
 |
  stop o f i hp =>
  intro S h
  refine ⟨.inr ⟨i, h.lt, ?_, fun k => ?_⟩, h.cho⟩
  ·
   rcases h.weak with g | ⟨u, hu, hf, g⟩
   · exact g
   · have := pickW_none hp u hu hf; omega
  ·
   by_cases hk : k = i
   · subst hk; rw [h.none]; simp
   ·
    have e1 : (k == i) = false := by cases e : (k == i) with | false => rfl | true => exact absurd (eq_of_beq e) hk
    have e2 : (k != i) = true := by unfold bne; rw [e1]; rfl
    rw [e1, e2, Bool.or_false, Bool.and_true]
 |
  took o f i v hp ht =>
  intro S h
  obtain ⟨hv, _⟩ := (pickW_spec _ _ _ _).2.2.2 v hp
  refine ⟨.inl fun k => ?_, h.cho.tellTo h.lt hv⟩
  rw [tells_tellTo h.cho]
  have : (o k == some v) = false := by
   cases e : (o k == some v) with
   | false => rfl
   | true => exact absurd (h.cho.tel (eq_of_beq e)) (by rw [ht]; exact fun q => by cases q)
  rw [this]; simp
 |
  push o f i v d o' hp hd _ ih =>
  intro S h
  obtain ⟨h1, h2⟩ := ih (h.push hB hp hd)
  refine ⟨?_, h2⟩
  obtain ⟨hd1, hd2⟩ := tel_of hd
  have key : ∀ k, ((tellTo N o i v k).isSome || k == d) = ((o k).isSome || k == i) := fun k => by
   rw [tells_tellTo h.cho]
   by_cases hk : k = d
   · subst hk; rw [hd2]; simp
   ·
    have : (o k == some v) = false := by
     cases e : (o k == some v) with
     | false => rfl
     | true => exact absurd (h.cho.inj k d v (h.cho.lt (eq_of_beq e)) hd1 (eq_of_beq e) hd2) hk
    rw [this]; simp [hk]
  rcases h1 with g | ⟨j, hj, hs, g⟩
  · exact .inl fun k => (g k).trans (key k)
  · exact .inr ⟨j, hj, hs, fun k => by rw [g k, key k]⟩
def allF : Nat → Bool := fun _ => true
theorem enf_better {N : Nat} {vs : Nat → List Nat} {s : Nat → Nat} (hB : Bridge N vs) {o : Nat → Option Nat} {i : Nat} {o' : Nat → Option Nat} (hC : Cho N vs o) (hi : i < N) (h0 : o i = none) (e : Enf N vs s o allF i o') :
  Cho N vs o' ∧ ((o' = o ∧ ∀ u ∈ vs i, wk N vs s o u ≤ s i) ∨ Res N s o i (s i) o') := by
 cases hp : (pickW (wk N vs s o) allF (vs i) (s i)).1 with
 |
  none =>
  have : o' = o := Enf.det e (Enf.stop o allF i hp)
  subst this
  exact ⟨hC, .inl ⟨rfl, fun u hu => pickW_none hp u hu rfl⟩⟩
 |
  some v =>
  obtain ⟨hv, _, hs, _⟩ := (pickW_spec _ _ _ _).2.2.2 v hp
  have hc : Chain N vs s o allF i (s i) [] := ⟨hC, hi, h0, .inr ⟨v, hv, rfl, hs⟩, fun _ he => absurd he List.not_mem_nil, fun _ hu => absurd hu (fun k => Bool.noConfusion k)⟩
  obtain ⟨h1, h2⟩ := e.res hB hc
  exact ⟨h2, .inr h1⟩
def sm (w : Nat → Nat) (t : Nat → Bool) : Nat → Nat
 | 0 => 0
 | n + 1 => sm w t n + (if t n = true then w n else 0)
theorem sm_congr {w : Nat → Nat} {t t' : Nat → Bool} : ∀ n, (∀ k, k < n → t k = t' k) → sm w t n = sm w t' n
 | 0, _ => rfl
 | n + 1, h => by rw [sm, sm, sm_congr n fun k hk => h k (by omega), h n (by omega)]
theorem sm_with {w : Nat → Nat} {t : Nat → Bool} {i : Nat} (h0 : t i = false) : ∀ n, sm w (fun k => t k || k == i) n = sm w t n + (if i < n then w i else 0)
 | 0 => rfl
 |
  n + 1 => by
  rw [sm, sm, sm_with h0 n]
  by_cases e : n = i
  ·
   subst e
   rw [h0]; simp
  ·
   have : (n == i) = false := by simp [e]
   simp only [this, Bool.or_false]
   by_cases l : i < n
   · rw [if_pos l, if_pos (show i < n + 1 by omega)]; omega
   · rw [if_neg l, if_neg (show ¬ i < n + 1 by omega)]; omega
theorem sm_without {w : Nat → Nat} {t : Nat → Bool} {j : Nat} : ∀ n, sm w t n = sm w (fun k => t k && k != j) n + (if j < n ∧ t j = true then w j else 0)
 |
  0 => by
  rw [if_neg (show ¬ (j < 0 ∧ t j = true) from fun k => absurd k.1 (Nat.not_lt_zero _))]; rfl
 |
  n + 1 => by
  rw [sm, sm, sm_without n (j := j)]
  by_cases e : n = j
  ·
   subst e
   have hn : (n != n) = false := by simp
   have hb : ¬ ((t n && false) = true) := by simp
   simp only [hn]
   rw [if_neg (show ¬ (n < n ∧ t n = true) from fun k => absurd k.1 (Nat.lt_irrefl _)), if_neg hb]
   by_cases g : t n = true
   · rw [if_pos g, if_pos (show n < n + 1 ∧ t n = true from ⟨Nat.lt_succ_self n, g⟩)]
   · rw [if_neg g, if_neg (fun k : n < n + 1 ∧ t n = true => g k.2)]
  ·
   have h1 : (n != j) = true := by simp [e]
   simp only [h1, Bool.and_true]
   by_cases g : j < n ∧ t j = true
   · rw [if_pos g, if_pos (show j < n + 1 ∧ t j = true from ⟨by omega, g.2⟩)]; omega
   · rw [if_neg g, if_neg (show ¬ (j < n + 1 ∧ t j = true) from fun k => g ⟨by omega, k.2⟩)]; omega
def LexLe (a b : Nat → Nat) : Prop := ∀ σ, (∀ τ, τ < σ → a τ = b τ) → a σ ≤ b σ
theorem LexLe.refl (a : Nat → Nat) : LexLe a a := fun _ _ => Nat.le_refl _
theorem LexLe.trans {a b c : Nat → Nat} (h : LexLe a b) (g : LexLe b c) : LexLe a c := by
 intro σ hσ
 have eq : ∀ τ, τ < σ → a τ = b τ ∧ b τ = c τ := by
  intro τ
  induction τ using Nat.strongRecOn with
  |
   ind τ ih =>
   intro hτ
   have h1 := h τ fun ρ hρ => (ih ρ hρ (by omega)).1
   have h2 := g τ fun ρ hρ => (ih ρ hρ (by omega)).2
   have h3 := hσ τ hτ
   omega
 have h1 := h σ fun τ hτ => (eq τ hτ).1
 have h2 := g σ fun τ hτ => (eq τ hτ).2
 omega
def lv (N : Nat) (s : Nat → Nat) (o : Nat → Option Nat) (σ : Nat) : Nat := sm (fun k => if s k = σ then 1 else 0) (fun k => (o k).isSome) N
def mu (N : Nat) (s : Nat → Nat) (o : Nat → Option Nat) : Nat := sm (fun k => 2 ^ (4 - s k)) (fun k => (o k).isSome) N
theorem mu_le {N : Nat} {s : Nat → Nat} {o : Nat → Option Nat} : mu N s o ≤ 16 * N := by
 unfold mu
 have : ∀ n, sm (fun k => 2 ^ (4 - s k)) (fun k => (o k).isSome) n ≤ 16 * n := by
  intro n
  induction n with
  | zero => exact Nat.le_refl _
  |
   succ n ih =>
   rw [sm]
   have : 2 ^ (4 - s n) ≤ 2 ^ 4 := Nat.pow_le_pow_right (by omega) (by omega)
   split <;> omega
 exact this N
theorem Res.grow {N : Nat} {s : Nat → Nat} (h4 : ∀ k, k < N → s k ≤ 4) {o o' : Nat → Option Nat} {i : Nat} (hi : i < N) (h0 : o i = none) (h : Res N s o i (s i) o') : mu N s o < mu N s o' ∧ LexLe (lv N s o) (lv N s o') := by
 have t0 : (o i).isSome = false := by rw [h0]; rfl
 rcases h with h | ⟨j, hj, hs, h⟩
 ·
  have e : ∀ w, sm w (fun k => (o' k).isSome) N = sm w (fun k => (o k).isSome) N + w i := fun w => by
   rw [sm_congr N (t' := fun k => (o k).isSome || k == i) fun k _ => h k, sm_with (t := fun k => (o k).isSome) t0, if_pos hi]
  refine ⟨?_, fun σ _ => ?_⟩
  ·
   unfold mu; rw [e]
   have : 0 < 2 ^ (4 - s i) := Nat.pow_pos (by omega)
   omega
  · unfold lv; rw [e]; omega
 ·
  have hji : j ≠ i := fun e => by subst e; omega
  have e : ∀ w, sm w (fun k => (o k).isSome) N + w i = sm w (fun k => (o' k).isSome) N + (if (o j).isSome = true then w j else 0) := fun w => by
   have e1 := sm_with (w := w) (t := fun k => (o k).isSome) t0 N
   have e2 := sm_without (w := w) (t := fun k => (o k).isSome || k == i) (j := j) N
   rw [if_pos hi] at e1
   rw [← sm_congr N (t := fun k => (o' k).isSome) fun k _ => h k] at e2
   have : ((o j).isSome || j == i) = (o j).isSome := by simp [hji]
   simp only [this] at e2
   by_cases g : (o j).isSome = true
   · rw [if_pos ⟨hj, g⟩] at e2; rw [if_pos g]; omega
   · rw [if_neg (fun k => g k.2)] at e2; rw [if_neg g]; omega
  refine ⟨?_, fun σ hσ => ?_⟩
  ·
   have this : sm (fun k => 2 ^ (4 - s k)) (fun k => (o k).isSome) N + 2 ^ (4 - s i) = sm (fun k => 2 ^ (4 - s k)) (fun k => (o' k).isSome) N + (if (o j).isSome = true then 2 ^ (4 - s j) else 0) := e _
   have h4j := h4 j hj
   have lt : 2 ^ (4 - s j) < 2 ^ (4 - s i) := Nat.pow_lt_pow_right (by omega) (by omega)
   have pj : 0 < 2 ^ (4 - s j) := Nat.pow_pos (by omega)
   unfold mu
   split at this <;> omega
  ·
   have one := fun σ => e fun k => if s k = σ then 1 else 0
   rcases Nat.lt_or_ge (s i) σ with l | l
   ·
    exfalso
    have h1 := hσ (s i) l
    have h2 := one (s i)
    unfold lv at h1
    rw [if_pos rfl, if_neg (show ¬ s j = s i by omega)] at h2
    split at h2 <;> omega
   ·
    have h2 := one σ
    unfold lv
    rw [if_neg (show ¬ s j = σ by omega)] at h2
    split at h2 <;> split at h2 <;> omega
inductive Rnd (N : Nat) (vs : Nat → List Nat) (s : Nat → Nat) : List Nat → (Nat → Option Nat) → (Nat → Option Nat) → Prop
 | nil (o) : Rnd N vs s [] o o
 | skip (i l o o') : (o i).isSome = true → Rnd N vs s l o o' → Rnd N vs s (i :: l) o o'
 | one (i l o o1 o') : o i = none → Enf N vs s o allF i o1 → Rnd N vs s l o1 o' → Rnd N vs s (i :: l) o o'
theorem Rnd.det {N : Nat} {vs : Nat → List Nat} {s : Nat → Nat} {l : List Nat} {o a b : Nat → Option Nat} (h : Rnd N vs s l o a) (g : Rnd N vs s l o b) : a = b := by
 induction h with
 | nil => cases g; rfl
 |
  skip i l o o' h1 _ ih =>
  cases g with
  | skip _ _ _ _ _ g2 => exact ih g2
  | one _ _ _ _ _ g1 => rw [g1] at h1; cases h1
 |
  one i l o o1 o' h1 h2 _ ih =>
  cases g with
  | skip _ _ _ _ g1 => rw [h1] at g1; cases g1
  |
   one _ _ _ o2 _ _ g2 g3 =>
   have := h2.det g2
   subst this
   exact ih g3
theorem Rnd.better {N : Nat} {vs : Nat → List Nat} {s : Nat → Nat} (hB : Bridge N vs) (h4 : ∀ k, k < N → s k ≤ 4) {l : List Nat} {o o' : Nat → Option Nat} (h : Rnd N vs s l o o') (hl : ∀ i ∈ l, i < N) (hC : Cho N vs o) :
  Cho N vs o' ∧ LexLe (lv N s o) (lv N s o') ∧ ((o' = o ∧ ∀ i ∈ l, o i = none → ∀ u ∈ vs i, wk N vs s o u ≤ s i) ∨ mu N s o < mu N s o') := by
 induction h with
 | nil o => exact ⟨hC, LexLe.refl _, .inl ⟨rfl, fun i hi => by cases hi⟩⟩
 |
  skip i l o o' h1 _ ih =>
  obtain ⟨g1, g2, g3⟩ := ih (fun k hk => hl k (List.mem_cons_of_mem _ hk)) hC
  refine ⟨g1, g2, ?_⟩
  rcases g3 with ⟨g3, g4⟩ | g3
  ·
   refine .inl ⟨g3, fun k hk e => ?_⟩
   rcases List.mem_cons.1 hk with rfl | hk
   · rw [e] at h1; cases h1
   · exact g4 k hk e
  · exact .inr g3
 |
  one i l o o1 o' h1 h2 _ ih =>
  have hi := hl i List.mem_cons_self
  obtain ⟨c1, c2⟩ := enf_better hB hC hi h1 h2
  obtain ⟨g1, g2, g3⟩ := ih (fun k hk => hl k (List.mem_cons_of_mem _ hk)) c1
  rcases c2 with ⟨rfl, c3⟩ | c2
  ·
   refine ⟨g1, g2, ?_⟩
   rcases g3 with ⟨g3, g4⟩ | g3
   ·
    refine .inl ⟨g3, fun k hk e => ?_⟩
    rcases List.mem_cons.1 hk with rfl | hk
    · exact c3
    · exact g4 k hk e
   · exact .inr g3
  ·
   obtain ⟨m1, m2⟩ := c2.grow h4 hi h1
   refine ⟨g1, m2.trans g2, .inr ?_⟩
   rcases g3 with ⟨rfl, _⟩ | g3
   · exact m1
   · omega
inductive Stl (N : Nat) (vs : Nat → List Nat) (s : Nat → Nat) (l : List Nat) : (Nat → Option Nat) → (Nat → Option Nat) → Prop
 | done (o) : Rnd N vs s l o o → Stl N vs s l o o
 | more (o o1 o') : Rnd N vs s l o o1 → o1 ≠ o → Stl N vs s l o1 o' → Stl N vs s l o o'
theorem Stl.det {N : Nat} {vs : Nat → List Nat} {s : Nat → Nat} {l : List Nat} {o a b : Nat → Option Nat} (h : Stl N vs s l o a) (g : Stl N vs s l o b) : a = b := by
 induction h with
 |
  done o h1 =>
  cases g with
  | done => rfl
  | more _ _ _ g1 g2 _ => exact absurd (g1.det h1) g2
 |
  more o o1 o' h1 h2 _ ih =>
  cases g with
  | done _ g1 => exact absurd (h1.det g1) h2
  |
   more _ o2 _ g1 g2 g3 =>
   have := h1.det g1
   subst this
   exact ih g3
theorem Stl.better {N : Nat} {vs : Nat → List Nat} {s : Nat → Nat} (hB : Bridge N vs) (h4 : ∀ k, k < N → s k ≤ 4) {l : List Nat} (hl : ∀ i ∈ l, i < N) {o o' : Nat → Option Nat} (h : Stl N vs s l o o') (hC : Cho N vs o) :
  Cho N vs o' ∧ LexLe (lv N s o) (lv N s o') ∧ Rnd N vs s l o' o' ∧ ∀ i ∈ l, o' i = none → ∀ u ∈ vs i, wk N vs s o' u ≤ s i := by
 induction h with
 |
  done o h1 =>
  obtain ⟨g1, g2, g3⟩ := h1.better hB h4 hl hC
  rcases g3 with ⟨_, g4⟩ | g3
  · exact ⟨g1, g2, h1, g4⟩
  · omega
 |
  more o o1 o' h1 _ _ ih =>
  obtain ⟨g1, g2, _⟩ := h1.better hB h4 hl hC
  obtain ⟨k1, k2, k3, k4⟩ := ih g1
  exact ⟨k1, g2.trans k2, k3, k4⟩
theorem Rnd.still {N : Nat} {vs : Nat → List Nat} {s : Nat → Nat} {o : Nat → Option Nat} : ∀ {l : List Nat}, (∀ i ∈ l, (o i).isSome = true) → Rnd N vs s l o o
 | [], _ => .nil o
 | i :: l, h => .skip i l o o (h i List.mem_cons_self) (Rnd.still fun k hk => h k (List.mem_cons_of_mem _ hk))
end Go.Proofs.Ytjbhhccklfddaaa

namespace Go.Proofs.Ytjbhhccklfddaaa
set_option maxRecDepth 20000
open Go.RowKit
def zt (r : List Int) (v : Nat) : Int := r.getD v 0
theorem zt_eq (r : List Int) (v : Nat) : zt r v = r[v]?.getD 0 := by unfold zt; rw [List.getD_eq_getElem?_getD]
theorem zt_get {r : List Int} {v : Nat} (h : v < r.length) : r[v]? = some (zt r v) := by rw [zt_eq, List.getElem?_eq_getElem h]; rfl
theorem zt_ext {r s : List Int} (hl : r.length = s.length) (h : ∀ v, v < r.length → zt r v = zt s v) : r = s := by
 apply List.ext_getElem? ; intro i
 by_cases hi : i < r.length
 · rw [zt_get hi, zt_get (hl ▸ hi), h i hi]
 · rw [List.getElem?_eq_none (by omega), List.getElem?_eq_none (by omega)]
def znum (x : Int) : Value := .int .i64 x
structure ZRow (w : World) (A : Option Addr) (n : Nat) (l : List Int) : Prop where
 len : l.length = n
 mem : 0 < n → ∃ b off, A = some ⟨b, off, none⟩ ∧ b < w.heap.size ∧ ∀ j, j < n → w.cell? ⟨b, off + j, none⟩ = some (.int .i64 (zt l j))
theorem ZRow.below {w w' : World} {n : Nat} {A : Option Addr} {l : List Int} (h : ZRow w A n l) (hb : Below w.heap.size w w') : ZRow w' A n l :=
 ⟨h.len, fun hn => by
  obtain ⟨b, off, e, h1, hc⟩ := h.mem hn
  exact ⟨b, off, e, Nat.lt_of_lt_of_le h1 hb.size, fun j hj => (hb.cell h1).trans (hc j hj)⟩⟩
structure OwnZ (w : World) (lo : Nat) (A : Option Addr) (c n : Nat) (l : List Int) : Prop where
 own : w.ownsRow lo 3 1 (.slice A n c) n (l.map znum)
section
variable {w w' : World} {lo lo' n c : Nat} {A : Option Addr} {l : List Int}
theorem OwnZ.len (h : OwnZ w lo A c n l) : l.length = n := by simpa using h.own.1
theorem OwnZ.form (h : OwnZ w lo A c n l) (hn : 0 < n) : ∃ g, A = some ⟨g, 0, none⟩ ∧ lo ≤ g ∧ g < w.heap.size := by
 obtain ⟨g, cap, hv, hb, hlt⟩ := h.own.form hn
 injection hv with hA
 exact ⟨g, hA, hb, hlt⟩
theorem getD_map_znum (l : List Int) (j : Nat) (hj : j < l.length) : (l.map znum)[j]? = some (.int .i64 (zt l j)) := by
 simp [znum, zt_eq, hj]
theorem OwnZ.row (h : OwnZ w lo A c n l) : ZRow w A n l := by
 refine ⟨h.len, fun hn => ?_⟩
 obtain ⟨g, rfl, h1, h2⟩ := h.form hn
 refine ⟨g, 0, rfl, h2, fun j hj => ?_⟩
 rw [Nat.zero_add, h.own.cellAt j (by omega)]
 exact getD_map_znum l j (by rw [h.len]; exact hj)
theorem OwnZ.cell {g j : Nat} (h : OwnZ w lo (some ⟨g, 0, none⟩) c n l) (hj : j < n) : w.cell? ⟨g, j, none⟩ = some (.int .i64 (zt l j)) := by
 rw [h.own.cellAt j (by omega)]
 exact getD_map_znum l j (by rw [h.len]; exact hj)
theorem OwnZ.nil_ (w : World) (lo : Nat) : OwnZ w lo none 0 0 [] := ⟨World.ownsRow_nil w lo _ 1⟩
theorem OwnZ.grown (h : OwnZ w lo A c n l) {row : Option Nat} (hg : w.grownBy w' row) (hne : ∀ ad, A = some ad → some ad.block ≠ row) : OwnZ w' lo A c n l := by
 refine ⟨h.own.kept hg ?_⟩
 cases A with
 | none => left; rfl
 | some ad => right; exact hne ad rfl
theorem OwnZ.below (h : OwnZ w lo A c n l) (hb : Below w.heap.size w w') : OwnZ w' lo A c n l := h.grown (grown_of_below hb) (fun _ _ => by simp)
theorem OwnZ.drew (h : OwnZ w lo A c n l) : OwnZ w.drew lo A c n l := h.below ⟨rfl, rfl, rfl, Nat.le_refl _, fun _ _ => rfl⟩
theorem OwnZ.alloc (h : OwnZ w lo A c n l) (o : Obj) : OwnZ (w.alloc o) lo A c n l := h.below ((Below.refl _ _).alloc (Nat.le_refl _) o)
theorem OwnZ.lower (h : OwnZ w lo A c n l) (hl : lo' ≤ lo) : OwnZ w lo' A c n l := by
 refine ⟨h.own.1, ?_⟩
 rcases h.own.2 with hn | ⟨g, cap, cur, hv, hb, rest⟩
 · exact .inl hn
 · exact .inr ⟨g, cap, cur, hv, by omega, rest⟩
theorem OwnZ.thaw {g : Nat} (h : OwnZ w lo (some ⟨g, 0, none⟩) c n l) (j : Nat) : w.frozen? ⟨g, j, none⟩ = false := h.own.frozenAt _
theorem OwnZ.lt {g : Nat} (h : OwnZ w lo (some ⟨g, 0, none⟩) c n l) : lo ≤ g ∧ g < w.heap.size := h.own.lt g rfl
theorem OwnZ.set {g : Nat} (h : OwnZ w lo (some ⟨g, 0, none⟩) c n l) (j : Nat) (x : Int) : OwnZ (w.setCell ⟨g, j, none⟩ (.int .i64 x)) lo (some ⟨g, 0, none⟩) c n (l.set j x) := by
 refine ⟨?_⟩
 have := h.own.stored j (znum x)
 rw [List.map_set]
 exact this.1
theorem OwnZ.made (hg : w'.ownsRow lo 3 1 (.slice A n c) n (madeCells #[.int .i64 0] n).toList) : OwnZ w' lo A c n (List.replicate n 0) := by
 refine ⟨?_⟩
 have e : (madeCells #[.int .i64 0] n).toList = (List.replicate n 0).map znum := by
  rw [toList_madeCells_one]; simp [znum]
 rw [← e]; exact hg
end
theorem ZRow.src {w : World} {n : Nat} {A : Option Addr} {l : List Int} (h : ZRow w A n l) {ad : Addr} (hA : A = some ad) : ∀ j v, (l.map znum)[j]? = some v → w.cell? (ad.add j) = some v := by
 intro j v hv
 have hj : j < l.length := by
  have := (List.getElem?_eq_some_iff.1 hv).1
  simpa using this
 have hlen := h.len
 obtain ⟨b, off, e, h2, hc⟩ := h.mem (by omega)
 rw [hA] at e
 injection e with e
 subst e
 rw [getD_map_znum l j hj] at hv
 rw [← hv, ← hc j (by omega)]
 congr 1
 unfold Addr.add
 split
 · subst_vars; simp
 · rfl
theorem znum_one (l : List Int) : ∀ u ∈ l.map znum, u.oneCell' = true := fun v hv => by
 obtain ⟨x, _, rfl⟩ := List.mem_map.1 hv
 rfl
theorem wpz_append {w : World} {ops : Array Oper} {rest : List Oper} {o : Oper} {a : Act} {Q : Exit → Act → World → Prop} (hgd : o.guard = none) (s x : Operand)
  (ho : o.op = .call { callee := .builtin .append, args := #[s, x], argTypes := #[23, 23] })
  {A : Option Addr} {ad : Addr} {lo n m c c' : Nat} {l k : List Int} (hs : a.eval s = .slice A n c) (hx : a.eval x = .slice (some ad) m c')
  (h1 : OwnZ w lo A c n l) (h2 : ZRow w (some ad) m k) (hm : n + m ≤ 2000000) (hlo : lo ≤ w.heap.size)
  (h : ∀ A2 c2 w', OwnZ w' lo A2 c2 (n + m) (l ++ k) → w.grownBy w' (A.map (·.block)) → wpList Try.prog ops Q rest (a.put o.dst (.slice A2 (n + m) c2)) w') :
  wpList Try.prog ops Q (o :: rest) a w := by
 obtain ⟨i0, hi, hz0, hz1, hz2⟩ := info_parts Try.info3
 have hk := h2.len
 have hlen := h1.len
 have eb : (Value.slice A n c).ownBlock = A.map (·.block) := by cases A <;> rfl
 refine wpList_append_own w hgd s x _ ho lo 3 i0 (.int .i64 0) 1 8 Try.underlying23 hi hz0 hz1 hz2 rfl (by omega) _ n _ hs h1.own ad m c' (k.map znum) hx (by simp [hk]) (h2.src rfl) (znum_one k) (by unfold maxLen; omega) (by omega) hlo ?_
 intro v' w' ho' hg' _
 rw [eb] at hg'
 have ho2 := ho'
 rw [← List.map_append] at ho2
 rcases ho'.2 with ⟨rfl, h0⟩ | ⟨g, cap, cur, rfl, _⟩
 ·
  have e : n + m = 0 := h0
  have hh := h none 0 w' ⟨by rw [e] at ho2 ⊢; exact ho2⟩ hg'
  rw [e] at hh; exact hh
 · exact h _ _ w' ⟨ho2⟩ hg'
theorem ZRow.one {w : World} (x : Int) : ZRow (w.alloc (.cells #[.int .i64 x] 3)) (some ⟨w.heap.size, 0, none⟩) 1 [x] :=
 ⟨rfl, fun _ => ⟨w.heap.size, 0, rfl, by simp, fun j hj => by
  have : j = 0 := by omega
  subst this
  rw [World.cell?_alloc_at _ _ _ _ rfl]; rfl⟩⟩
end Go.Proofs.Ytjbhhccklfddaaa

namespace Go.Proofs.Ytjbhhccklfddaaa
set_option maxRecDepth 20000
open Go.RowKit
def oi : Option Nat → Int
 | none => -1
 | some v => (v : Int)
theorem oi_inj : ∀ {a b : Option Nat}, oi a = oi b → a = b
 | none, none, _ => rfl
 | none, some b, h => by simp only [oi] at h; omega
 | some a, none, h => by simp only [oi] at h; omega
 | some a, some b, h => by simp only [oi] at h; rw [show a = b by omega]
theorem oi_none {a : Option Nat} : oi a = -1 ↔ a = none := ⟨fun h => oi_inj (b := none) h, fun h => by rw [h]; rfl⟩
def chC (vl vo : Value) (t : Nat → Option Nat) : Array Value := (vl :: vo :: (List.range 64).map fun v => .int .i64 (oi (t v))).toArray
theorem chC_size (vl vo : Value) (t : Nat → Option Nat) : (chC vl vo t).size = 66 := by unfold chC; simp
theorem chC_l (vl vo : Value) (t : Nat → Option Nat) : (chC vl vo t)[0]? = some vl := by unfold chC; simp
theorem chC_o (vl vo : Value) (t : Nat → Option Nat) : (chC vl vo t)[1]? = some vo := by unfold chC; simp
theorem chC_t (vl vo : Value) (t : Nat → Option Nat) {v : Nat} (h : v < 64) : (chC vl vo t)[2 + v]? = some (.int .i64 (oi (t v))) := by
 unfold chC
 rw [List.getElem?_toArray, show 2 + v = v + 1 + 1 by omega, List.getElem?_cons_succ, List.getElem?_cons_succ, List.getElem?_map, List.getElem?_range h]
 rfl
theorem chC_set (vl vo : Value) (t : Nat → Option Nat) {v : Nat} (h : v < 64) (x : Option Nat) : (chC vl vo t).setIfInBounds (2 + v) (.int .i64 (oi x)) = chC vl vo fun u => if u = v then x else t u := by
 apply Array.ext_getElem?
 intro i
 rw [Array.getElem?_setIfInBounds, chC_size]
 by_cases e : 2 + v = i
 ·
  subst e
  rw [if_pos rfl, if_pos (by omega), chC_t _ _ _ h, if_pos rfl]
 ·
  rw [if_neg e]
  rcases Nat.lt_or_ge i 66 with l | l
  ·
   by_cases e0 : i = 0
   · subst e0; rw [chC_l, chC_l]
   ·
    by_cases e1 : i = 1
    · subst e1; rw [chC_o, chC_o]
    ·
     obtain ⟨u, rfl⟩ : ∃ u, i = 2 + u := ⟨i - 2, by omega⟩
     rw [chC_t _ _ _ (by omega), chC_t _ _ _ (by omega), if_neg (by omega)]
  · rw [Array.getElem?_eq_none (by rw [chC_size]; exact l), Array.getElem?_eq_none (by rw [chC_size]; exact l)]
def ChB (w : World) (b : Nat) (vl vo : Value) (t : Nat → Option Nat) : Prop := w.heap[b]? = some (.cells (chC vl vo t) 49 (0, 0))
section
variable {w w' : World} {b : Nat} {vl vo : Value} {t : Nat → Option Nat}
theorem ChB.lt (h : ChB w b vl vo t) : b < w.heap.size := (Array.getElem?_eq_some_iff.1 h).1
theorem ChB.below (h : ChB w b vl vo t) (hb : Below w.heap.size w w') : ChB w' b vl vo t := (hb.block b h.lt).trans h
theorem ChB.cellL (h : ChB w b vl vo t) : w.cell? ⟨b, 0, none⟩ = some vl := by rw [cell_of_row _ _ 0 _ _ _ h]; exact chC_l ..
theorem ChB.cellO (h : ChB w b vl vo t) : w.cell? ⟨b, 1, none⟩ = some vo := by rw [cell_of_row _ _ 1 _ _ _ h]; exact chC_o ..
theorem ChB.cellT (h : ChB w b vl vo t) {v : Nat} (hv : v < 64) : w.cell? ⟨b, 2 + v, none⟩ = some (.int .i64 (oi (t v))) := by rw [cell_of_row _ _ (2 + v) _ _ _ h]; exact chC_t _ _ _ hv
theorem ChB.thaw (h : ChB w b vl vo t) (j : Nat) : w.frozen? ⟨b, j, none⟩ = false := by
 have h' : w.heap[b]? = some (.cells (chC vl vo t) 49 (0, 0)) := h
 simp [World.frozen?, h']
theorem ChB.set (h : ChB w b vl vo t) {v : Nat} (hv : v < 64) (x : Option Nat) : ChB (w.setCell ⟨b, 2 + v, none⟩ (.int .i64 (oi x))) b vl vo fun u => if u = v then x else t u := by
 have h' : w.heap[b]? = some (.cells (chC vl vo t) 49 (0, 0)) := h
 show (w.heap.modify b _)[b]? = _
 rw [Array.getElem?_modify, if_pos rfl, h', ← chC_set _ _ _ hv]; rfl
end
structure Sys (w0 : World) (n N : Nat) (A : Option Addr) (ps : List (Cv × List Tv)) (vs : Nat → List Nat) (s : Nat → Nat) : Prop where
 gns : Gns w0 A N ps
 ok : ∀ x ∈ ps, IsS w0 x.1 x.2 (n : Int)
 n64 : n ≤ 64
 vs : ∀ i x, ps[i]? = some x → vs i = x.2.map fun t => t.v.toNat
 st : ∀ i x, ps[i]? = some x → s i = x.1.s.toNat
structure ConAt (w : World) (A : Option Addr) (i n si : Nat) (l : List Nat) (b off : Nat) (va : Cv) : Prop where
 adr : A = some ⟨b, off, none⟩
 s : va.s = (si : Int)
 s4 : si ≤ 4
 k : va.n = l.length
 k9 : va.n ≤ 1000
 cap : va.n ≤ va.c
 lt : b < w.heap.size
 cells : At5 w b (off + i * 5) va
 ts : ∀ j, j < va.n → ∃ bk of2 x, va.A = some ⟨bk, of2, none⟩ ∧ bk < w.heap.size ∧ At4 w bk (of2 + j * 4) x ∧ x.v = ((nth l j : Nat) : Int) ∧ nth l j < n
theorem Sys.conU {w0 : World} {n N : Nat} {A : Option Addr} {ps : List (Cv × List Tv)} {vs : Nat → List Nat} {s : Nat → Nat} (h : Sys w0 n N A ps vs s) {i : Nat} (hi : i < N) : ∃ b off va, ∀ w, Below w0.heap.size w0 w → ConAt w A i n (s i) (vs i) b off va := by
 have hl := h.gns.len
 obtain ⟨b, off, e, hbl, hc⟩ := h.gns.kons.mem (by omega)
 have hx := List.getElem?_eq_getElem (show i < ps.length by omega)
 have hm : ps[i] ∈ ps := List.getElem_mem _
 have hok := h.ok _ hm
 have hg := h.gns.each _ hm
 have hv := h.vs i _ hx
 have hlen : (vs i).length = ps[i].1.n := by rw [hv, List.length_map]; exact hg.row.len
 refine ⟨b, off, ps[i].1, fun w hb => ⟨e, ?_, ?_, hlen.symm, hg.n, hg.cap, Nat.lt_of_lt_of_le hbl hb.size, ?_, fun j hj => ?_⟩⟩
 · have := hok.1; rw [h.st i _ hx]; omega
 · have := hok.1; rw [h.st i _ hx]; omega
 · exact (hc i _ (by rw [List.getElem?_map, hx]; rfl)).keep (hb.block b hbl)
 ·
  obtain ⟨bk, of2, e2, _, hbk, hcell⟩ := hg.row.mem (by omega)
  have hj2 : j < ps[i].2.length := by rw [hg.row.len]; exact hj
  have ht := List.getElem?_eq_getElem hj2
  obtain ⟨e3, e4⟩ := hok.var ht
  exact ⟨bk, of2, _, e2, Nat.lt_of_lt_of_le hbk hb.size, (hcell j _ ht).keep (hb.block bk hbk), by rw [hv]; exact e3, by rw [hv]; exact e4⟩
theorem Sys.con {w0 w : World} {n N : Nat} {A : Option Addr} {ps : List (Cv × List Tv)} {vs : Nat → List Nat} {s : Nat → Nat} (h : Sys w0 n N A ps vs s) (hb : Below w0.heap.size w0 w) {i : Nat} (hi : i < N) : ∃ b off va, ConAt w A i n (s i) (vs i) b off va := by
 obtain ⟨b, off, va, hc⟩ := h.conU hi
 exact ⟨b, off, va, hc w hb⟩
theorem Sys.s4 {w0 : World} {n N : Nat} {A : Option Addr} {ps : List (Cv × List Tv)} {vs : Nat → List Nat} {s : Nat → Nat} (h : Sys w0 n N A ps vs s) : ∀ i, i < N → s i ≤ 4 := fun i hi => by
 obtain ⟨_, _, _, hc⟩ := h.con (Below.refl _ _) hi
 exact hc.s4
theorem Sys.lt {w0 : World} {n N : Nat} {A : Option Addr} {ps : List (Cv × List Tv)} {vs : Nat → List Nat} {s : Nat → Nat} (h : Sys w0 n N A ps vs s) {i v : Nat} (hi : i < N) (hv : v ∈ vs i) : v < n := by
 obtain ⟨_, _, va, hc⟩ := h.con (Below.refl _ _) hi
 obtain ⟨j, hj, rfl⟩ := mem_nth hv
 obtain ⟨_, _, _, _, _, _, _, e⟩ := hc.ts j (by rw [hc.k]; exact hj)
 exact e
theorem Sys.N9 {w0 : World} {n N : Nat} {A : Option Addr} {ps : List (Cv × List Tv)} {vs : Nat → List Nat} {s : Nat → Nat} (h : Sys w0 n N A ps vs s) : N ≤ 1000 := h.gns.le
end Go.Proofs.Ytjbhhccklfddaaa
