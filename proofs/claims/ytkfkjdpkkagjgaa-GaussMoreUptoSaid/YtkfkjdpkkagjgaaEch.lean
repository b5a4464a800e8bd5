/-
  Rows in stairs, no program: rows no two of which lead at the same place, what is left of another one when they are taken from it.
-/
import Derived.Test.YtkfkjdpkkagjgaaLin
namespace Go.Proofs.Ytkfkjdpkkagjgaa
set_option maxRecDepth 20000

/-- Rows that lead at places of their own. -/
structure Ech (n : Nat) (R : List (Nat → Rat)) : Prop where
  lt : ∀ r ∈ R, lead n r < n
  two : R.Pairwise fun r s => lead n r ≠ lead n s
theorem Ech.one {n : Nat} {R : List (Nat → Rat)} (h : Ech n R) : ∀ r ∈ R, ∀ s ∈ R, lead n r = lead n s → r = s := by
  intro r hr s hs e
  obtain ⟨i, hi, rfl⟩ := List.getElem_of_mem hr
  obtain ⟨j, hj, rfl⟩ := List.getElem_of_mem hs
  have hp := List.pairwise_iff_getElem.1 h.two
  rcases Nat.lt_trichotomy i j with h1 | h1 | h1
  · exact absurd e (hp i j hi hj h1)
  · subst h1; rfl
  · exact absurd e.symm (hp j i hj hi h1)
theorem Ech.ind {n : Nat} {R : List (Nat → Rat)} (h : Ech n R) : Ind n (fun i => (R[i]?).getD fun _ => 0) R.length := by
  intro u hu
  have key : ∀ m : Nat, ∀ i, ∀ hi : i < R.length, lead n R[i] < m → u i = 0 := by
    intro m
    induction m with
    | zero => intro i hi h0; exact absurd h0 (Nat.not_lt_zero _)
    | succ m ih =>
      intro i hi hm
      by_cases hlt : lead n R[i] < m
      · exact ih i hi hlt
      have hm' : lead n R[i] = m := by omega
      have h0 : sm (fun k => u k * ((R[k]?).getD fun _ => 0) (lead n R[i])) R.length = 0 := hu (lead n R[i]) (h.lt _ (List.getElem_mem hi))
      rw [sm_single (k := i) (fun k hk hne => ?_) hi] at h0
      · rw [List.getElem?_eq_getElem hi] at h0
        have h2 : u i * R[i] (lead n R[i]) = 0 := h0
        rcases Rat.mul_eq_zero.1 h2 with h3 | h3
        · exact h3
        · exact absurd h3 (lead_ne (h.lt _ (List.getElem_mem hi)))
      · rw [List.getElem?_eq_getElem hk]
        show u k * R[k] (lead n R[i]) = 0
        rcases Nat.lt_trichotomy (lead n R[k]) (lead n R[i]) with h1 | h1 | h1
        · rw [ih k hk (by omega), Rat.zero_mul]
        · exfalso
          have hp := List.pairwise_iff_getElem.1 h.two
          rcases Nat.lt_or_gt_of_ne hne with h4 | h4
          · exact hp k i hk hi h4 h1
          · exact hp i k hi hk h4 h1.symm
        · rw [lead_zero h1, Rat.mul_zero]
  intro i hi
  exact key (lead n R[i] + 1) i hi (Nat.lt_succ_self _)
theorem Ech.len {n : Nat} {R : List (Nat → Rat)} (h : Ech n R) : R.length ≤ n := by
  refine ind_le (B' := fun i j => if i = j then 1 else 0) h.ind fun i hi => ?_
  refine ⟨fun k => ((R[i]?).getD fun _ => 0) k, fun j hj => ?_⟩
  show _ = sm (fun k => ((R[i]?).getD fun _ => 0) k * (if k = j then 1 else 0)) n
  rw [sm_single (k := j) (fun k _ hne => by rw [if_neg hne, Rat.mul_zero]) hj, if_pos rfl, Rat.mul_one]
/-- A point told from a place on: the rows ahead of it can be made to hold, with all that leads nothing as it was. -/
theorem Ech.ext {n : Nat} {R : List (Nat → Rat)} (h : Ech n R) : ∀ (m : Nat) (x : Nat → Rat), m ≤ n → (∀ r ∈ R, m ≤ lead n r → dot n r x = 0) →
    ∃ y, Sat n R y ∧ (∀ j, m ≤ j → y j = x j) ∧ ∀ j, j < m → (∀ r ∈ R, lead n r ≠ j) → y j = x j
  | 0, x, _, hx => ⟨x, fun r hr => hx r hr (Nat.zero_le _), fun _ _ => rfl, fun _ _ _ => rfl⟩
  | m + 1, x, hm, hx => by
    by_cases hl : ∃ r ∈ R, lead n r = m
    · obtain ⟨r, hr, hrm⟩ := hl
      have hrn : r m ≠ 0 := by have := lead_ne (h.lt r hr); rw [hrm] at this; exact this
      obtain ⟨z, hz⟩ : ∃ z : Nat → Rat, z = fun j => if j = m then x m - dot n r x / r m else x j := ⟨_, rfl⟩
      have z1 : z m = x m - dot n r x / r m := by rw [hz]; exact if_pos rfl
      have z2 : ∀ j, j ≠ m → z j = x j := fun j hj => by rw [hz]; exact if_neg hj
      clear hz
      have hd : ∀ s : Nat → Rat, dot n s z = dot n s x + s m * (z m - x m) := fun s => by
        rw [dot_diff n s z x, sm_single (k := m) (fun i _ hne => by rw [z2 i hne, Rat.sub_self, Rat.mul_zero]) (by omega)]
      obtain ⟨y, h1, h2, h3⟩ := h.ext m z (by omega) (fun s hs hms => by
        by_cases e : lead n s = m
        · have := h.one s hs r hr (by rw [e, hrm])
          subst this
          have e2 : x m - dot n s x / s m - x m = -(dot n s x / s m) := by
            rw [Rat.sub_eq_add_neg, Rat.sub_eq_add_neg, Rat.add_comm (x m), Rat.add_assoc, Rat.add_neg_cancel, Rat.add_zero]
          rw [hd, z1, e2, Rat.mul_neg, Rat.mul_comm (s m), div_mul' hrn, Rat.add_neg_cancel]
        · rw [hd, lead_zero (n := n) (a := s) (show m < lead n s by omega), Rat.zero_mul, Rat.add_zero]
          exact hx s hs (by omega))
      refine ⟨y, h1, fun j hj => ?_, fun j hj hn => ?_⟩
      · rw [h2 j (by omega), z2 j (by omega)]
      · by_cases e : j = m
        · exact absurd (e ▸ hrm) (hn r hr)
        · rw [h3 j (by omega) hn, z2 j e]
    · obtain ⟨y, h1, h2, h3⟩ := h.ext m x (by omega) (fun s hs hms => hx s hs (by
        rcases Nat.lt_or_ge m (lead n s) with h4 | h4
        · exact h4
        · exact absurd ⟨s, hs, by omega⟩ hl))
      refine ⟨y, h1, fun j hj => h2 j (by omega), fun j hj hn => ?_⟩
      by_cases e : j = m
      · exact h2 j (by omega)
      · exact h3 j (by omega) hn
theorem dot_congr {n : Nat} {f g x y : Nat → Rat} (h : ∀ j, j ≤ n → f j = g j) (hx : ∀ j, j < n → x j = y j) : dot n f x = dot n g y := by
  unfold dot
  rw [sm_congr (fun i hi => by rw [h i (by omega), hx i hi]), h n (Nat.le_refl _)]
theorem dot_step {n : Nat} {u v s x : Nat → Rat} {p c : Rat} (h : ∀ j, j ≤ n → u j = v j * p + c * s j) : dot n u x = dot n v x * p + c * dot n s x := by
  have e : dot n u x = dot n (lss (tms v p) s (-c)) x := dot_congr (fun j hj => by
    rw [h j hj, lss_eq, Rat.neg_neg]; rfl) fun _ _ => rfl
  rw [e, dot_lss, dot_tms, Rat.sub_eq_add_neg, Rat.neg_mul, Rat.neg_neg]
/-- In the span by all places, K's too: it is 0 wherever all of them are. -/
theorem sp_dot {n : Nat} {R : List (Nat → Rat)} {u x : Nat → Rat} (h : Sp (n + 1) R u) (hx : Sat n R x) : dot n u x = 0 := by
  induction h with
  | zero h => rw [dot_zero fun j hj => h j (by omega), h _ (by omega)]
  | @step v u s c _ hs h ih =>
    rw [dot_step (v := v) (p := 1) (c := c) (s := s) fun j hj => by rw [h j (by omega), Rat.mul_one], ih, hx s hs, Rat.zero_mul, Rat.mul_zero, Rat.add_zero]
theorem Sp.less {n : Nat} {R : List (Nat → Rat)} {u : Nat → Rat} (h : Sp (n + 1) R u) : Sp n R u := by
  induction h with
  | zero h => exact .zero fun j hj => h j (by omega)
  | step c _ hs h ih => exact .step c ih hs fun j hj => h j (by omega)
/-- What may be left of c: c, so often but not nothing, and rows. -/
def Red (n : Nat) (R : List (Nat → Rat)) (c c' : Nat → Rat) : Prop := ∃ q, q ≠ 0 ∧ ∃ u, Sp (n + 1) R u ∧ ∀ j, j ≤ n → c' j = c j * q + u j
theorem one_ne : (1 : Rat) ≠ 0 := by decide
theorem Red.refl (n : Nat) (R : List (Nat → Rat)) (c : Nat → Rat) : Red n R c c :=
  ⟨1, one_ne, fun _ => 0, .zero fun _ _ => rfl, fun j _ => by rw [Rat.mul_one, Rat.add_zero]⟩
theorem Red.step {n : Nat} {R : List (Nat → Rat)} {c c' c2 r : Nat → Rat} {p s : Rat} (h : Red n R c c') (hr : r ∈ R) (hp : p ≠ 0) (h2 : ∀ j, j ≤ n → c2 j = c' j * p + r j * s) : Red n R c c2 := by
  obtain ⟨q, hq, u, hu, he⟩ := h
  refine ⟨q * p, fun e => ?_, fun j => u j * p + r j * s, (hu.mul p).add ((Sp.mem hr).mul s), fun j hj => ?_⟩
  · rcases Rat.mul_eq_zero.1 e with h | h
    · exact hq h
    · exact hp h
  · rw [h2 j hj, he j hj, Rat.add_mul, Rat.mul_assoc, Rat.add_assoc]
theorem Red.dot {n : Nat} {R : List (Nat → Rat)} {c c' : Nat → Rat} (h : Red n R c c') : ∃ q, q ≠ 0 ∧ ∀ x, Sat n R x → Go.Proofs.Ytkfkjdpkkagjgaa.dot n c' x = Go.Proofs.Ytkfkjdpkkagjgaa.dot n c x * q := by
  obtain ⟨q, hq, u, hu, he⟩ := h
  refine ⟨q, hq, fun x hx => ?_⟩
  rw [dot_step (v := c) (p := q) (c := 1) (s := u) fun j hj => by rw [he j hj, Rat.one_mul], sp_dot hu hx, Rat.mul_zero, Rat.add_zero]
theorem Red.down {n : Nat} {R T : List (Nat → Rat)} {c c' : Nat → Rat} (h : Red n R c c') (hR : ∀ r ∈ R, Sp n T r) (hc : Sp n T c) : Sp n T c' := by
  obtain ⟨q, hq, u, hu, he⟩ := h
  exact ((hc.mul q).add (hu.less.trans hR)).congr fun j hj => he j (by omega)
theorem Red.up {n : Nat} {R T : List (Nat → Rat)} {c c' : Nat → Rat} (h : Red n R c c') (hR : ∀ r ∈ R, Sp n T r) (hc : Sp n T c') : Sp n T c := by
  obtain ⟨q, hq, u, hu, he⟩ := h
  refine ((hc.add ((hu.less.trans hR).mul (-1))).mul (1 / q)).congr fun j hj => ?_
  have e : c' j + u j * -1 = c j * q := by
    rw [he j (by omega), Rat.mul_neg, Rat.mul_one, Rat.add_assoc, Rat.add_neg_cancel, Rat.add_zero]
  rw [e, Rat.mul_assoc, Rat.mul_comm q, div_mul' hq, Rat.mul_one]
/-- What is kept of sums taken in, one by one. -/
structure Stair (n : Nat) (S R : List (Nat → Rat)) (ok : Bool) : Prop where
  ech : Ech n R
  down : ∀ r ∈ R, Sp n S r
  up : ∀ s ∈ S, Sp n R s
  sat : ∀ x, Sat n S x → Sat n R x
  back : ok = true → ∀ x, Sat n R x → Sat n S x
  bad : ok = false → ∀ x, ¬ Sat n S x
theorem Stair.nil (n : Nat) : Stair n [] [] true :=
  ⟨⟨fun r h => (by cases h), List.Pairwise.nil⟩, fun r h => (by cases h), fun r h => (by cases h), fun _ h => h, fun _ _ h => h, fun h => (by cases h)⟩
theorem Stair.none {n : Nat} {S R : List (Nat → Rat)} {ok : Bool} (h : Stair n S R ok) {e e' : Nat → Rat} (hr : Red n R e e') (hl : lead n e' = n) : Stair n (S ++ [e]) R (ok && decide (e' n = 0)) := by
  have hz := lead_all.1 hl
  obtain ⟨q, hq, hd⟩ := hr.dot
  refine ⟨h.ech, fun r hr => (h.down r hr).more fun s hs => List.mem_append_left _ hs, fun s hs => ?_, fun x hx => h.sat x (sat_snoc.1 hx).1, fun hok x hx => ?_, fun hok x hx => ?_⟩
  · rcases List.mem_append.1 hs with hs | hs
    · exact h.up s hs
    · rw [List.mem_singleton.1 hs]; exact hr.up (fun r hr => .mem hr) (.zero hz)
  · simp only [Bool.and_eq_true, decide_eq_true_eq] at hok
    refine sat_snoc.2 ⟨h.back hok.1 x hx, ?_⟩
    have := hd x hx
    rw [dot_zero hz, hok.2] at this
    rcases Rat.mul_eq_zero.1 this.symm with h1 | h1
    · exact h1
    · exact absurd h1 hq
  · obtain ⟨h1, h2⟩ := sat_snoc.1 hx
    cases ok with
    | false => exact h.bad rfl x h1
    | true =>
      have := hd x (h.sat x h1)
      rw [h2, Rat.zero_mul, dot_zero hz] at this
      simp [this] at hok
theorem Stair.some {n : Nat} {S R : List (Nat → Rat)} {ok : Bool} (h : Stair n S R ok) {e e' r' : Nat → Rat} {t : Rat} (hr : Red n R e e') (hl : lead n e' < n) (hR : ∀ r ∈ R, lead n r ≠ lead n e') (ht : t ≠ 0) (hr' : ∀ j, j ≤ n → r' j = e' j * t) : Stair n (S ++ [e]) (R ++ [r']) ok := by
  obtain ⟨q, hq, hd⟩ := hr.dot
  have hle : lead n r' = lead n e' := lead_of hl (fun j hj => by rw [hr' j (by omega), lead_zero hj, Rat.zero_mul]) (fun e => by
    rw [hr' _ (by omega)] at e
    rcases Rat.mul_eq_zero.1 e with h1 | h1
    · exact lead_ne hl h1
    · exact ht h1)
  have hdr : ∀ x, dot n r' x = dot n e' x * t := fun x => by
    rw [dot_step (v := e') (p := t) (c := 0) (s := e') fun j hj => by rw [hr' j hj, Rat.zero_mul, Rat.add_zero], Rat.zero_mul, Rat.add_zero]
  have hup : ∀ s ∈ R, Sp n (R ++ [r']) s := fun s hs => .mem (List.mem_append_left _ hs)
  have hdn : ∀ r ∈ R, Sp n (S ++ [e]) r := fun r hr => (h.down r hr).more fun s hs => List.mem_append_left _ hs
  have he' : Sp n (R ++ [r']) e' := ((Sp.mem (S := R ++ [r']) (s := r') (by simp)).mul (1 / t)).congr fun j hj => by
    rw [hr' j (by omega), Rat.mul_assoc, Rat.mul_comm t, div_mul' ht, Rat.mul_one]
  refine ⟨⟨fun s hs => ?_, ?_⟩, fun s hs => ?_, fun s hs => ?_, fun x hx => ?_, fun hok x hx => ?_, fun hok x hx => h.bad hok x (sat_snoc.1 hx).1⟩
  · rcases List.mem_append.1 hs with hs | hs
    · exact h.ech.lt s hs
    · rw [List.mem_singleton.1 hs, hle]; exact hl
  · rw [List.pairwise_append]
    refine ⟨h.ech.two, List.pairwise_singleton _ _, fun s hs u hu => ?_⟩
    rw [List.mem_singleton.1 hu, hle]; exact hR s hs
  · rcases List.mem_append.1 hs with hs | hs
    · exact hdn s hs
    · rw [List.mem_singleton.1 hs]
      exact ((hr.down hdn (.mem (by simp))).mul t).congr fun j hj => hr' j (by omega)
  · rcases List.mem_append.1 hs with hs | hs
    · exact (h.up s hs).trans hup
    · rw [List.mem_singleton.1 hs]; exact hr.up hup he'
  · obtain ⟨h1, h2⟩ := sat_snoc.1 hx
    have h3 := h.sat x h1
    refine sat_snoc.2 ⟨h3, ?_⟩
    rw [hdr, hd x h3, h2, Rat.zero_mul, Rat.zero_mul]
  · obtain ⟨h1, h2⟩ := sat_snoc.1 hx
    refine sat_snoc.2 ⟨h.back hok x h1, ?_⟩
    rw [hdr, hd x h1] at h2
    rcases Rat.mul_eq_zero.1 h2 with h3 | h3
    · rcases Rat.mul_eq_zero.1 h3 with h4 | h4
      · exact h4
      · exact absurd h4 hq
    · exact absurd h3 ht
theorem Stair.basis {n : Nat} {S R : List (Nat → Rat)} {ok : Bool} (h : Stair n S R ok) : Basis n S R := ⟨h.ech.ind, h.down, h.up⟩
theorem Ech.sat {n : Nat} {R : List (Nat → Rat)} (h : Ech n R) : ∃ x, Sat n R x := by
  obtain ⟨y, hy, _⟩ := h.ext n (fun _ => 0) (Nat.le_refl _) (fun r hr hl => absurd (h.lt r hr) (by omega))
  exact ⟨y, hy⟩
theorem Stair.cons {n : Nat} {S R : List (Nat → Rat)} {ok : Bool} (h : Stair n S R ok) : ok = true ↔ ∃ x, Sat n S x := by
  constructor
  · intro hok
    obtain ⟨x, hx⟩ := h.ech.sat
    exact ⟨x, h.back hok x hx⟩
  · rintro ⟨x, hx⟩
    cases ok with
    | true => rfl
    | false => exact absurd hx (h.bad rfl x)
/-- Two points at which the rows hold: alike behind a place that no row leads at, and not there. -/
theorem Ech.pair {n k : Nat} {R : List (Nat → Rat)} (h : Ech n R) (hk : k < n) (hR : ∀ r ∈ R, lead n r ≠ k) : ∃ x y, Sat n R x ∧ Sat n R y ∧ y k = x k + 1 ∧ ∀ j, k < j → y j = x j := by
  obtain ⟨x, hx⟩ := h.sat
  obtain ⟨z, hz⟩ : ∃ z : Nat → Rat, z = fun j => if j = k then x k + 1 else x j := ⟨_, rfl⟩
  have z1 : z k = x k + 1 := by rw [hz]; exact if_pos rfl
  have z2 : ∀ j, j ≠ k → z j = x j := fun j hj => by rw [hz]; exact if_neg hj
  clear hz
  obtain ⟨y, h1, h2, _⟩ := h.ext k z (by omega) (fun s hs hms => by
    rw [dot_diff n s z x, sm_single (k := k) (fun i _ hne => by rw [z2 i hne, Rat.sub_self, Rat.mul_zero]) hk, lead_zero (n := n) (a := s) (show k < lead n s by have := hR s hs; omega), Rat.zero_mul, Rat.add_zero]
    exact hx s hs)
  exact ⟨x, y, hx, h1, by rw [h2 k (Nat.le_refl _), z1], fun j hj => by rw [h2 j (by omega), z2 j (by omega)]⟩
theorem dot_gap {n k : Nat} {c x y : Nat → Rat} (hk : k < n) (h0 : ∀ j, j < k → c j = 0) (h1 : y k = x k + 1) (h2 : ∀ j, k < j → j < n → c j * (y j - x j) = 0) : dot n c y = dot n c x + c k := by
  rw [dot_diff n c y x, sm_single (k := k) (fun i hi hne => ?_) hk, h1]
  · congr 1
    rw [show x k + 1 - x k = 1 by rw [Rat.sub_eq_add_neg, Rat.add_comm (x k), Rat.add_assoc, Rat.add_neg_cancel, Rat.add_zero], Rat.mul_one]
  · rcases Nat.lt_or_gt_of_ne hne with h3 | h3
    · rw [h0 i h3, Rat.zero_mul]
    · exact h2 i h3 hi
theorem Stair.imp {n : Nat} {S R : List (Nat → Rat)} {ok : Bool} (h : Stair n S R ok) (hok : ok = true) {c c' : Nat → Rat} (hr : Red n R c c') (hR : ∀ r ∈ R, lead n r ≠ lead n c') : (lead n c' = n ∧ c' n = 0) ↔ ∀ x, Sat n S x → dot n c x = 0 := by
  obtain ⟨q, hq, hd⟩ := hr.dot
  constructor
  · rintro ⟨h1, h2⟩ x hx
    have := hd x (h.sat x hx)
    rw [dot_zero (lead_all.1 h1), h2] at this
    rcases Rat.mul_eq_zero.1 this.symm with h3 | h3
    · exact h3
    · exact absurd h3 hq
  · intro hc
    have hv : ∀ x, Sat n R x → dot n c' x = 0 := fun x hx => by rw [hd x hx, hc x (h.back hok x hx), Rat.zero_mul]
    rcases Nat.lt_or_ge (lead n c') n with h1 | h1
    · exfalso
      obtain ⟨x, y, hx, hy, e1, e2⟩ := h.ech.pair h1 hR
      have e3 := dot_gap (c := c') h1 (fun j hj => lead_zero hj) e1 (fun j hj _ => by rw [e2 j hj, Rat.sub_self, Rat.mul_zero])
      rw [hv x hx, hv y hy, Rat.zero_add] at e3
      exact lead_ne h1 e3.symm
    · have hl : lead n c' = n := Nat.le_antisymm (lead_le n c') h1
      obtain ⟨x, hx⟩ := h.ech.sat
      have := hv x hx
      rw [dot_zero (lead_all.1 hl)] at this
      exact ⟨hl, this⟩
/-- A row of one variable more, which it does not have. -/
def lift (n : Nat) (r : Nat → Rat) : Nat → Rat := fun j => if j < n then r j else if j = n then 0 else r n
theorem lift_lt {n j : Nat} {r : Nat → Rat} (h : j < n) : lift n r j = r j := if_pos h
theorem lift_n (n : Nat) (r : Nat → Rat) : lift n r n = 0 := by unfold lift; rw [if_neg (Nat.lt_irrefl _), if_pos rfl]
theorem lift_k (n : Nat) (r : Nat → Rat) : lift n r (n + 1) = r n := by unfold lift; rw [if_neg (by omega), if_neg (by omega)]
theorem dot_lift (n : Nat) (r x : Nat → Rat) : dot (n + 1) (lift n r) x = dot n r x := by
  unfold dot
  rw [sm, lift_n, lift_k, Rat.zero_mul, Rat.add_zero, sm_congr fun i hi => by rw [lift_lt hi]]
theorem sp_lift {n : Nat} {R : List (Nat → Rat)} {u : Nat → Rat} (h : Sp (n + 1 + 1) (R.map (lift n)) u) : u n = 0 := by
  induction h with
  | zero h => exact h n (by omega)
  | @step v u s c _ hs h ih =>
    obtain ⟨r, _, rfl⟩ := List.mem_map.1 hs
    rw [h n (by omega), ih, lift_n, Rat.mul_zero, Rat.add_zero]
/-- What is left of v less a variable more: the one alone, just if v is told. -/
theorem Stair.fixed {n v : Nat} {S R : List (Nat → Rat)} {ok : Bool} (h : Stair n S R ok) (hok : ok = true) (hv : v < n) {c c' : Nat → Rat} (hcv : ∀ x, dot (n + 1) c x = x v - x n) (hcn : c n ≠ 0) (hr : Red (n + 1) (R.map (lift n)) c c') (hR : ∀ r ∈ R, lead n r ≠ lead (n + 1) c') :
    lead (n + 1) c' ≤ n ∧ (lead (n + 1) c' = n → ∀ x, Sat n S x → x v = -(c' (n + 1)) / c' n) ∧ (lead (n + 1) c' < n → ¬ ∃ t, ∀ x, Sat n S x → x v = t) := by
  have hcn' : c' n ≠ 0 := by
    obtain ⟨q, hq, u, hu, he⟩ := hr
    rw [he n (by omega), sp_lift hu, Rat.add_zero]
    intro e
    rcases Rat.mul_eq_zero.1 e with h1 | h1
    · exact hcn h1
    · exact hq h1
  obtain ⟨q, hq, hd⟩ := hr.dot
  have hS : ∀ x y : Nat → Rat, Sat n R x → (∀ j, j < n → y j = x j) → Sat (n + 1) (R.map (lift n)) y := fun x y hx hy s hs => by
    obtain ⟨r, hr, rfl⟩ := List.mem_map.1 hs
    rw [dot_lift, ← hx r hr]
    exact dot_congr (fun _ _ => rfl) hy
  have hle : lead (n + 1) c' ≤ n := by
    rcases Nat.lt_or_ge n (lead (n + 1) c') with h1 | h1
    · exact absurd (lead_zero h1) hcn'
    · exact h1
  have hat : ∀ (x : Nat → Rat) (t : Rat), Sat n R x → x v = t → dot (n + 1) c' (fun j => if j = n then t else x j) = 0 := fun x t hx hxv => by
    rw [hd _ (hS x _ hx fun j hj => if_neg (by omega)), hcv]
    show ((if v = n then t else x v) - (if n = n then t else x n)) * q = 0
    rw [if_neg (by omega), if_pos rfl, hxv, Rat.sub_self, Rat.zero_mul]
  refine ⟨hle, fun hl x hx => ?_, fun hl => ?_⟩
  · have h1 := hat x (x v) (h.sat x hx) rfl
    have h2 : dot (n + 1) c' (fun j => if j = n then x v else x j) = c' n * x v + c' (n + 1) := by
      unfold dot
      rw [sm, sm_zero' fun i hi => by rw [lead_zero (n := n + 1) (a := c') (by omega), Rat.zero_mul], Rat.zero_add]
      show c' n * (if n = n then x v else x n) + _ = _
      rw [if_pos rfl]
    rw [h2] at h1
    have h3 : x v * c' n = -(c' (n + 1)) := by
      rw [Rat.mul_comm]
      have := congrArg (fun z => z + -(c' (n + 1))) h1
      simpa [Rat.add_assoc, Rat.add_neg_cancel, Rat.add_zero, Rat.zero_add] using this
    rw [← h3, Rat.div_def, Rat.mul_assoc, Rat.mul_inv_cancel _ hcn', Rat.mul_one]
  · rintro ⟨t, ht⟩
    obtain ⟨x, y, hx, hy, e1, e2⟩ := h.ech.pair hl hR
    have a1 := hat x t hx (ht x (h.back hok x hx))
    have a2 := hat y t hy (ht y (h.back hok y hy))
    have e3 := dot_gap (n := n + 1) (k := lead (n + 1) c') (c := c') (x := fun j => if j = n then t else x j) (y := fun j => if j = n then t else y j) (by omega) (fun j hj => lead_zero hj)
      (by
        have hne : ¬ lead (n + 1) c' = n := by omega
        simp only [hne, if_false]
        exact e1)
      (fun j hj _ => by
        show c' j * ((if j = n then t else y j) - (if j = n then t else x j)) = 0
        split
        · rw [Rat.sub_self, Rat.mul_zero]
        · rw [e2 j hj, Rat.sub_self, Rat.mul_zero])
    rw [a1, a2, Rat.zero_add] at e3
    exact lead_ne (n := n + 1) (by omega) e3.symm
end Go.Proofs.Ytkfkjdpkkagjgaa
