/-
  A region that draws its order of evaluation, by an invariant over what has come up: one case an operation, whatever the order is.
-/
import Derived.RegionTactic
namespace Go.Proofs.Ytaifgehmlfjljaa
set_option maxRecDepth 20000
open Go

/-- How many operations have not come up yet. -/
def undone : List Bool → Nat
  | [] => 0
  | b :: l => (if b then 0 else 1) + undone l
theorem undone_set : ∀ (l : List Bool) (i : Nat), l[i]? = some false → undone (l.set i true) + 1 = undone l
  | [], i, h => by simp at h
  | b :: l, 0, h => by
    simp only [List.getElem?_cons_zero, Option.some.injEq] at h
    subst h
    show 0 + undone l + 1 = 1 + undone l
    omega
  | b :: l, i + 1, h => by
    simp only [List.getElem?_cons_succ] at h
    have := undone_set l i h
    show (if b then 0 else 1) + undone (l.set i true) + 1 = (if b then 0 else 1) + undone l
    omega
theorem getD_some {listed : Array Bool} {i : Nat} (h : listed.getD i true = false) : listed.toList[i]? = some false := by
  rw [Array.getElem?_toList]
  rw [Array.getD_eq_getD_getElem?] at h
  cases hq : listed[i]? with
  | none => rw [hq] at h; cases h
  | some b => rw [hq] at h; exact congrArg some h
section
variable {P : Program} {ops : Array Oper} {Q : Exit → Act → World → Prop} {md : Region.Mode}

/-- An invariant that every operation keeps, and that gives the end where none may come up, serves every order. -/
theorem wpAny_inv (I : Array Bool → Act → World → Prop)
    (hs : ∀ listed a w i, I listed a w → i ∈ Region.ready md ops listed → wpOp P ops Q i (I (listed.setIfInBounds i true)) a w)
    (he : ∀ listed a w, I listed a w → Region.ready md ops listed = [] → Q .normal a w) :
    ∀ (fuel : Nat) (listed : Array Bool) (a : Act) (w : World), undone listed.toList ≤ fuel → I listed a w → wpAny P md ops Q fuel listed a w := by
  intro fuel
  induction fuel with
  | zero =>
    intro listed a w hu hI
    have hr : Region.ready md ops listed = [] := by
      refine List.eq_nil_iff_forall_not_mem.2 fun i hi => ?_
      have := undone_set _ _ (getD_some (mem_ready.1 hi).1)
      omega
    exact ⟨hr, he _ _ _ hI hr⟩
  | succ fuel ih =>
    intro listed a w hu hI
    refine ⟨fun hr => he _ _ _ hI hr, fun i hi => ?_⟩
    refine wpOp_mono (fun a' w' h => ih _ a' w' ?_ h) (hs listed a w i hI hi)
    have := undone_set _ _ (getD_some (mem_ready.1 hi).1)
    rw [Array.toList_setIfInBounds]
    omega
/-- Edges point back alone: then what may come up no more has come up whole. -/
theorem all_listed {listed : Array Bool} (hz : listed.size = ops.size) (hb : ∀ (j : Nat) (o : Oper), ops[j]? = some o → ∀ e ∈ o.after, e.on < j) (hr : Region.ready md ops listed = []) :
    ∀ j, j < ops.size → listed.getD j false = true := by
  intro j
  induction j using Nat.strongRecOn with
  | _ j ih =>
    intro hj
    cases h : listed.getD j false with
    | true => rfl
    | false =>
      exfalso
      have hjl : j < listed.size := by omega
      have h2 : listed.getD j true = false := by
        rw [Array.getD_eq_getD_getElem?, Array.getElem?_eq_getElem hjl] at h ⊢
        exact h
      obtain ⟨o, ho⟩ : ∃ o, ops[j]? = some o := ⟨_, Array.getElem?_eq_getElem hj⟩
      have hm : j ∈ Region.ready md ops listed := mem_ready.2 ⟨h2, o, ho, fun e he _ => ih e.on (hb j o ho e he) (by have := hb j o ho e he; omega)⟩
      rw [hr] at hm
      cases hm
end

/-- Each of some numbers has come up. -/
def allS (S : Nat → Prop) : List Nat → Prop
  | [] => True
  | k :: l => S k ∧ allS S l
/-- Whom an operation waits for. -/
def depsOf (o : Oper) : List Nat := (o.after.toList.filter (Region.binds .any)).map (·.on)
theorem allS_of {S : Nat → Prop} : ∀ (l : List Nat), (∀ k ∈ l, S k) → allS S l
  | [], _ => trivial
  | k :: l, h => ⟨h k List.mem_cons_self, allS_of l fun j hj => h j (List.mem_cons_of_mem _ hj)⟩
theorem allS_mono {S : Nat → Prop} {i : Nat} : ∀ (l : List Nat), allS S l → allS (fun j => j = i ∨ S j) l
  | [], _ => trivial
  | _ :: l, h => ⟨.inr h.1, allS_mono l h.2⟩
/-- Edges point back. -/
def backB (ops : Array Oper) : Bool := (List.range ops.size).all fun i => match ops[i]? with
  | none => true
  | some o => o.after.all fun e => decide (e.on < i)
theorem backB_spec {ops : Array Oper} (h : backB ops = true) : ∀ (j : Nat) (o : Oper), ops[j]? = some o → ∀ e ∈ o.after, e.on < j := by
  intro j o ho e he
  have hlt : j < ops.size := (Array.getElem?_eq_some_iff.1 ho).1
  unfold backB at h
  rw [List.all_eq_true] at h
  have h1 := h j (List.mem_range.2 hlt)
  rw [ho] at h1
  have h2 : o.after.all (fun e => decide (e.on < j)) = true := h1
  rw [Array.all_eq_true_iff_forall_mem] at h2
  exact of_decide_eq_true (h2 e he)
theorem on_set {listed : Array Bool} {i : Nat} (hi : i < listed.size) : (fun j => (listed.setIfInBounds i true).getD j false = true) = (fun j => j = i ∨ listed.getD j false = true) := by
  funext j
  apply propext
  by_cases h : j = i
  · subst h
    simp [hi]
  · rw [getD_set_ne false (Ne.symm h)]
    simp [h]
section
variable {P : Program} {ops : Array Oper} {Q : Exit → Act → World → Prop}

theorem region_inv {id : Nat} {a : Act} {w : World} (J : (Nat → Prop) → Act → World → Prop) (hm : P.follows .mixedOrders = true) (hb : backB ops = true)
    (h0 : J (fun _ => False) a w.drew)
    (hs : ∀ (i : Nat) (o : Oper) (S : Nat → Prop) (a : Act) (w : World), ops[i]? = some o → J S a w → ¬ S i → (∀ j o', ops[j]? = some o' → S j → allS S (depsOf o')) → allS S (depsOf o) → ∀ K : Act → World → Prop, (∀ a' w', J (fun j => j = i ∨ S j) a' w' → K a' w') →
      if Region.wanted o (yielded ops a.tmps) = true then Oper.wp P o a w K Q else K (a.put o.dst undef) w)
    (he : ∀ S a w, J S a w → (∀ j, j < ops.size → S j) → Q .normal a w) : (Code.region id ops true).wp P Q a w := by
  refine wp_region_any hm ?_
  refine wpAny_inv (fun listed a w => listed.size = ops.size ∧ (∀ j o', ops[j]? = some o' → listed.getD j false = true → allS (fun j => listed.getD j false = true) (depsOf o')) ∧ J (fun j => listed.getD j false = true) a w) ?_ ?_ _ _ _ _ ?_ ?_
  · rintro listed a w i ⟨hz, hcl, hJ⟩ hi
    obtain ⟨h1, o, ho, hd⟩ := mem_ready.1 hi
    have hlt : i < listed.size := by rw [hz]; exact (Array.getElem?_eq_some_iff.1 ho).1
    refine wpOp_step ho fun K hK => ?_
    have hdo : allS (fun j => listed.getD j false = true) (depsOf o) := allS_of _ fun k hk => by
      unfold depsOf at hk
      obtain ⟨e, he, rfl⟩ := List.mem_map.1 hk
      rw [List.mem_filter] at he
      exact hd e (Array.mem_toList_iff.1 he.1) he.2
    refine hs i o _ a w ho hJ ?_ hcl hdo K fun a' w' h => hK a' w' ⟨by simpa using hz, ?_, ?_⟩
    · intro h
      rw [Array.getD_eq_getD_getElem?, Array.getElem?_eq_getElem hlt] at h h1
      exact absurd (h1.symm.trans h) (by decide)
    · rw [on_set hlt]
      intro j o' ho' hj
      have hj2 : j = i ∨ listed.getD j false = true := Eq.mp (congrFun (on_set hlt) j) hj
      rcases hj2 with rfl | hj
      · rw [ho] at ho'
        injection ho' with ho'
        subst ho'
        exact allS_mono _ hdo
      · exact allS_mono _ (hcl j o' ho' hj)
    · rw [on_set hlt]; exact h
  · rintro listed a w ⟨hz, _, hJ⟩ hr
    refine he _ a w hJ ?_
    intro j hj
    exact all_listed hz (backB_spec hb) hr j hj
  · have : ∀ n, undone (List.replicate n false) = n := by
      intro n
      induction n with
      | zero => rfl
      | succ n ih => rw [List.replicate_succ]; show 1 + undone _ = _; rw [ih]; omega
    rw [Array.toList_replicate, this]
    exact Nat.le_refl _
  · have e : (fun j => (Array.replicate ops.size false).getD j false = true) = (fun _ : Nat => False) := by
      funext j
      apply propext
      rw [Array.getD_eq_getD_getElem?, Array.getElem?_replicate]
      split <;> simp
    refine ⟨by simp, ?_, ?_⟩
    · intro j o' _ h
      exact (Eq.mp (congrFun e j) h : False).elim
    · rw [e]; exact h0
end
end Go.Proofs.Ytaifgehmlfjljaa
