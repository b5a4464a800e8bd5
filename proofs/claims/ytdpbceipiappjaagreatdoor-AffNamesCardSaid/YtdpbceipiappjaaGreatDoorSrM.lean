/-
  Plain expressions as sums, no program: what an expression comes to, or the error that is met first; its names.
-/
import Derived.Test.YtdpbceipiappjaaGreatDoorMAa
import Derived.Test.YtdpbceipiappjaaGreatDoorMEa
namespace Go.Proofs.YtdpbceipiappjaaGreatDoor
set_option maxRecDepth 20000

inductive SR where
  | err (c : Nat)
  | ok (L : List (Int × Rat)) (k : Rat)
def SR.then (r : SR) (f : List (Int × Rat) → Rat → SR) : SR :=
  match r with
  | .err c => .err c
  | .ok L k => f L k
def mulS (L : List (Int × Rat)) (k : Rat) (M : List (Int × Rat)) (q : Rat) : SR :=
  match L, M with
  | [], _ => .ok (scaleL k M) (q * k)
  | _ :: _, [] => .ok (scaleL q L) (k * q)
  | _ :: _, _ :: _ => .err 6
def divS (L : List (Int × Rat)) (k : Rat) (M : List (Int × Rat)) (q : Rat) : SR :=
  match M with
  | [] => if q = 0 then .err 7 else .ok (scaleL (((1 : Int) : Rat) / q) L) (k * (((1 : Int) : Rat) / q))
  | _ :: _ => .err 6
def joinS (c : Nat) (L : List (Int × Rat)) (k : Rat) (M : List (Int × Rat)) (q : Rat) : SR :=
  if c = 3 then .ok (addL L M) (k + q) else if c = 4 then .ok (addL L (scaleL ((-1 : Int) : Rat) M)) (k + q * ((-1 : Int) : Rat)) else if c = 5 then mulS L k M q else divS L k M q
def nmS : Option (List (Int × Rat) × Rat) → SR
  | none => .err 5
  | some x => .ok x.1 x.2
def sumOf (g : ByteArray → Option (List (Int × Rat) × Rat)) : Ex → SR
  | .bad => .err 5
  | .num r => .ok [] r
  | .nm s => nmS (g s)
  | .neg a => (sumOf g a).then fun L k => .ok (scaleL ((-1 : Int) : Rat) L) (k * ((-1 : Int) : Rat))
  | .bin c a b => (sumOf g a).then fun L k => (sumOf g b).then fun M q => joinS c L k M q
/-- The names of a tree. -/
def Ex.nms : Ex → List ByteArray
  | .bad => []
  | .num _ => []
  | .nm s => [s]
  | .neg a => a.nms
  | .bin _ a b => a.nms ++ b.nms
/-- All names are known. -/
def Kn (g : ByteArray → Option (List (Int × Rat) × Rat)) (t : Ex) : Prop := ∀ s ∈ t.nms, g s ≠ none
/-- An error that is none of a name. -/
def SR.Said (P : Prop) : SR → Prop
  | .ok _ _ => P
  | .err c => (c = 5 ∧ ¬ P) ∨ c = 6 ∨ c = 7
theorem mulS_said (L : List (Int × Rat)) (k : Rat) (M : List (Int × Rat)) (q : Rat) {P : Prop} (h : P) : (mulS L k M q).Said P := by
  unfold mulS
  split
  · exact h
  · exact h
  · exact .inr (.inl rfl)
theorem divS_said (L : List (Int × Rat)) (k : Rat) (M : List (Int × Rat)) (q : Rat) {P : Prop} (h : P) : (divS L k M q).Said P := by
  unfold divS
  split
  · split
    · exact .inr (.inr rfl)
    · exact h
  · exact .inr (.inl rfl)
theorem joinS_said (c : Nat) (L : List (Int × Rat)) (k : Rat) (M : List (Int × Rat)) (q : Rat) {P : Prop} (h : P) : (joinS c L k M q).Said P := by
  unfold joinS
  split
  · exact h
  · split
    · exact h
    · split
      · exact mulS_said L k M q h
      · exact divS_said L k M q h
theorem sumOf_said (g : ByteArray → Option (List (Int × Rat) × Rat)) : ∀ t : Ex, t.fine → (sumOf g t).Said (Kn g t) := by
  intro t
  induction t with
  | bad => exact fun h => h.elim
  | num r => exact fun _ s hs => by cases hs
  | nm s =>
    intro _
    rw [sumOf]
    cases hg : g s with
    | none => exact .inl ⟨rfl, fun h => h s (by simp [Ex.nms]) hg⟩
    | some x => exact fun u hu => by simp [Ex.nms] at hu; subst hu; rw [hg]; simp
  | neg a ih =>
    intro hf
    have h := ih hf
    rw [sumOf]
    cases ha : sumOf g a with
    | err c => rw [ha] at h; exact h
    | ok L k => rw [ha] at h; exact h
  | bin c a b iha ihb =>
    intro hf
    have h1 := iha hf.1
    have h2 := ihb hf.2
    rw [sumOf]
    cases ha : sumOf g a with
    | err e =>
      rw [ha] at h1
      rcases h1 with ⟨h1, h3⟩ | h1
      · exact .inl ⟨h1, fun h => h3 fun s hs => h s (by simp [Ex.nms, hs])⟩
      · exact .inr h1
    | ok L k =>
      rw [ha] at h1
      cases hb : sumOf g b with
      | err e =>
        rw [hb] at h2
        rcases h2 with ⟨h2, h3⟩ | h2
        · exact .inl ⟨h2, fun h => h3 fun s hs => h s (by simp [Ex.nms, hs])⟩
        · exact .inr h2
      | ok M q =>
        rw [hb] at h2
        exact joinS_said c L k M q fun s hs => by
          rcases List.mem_append.1 hs with hs | hs
          · exact h1 s hs
          · exact h2 s hs
/-- How great a sum may be. -/
structure SzS (n : Nat) (L : List (Int × Rat)) (k : Rat) : Prop where
  row : SzL (17 * n) L
  num : Sz k (17 * n)
  len : L.length ≤ n
def SR.Szd (n : Nat) : SR → Prop
  | .ok L k => SzS n L k
  | .err _ => True
theorem sz_m1 : Sz ((-1 : Int) : Rat) 1 := by
  have := Sz.lit (x := 1) (y := 1) (s := true) (by omega) (by omega)
  rw [rn_int] at this
  simpa using this
theorem sz_p1 : Sz ((1 : Int) : Rat) 1 := by
  have := Sz.lit (x := 1) (y := 1) (s := false) (by omega) (by omega)
  rw [rn_int] at this
  simpa using this
theorem mulS_szd {L M : List (Int × Rat)} {k q : Rat} {n m : Nat} (h1 : SzS n L k) (h2 : SzS m M q) : (mulS L k M q).Szd (1 + n + m) := by
  unfold mulS
  split
  · exact ⟨(SzL.scale h1.num _ h2.row).more (by omega), (h2.num.mul h1.num).more (by omega), Nat.le_trans (scaleL_len _ _) (by have := h2.len; omega)⟩
  · exact ⟨(SzL.scale h2.num _ h1.row).more (by omega), (h1.num.mul h2.num).more (by omega), Nat.le_trans (scaleL_len _ _) (by have := h1.len; omega)⟩
  · trivial
theorem divS_szd {L M : List (Int × Rat)} {k q : Rat} {n m : Nat} (h1 : SzS n L k) (h2 : SzS m M q) : (divS L k M q).Szd (1 + n + m) := by
  unfold divS
  split
  · split
    · trivial
    · next h0 =>
      have hd : Sz (((1 : Int) : Rat) / q) (1 + 17 * m) := sz_p1.div h2.num h0
      exact ⟨(SzL.scale hd _ h1.row).more (by omega), (h1.num.mul hd).more (by omega), Nat.le_trans (scaleL_len _ _) (by have := h1.len; omega)⟩
  · trivial
theorem joinS_szd {L M : List (Int × Rat)} {k q : Rat} {n m : Nat} (c : Nat) (h1 : SzS n L k) (h2 : SzS m M q) : (joinS c L k M q).Szd (1 + n + m) := by
  unfold joinS
  split
  · exact ⟨(SzL.add _ _ _ (Nat.le_refl _) h1.row h2.row).more (by omega), (h1.num.add h2.num).more (by omega), Nat.le_trans (addL_len _ _ _ (Nat.le_refl _)) (by have := h1.len; have := h2.len; omega)⟩
  · split
    · have hs := SzL.scale sz_m1 _ h2.row
      have hl := scaleL_len ((-1 : Int) : Rat) M
      exact ⟨(SzL.add _ _ _ (Nat.le_refl _) h1.row hs).more (by omega), (h1.num.add (h2.num.mul sz_m1)).more (by omega), Nat.le_trans (addL_len _ _ _ (Nat.le_refl _)) (by have := h1.len; have := h2.len; omega)⟩
    · split
      · exact mulS_szd h1 h2
      · exact divS_szd h1 h2
theorem num_szd {r : Rat} (h : NumOk r) : Sz r 17 := by
  obtain ⟨h1, h2, _, _⟩ := h
  have e : ∀ x : Nat, (lim x).length ≤ 16 → x < 4294967296 ^ 17 := fun x hx => by
    have h3 := val_lt (L32_lim x)
    rw [val_lim] at h3
    exact Nat.lt_of_lt_of_le h3 (Nat.pow_le_pow_right (by omega) (by omega))
  exact ⟨e _ h1, e _ h2⟩
theorem sumOf_szd (g : ByteArray → Option (List (Int × Rat) × Rat)) (hg : ∀ s x, g s = some x → SzS 1 x.1 x.2) : ∀ t : Ex, t.fine → (sumOf g t).Szd t.nodes := by
  intro t
  induction t with
  | bad => exact fun h => h.elim
  | num r => exact fun h => ⟨fun y hy => (by cases hy), num_szd h, by simp⟩
  | nm s =>
    intro _
    rw [sumOf]
    cases h : g s with
    | none => trivial
    | some x => exact hg s x h
  | neg a ih =>
    intro hf
    have h := ih hf
    rw [sumOf]
    cases ha : sumOf g a with
    | err c => trivial
    | ok L k =>
      rw [ha] at h
      have h' : SzS a.nodes L k := h
      exact ⟨(SzL.scale sz_m1 _ h'.row).more (by rw [Ex.nodes]; omega), (h'.num.mul sz_m1).more (by rw [Ex.nodes]; omega), Nat.le_trans (scaleL_len _ _) (by rw [Ex.nodes]; have := h'.len; omega)⟩
  | bin c a b iha ihb =>
    intro hf
    have h1 := iha hf.1
    have h2 := ihb hf.2
    rw [sumOf]
    cases ha : sumOf g a with
    | err e => trivial
    | ok L k =>
      cases hb : sumOf g b with
      | err e => trivial
      | ok M q =>
        rw [ha] at h1
        rw [hb] at h2
        exact joinS_szd c h1 h2
end Go.Proofs.YtdpbceipiappjaaGreatDoor
