/-
  Expressions, no program: the text of a tree that may be is read as that tree.
-/
import Derived.Test.YtcmkgoikmleanaaGreatDoorMEd
namespace Go.Proofs.YtcmkgoikmleanaaGreatDoor
set_option maxRecDepth 20000
open Go.RowKit

/-- The text from a place on. -/
def At (S : ByteArray) (p : Nat) (l : List UInt8) : Prop := p ≤ S.size ∧ S.data.toList.drop p = l
theorem At.len {S : ByteArray} {p : Nat} {l : List UInt8} (h : At S p l) : p + l.length = S.size := by
  have h1 := congrArg List.length h.2
  rw [List.length_drop, data_size] at h1
  have := h.1
  omega
theorem At.step {S : ByteArray} {p : Nat} {x rest : List UInt8} (h : At S p (x ++ rest)) : At S (p + x.length) rest := by
  have h1 := h.len
  rw [List.length_append] at h1
  refine ⟨by omega, ?_⟩
  rw [← List.drop_drop, h.2, List.drop_left]
theorem At.head {S : ByteArray} {p : Nat} {c : UInt8} {l : List UInt8} (h : At S p (c :: l)) : bt S p = c := by
  have h1 : (S.data.toList.drop p)[0]? = some c := by rw [h.2]; rfl
  rw [List.getElem?_drop, Nat.add_zero] at h1
  unfold bt
  rw [h1]; rfl
theorem At.lt {S : ByteArray} {p : Nat} {c : UInt8} {l : List UInt8} (h : At S p (c :: l)) : p < S.size := by
  have := h.len
  rw [List.length_cons] at this
  omega
theorem At.end_ {S : ByteArray} {p : Nat} (h : At S p []) : p = S.size := h.len
theorem At.next {S : ByteArray} {p : Nat} {c : UInt8} {l : List UInt8} (h : At S p (c :: l)) : At S (p + 1) l := At.step (x := [c]) h
theorem At.run {S : ByteArray} {p : Nat} {l : List UInt8} (h : At S p l) (f : UInt8 → Bool) : run f S p = p + (l.takeWhile f).length := by
  unfold Go.Proofs.YtcmkgoikmleanaaGreatDoor.run; rw [h.2]
theorem tw_stop {f : UInt8 → Bool} {rest : List UInt8} (hr : ∀ c, rest.head? = some c → f c = false) : ∀ (x : List UInt8), (∀ c ∈ x, f c = true) → (x ++ rest).takeWhile f = x := by
  intro x
  induction x with
  | nil =>
    intro _
    cases rest with
    | nil => rfl
    | cons c l => rw [List.nil_append, List.takeWhile_cons, hr c rfl]; rfl
  | cons c x ih =>
    intro hx
    rw [List.cons_append, List.takeWhile_cons, hx c (by simp), if_pos rfl, ih (fun d hd => hx d (by simp [hd]))]
theorem At.skp_no {S : ByteArray} {p : Nat} {l : List UInt8} (h : At S p l) (hl : l.head? ≠ some 32) : skp S p = p := by
  have h1 := h.run (· == 32)
  have h2 : l.takeWhile (· == 32) = [] := by
    cases l with
    | nil => rfl
    | cons c l =>
      rw [List.takeWhile_cons]
      have hc : ¬ (c == 32) = true := fun e => hl (by rw [eq_of_beq e]; rfl)
      rw [if_neg hc]
  rw [h2] at h1
  exact h1
theorem At.skp_yes {S : ByteArray} {p : Nat} {l : List UInt8} (h : At S p (32 :: l)) : skp S p = skp S (p + 1) := by
  have h1 := h.run (· == 32)
  have h2 := h.next.run (· == 32)
  rw [List.takeWhile_cons, if_pos (by decide), List.length_cons] at h1
  show Go.Proofs.YtcmkgoikmleanaaGreatDoor.run _ S p = Go.Proofs.YtcmkgoikmleanaaGreatDoor.run _ S (p + 1)
  rw [h1, h2]; omega
theorem skp_skp_ {S : ByteArray} {p : Nat} (h : p ≤ S.size) : skp S (skp S p) = skp S p := by
  have h1 := skp_ge S h
  have h2 := skp_le S (skp S p)
  rcases Nat.lt_or_ge (skp S p) (skp S (skp S p)) with h3 | h3
  · obtain ⟨h4, h5⟩ := run_in (· == 32) S (skp S p) (skp S p) (Nat.le_refl _) h3
    have h6 := run_out (· == 32) S p h h4
    rw [show Go.Proofs.YtcmkgoikmleanaaGreatDoor.run (· == 32) S p = skp S p from rfl, h5] at h6
    cases h6
  · omega
def okR (l : List UInt8) : Prop := ∀ c, l.head? = some c → c = 32 ∨ c = 41
theorem okR.nil : okR [] := fun c h => by cases h
theorem okR.c32 (l : List UInt8) : okR (32 :: l) := fun c h => by injection h with h; exact .inl h.symm
theorem okR.c41 (l : List UInt8) : okR (41 :: l) := fun c h => by injection h with h; exact .inr h.symm
theorem okR.not {l : List UInt8} (h : okR l) {f : UInt8 → Bool} (h1 : f 32 = false) (h2 : f 41 = false) : ∀ c, l.head? = some c → f c = false := fun c hc => by
  rcases h c hc with e | e <;> rw [e] <;> assumption
theorem okR.bt {S : ByteArray} {p : Nat} {l : List UInt8} (h : okR l) (ha : At S p l) {k : UInt8} (h0 : k ≠ 0) (h1 : k ≠ 32) (h2 : k ≠ 41) : Go.Proofs.YtcmkgoikmleanaaGreatDoor.bt S p ≠ k := by
  cases l with
  | nil => rw [bt_ge (by have := ha.end_; omega)]; exact Ne.symm h0
  | cons c l =>
    rw [ha.head]
    rcases h c rfl with e | e <;> rw [e]
    · exact Ne.symm h1
    · exact Ne.symm h2
/-- A leading blank changes nothing. -/
theorem fac_skip {S : ByteArray} {p n : Nat} {dp : Option ((Nat → Nat → PR) × (Nat → Nat → PR))} (h : skp S p = skp S (p + 1)) : fac tv S dp p n = fac tv S dp (p + 1) n := by
  unfold fac; rw [h]
theorem lev_skip {S : ByteArray} {p n : Nat} (k : Nat) (h : skp S p = skp S (p + 1)) : (lev tv S k).1 p n = (lev tv S k).1 (p + 1) n := by
  cases k with
  | zero => exact fac_skip (dp := none) h
  | succ k => exact fac_skip (dp := some (lev tv S k)) h
theorem rowS_skip {S : ByteArray} {p n : Nat} (k : Nat) (kf : UInt8 → Nat) (h : skp S p = skp S (p + 1)) : rowS S (lev tv S k).1 kf p n = rowS S (lev tv S k).1 kf (p + 1) n := by
  unfold rowS; rw [lev_skip k h]
theorem lev_two (S : ByteArray) (k : Nat) : (lev tv S k).2 = rowS S (rowS S (lev tv S k).1 kPro) kSum := by cases k <;> rfl
theorem lev_fac (S : ByteArray) (k : Nat) : ∃ dp, (lev tv S k).1 = fac tv S dp := by
  cases k with
  | zero => exact ⟨none, rfl⟩
  | succ k => exact ⟨some (lev tv S k), rfl⟩
theorem rowL_end {S : ByteArray} {m : Nat → Nat → PR} {kf : UInt8 → Nat} {f : Nat} {t u : Ex} {p n : Nat} {lg : Bool} (hf : 0 < f) (hk : kf (bt S (skp S p)) = 0) : rowL S m kf f t u p n lg = .ok t u (skp S p) n lg := by
  obtain ⟨f, rfl⟩ : ∃ f', f = f' + 1 := ⟨f - 1, by omega⟩
  unfold rowL; rw [if_pos hk]
theorem rowL_go {S : ByteArray} {m : Nat → Nat → PR} {kf : UInt8 → Nat} {f : Nat} {t u : Ex} {p n k : Nat} {lg : Bool} (hk : kf (bt S (skp S p)) = k) (h0 : k ≠ 0) : rowL S m kf (f + 1) t u p n lg =
    (m (skp S p + 1) n).then fun t2 u2 p2 n2 lg2 => rowL S m kf f (mk n2 (.bin k t t2)) (.bin k u u2) p2 (n2 + 1) (lg || lg2) := by
  rw [rowL, hk, if_neg h0]
theorem wrapK_yes {n k : Nat} {l : List UInt8} (h : n ≤ k) : wrapK n k l = l := if_pos h
theorem wrapK_no {n k : Nat} {l : List UInt8} (h : ¬ n ≤ k) : wrapK n k l = 40 :: (l ++ [41]) := if_neg h
structure Rds (t : Ex) : Prop where
  a3 : ∀ (S : ByteArray) (p n k : Nat) (rest : List UInt8), At S p (wrapK 3 t.row t.pr ++ rest) → okR rest → t.deep ≤ k + 1 →
    ∃ t' n', (lev tv S k).1 p n = .ok t' t (p + (wrapK 3 t.row t.pr).length) n' false
  b2 : 2 ≤ t.row → ∀ (S : ByteArray) (p n k : Nat) (rest : List UInt8), At S p (t.pr ++ rest) → okR rest → t.deep ≤ k + (if t.row ≤ 2 then 2 else 1) →
    ∃ f t' n', rowS S (lev tv S k).1 kPro p n = rowL S (lev tv S k).1 kPro f t' t (p + t.pr.length) n' false ∧ S.size < f + (p + t.pr.length)
  b1 : ∀ (S : ByteArray) (p n k : Nat) (rest : List UInt8), At S p (t.pr ++ rest) → okR rest → kPro (bt S (skp S (p + t.pr.length))) = 0 → t.deep ≤ k + (if t.row ≤ 2 then 2 else 1) →
    ∃ f t' q n', (lev tv S k).2 p n = rowL S (rowS S (lev tv S k).1 kPro) kSum f t' t q n' false ∧ S.size < f + q ∧ skp S q = skp S (p + t.pr.length)
theorem Ex.row_pos (t : Ex) : 1 ≤ t.row := by
  cases t <;> simp only [Ex.row]
  all_goals first | omega | (split <;> omega)
theorem b2_of_a3 {t : Ex} (hr : 3 ≤ t.row) (a3 : ∀ (S : ByteArray) (p n k : Nat) (rest : List UInt8), At S p (wrapK 3 t.row t.pr ++ rest) → okR rest → t.deep ≤ k + 1 →
    ∃ t' n', (lev tv S k).1 p n = .ok t' t (p + (wrapK 3 t.row t.pr).length) n' false) (S : ByteArray) (p n k : Nat) (rest : List UInt8) (h : At S p (t.pr ++ rest)) (ho : okR rest) (hd : t.deep ≤ k + (if t.row ≤ 2 then 2 else 1)) :
    ∃ f t' n', rowS S (lev tv S k).1 kPro p n = rowL S (lev tv S k).1 kPro f t' t (p + t.pr.length) n' false ∧ S.size < f + (p + t.pr.length) := by
  rw [if_neg (by omega)] at hd
  have hw : wrapK 3 t.row t.pr = t.pr := wrapK_yes hr
  obtain ⟨t', n', e⟩ := a3 S p n k rest (by rw [hw]; exact h) ho hd
  rw [hw] at e
  refine ⟨S.size + 1, t', n', ?_, by omega⟩
  unfold rowS; rw [e]; rfl
theorem b1_of_b2 {t : Ex} (b2 : ∀ (S : ByteArray) (p n k : Nat) (rest : List UInt8), At S p (t.pr ++ rest) → okR rest → t.deep ≤ k + (if t.row ≤ 2 then 2 else 1) →
    ∃ f t' n', rowS S (lev tv S k).1 kPro p n = rowL S (lev tv S k).1 kPro f t' t (p + t.pr.length) n' false ∧ S.size < f + (p + t.pr.length))
    (S : ByteArray) (p n k : Nat) (rest : List UInt8) (h : At S p (t.pr ++ rest)) (ho : okR rest) (hk : kPro (bt S (skp S (p + t.pr.length))) = 0) (hd : t.deep ≤ k + (if t.row ≤ 2 then 2 else 1)) :
    ∃ f t' q n', (lev tv S k).2 p n = rowL S (rowS S (lev tv S k).1 kPro) kSum f t' t q n' false ∧ S.size < f + q ∧ skp S q = skp S (p + t.pr.length) := by
  obtain ⟨f, t', n', e, hf⟩ := b2 S p n k rest h ho hd
  have hq := h.step.1
  have h1 := skp_le S (p + t.pr.length)
  rw [rowL_end (by omega) hk] at e
  refine ⟨S.size + 1, t', skp S (p + t.pr.length), n', ?_, by omega, skp_skp_ hq⟩
  rw [lev_two, rowS, e]; rfl
theorem Rds.a2 {t : Ex} (h : Rds t) (S : ByteArray) (p n k : Nat) (rest : List UInt8) (ha : At S p (wrapK 2 t.row t.pr ++ rest)) (ho : okR rest) (hd : t.deep ≤ k + 1) :
    ∃ f t' n', rowS S (lev tv S k).1 kPro p n = rowL S (lev tv S k).1 kPro f t' t (p + (wrapK 2 t.row t.pr).length) n' false ∧ S.size < f + (p + (wrapK 2 t.row t.pr).length) := by
  by_cases hr : 2 ≤ t.row
  · rw [wrapK_yes hr] at ha ⊢
    exact h.b2 hr S p n k rest ha ho (by split <;> omega)
  · have e3 : wrapK 3 t.row t.pr = wrapK 2 t.row t.pr := by rw [wrapK_no hr, wrapK_no (by omega)]
    obtain ⟨t', n', e⟩ := h.a3 S p n k rest (by rw [e3]; exact ha) ho hd
    rw [e3] at e
    refine ⟨S.size + 1, t', n', ?_, by omega⟩
    unfold rowS; rw [e]; rfl
/-- In brackets. -/
theorem a3_of_b1 {t : Ex} (hr : ¬ 3 ≤ t.row) (h2 : 2 ≤ t.deep) (b1 : ∀ (S : ByteArray) (p n k : Nat) (rest : List UInt8), At S p (t.pr ++ rest) → okR rest → kPro (bt S (skp S (p + t.pr.length))) = 0 → t.deep ≤ k + (if t.row ≤ 2 then 2 else 1) →
    ∃ f t' q n', (lev tv S k).2 p n = rowL S (rowS S (lev tv S k).1 kPro) kSum f t' t q n' false ∧ S.size < f + q ∧ skp S q = skp S (p + t.pr.length))
    (S : ByteArray) (p n k : Nat) (rest : List UInt8) (h : At S p (wrapK 3 t.row t.pr ++ rest)) (hd : t.deep ≤ k + 1) :
    ∃ t' n', (lev tv S k).1 p n = .ok t' t (p + (wrapK 3 t.row t.pr).length) n' false := by
  rw [wrapK_no hr] at h ⊢
  obtain ⟨j, rfl⟩ : ∃ j, k = j + 1 := ⟨k - 1, by omega⟩
  have h' : At S p (40 :: (t.pr ++ 41 :: rest)) := by
    have e : 40 :: (t.pr ++ [41]) ++ rest = 40 :: (t.pr ++ 41 :: rest) := by simp
    rw [← e]; exact h
  have h40 := h'.head
  have hs : skp S p = p := h'.skp_no (by simp)
  have hin := h'.next
  have h41 := hin.step
  have hs2 : skp S (p + 1 + t.pr.length) = p + 1 + t.pr.length := h41.skp_no (by simp)
  obtain ⟨f, t', q, n', e, hf, hq⟩ := b1 S (p + 1) n j (41 :: rest) hin (okR.c41 _) (by rw [hs2, h41.head]; rfl) (by rw [if_pos (by omega)]; omega)
  have hq1 := skp_le S q
  have hq2 := h41.lt
  rw [rowL_end (by omega) (by rw [hq, hs2, h41.head]; rfl)] at e
  refine ⟨t', n', ?_⟩
  show fac tv S (some (lev tv S j)) p n = _
  unfold fac
  rw [hs, h40, if_neg (by decide), if_pos rfl]
  show ((lev tv S j).2 (p + 1) n).then _ = _
  rw [e]
  show (if bt S (skp S (skp S q)) = 41 then PR.ok t' t (skp S (skp S q) + 1) n' false else _) = _
  rw [hq, hs2, hs2, h41.head, if_pos rfl]
  congr 1
  simp only [List.length_cons, List.length_append, List.length_nil]; omega
theorem ds_isDg {l : List UInt8} (h : IsDs l) : ∀ c ∈ l, isDg c = true := fun c hc => by
  have := h.2 c hc
  unfold isDg
  rw [decide_eq_true this.1, decide_eq_true this.2]; rfl
theorem ds_head {l m : List UInt8} (h : IsDs l) : ∃ c x, l ++ m = c :: x ∧ isDg c = true := by
  cases l with
  | nil => exact absurd rfl h.1
  | cons c l => exact ⟨c, l ++ m, rfl, ds_isDg h c (by simp)⟩
theorem num_list {r : Rat} (h : NumOk r) : ∃ F : ByteArray, Txt F r ∧ F.data.toList = dxt r ∧ (IsDs (dxt r) ∨ ∃ d1 d2, dxt r = d1 ++ 46 :: d2 ∧ IsDs d1 ∧ IsDs d2) := by
  obtain ⟨F, hE, hF⟩ := dxt_of h
  have sz : Sz r 16 := ⟨Bd.ofL h.1, Bd.ofL h.2.1⟩
  refine ⟨F, txt_ext hE sz, hF, ?_⟩
  rcases hE with ⟨_, K, hK, hx, hl⟩ | ⟨h0, _⟩
  · rw [← hF, hl]
    unfold ext
    rw [decide_eq_false h.2.2.1]
    show IsDs (fx _ K) ∨ _
    unfold fx
    by_cases h0 : K = 0
    · exact .inl (by rw [if_pos h0]; exact ds_dec _)
    · exact .inr ⟨_, _, by rw [if_neg h0]; rfl, ds_dec _, ds_pad h0 _⟩
  · cases h0
theorem num_head {r : Rat} (h : NumOk r) (m : List UInt8) : ∃ c x, dxt r ++ m = c :: x ∧ isDg c = true := by
  obtain ⟨F, _, _, hd | ⟨d1, d2, e, h1, h2⟩⟩ := num_list h
  · exact ds_head hd
  · rw [e, List.append_assoc]; exact ds_head h1
theorem dg_not {c k : UInt8} (h : isDg c = true) (hk : isDg k = false) : c ≠ k := fun e => by rw [e, hk] at h; cases h
theorem lw_not {c k : UInt8} (h : isLw c = true) (hk : isLw k = false) : c ≠ k := fun e => by rw [e, hk] at h; cases h
theorem numb_at {S : ByteArray} {p n : Nat} {rest : List UInt8} {r : Rat} (h : NumOk r) (ha : At S p (dxt r ++ rest)) (ho : okR rest) : ∃ t' n', numb tv S p n = .ok t' (.num r) (p + (dxt r).length) n' false := by
  obtain ⟨c, x, ec, hcd⟩ := num_head h []
  rw [List.append_nil] at ec
  obtain ⟨F, hT, hF, hc⟩ := num_list h
  have h400 := hT.1
  have hlen : (dxt r).length = F.size := by rw [← hF, data_size]
  have hx : S.extract p (p + (dxt r).length) = F := by
    apply ba_ext
    rw [ext_toList, ha.2, hF, Nat.add_sub_cancel_left, List.take_left]
  have hn : F.data.toList.head? ≠ some 45 := by
    rw [hF, ec]
    intro e
    injection e with e
    exact dg_not hcd (by decide) e
  have htv : tv F = r := Txt.one (tv_of ⟨r, hT⟩) hT hn
  have key : numE tv S p (p + (dxt r).length) n = .ok (mk n (.num r)) (.num r) (p + (dxt r).length) (n + 1) false := by
    unfold numE; rw [if_pos (by omega), hx, htv]
  refine ⟨mk n (.num r), n + 1, ?_⟩
  rcases hc with hd | ⟨d1, d2, e, hd1, hd2⟩
  · have hr : run isDg S p = p + (dxt r).length := by rw [ha.run, tw_stop (ho.not (by decide) (by decide)) _ (ds_isDg hd)]
    unfold numb
    rw [hr, if_neg (ho.bt ha.step (by decide) (by decide) (by decide)), key]
  · have ha' : At S p (d1 ++ 46 :: (d2 ++ rest)) := by rw [e] at ha; simpa using ha
    have hr : run isDg S p = p + d1.length := by rw [ha'.run, tw_stop (fun c hc => by injection hc with hc; rw [← hc]; decide) _ (ds_isDg hd1)]
    have h46 := ha'.step.head
    have hs := ha'.step.next
    have hr2 : run isDg S (p + d1.length + 1) = p + d1.length + 1 + d2.length := by rw [hs.run, tw_stop (ho.not (by decide) (by decide)) _ (ds_isDg hd2)]
    have hl2 : d2.length ≠ 0 := fun e => hd2.1 (List.length_eq_zero_iff.1 e)
    have e2 : p + (dxt r).length = p + d1.length + 1 + d2.length := by rw [e]; simp only [List.length_append, List.length_cons]; omega
    unfold numb
    rw [hr, if_pos h46, hr2, if_neg (by omega), ← e2, key]
theorem name_at {S : ByteArray} {p n : Nat} {rest : List UInt8} {s : ByteArray} (h : isName s = true) (ha : At S p (s.data.toList ++ rest)) (ho : okR rest) : ∃ t' n', name S p n = .ok t' (.nm s) (p + s.data.toList.length) n' false := by
  unfold isName at h
  simp only [Bool.and_eq_true, decide_eq_true_eq, List.all_eq_true] at h
  obtain ⟨⟨⟨h1, h2⟩, h3⟩, h4⟩ := h
  have hlen : s.data.toList.length = s.size := data_size s
  have hx : S.extract p (p + s.data.toList.length) = s := by
    apply ba_ext
    rw [ext_toList, ha.2, Nat.add_sub_cancel_left, List.take_left]
  have hr : run isNb S p = p + s.data.toList.length := by rw [ha.run, tw_stop (ho.not (by decide) (by decide)) _ h4]
  refine ⟨mk n (.nm s), n + 1, ?_⟩
  unfold name
  rw [hr, if_neg (by omega), hx]
theorem name_head {s : ByteArray} (h : isName s = true) (m : List UInt8) : ∃ c x, s.data.toList ++ m = c :: x ∧ isLw c = true := by
  unfold isName at h
  simp only [Bool.and_eq_true, decide_eq_true_eq, List.all_eq_true] at h
  obtain ⟨⟨⟨h1, h2⟩, h3⟩, h4⟩ := h
  have hlen := data_size s
  unfold bt at h3
  cases hl : s.data.toList with
  | nil => rw [hl, List.length_nil] at hlen; omega
  | cons c l => rw [hl] at h3; exact ⟨c, l ++ m, rfl, h3⟩
theorem fac_dg {S : ByteArray} {p n : Nat} {dp : Option ((Nat → Nat → PR) × (Nat → Nat → PR))} (hs : skp S p = p) (hd : isDg (bt S p) = true) : fac tv S dp p n = numb tv S p n := by
  unfold fac
  rw [hs, if_neg (dg_not hd (by decide)), if_neg (dg_not hd (by decide)), if_pos hd]
theorem lw_dg {c : UInt8} (h : isLw c = true) : isDg c = false := by
  unfold isLw at h
  simp only [Bool.and_eq_true, decide_eq_true_eq] at h
  unfold isDg
  rw [decide_eq_false (p := c.toNat ≤ 57) (by omega), Bool.and_false]
theorem fac_lw {S : ByteArray} {p n : Nat} {dp : Option ((Nat → Nat → PR) × (Nat → Nat → PR))} (hs : skp S p = p) (hd : isLw (bt S p) = true) : fac tv S dp p n = name S p n := by
  unfold fac
  rw [hs, if_neg (lw_not hd (by decide)), if_neg (lw_not hd (by decide)), if_neg (by rw [lw_dg hd]; decide), if_pos hd]
theorem rds_of_a3 {t : Ex} (hr : 3 ≤ t.row) (a3 : ∀ (S : ByteArray) (p n k : Nat) (rest : List UInt8), At S p (wrapK 3 t.row t.pr ++ rest) → okR rest → t.deep ≤ k + 1 →
    ∃ t' n', (lev tv S k).1 p n = .ok t' t (p + (wrapK 3 t.row t.pr).length) n' false) : Rds t :=
  ⟨a3, fun _ => b2_of_a3 hr a3, b1_of_b2 (b2_of_a3 hr a3)⟩
theorem rds_num {r : Rat} (h : NumOk r) : Rds (.num r) := by
  refine rds_of_a3 (by show 3 ≤ 4; omega) ?_
  intro S p n k rest ha ho _
  rw [show wrapK 3 (Ex.num r).row (Ex.num r).pr = dxt r from rfl] at ha ⊢
  obtain ⟨dp, e⟩ := lev_fac S k
  obtain ⟨c, x, ec, hcd⟩ := num_head h rest
  have ha' := ha
  rw [ec] at ha'
  have hs : skp S p = p := ha'.skp_no (fun e => by injection e with e; exact dg_not hcd (by decide) e)
  rw [e, fac_dg hs (by rw [ha'.head]; exact hcd)]
  exact numb_at h ha ho
theorem rds_nm {s : ByteArray} (h : isName s = true) : Rds (.nm s) := by
  refine rds_of_a3 (by show 3 ≤ 4; omega) ?_
  intro S p n k rest ha ho _
  rw [show wrapK 3 (Ex.nm s).row (Ex.nm s).pr = s.data.toList from rfl] at ha ⊢
  obtain ⟨dp, e⟩ := lev_fac S k
  obtain ⟨c, x, ec, hcd⟩ := name_head h rest
  have ha' := ha
  rw [ec] at ha'
  have hs : skp S p = p := ha'.skp_no (fun e => by injection e with e; exact lw_not hcd (by decide) e)
  rw [e, fac_lw hs (by rw [ha'.head]; exact hcd)]
  exact name_at h ha ho
theorem rds_neg {a : Ex} (h : Rds a) : Rds (.neg a) := by
  refine rds_of_a3 (by show 3 ≤ 3; omega) ?_
  intro S p n k rest ha ho hd
  have e3 : wrapK 3 (Ex.neg a).row (Ex.neg a).pr = 45 :: wrapK 3 a.row a.pr := rfl
  rw [e3] at ha ⊢
  have hd' : a.deep + 1 ≤ k + 1 := hd
  have hp := a.deep_pos
  obtain ⟨j, rfl⟩ : ∃ j, k = j + 1 := ⟨k - 1, by omega⟩
  have ha' : At S p (45 :: (wrapK 3 a.row a.pr ++ rest)) := ha
  have hs : skp S p = p := ha'.skp_no (by simp)
  obtain ⟨t', n', e⟩ := h.a3 S (p + 1) n j rest ha'.next ho (by omega)
  refine ⟨mk n' (.neg t'), n' + 1, ?_⟩
  show fac tv S (some (lev tv S j)) p n = _
  unfold fac
  rw [hs, ha'.head, if_pos rfl]
  show ((lev tv S j).1 (p + 1) n).then _ = _
  rw [e]
  show PR.ok _ _ _ _ _ = _
  congr 1
  simp only [List.length_cons]; omega
theorem sgn_pro {k : Nat} (h : k = 5 ∨ k = 6) : ∃ c, sgnK k = [32, c, 32] ∧ kPro c = k ∧ c ≠ 32 := by
  rcases h with rfl | rfl
  · exact ⟨42, rfl, rfl, by decide⟩
  · exact ⟨47, rfl, rfl, by decide⟩
theorem sgn_sum {k : Nat} (h : k = 3 ∨ k = 4) : ∃ c, sgnK k = [32, c, 32] ∧ kSum c = k ∧ c ≠ 32 ∧ kPro c = 0 := by
  rcases h with rfl | rfl
  · exact ⟨43, rfl, rfl, by decide, by decide⟩
  · exact ⟨45, rfl, rfl, by decide, by decide⟩
theorem rds_pro {k : Nat} {a b : Ex} (hk : k = 5 ∨ k = 6) (ha : Rds a) (hb : Rds b) : Rds (.bin k a b) := by
  have hn : ¬ (k = 3 ∨ k = 4) := by omega
  have hrow : (Ex.bin k a b).row = 2 := if_neg hn
  obtain ⟨c, hc, hkc, hc32⟩ := sgn_pro hk
  have hpr : (Ex.bin k a b).pr = wrapK 2 a.row a.pr ++ [32, c, 32] ++ wrapK 3 b.row b.pr := by
    show wrapK (if k = 3 ∨ k = 4 then 1 else 2) a.row a.pr ++ sgnK k ++ wrapK ((if k = 3 ∨ k = 4 then 1 else 2) + 1) b.row b.pr = _
    rw [if_neg hn, hc]
  have hdeep : (Ex.bin k a b).deep = max a.deep b.deep + 1 := rfl
  have b2 : ∀ (S : ByteArray) (p n l : Nat) (rest : List UInt8), At S p ((Ex.bin k a b).pr ++ rest) → okR rest → (Ex.bin k a b).deep ≤ l + (if (Ex.bin k a b).row ≤ 2 then 2 else 1) →
      ∃ f t' n', rowS S (lev tv S l).1 kPro p n = rowL S (lev tv S l).1 kPro f t' (Ex.bin k a b) (p + (Ex.bin k a b).pr.length) n' false ∧ S.size < f + (p + (Ex.bin k a b).pr.length) := by
    intro S p n l rest hA ho hd
    rw [hrow, if_pos (by omega), hdeep] at hd
    rw [hpr] at hA ⊢
    have h1 : At S p (wrapK 2 a.row a.pr ++ (32 :: c :: 32 :: (wrapK 3 b.row b.pr ++ rest))) := by
      have e : wrapK 2 a.row a.pr ++ [32, c, 32] ++ wrapK 3 b.row b.pr ++ rest = wrapK 2 a.row a.pr ++ (32 :: c :: 32 :: (wrapK 3 b.row b.pr ++ rest)) := by simp
      rw [← e]; exact hA
    obtain ⟨f, t1, n1, e1, hf⟩ := ha.a2 S p n l _ h1 (okR.c32 _) (by omega)
    have h2 := h1.step
    have h3 := h2.next
    have h4 := h3.next
    have h5 := h4.next
    have s2 : skp S (p + (wrapK 2 a.row a.pr).length) = p + (wrapK 2 a.row a.pr).length + 1 := by
      rw [h2.skp_yes, h3.skp_no (fun e => by injection e with e; exact hc32 e)]
    obtain ⟨t2, n2, e2⟩ := hb.a3 S _ n1 l rest h5 ho (by omega)
    have hl := h2.lt
    obtain ⟨f, rfl⟩ : ∃ f', f = f' + 1 := ⟨f - 1, by omega⟩
    have hlen : p + (wrapK 2 a.row a.pr ++ [32, c, 32] ++ wrapK 3 b.row b.pr).length = p + (wrapK 2 a.row a.pr).length + 1 + 1 + 1 + (wrapK 3 b.row b.pr).length := by
      simp only [List.length_append, List.length_cons, List.length_nil]; omega
    refine ⟨f, mk n2 (.bin k t1 t2), n2 + 1, ?_, by rw [hlen]; omega⟩
    rw [e1, rowL_go (k := k) (by rw [s2, h3.head, hkc]) (by omega), s2, lev_skip l h4.skp_yes, e2, hlen]
    rfl
  have b1 := b1_of_b2 b2
  refine ⟨?_, fun _ => b2, b1⟩
  intro S p n l rest hA _ hd
  exact a3_of_b1 (by omega) (by rw [hdeep]; have := a.deep_pos; omega) b1 S p n l rest hA hd
theorem rds_sum {k : Nat} {a b : Ex} (hk : k = 3 ∨ k = 4) (ha : Rds a) (hb : Rds b) : Rds (.bin k a b) := by
  have hrow : (Ex.bin k a b).row = 1 := if_pos hk
  obtain ⟨c, hc, hkc, hc32, hkp⟩ := sgn_sum hk
  have hpr : (Ex.bin k a b).pr = wrapK 1 a.row a.pr ++ [32, c, 32] ++ wrapK 2 b.row b.pr := by
    show wrapK (if k = 3 ∨ k = 4 then 1 else 2) a.row a.pr ++ sgnK k ++ wrapK ((if k = 3 ∨ k = 4 then 1 else 2) + 1) b.row b.pr = _
    rw [if_pos hk, hc]
  have hdeep : (Ex.bin k a b).deep = max a.deep b.deep + 1 := rfl
  have hwa : wrapK 1 a.row a.pr = a.pr := wrapK_yes a.row_pos
  rw [hwa] at hpr
  have b1 : ∀ (S : ByteArray) (p n l : Nat) (rest : List UInt8), At S p ((Ex.bin k a b).pr ++ rest) → okR rest → kPro (bt S (skp S (p + (Ex.bin k a b).pr.length))) = 0 → (Ex.bin k a b).deep ≤ l + (if (Ex.bin k a b).row ≤ 2 then 2 else 1) →
      ∃ f t' q n', (lev tv S l).2 p n = rowL S (rowS S (lev tv S l).1 kPro) kSum f t' (Ex.bin k a b) q n' false ∧ S.size < f + q ∧ skp S q = skp S (p + (Ex.bin k a b).pr.length) := by
    intro S p n l rest hA ho hkr hd
    rw [hrow, if_pos (by omega), hdeep] at hd
    rw [hpr] at hA hkr ⊢
    have h1 : At S p (a.pr ++ (32 :: c :: 32 :: (wrapK 2 b.row b.pr ++ rest))) := by
      have e : a.pr ++ [32, c, 32] ++ wrapK 2 b.row b.pr ++ rest = a.pr ++ (32 :: c :: 32 :: (wrapK 2 b.row b.pr ++ rest)) := by simp
      rw [← e]; exact hA
    have h2 := h1.step
    have h3 := h2.next
    have h4 := h3.next
    have h5 := h4.next
    have h6 := h5.step
    have s2 : skp S (p + a.pr.length) = p + a.pr.length + 1 := by
      rw [h2.skp_yes, h3.skp_no (fun e => by injection e with e; exact hc32 e)]
    obtain ⟨f, t1, q1, n1, e1, hf, hq1⟩ := ha.b1 S p n l _ h1 (okR.c32 _) (by rw [s2, h3.head, hkp]) (by split <;> omega)
    obtain ⟨f2, t2, n2, e2, hf2⟩ := hb.a2 S _ n1 l rest h5 ho (by omega)
    have hlen : p + (a.pr ++ [32, c, 32] ++ wrapK 2 b.row b.pr).length = p + a.pr.length + 1 + 1 + 1 + (wrapK 2 b.row b.pr).length := by
      simp only [List.length_append, List.length_cons, List.length_nil]; omega
    rw [hlen] at hkr
    have hle := h6.1
    rw [rowL_end (by omega) hkr] at e2
    have hl := h3.lt
    have hq := skp_le S q1
    have hq2 := skp_le S (p + a.pr.length + 1 + 1 + 1 + (wrapK 2 b.row b.pr).length)
    obtain ⟨f, rfl⟩ : ∃ f', f = f' + 1 := ⟨f - 1, by omega⟩
    refine ⟨f, mk n2 (.bin k t1 t2), skp S (p + a.pr.length + 1 + 1 + 1 + (wrapK 2 b.row b.pr).length), n2 + 1, ?_, by omega, ?_⟩
    · rw [e1, rowL_go (k := k) (by rw [hq1, s2, h3.head, hkc]) (by omega), hq1, s2, rowS_skip l kPro h4.skp_yes, e2]
      rfl
    · rw [hlen]; exact skp_skp_ hle
  refine ⟨?_, fun h => ?_, b1⟩
  · intro S p n l rest hA _ hd
    exact a3_of_b1 (by omega) (by rw [hdeep]; have := a.deep_pos; omega) b1 S p n l rest hA hd
  · rw [hrow] at h; omega
theorem rds_all : ∀ t : Ex, t.fine → t.wf → Rds t := by
  intro t
  induction t with
  | bad => exact fun h => absurd h (fun h => h)
  | num r => exact fun h _ => rds_num h
  | nm s => exact fun h _ => rds_nm h
  | neg a iha => exact fun h hw => rds_neg (iha h hw)
  | bin k a b iha ihb =>
    intro h hw
    have h1 := iha h.1 hw.2.1
    have h2 := ihb h.2 hw.2.2
    rcases hw.1 with e | e | e | e
    · exact rds_sum (.inl e) h1 h2
    · exact rds_sum (.inr e) h1 h2
    · exact rds_pro (.inl e) h1 h2
    · exact rds_pro (.inr e) h1 h2
/-- The text of a tree that may be is that tree. -/
theorem parse_pr {T : ByteArray} {t : Ex} (hm : t.may 32 256) (hw : t.wf) (hT : T.data.toList = t.pr) : fin T = .ok t := by
  have hR := rds_all t hm.1 hw
  have hA : At T 0 (t.pr ++ []) := ⟨Nat.zero_le _, by rw [List.append_nil, List.drop_zero, hT]⟩
  have hE := hA.step
  have he := hE.end_
  have hs : skp T (0 + t.pr.length) = T.size := by rw [hE.skp_no (by simp)]; exact he
  have h0 : bt T T.size = 0 := bt_ge (Nat.le_refl _)
  obtain ⟨f, t', q, n', e, hf, hq⟩ := hR.b1 T 0 0 31 [] hA okR.nil (by rw [hs, h0]; rfl) (by have := hm.2.1; split <;> omega)
  have hql := skp_le T q
  rw [rowL_end (by omega) (by rw [hq, hs, h0]; rfl), hq, hs] at e
  have hp : parse tv T = .ok t' t T.size n' false := by
    unfold parse
    rw [e]
    show (if T.size < T.size then _ else _) = _
    rw [if_neg (by omega)]
  have hg := parse_good tv T
  rw [hp] at hg
  have hn := hg.count rfl
  have hn2 := hm.2.2
  have e2 := hg.same (by omega) rfl
  unfold fin
  rw [hp, e2]
  exact fin1_yes hm
end Go.Proofs.YtcmkgoikmleanaaGreatDoor
