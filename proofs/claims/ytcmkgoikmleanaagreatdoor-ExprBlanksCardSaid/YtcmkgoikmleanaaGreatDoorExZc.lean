/-
  Expressions, no program: two texts in brackets, with blanks laid between, and '*' between them, are read as their product.
-/
import Derived.Test.YtcmkgoikmleanaaGreatDoorExZb
namespace Go.Proofs.YtcmkgoikmleanaaGreatDoor
set_option maxRecDepth 20000
open Go.RowKit

/-- So many blanks. -/
def sp (g : Nat) : List UInt8 := List.replicate g 32
theorem sp_succ (g : Nat) (l : List UInt8) : sp (g + 1) ++ l = 32 :: (sp g ++ l) := rfl
theorem sp_len (g : Nat) : (sp g).length = g := List.length_replicate
theorem At.sp {S : ByteArray} {l : List UInt8} (hl : l.head? ≠ some 32) : ∀ (g p : Nat), At S p (sp g ++ l) → skp S p = p + g := by
  intro g
  induction g with
  | zero => exact fun p h => At.skp_no (l := l) h hl
  | succ g ih =>
    intro p h
    rw [sp_succ] at h
    rw [h.skp_yes, ih (p + 1) h.next]; omega
theorem At.past {S : ByteArray} {l : List UInt8} {g p : Nat} (h : At S p (Go.Proofs.YtcmkgoikmleanaaGreatDoor.sp g ++ l)) : At S (p + g) l := by
  have := h.step
  rwa [sp_len] at this
theorem lev_sp {S : ByteArray} {l : List UInt8} {n k : Nat} : ∀ (g p : Nat), At S p (sp g ++ l) → (lev tv S k).1 p n = (lev tv S k).1 (p + g) n := by
  intro g
  induction g with
  | zero => exact fun p _ => rfl
  | succ g ih =>
    intro p h
    rw [sp_succ] at h
    rw [lev_skip k h.skp_yes, ih (p + 1) h.next, show p + 1 + g = p + (g + 1) by omega]
theorem lev2_sp {S : ByteArray} {l : List UInt8} {n k : Nat} : ∀ (g p : Nat), At S p (sp g ++ l) → (lev tv S k).2 p n = (lev tv S k).2 (p + g) n := by
  intro g p h
  have e : ∀ (g p : Nat), At S p (sp g ++ l) → rowS S (lev tv S k).1 kPro p n = rowS S (lev tv S k).1 kPro (p + g) n := by
    intro g
    induction g with
    | zero => exact fun p _ => rfl
    | succ g ih =>
      intro p h
      rw [sp_succ] at h
      rw [rowS_skip k kPro h.skp_yes, ih (p + 1) h.next, show p + 1 + g = p + (g + 1) by omega]
  rw [lev_two, rowS, e g p h]
  rfl
theorem okR_sp (i : Nat) (rest : List UInt8) : okR (sp i ++ 41 :: rest) := by
  cases i with
  | zero => exact okR.c41 _
  | succ i => exact okR.c32 _
/-- In brackets, with blanks round them. -/
theorem brak {t : Ex} (hR : Rds t) {S : ByteArray} {p n j g h i : Nat} {rest : List UInt8} (ha : At S p (sp g ++ 40 :: (sp h ++ (t.pr ++ (sp i ++ 41 :: rest))))) (hd : t.deep ≤ j + (if t.row ≤ 2 then 2 else 1)) :
    ∃ t' n', (lev tv S (j + 1)).1 p n = .ok t' t (p + g + 1 + h + t.pr.length + i + 1) n' false := by
  have h1 := ha.past
  have h40 := h1.head
  have hs : skp S (p + g) = p + g := h1.skp_no (by simp)
  have h2 := h1.next
  have h3 := h2.past
  have h4 := h3.step
  have h5 := h4.past
  have hs2 : skp S (p + g + 1 + h + t.pr.length) = p + g + 1 + h + t.pr.length + i := At.sp (by simp) i _ h4
  have hs3 : skp S (p + g + 1 + h + t.pr.length + i) = p + g + 1 + h + t.pr.length + i := h5.skp_no (by simp)
  obtain ⟨f, t', q, n', e, hf, hq⟩ := hR.b1 S (p + g + 1 + h) n j (sp i ++ 41 :: rest) h3 (okR_sp i rest) (by rw [hs2, h5.head]; rfl) hd
  have hq1 := skp_le S q
  have hq2 := h5.lt
  rw [rowL_end (by omega) (by rw [hq, hs2, h5.head]; rfl)] at e
  refine ⟨t', n', ?_⟩
  rw [lev_sp g p ha]
  show fac tv S (some (lev tv S j)) (p + g) n = _
  unfold fac
  rw [hs, h40, if_neg (by decide), if_pos rfl]
  show ((lev tv S j).2 (p + g + 1) n).then _ = _
  rw [lev2_sp h (p + g + 1) h2, e]
  show (if bt S (skp S (skp S q)) = 41 then PR.ok t' t (skp S (skp S q) + 1) n' false else _) = _
  rw [hq, hs2, hs3, h5.head, if_pos rfl]
/-- What is read. -/
theorem blanks_fin {T : ByteArray} {a b : Ex} {g : Nat} (hm : (Ex.bin 5 a b).may 32 256) (hw : (Ex.bin 5 a b).wf)
    (hT : T.data.toList = sp g ++ 40 :: (sp g ++ (a.pr ++ (sp g ++ 41 :: (sp g ++ 42 :: (sp g ++ 40 :: (sp 0 ++ (b.pr ++ (sp g ++ 41 :: (sp g ++ [])))))))))) : fin T = .ok (.bin 5 a b) := by
  have hf := hm.1
  have hdp : max a.deep b.deep + 1 ≤ 32 := hm.2.1
  have ra := rds_all a hf.1 hw.2.1
  have rb := rds_all b hf.2 hw.2.2
  have hA : At T 0 (sp g ++ 40 :: (sp g ++ (a.pr ++ (sp g ++ 41 :: (sp g ++ 42 :: (sp g ++ 40 :: (sp 0 ++ (b.pr ++ (sp g ++ 41 :: (sp g ++ [])))))))))) := ⟨Nat.zero_le _, by rw [List.drop_zero, hT]⟩
  obtain ⟨t1, n1, e1⟩ := brak (n := 0) (j := 30) ra hA (by split <;> omega)
  have p1 := hA.past.next.past.step.past.next
  obtain ⟨P, hP⟩ : ∃ P, P = 0 + g + 1 + g + a.pr.length + g + 1 := ⟨_, rfl⟩
  rw [← hP] at e1 p1
  have s1 : skp T P = P + g := At.sp (by simp) g P p1
  have p2 := p1.past
  have p3 := p2.next
  obtain ⟨t2, n2, e2⟩ := brak (n := n1) (j := 30) rb p3 (by split <;> omega)
  have p4 := p3.past.next.past.step.past.next
  obtain ⟨Q, hQ⟩ : ∃ Q, Q = P + g + 1 + g + 1 + 0 + b.pr.length + g + 1 := ⟨_, rfl⟩
  rw [← hQ] at e2 p4
  have s2 : skp T Q = Q + g := At.sp (by simp) g Q p4
  have hend : Q + g = T.size := p4.past.end_
  have h0 : bt T T.size = 0 := bt_ge (Nat.le_refl _)
  have l1 := p2.lt
  have hse : skp T T.size = T.size := skp_end T
  have key : (lev tv T 31).2 0 0 = .ok (mk n2 (.bin 5 t1 t2)) (.bin 5 a b) T.size (n2 + 1) false := by
    rw [lev_two]
    have r1 : rowS T (lev tv T 31).1 kPro 0 0 = .ok (mk n2 (.bin 5 t1 t2)) (.bin 5 a b) T.size (n2 + 1) false := by
      unfold rowS
      rw [e1]
      show rowL T (lev tv T 31).1 kPro (T.size + 1) t1 a P n1 false = _
      rw [rowL_go (k := 5) (by rw [s1, p2.head]; rfl) (by omega), s1, e2]
      show rowL T (lev tv T 31).1 kPro T.size (mk n2 (.bin 5 t1 t2)) (.bin 5 a b) Q (n2 + 1) false = _
      rw [rowL_end (by omega) (by rw [s2, hend, h0]; rfl), s2, hend]
    rw [rowS, r1]
    show rowL T _ kSum (T.size + 1) (mk n2 (.bin 5 t1 t2)) (.bin 5 a b) T.size (n2 + 1) false = _
    rw [rowL_end (by omega) (by rw [hse, h0]; rfl), hse]
  have hp : parse tv T = .ok (mk n2 (.bin 5 t1 t2)) (.bin 5 a b) T.size (n2 + 1) false := by
    unfold parse
    rw [key]
    show (if T.size < T.size then _ else _) = _
    rw [if_neg (by omega)]
  have hg := parse_good tv T
  rw [hp] at hg
  have hn := hg.count rfl
  have hn2 := hm.2.2
  have e3 := hg.same (by omega) rfl
  unfold fin
  rw [hp, e3]
  exact fin1_yes hm
end Go.Proofs.YtcmkgoikmleanaaGreatDoor
