/-
  The document's all: the constraints that may be, and the stays, with their numbers.
-/
import Derived.Test.YtgffkaconhonlaaGreatQHrO
import Derived.Test.YtgffkaconhonlaaGreatQHrE
import Derived.Test.YtgffkaconhonlaaGreatQHrI
import Derived.Test.YtgffkaconhonlaaGreatQHrG
import Derived.Test.YtgffkaconhonlaaGreatQHrH
import Derived.Test.YtgffkaconhonlaaGreatQMRf
import Derived.Test.YtgffkaconhonlaaGreatQMRh
import Derived.Deep.Cut
import Derived.Deep.CutRange
import Derived.Test.YtgffkaconhonlaaGreatQRgn
namespace Go.Proofs.YtgffkaconhonlaaGreat
set_option maxRecDepth 20000
open Go.RowKit
structure DAll (N : Nat) (all : List Sm) (D : List Kin) (at_ : List Nat) : Prop where
 len : at_.length = D.length
 get : ∀ (j : Nat) x, D[j]? = some x → x.ok = true ∧ ∃ i : Nat, at_[j]? = some i ∧ all[i]? = some (smOf N x)
 cov : ∀ (i : Nat) c, all[i]? = some c → c.2.1 = true → ∃ j : Nat, at_[j]? = some i
 inc : ∀ (j j' : Nat) i i', at_[j]? = some i → at_[j']? = some i' → j < j' → i < i'
theorem DAll.nil (N : Nat) : DAll N [] [] [] := ⟨rfl, fun j x h => (by simp at h), fun i c h => (by simp at h), fun j j' i i' h => (by simp at h)⟩
theorem DAll.lt {N : Nat} {all : List Sm} {D : List Kin} {at_ : List Nat} (h : DAll N all D at_) {j i : Nat} (hj : at_[j]? = some i) : i < all.length := by
 have h1 := (List.getElem?_eq_some_iff.1 hj).1
 obtain ⟨_, i', h2, h3⟩ := h.get j _ (List.getElem?_eq_getElem (show j < D.length by rw [← h.len]; exact h1))
 rw [hj] at h2
 injection h2 with h2
 subst h2
 exact (List.getElem?_eq_some_iff.1 h3).1
theorem DAll.no {N : Nat} {all : List Sm} {D : List Kin} {at_ : List Nat} (h : DAll N all D at_) {c : Sm} (hc : c.2.1 = false) : DAll N (all ++ [c]) D at_ := by
 refine ⟨h.len, fun j x hx => ?_, fun i d hd ho => ?_, h.inc⟩
 ·
  obtain ⟨h1, i, h2, h3⟩ := h.get j x hx
  exact ⟨h1, i, h2, by rw [List.getElem?_append_left (h.lt h2)]; exact h3⟩
 ·
  rcases Nat.lt_or_ge i all.length with hi | hi
  ·
   rw [List.getElem?_append_left hi] at hd
   exact h.cov i d hd ho
  ·
   rw [List.getElem?_append_right hi] at hd
   have h0 : i - all.length < 1 := (List.getElem?_eq_some_iff.1 hd).1
   have h1 : i - all.length = 0 := by omega
   rw [h1] at hd
   injection hd with hd
   subst hd
   rw [hc] at ho; cases ho
theorem DAll.yes {N : Nat} {all : List Sm} {D : List Kin} {at_ : List Nat} (h : DAll N all D at_) {x : Kin} (hx : x.ok = true) : DAll N (all ++ [smOf N x]) (D ++ [x]) (at_ ++ [all.length]) := by
 refine ⟨by rw [List.length_append, List.length_append, h.len]; rfl, fun j y hy => ?_, fun i d hd ho => ?_, fun j j' i i' hj hj' hjj => ?_⟩
 ·
  rcases Nat.lt_or_ge j D.length with hi | hi
  ·
   rw [List.getElem?_append_left hi] at hy
   obtain ⟨h1, i, h2, h3⟩ := h.get j y hy
   exact ⟨h1, i, by rw [List.getElem?_append_left (by rw [h.len]; exact hi)]; exact h2, by rw [List.getElem?_append_left (h.lt h2)]; exact h3⟩
  ·
   rw [List.getElem?_append_right hi] at hy
   have h0 : j - D.length < 1 := (List.getElem?_eq_some_iff.1 hy).1
   have h1 : j = D.length := by omega
   subst h1
   rw [Nat.sub_self] at hy
   injection hy with hy
   subst hy
   refine ⟨hx, all.length, ?_, ?_⟩
   · rw [← h.len, List.getElem?_append_right (Nat.le_refl _), Nat.sub_self]; rfl
   · rw [List.getElem?_append_right (Nat.le_refl _), Nat.sub_self]; rfl
 ·
  rcases Nat.lt_or_ge i all.length with hi | hi
  ·
   rw [List.getElem?_append_left hi] at hd
   obtain ⟨j, hj⟩ := h.cov i d hd ho
   exact ⟨j, by rw [List.getElem?_append_left (List.getElem?_eq_some_iff.1 hj).1]; exact hj⟩
  ·
   rw [List.getElem?_append_right hi] at hd
   have h0 : i - all.length < 1 := (List.getElem?_eq_some_iff.1 hd).1
   have h1 : i = all.length := by omega
   subst h1
   exact ⟨at_.length, by rw [List.getElem?_append_right (Nat.le_refl _), Nat.sub_self]; rfl⟩
 ·
  rcases Nat.lt_or_ge j' at_.length with h2 | h2
  ·
   rw [List.getElem?_append_left (by omega)] at hj
   rw [List.getElem?_append_left h2] at hj'
   exact h.inc j j' i i' hj hj' hjj
  ·
   rw [List.getElem?_append_right h2] at hj'
   have h0 : j' - at_.length < 1 := (List.getElem?_eq_some_iff.1 hj').1
   have h1 : j' = at_.length := by omega
   subst h1
   rw [Nat.sub_self] at hj'
   injection hj' with hj'
   subst hj'
   rw [List.getElem?_append_left hjj] at hj
   exact h.lt hj
theorem DAll.mem {N : Nat} {all : List Sm} {D : List Kin} {at_ : List Nat} (h : DAll N all D at_) (c : Sm) : (c ∈ all ∧ c.2.1 = true) ↔ c ∈ D.map (smOf N) := by
 constructor
 ·
  rintro ⟨hc, ho⟩
  obtain ⟨i, hi, e⟩ := List.getElem_of_mem hc
  have hi2 : all[i]? = some c := by rw [List.getElem?_eq_getElem hi, e]
  obtain ⟨j, hj⟩ := h.cov i c hi2 ho
  have hjD : j < D.length := by rw [← h.len]; exact (List.getElem?_eq_some_iff.1 hj).1
  obtain ⟨_, i', h2, h3⟩ := h.get j _ (List.getElem?_eq_getElem hjD)
  rw [hj] at h2
  injection h2 with h2
  subst h2
  rw [hi2] at h3
  injection h3 with h3
  rw [h3]
  exact List.mem_map.2 ⟨_, List.getElem_mem hjD, rfl⟩
 ·
  intro hc
  obtain ⟨x, hx, rfl⟩ := List.mem_map.1 hc
  obtain ⟨j, hj, e⟩ := List.getElem_of_mem hx
  obtain ⟨h1, i, _, h3⟩ := h.get j x (by rw [List.getElem?_eq_getElem hj, e])
  exact ⟨List.mem_of_getElem? h3, h1⟩
theorem DAll.could {N : Nat} {p : Nat → Rat} {all : List Sm} {D : List Kin} {at_ : List Nat} (h : DAll N all D at_) (c : Sm) : Could N p (D.map (smOf N)) c ↔ Could N p all c := by
 unfold Could
 constructor
 ·
  rintro ⟨h1, h2, y, h3, h4⟩
  exact ⟨h1, h2, y, h3, fun d hd ho hs hp => h4 d ((h.mem d).1 ⟨hd, ho⟩) ho hs hp⟩
 ·
  rintro ⟨h1, h2, y, h3, h4⟩
  exact ⟨h1, h2, y, h3, fun d hd ho hs hp => h4 d ((h.mem d).2 hd).1 ho hs hp⟩
structure Gr2 (w w' : World) (B1 B2 : Option Nat) : Prop where
 os : w'.os = w.os
 tape : w'.tape = w.tape
 output : w'.output = w.output
 size : w.heap.size ≤ w'.heap.size
 block : ∀ k, k < w.heap.size → some k ≠ B1 → some k ≠ B2 → w'.heap[k]? = w.heap[k]?
theorem Gr2.refl (w : World) (B1 B2 : Option Nat) : Gr2 w w B1 B2 := ⟨rfl, rfl, rfl, Nat.le_refl _, fun _ _ _ _ => rfl⟩
def Kp2 (N s : Nat) (w : World) (B1 B2 : Option Nat) (x : Kin) : Prop := ∀ w', Gr2 w w' B1 B2 → Hin N s w' x
theorem Kp2.below {N s : Nat} {w w1 : World} {B1 B2 : Option Nat} {x : Kin} (h : Kp2 N s w B1 B2 x) (hb : Below w.heap.size w w1) : Kp2 N s w1 B1 B2 x := fun w' h2 =>
 h w' ⟨h2.os.trans hb.os, h2.tape.trans hb.tape, h2.output.trans hb.output, Nat.le_trans hb.size h2.size, fun k hk h3 h4 => (h2.block k (Nat.lt_of_lt_of_le hk hb.size) h3 h4).trans (hb.block k hk)⟩
theorem Kp2.one {N s : Nat} {w w1 : World} {B1 B1' B2 : Option Nat} {x : Kin} (h : Kp2 N s w B1 B2 x) (hg : w.grownBy w1 B1) (hB : B1' = B1 ∨ B1' = some w.heap.size) : Kp2 N s w1 B1' B2 x := fun w' h2 =>
 h
  w' ⟨h2.os.trans hg.os, h2.tape.trans hg.tape, h2.output.trans hg.output, Nat.le_trans hg.size h2.size, fun k hk h3 h4 => (h2.block k (Nat.lt_of_lt_of_le hk hg.size) (fun e => by
  rcases hB with rfl | rfl
  · exact h3 e
  · injection e with e; omega) h4).trans (hg.block k hk h3)⟩
theorem Kp2.two {N s : Nat} {w w1 : World} {B1 B2 B2' : Option Nat} {x : Kin} (h : Kp2 N s w B1 B2 x) (hg : w.grownBy w1 B2) (hB : B2' = B2 ∨ B2' = some w.heap.size) : Kp2 N s w1 B1 B2' x := fun w' h2 =>
 h
  w' ⟨h2.os.trans hg.os, h2.tape.trans hg.tape, h2.output.trans hg.output, Nat.le_trans hg.size h2.size, fun k hk h3 h4 => (h2.block k (Nat.lt_of_lt_of_le hk hg.size) h3 (fun e => by
  rcases hB with rfl | rfl
  · exact h4 e
  · injection e with e; omega)).trans (hg.block k hk h4)⟩
structure RaR (N s : Nat) (w wr : World) (A1 : Option Addr) (c1 n1 : Nat) (A2 : Option Addr) (c2 n2 : Nat) (D : List Kin) (at_ : List Nat) : Prop where
 cons : OwnC wr w.heap.size A1 c1 n1 (D.map (·.v))
 ats : OwnN wr w.heap.size A2 c2 n2 at_
 ne : ∀ ad ad', A1 = some ad → A2 = some ad' → ad.block ≠ ad'.block
 below : Below w.heap.size w wr
 kp : ∀ x ∈ D, Kp2 N s wr (A1.map (·.block)) (A2.map (·.block)) x
theorem RaR.step_ {N s : Nat} {w wr w' : World} {A1 A2 : Option Addr} {c1 n1 c2 n2 : Nat} {D : List Kin} {at_ : List Nat} (h : RaR N s w wr A1 c1 n1 A2 c2 n2 D at_) (hb : Below wr.heap.size wr w') : RaR N s w w' A1 c1 n1 A2 c2 n2 D at_ :=
 ⟨h.cons.below hb, h.ats.below hb, h.ne, h.below.trans (hb.mono h.below.size), fun x hx => (h.kp x hx).below hb⟩
theorem RaR.hns {N s : Nat} {w wr : World} {A1 A2 : Option Addr} {c1 n1 c2 n2 : Nat} {D : List Kin} {at_ : List Nat} (h : RaR N s w wr A1 c1 n1 A2 c2 n2 D at_) : Hns N s wr A1 n1 D := ⟨h.cons.kons, fun x hx => h.kp x hx wr (Gr2.refl _ _ _)⟩
def Lies (A2 A : Option Addr) (H : Nat) : Prop := A2.map (·.block) = A.map (·.block) ∨ A2.map (·.block) = some H
theorem Lies.to {A2 A : Option Addr} {H : Nat} {w : World} (h : Lies A2 A H) (e : w.heap.size = H) : A2.map (·.block) = A.map (·.block) ∨ A2.map (·.block) = some w.heap.size := e ▸ h
theorem wpc_append1 {w : World} {ops : Array Oper} {rest : List Oper} {o : Oper} {a : Act} {Q : Exit → Act → World → Prop} (hgd : o.guard = none) (s x : Operand)
  (ho : o.op = .call { callee := .builtin .append, args := #[s, x], argTypes := #[22, 22] })
  {A : Option Addr} {b lo n c c' : Nat} {l : List Cv} {t : Cv} (hs : a.eval s = .slice A n c) (hx : a.eval x = .slice (some ⟨b, 0, none⟩) 1 c')
  (h1 : OwnC w lo A c n l) (h2 : At5 w b 0 t) (hm : n + 1 ≤ 2000000) (hlo : lo ≤ w.heap.size) (H : Nat) (hH : w.heap.size = H)
  (h : ∀ A2 c2 w', OwnC w' lo A2 c2 (n + 1) (l ++ [t]) → w.grownBy w' (A.map (·.block)) → Lies A2 A H → wpList Tryz.prog ops Q rest (a.put o.dst (.slice A2 (n + 1) c2)) w') :
  wpList Tryz.prog ops Q (o :: rest) a w :=
 wpList_plain hgd fun K hK => by
  have hw : Region.wanted o (yielded ops a.tmps) = true := by simp [Region.wanted, hgd]
  suffices h9 : (if Region.wanted o (yielded ops a.tmps) = true then Oper.wp Tryz.prog o a w K Q else False) by
   rw [if_pos hw] at h9
   exact h9
  exact spc_append1 hgd s x ho hs hx h1 h2 hm hlo fun A2 c2 w' g1 g2 g3 => hK _ _ (h A2 c2 w' g1 g2 (hH ▸ g3))
theorem wpn_append1 {w : World} {ops : Array Oper} {rest : List Oper} {o : Oper} {a : Act} {Q : Exit → Act → World → Prop} (hgd : o.guard = none) (s x : Operand)
  (ho : o.op = .call { callee := .builtin .append, args := #[s, x], argTypes := #[51, 51] })
  {A : Option Addr} {ad : Addr} {lo n c c' i : Nat} {l : List Nat} (hs : a.eval s = .slice A n c) (hx : a.eval x = .slice (some ad) 1 c')
  (h1 : OwnN w lo A c n l) (h2 : IRow w (some ad) 1 [i]) (hm : n + 1 ≤ 2000000) (hlo : lo ≤ w.heap.size) (H : Nat) (hH : w.heap.size = H)
  (h : ∀ A2 c2 w', OwnN w' lo A2 c2 (n + 1) (l ++ [i]) → w.grownBy w' (A.map (·.block)) → Lies A2 A H → wpList Tryz.prog ops Q rest (a.put o.dst (.slice A2 (n + 1) c2)) w') :
  wpList Tryz.prog ops Q (o :: rest) a w := by
 obtain ⟨i0, hi, hz0, hz1, hz2⟩ := info_parts Tryz.info3
 have eb : (Value.slice A n c).ownBlock = A.map (·.block) := by cases A <;> rfl
 refine wpList_append_lies (w := w) hgd s x _ ho lo 3 i0 (.int .i64 0) 1 8 Tryz.underlying51 hi hz0 hz1 hz2 rfl (by omega) _ n _ hs h1.own ad 1 c' ([i].map inum) hx rfl (h2.src rfl) (inum_one [i]) (by omega) (by unfold maxLen; omega) (by omega) hlo H hH ?_
 intro g cap w' ho' hg' hwhere _
 rw [eb] at hg' hwhere
 rw [← List.map_append] at ho'
 refine h _ _ w' ⟨ho'⟩ hg' ?_
 rcases hwhere with h | h
 · exact .inl h.symm
 · exact .inr (by rw [h]; rfl)
theorem IRow.oneI {w : World} {z : Int} {i : Nat} (h : z = (i : Int)) : IRow (w.alloc (.cells #[.int .i64 z] 3)) (some ⟨w.heap.size, 0, none⟩) 1 [i] := by
 subst h
 exact IRow.one i
section
variable {N s : Nat} {w wr w' : World} {A1 A2 : Option Addr} {c1 n1 c2 n2 : Nat} {D : List Kin} {at_ : List Nat}
theorem RaR.con {A1' : Option Addr} {c1' : Nat} {x : Kin} (h : RaR N s w wr A1 c1 n1 A2 c2 n2 D at_) (ho : OwnC w' w.heap.size A1' c1' (n1 + 1) (D.map (·.v) ++ [x.v])) (hg : wr.grownBy w' (A1.map (·.block))) (hw : A1'.map (·.block) = A1.map (·.block) ∨ A1'.map (·.block) = some wr.heap.size)
  (hx : Kp2 N s wr (A1.map (·.block)) (A2.map (·.block)) x) : RaR N s w w' A1' c1' (n1 + 1) A2 c2 n2 (D ++ [x]) at_ := by
 have hne : ∀ ad, A2 = some ad → some ad.block ≠ A1.map (·.block) := fun ad e e2 => by
  cases hA : A1 with
  | none => rw [hA] at e2; cases e2
  | some a0 => rw [hA] at e2; injection e2 with e2; exact h.ne a0 ad hA e e2.symm
 refine ⟨by rw [List.map_append]; exact ho, h.ats.grown hg hne, fun ad ad' e e' e3 => ?_, h.below.grown hg h.below.size fun b e => ?_, fun y hy => ?_⟩
 ·
  rw [e] at hw
  rcases hw with hw | hw
  · exact hne ad' e' (by rw [← e3]; exact hw)
  ·
   injection hw with hw
   have e4 : ad.block = wr.heap.size := hw
   cases A2 with
   | none => cases e'
   |
    some a2 =>
    injection e' with e'
    subst e'
    have hb : ∀ ad, some a2 = some ad → ad.block < wr.heap.size := fun ad e => by
     injection e with e
     subst e
     rcases h.ats.own.2 with ⟨hv, _⟩ | ⟨g, cap, cur, hv, _, hh, _⟩
     · cases hv
     ·
      injection hv with hv
      injection hv with hv
      subst hv
      exact (Array.getElem?_eq_some_iff.1 hh).1
    have := hb a2 rfl
    omega
 ·
  cases hA : A1 with
  | none => rw [hA] at e; cases e
  | some a0 => rw [hA] at e; injection e with e; have := (h.cons.lt a0 hA).1; have e2 : a0.block = b := e; omega
 ·
  rcases List.mem_append.1 hy with hy | hy
  · exact (h.kp y hy).one hg hw
  · rw [List.mem_singleton.1 hy]; exact hx.one hg hw
theorem RaR.num {A2' : Option Addr} {c2' i : Nat} (h : RaR N s w wr A1 c1 n1 A2 c2 n2 D at_) (ho : OwnN w' w.heap.size A2' c2' (n2 + 1) (at_ ++ [i])) (hg : wr.grownBy w' (A2.map (·.block))) (hw : A2'.map (·.block) = A2.map (·.block) ∨ A2'.map (·.block) = some wr.heap.size) :
  RaR N s w w' A1 c1 n1 A2' c2' (n2 + 1) D (at_ ++ [i]) := by
 have hne : ∀ ad, A1 = some ad → some ad.block ≠ A2.map (·.block) := fun ad e e2 => by
  cases hA : A2 with
  | none => rw [hA] at e2; cases e2
  | some a0 => rw [hA] at e2; injection e2 with e2; exact h.ne ad a0 e hA e2
 refine ⟨h.cons.grown hg hne, ho, fun ad ad' e e' e3 => ?_, h.below.grown hg h.below.size fun b e => ?_, fun y hy => (h.kp y hy).two hg hw⟩
 ·
  rw [e'] at hw
  rcases hw with hw | hw
  · exact hne ad e (by rw [e3]; exact hw)
  ·
   injection hw with hw
   have := (h.cons.lt ad e).2
   have e4 : ad'.block = wr.heap.size := hw
   omega
 ·
  cases hA : A2 with
  | none => rw [hA] at e; cases e
  |
   some a0 =>
   rw [hA] at e
   injection e with e
   have e2 : a0.block = b := e
   subst hA
   rcases h.ats.own.2 with ⟨hv, _⟩ | ⟨g, cap, cur, hv, h8, hh, _⟩
   · cases hv
   ·
    injection hv with hv
    injection hv with hv
    subst hv
    have e3 : g = b := e2
    omega
theorem RaR.lt2 (h : RaR N s w wr A1 c1 n1 A2 c2 n2 D at_) : ∀ ad, A2 = some ad → w.heap.size ≤ ad.block ∧ ad.block < wr.heap.size := fun ad e => by
 subst e
 rcases h.ats.own.2 with ⟨hv, _⟩ | ⟨g, cap, cur, hv, h8, hh, _⟩
 · cases hv
 ·
  injection hv with hv
  injection hv with hv
  subst hv
  exact ⟨h8, (Array.getElem?_eq_some_iff.1 hh).1⟩
theorem RaR.old {x : Kin} (h : RaR N s w wr A1 c1 n1 A2 c2 n2 D at_) (hx : Hin N s w x) : Kp2 N s wr (A1.map (·.block)) (A2.map (·.block)) x := fun w2 h2 => by
 refine hx.below ⟨h2.os.trans h.below.os, h2.tape.trans h.below.tape, h2.output.trans h.below.output, Nat.le_trans h.below.size h2.size, fun k hk => (h2.block k (Nat.lt_of_lt_of_le hk h.below.size) (fun e => ?_) (fun e => ?_)).trans (h.below.block k hk)⟩
 ·
  cases hA : A1 with
  | none => rw [hA] at e; cases e
  | some a0 => rw [hA] at e; injection e with e; have := (h.cons.lt a0 hA).1; have e2 : k = a0.block := e; omega
 ·
  cases hA : A2 with
  | none => rw [hA] at e; cases e
  | some a0 => rw [hA] at e; injection e with e; have := (h.lt2 a0 hA).1; have e2 : k = a0.block := e; omega
theorem RaR.new {v : Nat} {b : Rat} {sv : Cv} (h : RaR N s w wr A1 c1 n1 A2 c2 n2 D at_) (hx : One w' wr.heap.size 4 v b sv) (hv : v < N) (hb : Sz (-b) 4) (hs : 4 ≤ s) : Kp2 N s w' (A1.map (·.block)) (A2.map (·.block)) ⟨sv, [((v : Int), ((1 : Int) : Rat))], -b, true⟩ := fun w2 h2 => by
 refine One.hin (hx.far h2.size fun k hk hk2 => h2.block k hk2 (fun e => ?_) (fun e => ?_)) (by omega) hv hb hs
 ·
  cases hA : A1 with
  | none => rw [hA] at e; cases e
  | some a0 => rw [hA] at e; injection e with e; have := (h.cons.lt a0 hA).2; have e2 : k = a0.block := e; omega
 ·
  cases hA : A2 with
  | none => rw [hA] at e; cases e
  | some a0 => rw [hA] at e; injection e with e; have := (h.lt2 a0 hA).2; have e2 : k = a0.block := e; omega
end
def AllPost (N s : Nat) (vs : List Kin) (B : List Rat) (w : World) (e : Ending) (w' : World) : Prop :=
 ∃ (A1 A2 : Option Addr) (c1 c2 n1 : Nat) (D : List Kin) (at_ : List Nat), e = .returned (.tuple #[.slice A1 n1 c1, .slice A2 n1 c2]) ∧ RaR N s w w' A1 c1 n1 A2 c2 n1 D at_ ∧ DAll N (allS N vs B) D at_
set_option maxHeartbeats 25600000 in
theorem rall_c (s N : Nat) (n : Int) (A Ab : Option Addr) (m c nb cb : Nat) (vs : List Kin) (lb : List Rv) (B : List Rat) (w : World) (hn : n = (N : Int)) (h : Hns N s w A m vs) (h4 : 4 ≤ s) (hs : s ≤ 150) (hm : m ≤ 900) (hN : N ≤ 64) (hbr : Nums w Ab nb lb) (hbd : RdV w 4 lb B) (hnb : nb ≤ 1000) :
  Calls Tryz.prog 69 #[.slice A m c, .slice Ab nb cb, .int .i64 n] w (AllPost N s vs B w) := by
 subst hn
 have HH := Lib.hid h
 have HB := Lib.hid (And.intro hbr hbd)
 have N0 : (0 : Int) ≤ (N : Int) := by omega
 have N1 : (N : Int) ≤ 64 := by omega
 have m0 : (0 : Int) ≤ (m : Int) := by omega
 have m1 : (m : Int) ≤ 900 := by omega
 have nb0 : (0 : Int) ≤ (nb : Int) := by omega
 have nb1 : (nb : Int) ≤ 1000 := by omega
 have HLEN : Hid (vs.length = m) := h.len
 clear h hbr hbd
 go_enter Tryz.func69, Tryz.ntmps69
 go_wp2
 go_loopw [8, 9, 10] (fun ov av iv wr => ∃ (i q c1 c2 : Nat) (A1 A2 : Option Addr) (D : List Kin) (at_ : List Nat), i ≤ m ∧ q ≤ i ∧ iv = .int .i64 i ∧ ov = .slice A1 q c1 ∧ av = .slice A2 q c2 ∧ Hid (RaR N s w wr A1 c1 q A2 c2 q D at_ ∧ DAll N ((vs.take i).map (smOf N)) D at_)) (fun _ _ iv _ => m - (intOf iv).toNat)
 case atStart => exact ⟨0, 0, 0, 0, none, none, [], [], Nat.zero_le _, Nat.zero_le _, rfl, rfl, rfl, Lib.hid ⟨⟨OwnC.nil_ _ _, OwnN.nil_ _ _, fun ad ad' e => (by cases e), Below.refl _ _, fun x hx => (by cases hx)⟩, DAll.nil N⟩⟩
 case round =>
  obtain ⟨i, q, c1, c2, A1, A2, D, at_, hi, hq, rfl, rfl, rfl, HR⟩ := hrel
  have i0 : (0 : Int) ≤ (i : Int) := by omega
  by_cases hlt : i < m
  ·
   have i1 : (i : Int) < (m : Int) := by omega
   have hil : i < vs.length := by rw [HLEN.out]; exact hlt
   obtain ⟨b, off, hA, hbw, hcc⟩ := HH.out.kons.mem (by omega)
   have hx := List.getElem?_eq_getElem hil
   have HXI := Lib.hid (HH.out.rd _ (List.getElem_mem hil))
   have h5 := hcc i _ (show (vs.map (·.v))[i]? = some vs[i].v by rw [List.getElem?_map, hx]; rfl)
   have HTK : Hid ((vs.take (i + 1)).map (smOf N) = (vs.take i).map (smOf N) ++ [smOf N vs[i]]) := by show _ = _; rw [List.take_add_one, hx, List.map_append]; rfl
   have HTL : Hid (((vs.take i).map (smOf N)).length = i) := by show _ = _; rw [List.length_map, List.length_take]; omega
   generalize vs[i] = x at *
   have H5 : Hid (∀ wz, Below w.heap.size w wz → At5 wz b (off + i * 5) x.v) := fun wz hz => h5.keep (hz.block b hbw)
   obtain ⟨k0, k1, k2, k3, k4⟩ := H5.out _ HR.out.1.below
   subst hA
   clear hx hcc hbw h5 hil
   go_wp2_with fail
   refine (rIsH_c s N x _ rfl (by omega) wr (HXI.out.below HR.out.1.below) hs).mono ?_
   rintro e w4 ⟨rfl, hb⟩
   have H4 : Hid (RaR N s w w4 A1 c1 q A2 c2 q D at_ ∧ DAll N ((vs.take i).map (smOf N)) D at_) := ⟨HR.out.1.step_ hb, HR.out.2⟩
   clear hb k0 k1 k2 k3 k4 HR
   cases ho : x.ok with
   |
    false =>
    have HN : Hid (RaR N s w w4 A1 c1 q A2 c2 q D at_ ∧ DAll N ((vs.take (i + 1)).map (smOf N)) D at_) := by
     rw [HTK.out]
     exact ⟨H4.out.1, H4.out.2.no ho⟩
    clear ho H4
    go_wp2
    go_roundw
    case rel => exact ⟨i + 1, q, c1, c2, A1, A2, D, at_, by omega, by omega, by go_num, rfl, rfl, HN⟩
    case measure => simp [intOf]; omega
   |
    true =>
    have HO := Lib.hid ho
    clear ho
    obtain ⟨k0, k1, k2, k3, k4⟩ := H5.out _ H4.out.1.below
    have HA5 : Hid (RaR N s w (w4.alloc (.cells #[.int .i64 x.v.s, .slice x.v.A x.v.n x.v.c, .bool x.v.K.s, .slice x.v.K.A x.v.K.n x.v.K.c, .slice x.v.K.B x.v.K.m x.v.K.d] 28)) A1 c1 q A2 c2 q D at_) := H4.out.1.step_ ((Below.refl _ _).alloc (Nat.le_refl _) _)
    go_wp2_with (at_builtin; refine wpc_append1 rfl _ _ rfl rfl rfl (lo := w.heap.size) (t := x.v) HA5.out.cons (At5.of (C5.new w4 (.int .i64 x.v.s) (.slice x.v.A x.v.n x.v.c) (.bool x.v.K.s) (.slice x.v.K.A x.v.K.n x.v.K.c) (.slice x.v.K.B x.v.K.m x.v.K.d))) (by omega) HA5.out.below.size (w4.heap.size + 1) (by simp) ?_)
    intro A3 c3 w5 hown hgrow hlies
    have H6 : Hid (RaR N s w w5 A3 c3 (q + 1) A2 c2 q (D ++ [x]) at_) := HA5.out.con hown hgrow (hlies.to (by simp)) (HA5.out.old HXI.out)
    clear hown hgrow hlies k0 k1 k2 k3 k4 HA5
    have HA7 : Hid (RaR N s w (w5.alloc (.cells #[.int .i64 (i : Int)] 3)) A3 c3 (q + 1) A2 c2 q (D ++ [x]) at_) := H6.out.step_ ((Below.refl _ _).alloc (Nat.le_refl _) _)
    go_wp2_with (at_builtin; refine wpn_append1 rfl _ _ rfl rfl rfl (lo := w.heap.size) (i := i) HA7.out.ats (IRow.one i) (by omega) HA7.out.below.size (w5.heap.size + 1) (by simp) ?_)
    intro A4 c4 w6 hown hgrow hlies
    have HN : Hid (RaR N s w w6 A3 c3 (q + 1) A4 c4 (q + 1) (D ++ [x]) (at_ ++ [i]) ∧ DAll N ((vs.take (i + 1)).map (smOf N)) (D ++ [x]) (at_ ++ [i])) := by
     refine ⟨HA7.out.num hown hgrow (hlies.to (by simp)), ?_⟩
     have h9 := H4.out.2.yes HO.out
     rw [HTL.out] at h9
     rw [HTK.out]
     exact h9
    clear hown hgrow hlies HA7 H6 H4
    go_wp2
    go_roundw
    case rel => exact ⟨i + 1, q + 1, c3, c4, A3, A4, D ++ [x], at_ ++ [i], by omega, by omega, by go_num, rfl, rfl, HN⟩
    case measure => simp [intOf]; omega
  ·
   have i1 : ¬ (i : Int) < (m : Int) := by omega
   have HR0 : Hid (RaR N s w wr A1 c1 q A2 c2 q D at_ ∧ DAll N (vs.map (smOf N) ++ (List.range 0).map (stayS N B)) D at_) := by
    have h1 := HR.out
    rw [List.take_of_length_le (by rw [HLEN.out]; omega)] at h1
    exact ⟨h1.1, by simpa using h1.2⟩
   clear HR
   go_wp2
   go_loopw [8, 9, 11, 12, 13] (fun ov av vv _ _ wr => ∃ (v q c1 c2 : Nat) (A1 A2 : Option Addr) (D : List Kin) (at_ : List Nat), v ≤ N ∧ q ≤ m + v ∧ vv = .int .i64 v ∧ ov = .slice A1 q c1 ∧ av = .slice A2 q c2 ∧ Hid (RaR N s w wr A1 c1 q A2 c2 q D at_ ∧ DAll N (vs.map (smOf N) ++ (List.range v).map (stayS N B)) D at_)) (fun _ _ vv _ _ _ => N - (intOf vv).toNat)
   case atStart => exact ⟨0, q, c1, c2, A1, A2, D, at_, Nat.zero_le _, by omega, rfl, rfl, rfl, HR0⟩
   case round =>
    clear HR0
    obtain ⟨v, q, c1, c2, A1, A2, D, at_, hv, hq, rfl, rfl, rfl, HR⟩ := hrel
    have v0 : (0 : Int) ≤ (v : Int) := by omega
    by_cases hlv : v < N
    ·
     have v1 : (v : Int) < (N : Int) := by omega
     go_wp2_with fail
     refine (rInt_c 0 _ (by omega)).mono ?_
     rintro e w2 ⟨z0, rfl, hz0, hb2⟩
     have HW2 : Hid (RaR N s w w2 A1 c1 q A2 c2 q D at_) := HR.out.1.step_ hb2
     have HDA : Hid (DAll N (vs.map (smOf N) ++ (List.range v).map (stayS N B)) D at_) := HR.out.2
     have HZ0 := Lib.hid (hz0.lower (Nat.zero_le _))
     clear hz0 hb2 HR
     go_upto_if 46 with fail
     obtain ⟨X, hX⟩ : ∃ X, X = w2.heap.size := ⟨_, rfl⟩
     have HX : Hid (w.heap.size ≤ X) := by show _ ≤ _; rw [hX]; exact HW2.out.below.size
     have HK : Hid (C3 (w2.alloc (.cells #[.bool z0.s, .slice z0.A z0.n z0.c, .slice z0.B z0.m z0.d] 26)) X (.bool z0.s) (.slice z0.A z0.n z0.c) (.slice z0.B z0.m z0.d) ∧ Below w2.heap.size w2 (w2.alloc (.cells #[.bool z0.s, .slice z0.A z0.n z0.c, .slice z0.B z0.m z0.d] 26))) := ⟨hX ▸ C3.new w2 (.bool z0.s) (.slice z0.A z0.n z0.c) (.slice z0.B z0.m z0.d), (Below.refl _ _).alloc (Nat.le_refl _) _⟩
     have HXW : Hid (X = w2.heap.size) := hX
     rw [← hX]
     clear hX
     generalize w2.alloc (.cells #[.bool z0.s, .slice z0.A z0.n z0.c, .slice z0.B z0.m z0.d] 26) = W2 at *
     go_cut [] from 37 to 69 (fun wx => ∃ zb : Rv, Hid (C3 wx X (.bool zb.s) (.slice zb.A zb.n zb.c) (.slice zb.B zb.m zb.d) ∧ Rw wx zb (atV B (v : Int)) 4 ∧ RaR N s w wx A1 c1 q A2 c2 q D at_))
     case first =>
      obtain ⟨x0, x1, x2, y0, y1, y2⟩ := HK.out.1.facts
      by_cases hq2 : v < nb
      ·
       have q1 : (v : Int) < (nb : Int) := by omega
       rw [decide_eq_true hq2]
       obtain ⟨b, off, hb, hbw, hc⟩ := HB.out.1.mem (by omega)
       obtain ⟨x, y, hx, hy, hr⟩ := HB.out.2.get v (by rw [HB.out.1.len]; exact hq2)
       have HBW : Hid (Below w.heap.size w W2) := HW2.out.below.trans (HK.out.2.mono HW2.out.below.size)
       obtain ⟨g0, g1, g2⟩ := (hc v x hx).keep (HBW.out.block b hbw)
       have HRX : Hid (Rw w x y 4 ∧ atV B (v : Int) = y) := ⟨hr, by unfold atV; rw [if_pos (by omega), Int.toNat_natCast, hy]; rfl⟩
       subst hb
       have hne : ¬ b = X := by have := HX.out; omega
       clear hx hy hr hc hq2
       go_wp2_with fail
       refine (rNorm_c x y _ ((HRX.out.1.below HBW.out).more (by omega))).mono ?_
       rintro e w3 ⟨zb, rfl, hz, hb3⟩
       have HZ3 : Hid (Rt w3 W2.heap.size zb y) := hz
       have HB3 : Hid (Below W2.heap.size W2 w3) := hb3
       have HK3 : Hid (C3 w3 X (.bool z0.s) (.slice z0.A z0.n z0.c) (.slice z0.B z0.m z0.d)) := HK.out.1.below hb3
       have HXL : Hid (X < W2.heap.size) := HK.out.1.lt
       clear hz hb3 x0 x1 x2 y0 y1 y2 g0 g1 g2
       obtain ⟨x0, x1, x2, y0, y1, y2⟩ := HK3.out.facts
       go_wp2_with fail
       go_meet
       refine ⟨zb, HK3.out.put _ _ _, ?_, (HW2.out.step_ ((HK.out.2.trans (HB3.out.mono HK.out.2.size)).trans (put3_below (by rw [HXW.out]; exact Nat.le_refl _) _ _ _)))⟩
       rw [HRX.out.2]
       exact (HZ3.out.put HXL.out _ _ _).rw (HRX.out.1.sz (by omega))
      ·
       have q1 : ¬ (v : Int) < (nb : Int) := by omega
       rw [decide_eq_false hq2]
       have HRX : Hid (atV B (v : Int) = 0) := by
        show atV B (v : Int) = 0
        unfold atV
        rw [if_pos (by omega), Int.toNat_natCast, List.getElem?_eq_none (by rw [← HB.out.2.len, HB.out.1.len]; omega)]
        rfl
       clear hq2
       go_wp2_with fail
       go_meet
       refine ⟨z0, HK.out.1, ?_, HW2.out.step_ HK.out.2⟩
       rw [HRX.out]
       exact (HZ0.out.below HK.out.2).rw (sz_atV (V := []) (fun y hy => by cases hy) 0)
     case rest =>
      obtain ⟨zb, HC⟩ := hcut
      clear HK HXW HZ0 HW2
      generalize wc = W at *
      have HXL : Hid (X < W.heap.size) := HC.out.1.lt
      have HAL : Hid (∀ w', Below W.heap.size W w' → w'.cell? ⟨X, 0, none⟩ = some (.bool zb.s) ∧ w'.cell? ⟨X, 1, none⟩ = some (.slice zb.A zb.n zb.c) ∧ w'.cell? ⟨X, 2, none⟩ = some (.slice zb.B zb.m zb.d)) := fun w' h => by
       obtain ⟨h0, h1, h2, _⟩ := (HC.out.1.below h).facts
       exact ⟨h0, h1, h2⟩
      obtain ⟨x0, x1, x2⟩ := HAL.out _ (Below.refl _ _)
      go_upto_region 14 with fail
      go_cut [13] from 37 to 69 (fun tv wx => ∃ (Y : Nat) (sv : Cv), tv = .pointer (some ⟨Y, 0, none⟩) ∧ Hid (C5 wx Y (.int .i64 sv.s) (.slice sv.A sv.n sv.c) (.bool sv.K.s) (.slice sv.K.A sv.K.n sv.K.c) (.slice sv.K.B sv.K.m sv.K.d) ∧ One wx W.heap.size 4 v (atV B (v : Int)) sv ∧ Below W.heap.size W wx))
      case first =>
       obtain ⟨L, hL⟩ : ∃ L, L = W.heap.size := ⟨_, rfl⟩
       have HL := Lib.hid hL
       clear hL
       refine wp_region_held_drew (S := fun w' => w'.cell? ⟨X, 0, none⟩ = some (.bool zb.s) ∧ w'.cell? ⟨X, 1, none⟩ = some (.slice zb.A zb.n zb.c) ∧ w'.cell? ⟨X, 2, none⟩ = some (.slice zb.B zb.m zb.d)) (by kernel_rfl) ?_ (fun hHeld => ?_)
       ·
        (try dsimp only)
        go_keep
       refine tk (i := 0) (h := ?_)
       try simp only [zR]
       refine tk (i := 4) (h := ?_)
       try simp only [zR]
       refine tr [1, 7] ?_
       refine tc (h := fun K hK => ?_) (hs := tc (h := fun K hK => ?_) (hs := tn))
       ·
        skip
        try go_simp
        go_at_call 28
        refine (rInt_c 1 _ (by omega)).mono ?_
        rintro e y1 ⟨z, rfl, hz, hb⟩
        have P1 : Hid (Below W.heap.size W y1) := (bel1 W).trans hb
        have Z1 : Hid (Rt y1 L z ((1 : Int) : Rat)) := hz.lower (Nat.le_trans (Nat.le_of_eq HL.out) (bel1 W).size)
        clear hz hb
        clear x0 x1 x2
        obtain ⟨x0, x1, x2⟩ := HAL.out _ P1.out
        try go_wp2_with fail
        refine hK.out _ _ ?_ (fun hHeld => ?_)
        · (try dsimp only); go_keep
        clear hK K
        try simp only [zR]
        refine tk (i := 2) (h := ?_)
        try simp only [zR]
        refine tr [3, 5, 7] ?_
        refine tc (h := fun K hK => ?_) (hs := tc (h := fun K hK => ?_) (hs := tc (h := fun K hK => ?_) (hs := tn)))
        ·
         skip
         try go_simp
         try go_wp2_with fail
         refine hK.out _ _ ?_ (fun hHeld => ?_)
         · (try dsimp only); go_keep
         clear hK K
         try simp only [zR]
         have P3 : Hid (Below W.heap.size W (y1.alloc (.cells #[.int .i64 (v : Int), .bool z.s, .slice z.A z.n z.c, .slice z.B z.m z.d] 47))) := P1.out.trans (((Below.refl _ _).alloc (Nat.le_refl _) _).mono P1.out.size)
         have D3 : Hid (Below y1.heap.size y1 (y1.alloc (.cells #[.int .i64 (v : Int), .bool z.s, .slice z.A z.n z.c, .slice z.B z.m z.d] 47))) := (Below.refl _ _).alloc (Nat.le_refl _) _
         have G3 : Hid ((y1.alloc (.cells #[.int .i64 (v : Int), .bool z.s, .slice z.A z.n z.c, .slice z.B z.m z.d] 47)).heap[y1.heap.size]? = some (.cells #[.int .i64 (v : Int), .bool z.s, .slice z.A z.n z.c, .slice z.B z.m z.d] 47 (0, 0)) ∧ L ≤ y1.heap.size) := ⟨heap_alloc_new y1 _, Nat.le_trans (Nat.le_of_eq HL.out) P1.out.size⟩
         generalize (y1.alloc (.cells #[.int .i64 (v : Int), .bool z.s, .slice z.A z.n z.c, .slice z.B z.m z.d] 47)) = y3 at *
         obtain ⟨G, hG⟩ : ∃ G, G = y1.heap.size := ⟨_, rfl⟩
         rw [← hG] at G3
         rw [← hG]
         clear hG
         replace Z1 : Hid (Rt y3 L z ((1 : Int) : Rat)) := Z1.out.below D3.out
         clear x0 x1 x2
         obtain ⟨x0, x1, x2⟩ := HAL.out _ P3.out
         refine tr [5, 7] ?_
         refine tc (h := fun K hK => ?_) (hs := tc (h := fun K hK => ?_) (hs := tn))
         ·
          skip
          try go_simp
          go_at_call 29
          refine (rNeg_c zb (atV B (v : Int)) _ ((HC.out.2.1.below P3.out).more (by omega))).mono ?_
          rintro e y5 ⟨zk, rfl, hz, hb⟩
          have P5 : Hid (Below W.heap.size W y5) := P3.out.trans (hb.mono P3.out.size)
          have Z5 : Hid (Rt y5 L zk (-(atV B (v : Int)))) := hz.lower (Nat.le_trans (Nat.le_of_eq HL.out) P3.out.size)
          replace Z1 : Hid (Rt y5 L z ((1 : Int) : Rat)) := Z1.out.below hb
          replace G3 : Hid (y5.heap[G]? = some (.cells #[.int .i64 (v : Int), .bool z.s, .slice z.A z.n z.c, .slice z.B z.m z.d] 47 (0, 0)) ∧ L ≤ G) := ⟨(hb.block G (Array.getElem?_eq_some_iff.1 G3.out.1).1).trans G3.out.1, G3.out.2⟩
          clear hz hb
          clear x0 x1 x2
          obtain ⟨x0, x1, x2⟩ := HAL.out _ P5.out
          try go_wp2_with fail
          refine hK.out _ _ ?_ (fun hHeld => ?_)
          · (try dsimp only); go_keep
          clear hK K
          try simp only [zR]
          refine tk (i := 6) (h := ?_)
          try simp only [zR]
          refine tr [7] ?_
          refine tc (h := fun K hK => ?_) (hs := tn)
          try go_simp
          try go_wp2_with fail
          refine hK.out _ _ ?_ (fun hHeld => ?_)
          · (try dsimp only); go_keep
          clear hK K
          try simp only [zR]
          have P7 : Hid (Below W.heap.size W (y5.alloc (.cells #[.int .i64 0, .slice none 0 0, .bool false, .slice none 0 0, .slice none 0 0] 28))) := P5.out.trans ((((Below.refl _ _).alloc (Nat.le_refl _) _)).mono P5.out.size)
          have D7 : Hid (Below y5.heap.size y5 (y5.alloc (.cells #[.int .i64 0, .slice none 0 0, .bool false, .slice none 0 0, .slice none 0 0] 28))) := ((Below.refl _ _).alloc (Nat.le_refl _) _)
          have HYZ : Hid (C5 (y5.alloc (.cells #[.int .i64 0, .slice none 0 0, .bool false, .slice none 0 0, .slice none 0 0] 28)) y5.heap.size (.int .i64 0) (.slice none 0 0) (.bool false) (.slice none 0 0) (.slice none 0 0) ∧ L ≤ y5.heap.size) := ⟨C5.new y5 (.int .i64 0) (.slice none 0 0) (.bool false) (.slice none 0 0) (.slice none 0 0), Nat.le_trans (Nat.le_of_eq HL.out) P5.out.size⟩
          generalize (y5.alloc (.cells #[.int .i64 0, .slice none 0 0, .bool false, .slice none 0 0, .slice none 0 0] 28)) = y7 at *
          obtain ⟨Y, hY⟩ : ∃ Y, Y = y5.heap.size := ⟨_, rfl⟩
          rw [← hY] at HYZ
          rw [← hY]
          clear hY
          replace Z1 : Hid (Rt y7 L z ((1 : Int) : Rat)) := Z1.out.below D7.out
          replace Z5 : Hid (Rt y7 L zk (-(atV B (v : Int)))) := Z5.out.below D7.out
          replace G3 : Hid (y7.heap[G]? = some (.cells #[.int .i64 (v : Int), .bool z.s, .slice z.A z.n z.c, .slice z.B z.m z.d] 47 (0, 0)) ∧ L ≤ G) := ⟨(D7.out.block G (Array.getElem?_eq_some_iff.1 G3.out.1).1).trans G3.out.1, G3.out.2⟩
          clear x0 x1 x2
          obtain ⟨x0, x1, x2⟩ := HAL.out _ P7.out
          obtain ⟨q0, q1, q2, q3, q4⟩ := HYZ.out.1.facts
          obtain ⟨t0, t1, t2, t3, t4⟩ := HYZ.out.1.thaw
          have mA : ¬ X = Y := by have := HYZ.out.2; have := HXL.out; have := HL.out; omega
          have mB : ¬ Y = X := fun e => mA e.symm
          refine tr [8] ?_
          refine tc (h := fun K hK => ?_) (hs := tn)
          try go_simp
          try go_wp2_with fail
          refine hK.out _ _ ?_ (fun hHeld => ?_)
          · (try dsimp only); go_keep
          clear hK K
          try simp only [zR]
          refine wpAnyH_done (by kernel_rfl) ?_ _
          clear x0 x1 x2 q0 q1 q2 q3 q4 t0 t1 t2 t3 t4
          go_wp2_with fail
          go_meet
          have hone : One y7 L 4 v (atV B (v : Int)) ⟨4, some ⟨G, 0, none⟩, 1, 1, zk⟩ := ⟨⟨G, z, rfl, rfl, rfl, rfl, G3.out.2, G3.out.1, Z1.out⟩, Z5.out⟩
          exact ⟨Y, ⟨4, some ⟨G, 0, none⟩, 1, 1, zk⟩, rfl, HYZ.out.1.put _ _ _ _ _, HL.out ▸ hone.put5z HYZ.out.1 _ _ _ _ _, P7.out.trans (put5_below (by have := HYZ.out.2; have := HL.out; omega) _ _ _ _ _)⟩
         ·
          skip
          try go_simp
          try go_wp2_with fail
          refine hK.out _ _ ?_ (fun hHeld => ?_)
          · (try dsimp only); go_keep
          clear hK K
          try simp only [zR]
          have P7 : Hid (Below W.heap.size W (y3.alloc (.cells #[.int .i64 0, .slice none 0 0, .bool false, .slice none 0 0, .slice none 0 0] 28))) := P3.out.trans ((((Below.refl _ _).alloc (Nat.le_refl _) _)).mono P3.out.size)
          have D7 : Hid (Below y3.heap.size y3 (y3.alloc (.cells #[.int .i64 0, .slice none 0 0, .bool false, .slice none 0 0, .slice none 0 0] 28))) := ((Below.refl _ _).alloc (Nat.le_refl _) _)
          have HYZ : Hid (C5 (y3.alloc (.cells #[.int .i64 0, .slice none 0 0, .bool false, .slice none 0 0, .slice none 0 0] 28)) y3.heap.size (.int .i64 0) (.slice none 0 0) (.bool false) (.slice none 0 0) (.slice none 0 0) ∧ L ≤ y3.heap.size) := ⟨C5.new y3 (.int .i64 0) (.slice none 0 0) (.bool false) (.slice none 0 0) (.slice none 0 0), Nat.le_trans (Nat.le_of_eq HL.out) P3.out.size⟩
          generalize (y3.alloc (.cells #[.int .i64 0, .slice none 0 0, .bool false, .slice none 0 0, .slice none 0 0] 28)) = y7 at *
          obtain ⟨Y, hY⟩ : ∃ Y, Y = y3.heap.size := ⟨_, rfl⟩
          rw [← hY] at HYZ
          rw [← hY]
          clear hY
          replace Z1 : Hid (Rt y7 L z ((1 : Int) : Rat)) := Z1.out.below D7.out
          replace G3 : Hid (y7.heap[G]? = some (.cells #[.int .i64 (v : Int), .bool z.s, .slice z.A z.n z.c, .slice z.B z.m z.d] 47 (0, 0)) ∧ L ≤ G) := ⟨(D7.out.block G (Array.getElem?_eq_some_iff.1 G3.out.1).1).trans G3.out.1, G3.out.2⟩
          clear x0 x1 x2
          obtain ⟨x0, x1, x2⟩ := HAL.out _ P7.out
          obtain ⟨q0, q1, q2, q3, q4⟩ := HYZ.out.1.facts
          obtain ⟨t0, t1, t2, t3, t4⟩ := HYZ.out.1.thaw
          have mA : ¬ X = Y := by have := HYZ.out.2; have := HXL.out; have := HL.out; omega
          have mB : ¬ Y = X := fun e => mA e.symm
          refine tr [5] ?_
          refine tc (h := fun K hK => ?_) (hs := tn)
          try go_simp
          go_at_call 29
          refine (rNeg_c zb (atV B (v : Int)) _ ((HC.out.2.1.below P7.out).more (by omega))).mono ?_
          rintro e y5 ⟨zk, rfl, hz, hb⟩
          have P5 : Hid (Below W.heap.size W y5) := P7.out.trans (hb.mono P7.out.size)
          have Z5 : Hid (Rt y5 L zk (-(atV B (v : Int)))) := hz.lower (Nat.le_trans (Nat.le_of_eq HL.out) P7.out.size)
          replace Z1 : Hid (Rt y5 L z ((1 : Int) : Rat)) := Z1.out.below hb
          replace G3 : Hid (y5.heap[G]? = some (.cells #[.int .i64 (v : Int), .bool z.s, .slice z.A z.n z.c, .slice z.B z.m z.d] 47 (0, 0)) ∧ L ≤ G) := ⟨(hb.block G (Array.getElem?_eq_some_iff.1 G3.out.1).1).trans G3.out.1, G3.out.2⟩
          replace HYZ : Hid (C5 y5 Y (.int .i64 0) (.slice none 0 0) (.bool false) (.slice none 0 0) (.slice none 0 0) ∧ L ≤ Y) := ⟨HYZ.out.1.below hb, HYZ.out.2⟩
          clear hz hb
          clear x0 x1 x2
          obtain ⟨x0, x1, x2⟩ := HAL.out _ P5.out
          (try clear q0 q1 q2 q3 q4 t0 t1 t2 t3 t4)
          obtain ⟨q0, q1, q2, q3, q4⟩ := HYZ.out.1.facts
          obtain ⟨t0, t1, t2, t3, t4⟩ := HYZ.out.1.thaw
          try go_wp2_with fail
          refine hK.out _ _ ?_ (fun hHeld => ?_)
          · (try dsimp only); go_keep
          clear hK K
          try simp only [zR]
          refine tk (i := 6) (h := ?_)
          try simp only [zR]
          refine tr [8] ?_
          refine tc (h := fun K hK => ?_) (hs := tn)
          try go_simp
          try go_wp2_with fail
          refine hK.out _ _ ?_ (fun hHeld => ?_)
          · (try dsimp only); go_keep
          clear hK K
          try simp only [zR]
          refine wpAnyH_done (by kernel_rfl) ?_ _
          clear x0 x1 x2 q0 q1 q2 q3 q4 t0 t1 t2 t3 t4
          go_wp2_with fail
          go_meet
          have hone : One y5 L 4 v (atV B (v : Int)) ⟨4, some ⟨G, 0, none⟩, 1, 1, zk⟩ := ⟨⟨G, z, rfl, rfl, rfl, rfl, G3.out.2, G3.out.1, Z1.out⟩, Z5.out⟩
          exact ⟨Y, ⟨4, some ⟨G, 0, none⟩, 1, 1, zk⟩, rfl, HYZ.out.1.put _ _ _ _ _, HL.out ▸ hone.put5z HYZ.out.1 _ _ _ _ _, P5.out.trans (put5_below (by have := HYZ.out.2; have := HL.out; omega) _ _ _ _ _)⟩
        ·
         skip
         try go_simp
         go_at_call 29
         refine (rNeg_c zb (atV B (v : Int)) _ ((HC.out.2.1.below P1.out).more (by omega))).mono ?_
         rintro e y5 ⟨zk, rfl, hz, hb⟩
         have P5 : Hid (Below W.heap.size W y5) := P1.out.trans (hb.mono P1.out.size)
         have Z5 : Hid (Rt y5 L zk (-(atV B (v : Int)))) := hz.lower (Nat.le_trans (Nat.le_of_eq HL.out) P1.out.size)
         replace Z1 : Hid (Rt y5 L z ((1 : Int) : Rat)) := Z1.out.below hb
         clear hz hb
         clear x0 x1 x2
         obtain ⟨x0, x1, x2⟩ := HAL.out _ P5.out
         try go_wp2_with fail
         refine hK.out _ _ ?_ (fun hHeld => ?_)
         · (try dsimp only); go_keep
         clear hK K
         try simp only [zR]
         refine tr [3, 7] ?_
         refine tc (h := fun K hK => ?_) (hs := tc (h := fun K hK => ?_) (hs := tn))
         ·
          skip
          try go_simp
          try go_wp2_with fail
          refine hK.out _ _ ?_ (fun hHeld => ?_)
          · (try dsimp only); go_keep
          clear hK K
          try simp only [zR]
          have P3 : Hid (Below W.heap.size W (y5.alloc (.cells #[.int .i64 (v : Int), .bool z.s, .slice z.A z.n z.c, .slice z.B z.m z.d] 47))) := P5.out.trans (((Below.refl _ _).alloc (Nat.le_refl _) _).mono P5.out.size)
          have D3 : Hid (Below y5.heap.size y5 (y5.alloc (.cells #[.int .i64 (v : Int), .bool z.s, .slice z.A z.n z.c, .slice z.B z.m z.d] 47))) := (Below.refl _ _).alloc (Nat.le_refl _) _
          have G3 : Hid ((y5.alloc (.cells #[.int .i64 (v : Int), .bool z.s, .slice z.A z.n z.c, .slice z.B z.m z.d] 47)).heap[y5.heap.size]? = some (.cells #[.int .i64 (v : Int), .bool z.s, .slice z.A z.n z.c, .slice z.B z.m z.d] 47 (0, 0)) ∧ L ≤ y5.heap.size) := ⟨heap_alloc_new y5 _, Nat.le_trans (Nat.le_of_eq HL.out) P5.out.size⟩
          generalize (y5.alloc (.cells #[.int .i64 (v : Int), .bool z.s, .slice z.A z.n z.c, .slice z.B z.m z.d] 47)) = y3 at *
          obtain ⟨G, hG⟩ : ∃ G, G = y5.heap.size := ⟨_, rfl⟩
          rw [← hG] at G3
          rw [← hG]
          clear hG
          replace Z1 : Hid (Rt y3 L z ((1 : Int) : Rat)) := Z1.out.below D3.out
          replace Z5 : Hid (Rt y3 L zk (-(atV B (v : Int)))) := Z5.out.below D3.out
          clear x0 x1 x2
          obtain ⟨x0, x1, x2⟩ := HAL.out _ P3.out
          refine tk (i := 6) (h := ?_)
          try simp only [zR]
          refine tr [7] ?_
          refine tc (h := fun K hK => ?_) (hs := tn)
          try go_simp
          try go_wp2_with fail
          refine hK.out _ _ ?_ (fun hHeld => ?_)
          · (try dsimp only); go_keep
          clear hK K
          try simp only [zR]
          have P7 : Hid (Below W.heap.size W (y3.alloc (.cells #[.int .i64 0, .slice none 0 0, .bool false, .slice none 0 0, .slice none 0 0] 28))) := P3.out.trans ((((Below.refl _ _).alloc (Nat.le_refl _) _)).mono P3.out.size)
          have D7 : Hid (Below y3.heap.size y3 (y3.alloc (.cells #[.int .i64 0, .slice none 0 0, .bool false, .slice none 0 0, .slice none 0 0] 28))) := ((Below.refl _ _).alloc (Nat.le_refl _) _)
          have HYZ : Hid (C5 (y3.alloc (.cells #[.int .i64 0, .slice none 0 0, .bool false, .slice none 0 0, .slice none 0 0] 28)) y3.heap.size (.int .i64 0) (.slice none 0 0) (.bool false) (.slice none 0 0) (.slice none 0 0) ∧ L ≤ y3.heap.size) := ⟨C5.new y3 (.int .i64 0) (.slice none 0 0) (.bool false) (.slice none 0 0) (.slice none 0 0), Nat.le_trans (Nat.le_of_eq HL.out) P3.out.size⟩
          generalize (y3.alloc (.cells #[.int .i64 0, .slice none 0 0, .bool false, .slice none 0 0, .slice none 0 0] 28)) = y7 at *
          obtain ⟨Y, hY⟩ : ∃ Y, Y = y3.heap.size := ⟨_, rfl⟩
          rw [← hY] at HYZ
          rw [← hY]
          clear hY
          replace Z1 : Hid (Rt y7 L z ((1 : Int) : Rat)) := Z1.out.below D7.out
          replace Z5 : Hid (Rt y7 L zk (-(atV B (v : Int)))) := Z5.out.below D7.out
          replace G3 : Hid (y7.heap[G]? = some (.cells #[.int .i64 (v : Int), .bool z.s, .slice z.A z.n z.c, .slice z.B z.m z.d] 47 (0, 0)) ∧ L ≤ G) := ⟨(D7.out.block G (Array.getElem?_eq_some_iff.1 G3.out.1).1).trans G3.out.1, G3.out.2⟩
          clear x0 x1 x2
          obtain ⟨x0, x1, x2⟩ := HAL.out _ P7.out
          obtain ⟨q0, q1, q2, q3, q4⟩ := HYZ.out.1.facts
          obtain ⟨t0, t1, t2, t3, t4⟩ := HYZ.out.1.thaw
          have mA : ¬ X = Y := by have := HYZ.out.2; have := HXL.out; have := HL.out; omega
          have mB : ¬ Y = X := fun e => mA e.symm
          refine tr [8] ?_
          refine tc (h := fun K hK => ?_) (hs := tn)
          try go_simp
          try go_wp2_with fail
          refine hK.out _ _ ?_ (fun hHeld => ?_)
          · (try dsimp only); go_keep
          clear hK K
          try simp only [zR]
          refine wpAnyH_done (by kernel_rfl) ?_ _
          clear x0 x1 x2 q0 q1 q2 q3 q4 t0 t1 t2 t3 t4
          go_wp2_with fail
          go_meet
          have hone : One y7 L 4 v (atV B (v : Int)) ⟨4, some ⟨G, 0, none⟩, 1, 1, zk⟩ := ⟨⟨G, z, rfl, rfl, rfl, rfl, G3.out.2, G3.out.1, Z1.out⟩, Z5.out⟩
          exact ⟨Y, ⟨4, some ⟨G, 0, none⟩, 1, 1, zk⟩, rfl, HYZ.out.1.put _ _ _ _ _, HL.out ▸ hone.put5z HYZ.out.1 _ _ _ _ _, P7.out.trans (put5_below (by have := HYZ.out.2; have := HL.out; omega) _ _ _ _ _)⟩
         ·
          skip
          try go_simp
          try go_wp2_with fail
          refine hK.out _ _ ?_ (fun hHeld => ?_)
          · (try dsimp only); go_keep
          clear hK K
          try simp only [zR]
          have P7 : Hid (Below W.heap.size W (y5.alloc (.cells #[.int .i64 0, .slice none 0 0, .bool false, .slice none 0 0, .slice none 0 0] 28))) := P5.out.trans ((((Below.refl _ _).alloc (Nat.le_refl _) _)).mono P5.out.size)
          have D7 : Hid (Below y5.heap.size y5 (y5.alloc (.cells #[.int .i64 0, .slice none 0 0, .bool false, .slice none 0 0, .slice none 0 0] 28))) := ((Below.refl _ _).alloc (Nat.le_refl _) _)
          have HYZ : Hid (C5 (y5.alloc (.cells #[.int .i64 0, .slice none 0 0, .bool false, .slice none 0 0, .slice none 0 0] 28)) y5.heap.size (.int .i64 0) (.slice none 0 0) (.bool false) (.slice none 0 0) (.slice none 0 0) ∧ L ≤ y5.heap.size) := ⟨C5.new y5 (.int .i64 0) (.slice none 0 0) (.bool false) (.slice none 0 0) (.slice none 0 0), Nat.le_trans (Nat.le_of_eq HL.out) P5.out.size⟩
          generalize (y5.alloc (.cells #[.int .i64 0, .slice none 0 0, .bool false, .slice none 0 0, .slice none 0 0] 28)) = y7 at *
          obtain ⟨Y, hY⟩ : ∃ Y, Y = y5.heap.size := ⟨_, rfl⟩
          rw [← hY] at HYZ
          rw [← hY]
          clear hY
          replace Z1 : Hid (Rt y7 L z ((1 : Int) : Rat)) := Z1.out.below D7.out
          replace Z5 : Hid (Rt y7 L zk (-(atV B (v : Int)))) := Z5.out.below D7.out
          clear x0 x1 x2
          obtain ⟨x0, x1, x2⟩ := HAL.out _ P7.out
          obtain ⟨q0, q1, q2, q3, q4⟩ := HYZ.out.1.facts
          obtain ⟨t0, t1, t2, t3, t4⟩ := HYZ.out.1.thaw
          have mA : ¬ X = Y := by have := HYZ.out.2; have := HXL.out; have := HL.out; omega
          have mB : ¬ Y = X := fun e => mA e.symm
          refine tr [3] ?_
          refine tc (h := fun K hK => ?_) (hs := tn)
          try go_simp
          try go_wp2_with fail
          refine hK.out _ _ ?_ (fun hHeld => ?_)
          · (try dsimp only); go_keep
          clear hK K
          try simp only [zR]
          have P3 : Hid (Below W.heap.size W (y7.alloc (.cells #[.int .i64 (v : Int), .bool z.s, .slice z.A z.n z.c, .slice z.B z.m z.d] 47))) := P7.out.trans (((Below.refl _ _).alloc (Nat.le_refl _) _).mono P7.out.size)
          have D3 : Hid (Below y7.heap.size y7 (y7.alloc (.cells #[.int .i64 (v : Int), .bool z.s, .slice z.A z.n z.c, .slice z.B z.m z.d] 47))) := (Below.refl _ _).alloc (Nat.le_refl _) _
          have G3 : Hid ((y7.alloc (.cells #[.int .i64 (v : Int), .bool z.s, .slice z.A z.n z.c, .slice z.B z.m z.d] 47)).heap[y7.heap.size]? = some (.cells #[.int .i64 (v : Int), .bool z.s, .slice z.A z.n z.c, .slice z.B z.m z.d] 47 (0, 0)) ∧ L ≤ y7.heap.size) := ⟨heap_alloc_new y7 _, Nat.le_trans (Nat.le_of_eq HL.out) P7.out.size⟩
          generalize (y7.alloc (.cells #[.int .i64 (v : Int), .bool z.s, .slice z.A z.n z.c, .slice z.B z.m z.d] 47)) = y3 at *
          obtain ⟨G, hG⟩ : ∃ G, G = y7.heap.size := ⟨_, rfl⟩
          rw [← hG] at G3
          rw [← hG]
          clear hG
          replace Z1 : Hid (Rt y3 L z ((1 : Int) : Rat)) := Z1.out.below D3.out
          replace Z5 : Hid (Rt y3 L zk (-(atV B (v : Int)))) := Z5.out.below D3.out
          replace HYZ : Hid (C5 y3 Y (.int .i64 0) (.slice none 0 0) (.bool false) (.slice none 0 0) (.slice none 0 0) ∧ L ≤ Y) := ⟨HYZ.out.1.below D3.out, HYZ.out.2⟩
          clear x0 x1 x2
          obtain ⟨x0, x1, x2⟩ := HAL.out _ P3.out
          (try clear q0 q1 q2 q3 q4 t0 t1 t2 t3 t4)
          obtain ⟨q0, q1, q2, q3, q4⟩ := HYZ.out.1.facts
          obtain ⟨t0, t1, t2, t3, t4⟩ := HYZ.out.1.thaw
          refine tk (i := 6) (h := ?_)
          try simp only [zR]
          refine tr [8] ?_
          refine tc (h := fun K hK => ?_) (hs := tn)
          try go_simp
          try go_wp2_with fail
          refine hK.out _ _ ?_ (fun hHeld => ?_)
          · (try dsimp only); go_keep
          clear hK K
          try simp only [zR]
          refine wpAnyH_done (by kernel_rfl) ?_ _
          clear x0 x1 x2 q0 q1 q2 q3 q4 t0 t1 t2 t3 t4
          go_wp2_with fail
          go_meet
          have hone : One y3 L 4 v (atV B (v : Int)) ⟨4, some ⟨G, 0, none⟩, 1, 1, zk⟩ := ⟨⟨G, z, rfl, rfl, rfl, rfl, G3.out.2, G3.out.1, Z1.out⟩, Z5.out⟩
          exact ⟨Y, ⟨4, some ⟨G, 0, none⟩, 1, 1, zk⟩, rfl, HYZ.out.1.put _ _ _ _ _, HL.out ▸ hone.put5z HYZ.out.1 _ _ _ _ _, P3.out.trans (put5_below (by have := HYZ.out.2; have := HL.out; omega) _ _ _ _ _)⟩
        ·
         skip
         try go_simp
         try go_wp2_with fail
         refine hK.out _ _ ?_ (fun hHeld => ?_)
         · (try dsimp only); go_keep
         clear hK K
         try simp only [zR]
         have P7 : Hid (Below W.heap.size W (y1.alloc (.cells #[.int .i64 0, .slice none 0 0, .bool false, .slice none 0 0, .slice none 0 0] 28))) := P1.out.trans ((((Below.refl _ _).alloc (Nat.le_refl _) _)).mono P1.out.size)
         have D7 : Hid (Below y1.heap.size y1 (y1.alloc (.cells #[.int .i64 0, .slice none 0 0, .bool false, .slice none 0 0, .slice none 0 0] 28))) := ((Below.refl _ _).alloc (Nat.le_refl _) _)
         have HYZ : Hid (C5 (y1.alloc (.cells #[.int .i64 0, .slice none 0 0, .bool false, .slice none 0 0, .slice none 0 0] 28)) y1.heap.size (.int .i64 0) (.slice none 0 0) (.bool false) (.slice none 0 0) (.slice none 0 0) ∧ L ≤ y1.heap.size) := ⟨C5.new y1 (.int .i64 0) (.slice none 0 0) (.bool false) (.slice none 0 0) (.slice none 0 0), Nat.le_trans (Nat.le_of_eq HL.out) P1.out.size⟩
         generalize (y1.alloc (.cells #[.int .i64 0, .slice none 0 0, .bool false, .slice none 0 0, .slice none 0 0] 28)) = y7 at *
         obtain ⟨Y, hY⟩ : ∃ Y, Y = y1.heap.size := ⟨_, rfl⟩
         rw [← hY] at HYZ
         rw [← hY]
         clear hY
         replace Z1 : Hid (Rt y7 L z ((1 : Int) : Rat)) := Z1.out.below D7.out
         clear x0 x1 x2
         obtain ⟨x0, x1, x2⟩ := HAL.out _ P7.out
         obtain ⟨q0, q1, q2, q3, q4⟩ := HYZ.out.1.facts
         obtain ⟨t0, t1, t2, t3, t4⟩ := HYZ.out.1.thaw
         have mA : ¬ X = Y := by have := HYZ.out.2; have := HXL.out; have := HL.out; omega
         have mB : ¬ Y = X := fun e => mA e.symm
         refine tr [3, 5] ?_
         refine tc (h := fun K hK => ?_) (hs := tc (h := fun K hK => ?_) (hs := tn))
         ·
          skip
          try go_simp
          try go_wp2_with fail
          refine hK.out _ _ ?_ (fun hHeld => ?_)
          · (try dsimp only); go_keep
          clear hK K
          try simp only [zR]
          have P3 : Hid (Below W.heap.size W (y7.alloc (.cells #[.int .i64 (v : Int), .bool z.s, .slice z.A z.n z.c, .slice z.B z.m z.d] 47))) := P7.out.trans (((Below.refl _ _).alloc (Nat.le_refl _) _).mono P7.out.size)
          have D3 : Hid (Below y7.heap.size y7 (y7.alloc (.cells #[.int .i64 (v : Int), .bool z.s, .slice z.A z.n z.c, .slice z.B z.m z.d] 47))) := (Below.refl _ _).alloc (Nat.le_refl _) _
          have G3 : Hid ((y7.alloc (.cells #[.int .i64 (v : Int), .bool z.s, .slice z.A z.n z.c, .slice z.B z.m z.d] 47)).heap[y7.heap.size]? = some (.cells #[.int .i64 (v : Int), .bool z.s, .slice z.A z.n z.c, .slice z.B z.m z.d] 47 (0, 0)) ∧ L ≤ y7.heap.size) := ⟨heap_alloc_new y7 _, Nat.le_trans (Nat.le_of_eq HL.out) P7.out.size⟩
          generalize (y7.alloc (.cells #[.int .i64 (v : Int), .bool z.s, .slice z.A z.n z.c, .slice z.B z.m z.d] 47)) = y3 at *
          obtain ⟨G, hG⟩ : ∃ G, G = y7.heap.size := ⟨_, rfl⟩
          rw [← hG] at G3
          rw [← hG]
          clear hG
          replace Z1 : Hid (Rt y3 L z ((1 : Int) : Rat)) := Z1.out.below D3.out
          replace HYZ : Hid (C5 y3 Y (.int .i64 0) (.slice none 0 0) (.bool false) (.slice none 0 0) (.slice none 0 0) ∧ L ≤ Y) := ⟨HYZ.out.1.below D3.out, HYZ.out.2⟩
          clear x0 x1 x2
          obtain ⟨x0, x1, x2⟩ := HAL.out _ P3.out
          (try clear q0 q1 q2 q3 q4 t0 t1 t2 t3 t4)
          obtain ⟨q0, q1, q2, q3, q4⟩ := HYZ.out.1.facts
          obtain ⟨t0, t1, t2, t3, t4⟩ := HYZ.out.1.thaw
          refine tr [5] ?_
          refine tc (h := fun K hK => ?_) (hs := tn)
          try go_simp
          go_at_call 29
          refine (rNeg_c zb (atV B (v : Int)) _ ((HC.out.2.1.below P3.out).more (by omega))).mono ?_
          rintro e y5 ⟨zk, rfl, hz, hb⟩
          have P5 : Hid (Below W.heap.size W y5) := P3.out.trans (hb.mono P3.out.size)
          have Z5 : Hid (Rt y5 L zk (-(atV B (v : Int)))) := hz.lower (Nat.le_trans (Nat.le_of_eq HL.out) P3.out.size)
          replace Z1 : Hid (Rt y5 L z ((1 : Int) : Rat)) := Z1.out.below hb
          replace G3 : Hid (y5.heap[G]? = some (.cells #[.int .i64 (v : Int), .bool z.s, .slice z.A z.n z.c, .slice z.B z.m z.d] 47 (0, 0)) ∧ L ≤ G) := ⟨(hb.block G (Array.getElem?_eq_some_iff.1 G3.out.1).1).trans G3.out.1, G3.out.2⟩
          replace HYZ : Hid (C5 y5 Y (.int .i64 0) (.slice none 0 0) (.bool false) (.slice none 0 0) (.slice none 0 0) ∧ L ≤ Y) := ⟨HYZ.out.1.below hb, HYZ.out.2⟩
          clear hz hb
          clear x0 x1 x2
          obtain ⟨x0, x1, x2⟩ := HAL.out _ P5.out
          (try clear q0 q1 q2 q3 q4 t0 t1 t2 t3 t4)
          obtain ⟨q0, q1, q2, q3, q4⟩ := HYZ.out.1.facts
          obtain ⟨t0, t1, t2, t3, t4⟩ := HYZ.out.1.thaw
          try go_wp2_with fail
          refine hK.out _ _ ?_ (fun hHeld => ?_)
          · (try dsimp only); go_keep
          clear hK K
          try simp only [zR]
          refine tk (i := 6) (h := ?_)
          try simp only [zR]
          refine tr [8] ?_
          refine tc (h := fun K hK => ?_) (hs := tn)
          try go_simp
          try go_wp2_with fail
          refine hK.out _ _ ?_ (fun hHeld => ?_)
          · (try dsimp only); go_keep
          clear hK K
          try simp only [zR]
          refine wpAnyH_done (by kernel_rfl) ?_ _
          clear x0 x1 x2 q0 q1 q2 q3 q4 t0 t1 t2 t3 t4
          go_wp2_with fail
          go_meet
          have hone : One y5 L 4 v (atV B (v : Int)) ⟨4, some ⟨G, 0, none⟩, 1, 1, zk⟩ := ⟨⟨G, z, rfl, rfl, rfl, rfl, G3.out.2, G3.out.1, Z1.out⟩, Z5.out⟩
          exact ⟨Y, ⟨4, some ⟨G, 0, none⟩, 1, 1, zk⟩, rfl, HYZ.out.1.put _ _ _ _ _, HL.out ▸ hone.put5z HYZ.out.1 _ _ _ _ _, P5.out.trans (put5_below (by have := HYZ.out.2; have := HL.out; omega) _ _ _ _ _)⟩
         ·
          skip
          try go_simp
          go_at_call 29
          refine (rNeg_c zb (atV B (v : Int)) _ ((HC.out.2.1.below P7.out).more (by omega))).mono ?_
          rintro e y5 ⟨zk, rfl, hz, hb⟩
          have P5 : Hid (Below W.heap.size W y5) := P7.out.trans (hb.mono P7.out.size)
          have Z5 : Hid (Rt y5 L zk (-(atV B (v : Int)))) := hz.lower (Nat.le_trans (Nat.le_of_eq HL.out) P7.out.size)
          replace Z1 : Hid (Rt y5 L z ((1 : Int) : Rat)) := Z1.out.below hb
          replace HYZ : Hid (C5 y5 Y (.int .i64 0) (.slice none 0 0) (.bool false) (.slice none 0 0) (.slice none 0 0) ∧ L ≤ Y) := ⟨HYZ.out.1.below hb, HYZ.out.2⟩
          clear hz hb
          clear x0 x1 x2
          obtain ⟨x0, x1, x2⟩ := HAL.out _ P5.out
          (try clear q0 q1 q2 q3 q4 t0 t1 t2 t3 t4)
          obtain ⟨q0, q1, q2, q3, q4⟩ := HYZ.out.1.facts
          obtain ⟨t0, t1, t2, t3, t4⟩ := HYZ.out.1.thaw
          try go_wp2_with fail
          refine hK.out _ _ ?_ (fun hHeld => ?_)
          · (try dsimp only); go_keep
          clear hK K
          try simp only [zR]
          refine tr [3] ?_
          refine tc (h := fun K hK => ?_) (hs := tn)
          try go_simp
          try go_wp2_with fail
          refine hK.out _ _ ?_ (fun hHeld => ?_)
          · (try dsimp only); go_keep
          clear hK K
          try simp only [zR]
          have P3 : Hid (Below W.heap.size W (y5.alloc (.cells #[.int .i64 (v : Int), .bool z.s, .slice z.A z.n z.c, .slice z.B z.m z.d] 47))) := P5.out.trans (((Below.refl _ _).alloc (Nat.le_refl _) _).mono P5.out.size)
          have D3 : Hid (Below y5.heap.size y5 (y5.alloc (.cells #[.int .i64 (v : Int), .bool z.s, .slice z.A z.n z.c, .slice z.B z.m z.d] 47))) := (Below.refl _ _).alloc (Nat.le_refl _) _
          have G3 : Hid ((y5.alloc (.cells #[.int .i64 (v : Int), .bool z.s, .slice z.A z.n z.c, .slice z.B z.m z.d] 47)).heap[y5.heap.size]? = some (.cells #[.int .i64 (v : Int), .bool z.s, .slice z.A z.n z.c, .slice z.B z.m z.d] 47 (0, 0)) ∧ L ≤ y5.heap.size) := ⟨heap_alloc_new y5 _, Nat.le_trans (Nat.le_of_eq HL.out) P5.out.size⟩
          generalize (y5.alloc (.cells #[.int .i64 (v : Int), .bool z.s, .slice z.A z.n z.c, .slice z.B z.m z.d] 47)) = y3 at *
          obtain ⟨G, hG⟩ : ∃ G, G = y5.heap.size := ⟨_, rfl⟩
          rw [← hG] at G3
          rw [← hG]
          clear hG
          replace Z1 : Hid (Rt y3 L z ((1 : Int) : Rat)) := Z1.out.below D3.out
          replace Z5 : Hid (Rt y3 L zk (-(atV B (v : Int)))) := Z5.out.below D3.out
          replace HYZ : Hid (C5 y3 Y (.int .i64 0) (.slice none 0 0) (.bool false) (.slice none 0 0) (.slice none 0 0) ∧ L ≤ Y) := ⟨HYZ.out.1.below D3.out, HYZ.out.2⟩
          clear x0 x1 x2
          obtain ⟨x0, x1, x2⟩ := HAL.out _ P3.out
          (try clear q0 q1 q2 q3 q4 t0 t1 t2 t3 t4)
          obtain ⟨q0, q1, q2, q3, q4⟩ := HYZ.out.1.facts
          obtain ⟨t0, t1, t2, t3, t4⟩ := HYZ.out.1.thaw
          refine tk (i := 6) (h := ?_)
          try simp only [zR]
          refine tr [8] ?_
          refine tc (h := fun K hK => ?_) (hs := tn)
          try go_simp
          try go_wp2_with fail
          refine hK.out _ _ ?_ (fun hHeld => ?_)
          · (try dsimp only); go_keep
          clear hK K
          try simp only [zR]
          refine wpAnyH_done (by kernel_rfl) ?_ _
          clear x0 x1 x2 q0 q1 q2 q3 q4 t0 t1 t2 t3 t4
          go_wp2_with fail
          go_meet
          have hone : One y3 L 4 v (atV B (v : Int)) ⟨4, some ⟨G, 0, none⟩, 1, 1, zk⟩ := ⟨⟨G, z, rfl, rfl, rfl, rfl, G3.out.2, G3.out.1, Z1.out⟩, Z5.out⟩
          exact ⟨Y, ⟨4, some ⟨G, 0, none⟩, 1, 1, zk⟩, rfl, HYZ.out.1.put _ _ _ _ _, HL.out ▸ hone.put5z HYZ.out.1 _ _ _ _ _, P3.out.trans (put5_below (by have := HYZ.out.2; have := HL.out; omega) _ _ _ _ _)⟩
       ·
        skip
        try go_simp
        try go_wp2_with fail
        refine hK.out _ _ ?_ (fun hHeld => ?_)
        · (try dsimp only); go_keep
        clear hK K
        try simp only [zR]
        have P7 : Hid (Below W.heap.size W (W.alloc (.cells #[.int .i64 0, .slice none 0 0, .bool false, .slice none 0 0, .slice none 0 0] 28)).drew) := (Below.refl W.heap.size W).trans ((((Below.refl _ _).alloc (Nat.le_refl _) _).drew).mono (Below.refl W.heap.size W).size)
        have D7 : Hid (Below W.heap.size W (W.alloc (.cells #[.int .i64 0, .slice none 0 0, .bool false, .slice none 0 0, .slice none 0 0] 28)).drew) := ((Below.refl _ _).alloc (Nat.le_refl _) _).drew
        have HYZ : Hid (C5 (W.alloc (.cells #[.int .i64 0, .slice none 0 0, .bool false, .slice none 0 0, .slice none 0 0] 28)).drew W.heap.size (.int .i64 0) (.slice none 0 0) (.bool false) (.slice none 0 0) (.slice none 0 0) ∧ L ≤ W.heap.size) := ⟨C5.new W (.int .i64 0) (.slice none 0 0) (.bool false) (.slice none 0 0) (.slice none 0 0), Nat.le_trans (Nat.le_of_eq HL.out) (Below.refl W.heap.size W).size⟩
        generalize (W.alloc (.cells #[.int .i64 0, .slice none 0 0, .bool false, .slice none 0 0, .slice none 0 0] 28)).drew = y7 at *
        obtain ⟨Y, hY⟩ : ∃ Y, Y = W.heap.size := ⟨_, rfl⟩
        rw [← hY] at HYZ
        rw [← hY]
        clear hY
        clear x0 x1 x2
        obtain ⟨x0, x1, x2⟩ := HAL.out _ P7.out
        obtain ⟨q0, q1, q2, q3, q4⟩ := HYZ.out.1.facts
        obtain ⟨t0, t1, t2, t3, t4⟩ := HYZ.out.1.thaw
        have mA : ¬ X = Y := by have := HYZ.out.2; have := HXL.out; have := HL.out; omega
        have mB : ¬ Y = X := fun e => mA e.symm
        refine tr [1] ?_
        refine tc (h := fun K hK => ?_) (hs := tn)
        try go_simp
        go_at_call 28
        refine (rInt_c 1 _ (by omega)).mono ?_
        rintro e y1 ⟨z, rfl, hz, hb⟩
        have P1 : Hid (Below W.heap.size W y1) := P7.out.trans (hb.mono P7.out.size)
        have Z1 : Hid (Rt y1 L z ((1 : Int) : Rat)) := hz.lower (Nat.le_trans (Nat.le_of_eq HL.out) P7.out.size)
        replace HYZ : Hid (C5 y1 Y (.int .i64 0) (.slice none 0 0) (.bool false) (.slice none 0 0) (.slice none 0 0) ∧ L ≤ Y) := ⟨HYZ.out.1.below hb, HYZ.out.2⟩
        clear hz hb
        clear x0 x1 x2
        obtain ⟨x0, x1, x2⟩ := HAL.out _ P1.out
        (try clear q0 q1 q2 q3 q4 t0 t1 t2 t3 t4)
        obtain ⟨q0, q1, q2, q3, q4⟩ := HYZ.out.1.facts
        obtain ⟨t0, t1, t2, t3, t4⟩ := HYZ.out.1.thaw
        try go_wp2_with fail
        refine hK.out _ _ ?_ (fun hHeld => ?_)
        · (try dsimp only); go_keep
        clear hK K
        try simp only [zR]
        refine tk (i := 2) (h := ?_)
        try simp only [zR]
        refine tr [3, 5] ?_
        refine tc (h := fun K hK => ?_) (hs := tc (h := fun K hK => ?_) (hs := tn))
        ·
         skip
         try go_simp
         try go_wp2_with fail
         refine hK.out _ _ ?_ (fun hHeld => ?_)
         · (try dsimp only); go_keep
         clear hK K
         try simp only [zR]
         have P3 : Hid (Below W.heap.size W (y1.alloc (.cells #[.int .i64 (v : Int), .bool z.s, .slice z.A z.n z.c, .slice z.B z.m z.d] 47))) := P1.out.trans (((Below.refl _ _).alloc (Nat.le_refl _) _).mono P1.out.size)
         have D3 : Hid (Below y1.heap.size y1 (y1.alloc (.cells #[.int .i64 (v : Int), .bool z.s, .slice z.A z.n z.c, .slice z.B z.m z.d] 47))) := (Below.refl _ _).alloc (Nat.le_refl _) _
         have G3 : Hid ((y1.alloc (.cells #[.int .i64 (v : Int), .bool z.s, .slice z.A z.n z.c, .slice z.B z.m z.d] 47)).heap[y1.heap.size]? = some (.cells #[.int .i64 (v : Int), .bool z.s, .slice z.A z.n z.c, .slice z.B z.m z.d] 47 (0, 0)) ∧ L ≤ y1.heap.size) := ⟨heap_alloc_new y1 _, Nat.le_trans (Nat.le_of_eq HL.out) P1.out.size⟩
         generalize (y1.alloc (.cells #[.int .i64 (v : Int), .bool z.s, .slice z.A z.n z.c, .slice z.B z.m z.d] 47)) = y3 at *
         obtain ⟨G, hG⟩ : ∃ G, G = y1.heap.size := ⟨_, rfl⟩
         rw [← hG] at G3
         rw [← hG]
         clear hG
         replace Z1 : Hid (Rt y3 L z ((1 : Int) : Rat)) := Z1.out.below D3.out
         replace HYZ : Hid (C5 y3 Y (.int .i64 0) (.slice none 0 0) (.bool false) (.slice none 0 0) (.slice none 0 0) ∧ L ≤ Y) := ⟨HYZ.out.1.below D3.out, HYZ.out.2⟩
         clear x0 x1 x2
         obtain ⟨x0, x1, x2⟩ := HAL.out _ P3.out
         (try clear q0 q1 q2 q3 q4 t0 t1 t2 t3 t4)
         obtain ⟨q0, q1, q2, q3, q4⟩ := HYZ.out.1.facts
         obtain ⟨t0, t1, t2, t3, t4⟩ := HYZ.out.1.thaw
         refine tr [5] ?_
         refine tc (h := fun K hK => ?_) (hs := tn)
         try go_simp
         go_at_call 29
         refine (rNeg_c zb (atV B (v : Int)) _ ((HC.out.2.1.below P3.out).more (by omega))).mono ?_
         rintro e y5 ⟨zk, rfl, hz, hb⟩
         have P5 : Hid (Below W.heap.size W y5) := P3.out.trans (hb.mono P3.out.size)
         have Z5 : Hid (Rt y5 L zk (-(atV B (v : Int)))) := hz.lower (Nat.le_trans (Nat.le_of_eq HL.out) P3.out.size)
         replace Z1 : Hid (Rt y5 L z ((1 : Int) : Rat)) := Z1.out.below hb
         replace G3 : Hid (y5.heap[G]? = some (.cells #[.int .i64 (v : Int), .bool z.s, .slice z.A z.n z.c, .slice z.B z.m z.d] 47 (0, 0)) ∧ L ≤ G) := ⟨(hb.block G (Array.getElem?_eq_some_iff.1 G3.out.1).1).trans G3.out.1, G3.out.2⟩
         replace HYZ : Hid (C5 y5 Y (.int .i64 0) (.slice none 0 0) (.bool false) (.slice none 0 0) (.slice none 0 0) ∧ L ≤ Y) := ⟨HYZ.out.1.below hb, HYZ.out.2⟩
         clear hz hb
         clear x0 x1 x2
         obtain ⟨x0, x1, x2⟩ := HAL.out _ P5.out
         (try clear q0 q1 q2 q3 q4 t0 t1 t2 t3 t4)
         obtain ⟨q0, q1, q2, q3, q4⟩ := HYZ.out.1.facts
         obtain ⟨t0, t1, t2, t3, t4⟩ := HYZ.out.1.thaw
         try go_wp2_with fail
         refine hK.out _ _ ?_ (fun hHeld => ?_)
         · (try dsimp only); go_keep
         clear hK K
         try simp only [zR]
         refine tk (i := 6) (h := ?_)
         try simp only [zR]
         refine tr [8] ?_
         refine tc (h := fun K hK => ?_) (hs := tn)
         try go_simp
         try go_wp2_with fail
         refine hK.out _ _ ?_ (fun hHeld => ?_)
         · (try dsimp only); go_keep
         clear hK K
         try simp only [zR]
         refine wpAnyH_done (by kernel_rfl) ?_ _
         clear x0 x1 x2 q0 q1 q2 q3 q4 t0 t1 t2 t3 t4
         go_wp2_with fail
         go_meet
         have hone : One y5 L 4 v (atV B (v : Int)) ⟨4, some ⟨G, 0, none⟩, 1, 1, zk⟩ := ⟨⟨G, z, rfl, rfl, rfl, rfl, G3.out.2, G3.out.1, Z1.out⟩, Z5.out⟩
         exact ⟨Y, ⟨4, some ⟨G, 0, none⟩, 1, 1, zk⟩, rfl, HYZ.out.1.put _ _ _ _ _, HL.out ▸ hone.put5z HYZ.out.1 _ _ _ _ _, P5.out.trans (put5_below (by have := HYZ.out.2; have := HL.out; omega) _ _ _ _ _)⟩
        ·
         skip
         try go_simp
         go_at_call 29
         refine (rNeg_c zb (atV B (v : Int)) _ ((HC.out.2.1.below P1.out).more (by omega))).mono ?_
         rintro e y5 ⟨zk, rfl, hz, hb⟩
         have P5 : Hid (Below W.heap.size W y5) := P1.out.trans (hb.mono P1.out.size)
         have Z5 : Hid (Rt y5 L zk (-(atV B (v : Int)))) := hz.lower (Nat.le_trans (Nat.le_of_eq HL.out) P1.out.size)
         replace Z1 : Hid (Rt y5 L z ((1 : Int) : Rat)) := Z1.out.below hb
         replace HYZ : Hid (C5 y5 Y (.int .i64 0) (.slice none 0 0) (.bool false) (.slice none 0 0) (.slice none 0 0) ∧ L ≤ Y) := ⟨HYZ.out.1.below hb, HYZ.out.2⟩
         clear hz hb
         clear x0 x1 x2
         obtain ⟨x0, x1, x2⟩ := HAL.out _ P5.out
         (try clear q0 q1 q2 q3 q4 t0 t1 t2 t3 t4)
         obtain ⟨q0, q1, q2, q3, q4⟩ := HYZ.out.1.facts
         obtain ⟨t0, t1, t2, t3, t4⟩ := HYZ.out.1.thaw
         try go_wp2_with fail
         refine hK.out _ _ ?_ (fun hHeld => ?_)
         · (try dsimp only); go_keep
         clear hK K
         try simp only [zR]
         refine tr [3] ?_
         refine tc (h := fun K hK => ?_) (hs := tn)
         try go_simp
         try go_wp2_with fail
         refine hK.out _ _ ?_ (fun hHeld => ?_)
         · (try dsimp only); go_keep
         clear hK K
         try simp only [zR]
         have P3 : Hid (Below W.heap.size W (y5.alloc (.cells #[.int .i64 (v : Int), .bool z.s, .slice z.A z.n z.c, .slice z.B z.m z.d] 47))) := P5.out.trans (((Below.refl _ _).alloc (Nat.le_refl _) _).mono P5.out.size)
         have D3 : Hid (Below y5.heap.size y5 (y5.alloc (.cells #[.int .i64 (v : Int), .bool z.s, .slice z.A z.n z.c, .slice z.B z.m z.d] 47))) := (Below.refl _ _).alloc (Nat.le_refl _) _
         have G3 : Hid ((y5.alloc (.cells #[.int .i64 (v : Int), .bool z.s, .slice z.A z.n z.c, .slice z.B z.m z.d] 47)).heap[y5.heap.size]? = some (.cells #[.int .i64 (v : Int), .bool z.s, .slice z.A z.n z.c, .slice z.B z.m z.d] 47 (0, 0)) ∧ L ≤ y5.heap.size) := ⟨heap_alloc_new y5 _, Nat.le_trans (Nat.le_of_eq HL.out) P5.out.size⟩
         generalize (y5.alloc (.cells #[.int .i64 (v : Int), .bool z.s, .slice z.A z.n z.c, .slice z.B z.m z.d] 47)) = y3 at *
         obtain ⟨G, hG⟩ : ∃ G, G = y5.heap.size := ⟨_, rfl⟩
         rw [← hG] at G3
         rw [← hG]
         clear hG
         replace Z1 : Hid (Rt y3 L z ((1 : Int) : Rat)) := Z1.out.below D3.out
         replace Z5 : Hid (Rt y3 L zk (-(atV B (v : Int)))) := Z5.out.below D3.out
         replace HYZ : Hid (C5 y3 Y (.int .i64 0) (.slice none 0 0) (.bool false) (.slice none 0 0) (.slice none 0 0) ∧ L ≤ Y) := ⟨HYZ.out.1.below D3.out, HYZ.out.2⟩
         clear x0 x1 x2
         obtain ⟨x0, x1, x2⟩ := HAL.out _ P3.out
         (try clear q0 q1 q2 q3 q4 t0 t1 t2 t3 t4)
         obtain ⟨q0, q1, q2, q3, q4⟩ := HYZ.out.1.facts
         obtain ⟨t0, t1, t2, t3, t4⟩ := HYZ.out.1.thaw
         refine tk (i := 6) (h := ?_)
         try simp only [zR]
         refine tr [8] ?_
         refine tc (h := fun K hK => ?_) (hs := tn)
         try go_simp
         try go_wp2_with fail
         refine hK.out _ _ ?_ (fun hHeld => ?_)
         · (try dsimp only); go_keep
         clear hK K
         try simp only [zR]
         refine wpAnyH_done (by kernel_rfl) ?_ _
         clear x0 x1 x2 q0 q1 q2 q3 q4 t0 t1 t2 t3 t4
         go_wp2_with fail
         go_meet
         have hone : One y3 L 4 v (atV B (v : Int)) ⟨4, some ⟨G, 0, none⟩, 1, 1, zk⟩ := ⟨⟨G, z, rfl, rfl, rfl, rfl, G3.out.2, G3.out.1, Z1.out⟩, Z5.out⟩
         exact ⟨Y, ⟨4, some ⟨G, 0, none⟩, 1, 1, zk⟩, rfl, HYZ.out.1.put _ _ _ _ _, HL.out ▸ hone.put5z HYZ.out.1 _ _ _ _ _, P3.out.trans (put5_below (by have := HYZ.out.2; have := HL.out; omega) _ _ _ _ _)⟩
      case rest =>
       obtain ⟨Y, sv, rfl, HY⟩ := hcut
       clear x0 x1 x2 HAL
       have HZB := RdV.sz (by omega) HB.out.2
       have HRC : Hid (RaR N s w wc A1 c1 q A2 c2 q D at_ ∧ Kp2 N s wc (A1.map (·.block)) (A2.map (·.block)) ⟨sv, [((v : Int), ((1 : Int) : Rat))], -(atV B (v : Int)), true⟩ ∧ smOf N ⟨sv, [((v : Int), ((1 : Int) : Rat))], -(atV B (v : Int)), true⟩ = stayS N B v) := by
        refine ⟨HC.out.2.2.step_ HY.out.2.2, HC.out.2.2.new HY.out.2.1 hlv (sz_atV HZB _).neg h4, ?_⟩
        obtain ⟨⟨G, z, h1, _⟩, _⟩ := HY.out.2.1
        unfold smOf stayS
        rw [h1]
       have HYC : Hid (C5 wc Y (.int .i64 sv.s) (.slice sv.A sv.n sv.c) (.bool sv.K.s) (.slice sv.K.A sv.K.n sv.K.c) (.slice sv.K.B sv.K.m sv.K.d)) := HY.out.1
       clear HY HC HZB
       generalize wc = W4 at *
       obtain ⟨k0, k1, k2, k3, k4⟩ := HYC.out.facts
       have HA5 : Hid (RaR N s w (W4.alloc (.cells #[.int .i64 sv.s, .slice sv.A sv.n sv.c, .bool sv.K.s, .slice sv.K.A sv.K.n sv.K.c, .slice sv.K.B sv.K.m sv.K.d] 28)) A1 c1 q A2 c2 q D at_) := HRC.out.1.step_ ((Below.refl _ _).alloc (Nat.le_refl _) _)
       have HK5 := Lib.hid (HRC.out.2.1.below ((Below.refl _ W4).alloc (Nat.le_refl _) (.cells #[.int .i64 sv.s, .slice sv.A sv.n sv.c, .bool sv.K.s, .slice sv.K.A sv.K.n sv.K.c, .slice sv.K.B sv.K.m sv.K.d] 28)))
       go_wp2_with (at_builtin; refine wpc_append1 rfl _ _ rfl rfl rfl (lo := w.heap.size) (t := sv) HA5.out.cons (At5.of (C5.new W4 (.int .i64 sv.s) (.slice sv.A sv.n sv.c) (.bool sv.K.s) (.slice sv.K.A sv.K.n sv.K.c) (.slice sv.K.B sv.K.m sv.K.d))) (by omega) HA5.out.below.size (W4.heap.size + 1) (by simp) ?_)
       intro A3 c3 w5 hown hgrow hlies
       have H6 : Hid (RaR N s w w5 A3 c3 (q + 1) A2 c2 q (D ++ [⟨sv, [((v : Int), ((1 : Int) : Rat))], -(atV B (v : Int)), true⟩]) at_) := HA5.out.con hown hgrow (hlies.to (by simp)) HK5.out
       clear hown hgrow hlies k0 k1 k2 k3 k4 HA5 HK5
       have HA7 : Hid (RaR N s w (w5.alloc (.cells #[.int .i64 ((m : Int) + (v : Int))] 3)) A3 c3 (q + 1) A2 c2 q (D ++ [⟨sv, [((v : Int), ((1 : Int) : Rat))], -(atV B (v : Int)), true⟩]) at_) := H6.out.step_ ((Below.refl _ _).alloc (Nat.le_refl _) _)
       go_wp2_with (at_builtin; refine wpn_append1 rfl _ _ rfl rfl rfl (lo := w.heap.size) (i := m + v) HA7.out.ats (IRow.oneI (z := (m : Int) + (v : Int)) (by omega)) (by omega) HA7.out.below.size (w5.heap.size + 1) (by simp) ?_)
       intro A4 c4 w6 hown hgrow hlies
       have HN : Hid (RaR N s w w6 A3 c3 (q + 1) A4 c4 (q + 1) (D ++ [⟨sv, [((v : Int), ((1 : Int) : Rat))], -(atV B (v : Int)), true⟩]) (at_ ++ [m + v]) ∧ DAll N (vs.map (smOf N) ++ (List.range (v + 1)).map (stayS N B)) (D ++ [⟨sv, [((v : Int), ((1 : Int) : Rat))], -(atV B (v : Int)), true⟩]) (at_ ++ [m + v])) := by
        refine ⟨HA7.out.num hown hgrow (hlies.to (by simp)), ?_⟩
        have h9 := HDA.out.yes (x := ⟨sv, [((v : Int), ((1 : Int) : Rat))], -(atV B (v : Int)), true⟩) rfl
        have h10 : (vs.map (smOf N) ++ (List.range v).map (stayS N B)).length = m + v := by rw [List.length_append, List.length_map, List.length_map, List.length_range, HLEN.out]
        rw [h10, HRC.out.2.2] at h9
        rw [List.range_succ, List.map_append, ← List.append_assoc]
        exact h9
       clear hown hgrow hlies HA7 H6 HRC HDA
       go_wp2
       go_roundw
       case rel => exact ⟨v + 1, q + 1, c3, c4, A3, A4, _, _, by omega, by omega, by go_num, rfl, rfl, HN⟩
       case measure => simp [intOf]; omega
    ·
     have v1 : ¬ (v : Int) < (N : Int) := by omega
     have HN : Hid (RaR N s w wr A1 c1 q A2 c2 q D at_ ∧ DAll N (allS N vs B) D at_) := by
      have h9 := HR.out
      obtain rfl : v = N := by omega
      exact h9
     clear HR
     go_wp2
     refine bodyPost_ret (results_tmp2 rfl _ _ _) rfl ?_
     exact ⟨A1, A2, c1, c2, q, D, at_, rfl, HN.out.1, HN.out.2⟩
end Go.Proofs.YtgffkaconhonlaaGreat
