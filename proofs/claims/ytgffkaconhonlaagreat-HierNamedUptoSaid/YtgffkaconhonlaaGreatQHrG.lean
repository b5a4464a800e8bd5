/-
  Whether a constraint holds at values, or may not be of them.
  Those that hold, by strength: five rows in an array.
  append onto a row that is asked again later: what it held still stands.
-/
import Derived.Test.YtgffkaconhonlaaGreatQHrB
import Derived.Test.YtgffkaconhonlaaGreatQIs
import Derived.Test.YtgffkaconhonlaaGreatQClo
import Derived.Deep.AppendLies
import Derived.Deep.Cut
import Derived.Deep.CutRange
import Derived.Test.YtgffkaconhonlaaGreatQRgn
import Derived.Deep.DeepAppendRoom
import Derived.ArgAppend
namespace Go.Proofs.YtgffkaconhonlaaGreat
set_option maxRecDepth 20000
open Go.RowKit
set_option maxHeartbeats 3200000 in
theorem Holds_c (s : Nat) (va : Cv) (A : Option Addr) (N c : Nat) (la : List Tv) (lv : List Rv) (L : List (Int × Rat)) (V : List Rat) (k : Rat) (w : World) (h : Rin s w va la L k) (hs : s ≤ 150) (hV : Vin N w A lv V) (h64 : ∀ x ∈ la, -9223372036854775808 ≤ x.v ∧ x.v ≤ 9223372036854775807) :
  Calls Tryz.prog 15 #[.agg #[.int .i64 va.s, .slice va.A va.n va.c, .bool va.K.s, .slice va.K.A va.K.n va.K.c, .slice va.K.B va.K.m va.K.d], .slice A N c] w fun e w' => e = .returned (.bool (decide (atL (atV V) L k = 0))) ∧ Below w.heap.size w w' := by
 have ka := C5.new w (.int .i64 va.s) (.slice va.A va.n va.c) (.bool va.K.s) (.slice va.K.A va.K.n va.K.c) (.slice va.K.B va.K.m va.K.d)
 have hB : Below w.heap.size w (w.alloc (.cells #[.int .i64 va.s, .slice va.A va.n va.c, .bool va.K.s, .slice va.K.A va.K.n va.K.c, .slice va.K.B va.K.m va.K.d] 28)) := (Below.refl _ _).alloc (Nat.le_refl _) _
 have HB := Lib.hid hB
 have H := Lib.hid (And.intro h (And.intro hV (And.intro h64 hs)))
 obtain ⟨a0, a1, a2, a3, a4⟩ := ka.facts
 clear ka hB h hV h64 hs
 go_enter Tryz.func15, Tryz.ntmps15
 go_wp2_with fail
 clear a0 a1 a2 a3 a4
 generalize w.alloc (.cells #[.int .i64 va.s, .slice va.A va.n va.c, .bool va.K.s, .slice va.K.A va.K.n va.K.c, .slice va.K.B va.K.m va.K.d] 28) = W at *
 have h1 := H.out.1.below HB.out
 have h2 := H.out.2.1.below HB.out
 refine (AtK_c va A N c la lv L V k W h1.cost h1.row (h1.rd.more H.out.2.2.2) (h1.num.more H.out.2.2.2) h2.row h2.rd (by have := h2.n; omega) H.out.2.2.1).mono ?_
 rintro e w1 ⟨z, rfl, hz, hsz, hb⟩
 have H1 : Hid (Below w.heap.size w w1) := HB.out.trans (hb.mono HB.out.size)
 have HZ := Lib.hid (And.intro hz hsz)
 clear hz hsz hb h1 h2
 go_wp2_with fail
 refine (Zero_any z _ w1 ((HZ.out.1.rw HZ.out.2).more (by omega))).mono ?_
 rintro e w2 ⟨rfl, hb⟩
 have H2 : Hid (Below w.heap.size w w2) := H1.out.trans (hb.mono H1.out.size)
 clear hb
 go_wp2
 go_ret
 exact ⟨rfl, H2.out⟩
set_option maxHeartbeats 3200000 in
theorem holds_c (s N : Nat) (x : Kin) (A : Option Addr) (c : Nat) (lv : List Rv) (V : List Rat) (w : World) (h : Hin N s w x) (hs : s ≤ 150) (hV : Vin N w A lv V) :
  Calls Tryz.prog 65 #[.agg #[.int .i64 x.v.s, .slice x.v.A x.v.n x.v.c, .bool x.v.K.s, .slice x.v.K.A x.v.K.n x.v.K.c, .slice x.v.K.B x.v.K.m x.v.K.d], .slice A N c] w fun e w' => e = .returned (.bool (holB N (ptOf V) x)) ∧ Below w.heap.size w w' := by
 obtain ⟨va, L, k, ok⟩ := x
 obtain ⟨la, hr, hi⟩ := h
 replace hr : Rin s w va la L k := hr
 replace hi : ok = true ↔ IsS w va la (N : Int) := hi
 show Calls Tryz.prog 65 #[.agg #[.int .i64 va.s, .slice va.A va.n va.c, .bool va.K.s, .slice va.K.A va.K.n va.K.c, .slice va.K.B va.K.m va.K.d], .slice A N c] w fun e w' => e = .returned (.bool (!ok || decide (dot N (fn N L k) (ptOf V) = 0))) ∧ Below w.heap.size w w'
 have ka := C5.new w (.int .i64 va.s) (.slice va.A va.n va.c) (.bool va.K.s) (.slice va.K.A va.K.n va.K.c) (.slice va.K.B va.K.m va.K.d)
 have hB : Below w.heap.size w (w.alloc (.cells #[.int .i64 va.s, .slice va.A va.n va.c, .bool va.K.s, .slice va.K.A va.K.n va.K.c, .slice va.K.B va.K.m va.K.d] 28)) := (Below.refl _ _).alloc (Nat.le_refl _) _
 have HB := Lib.hid (And.intro hB ka)
 have H := Lib.hid (And.intro hr (And.intro hV (And.intro hi hs)))
 have n1 : (N : Int) ≤ 100 := by have := hV.n; omega
 have n0 : (0 : Int) ≤ (N : Int) := by omega
 obtain ⟨a0, a1, a2, a3, a4⟩ := ka.facts
 clear ka hB hr hV hi hs
 go_enter Tryz.func65, Tryz.ntmps65
 go_wp2_with fail
 clear a0 a1 a2 a3 a4
 generalize w.alloc (.cells #[.int .i64 va.s, .slice va.A va.n va.c, .bool va.K.s, .slice va.K.A va.K.n va.K.c, .slice va.K.B va.K.m va.K.d] 28) = W at *
 have h1 := H.out.1.below HB.out.1
 refine (IsK_c va (N : Int) la L k W h1.row ((h1.rd.more H.out.2.2.2).more (by omega)) ((h1.num.more H.out.2.2.2).more (by omega)) h1.n ok (H.out.2.2.1.trans (IsS.turn H.out.1.rd H.out.1.num HB.out.1))).mono ?_
 rintro e w1 ⟨rfl, hb⟩
 have H1 : Hid (Below w.heap.size w w1 ∧ C5 w1 w.heap.size (.int .i64 va.s) (.slice va.A va.n va.c) (.bool va.K.s) (.slice va.K.A va.K.n va.K.c) (.slice va.K.B va.K.m va.K.d)) := ⟨HB.out.1.trans (hb.mono HB.out.1.size), HB.out.2.below hb⟩
 clear hb h1
 cases ok with
 |
  false =>
  go_wp2
  go_ret
  exact ⟨rfl, H1.out.1⟩
 |
  true =>
  obtain ⟨a0, a1, a2, a3, a4⟩ := H1.out.2.facts
  have HIS : Hid (IsS w va la (N : Int)) := H.out.2.2.1.1 rfl
  have h1 := H.out.1.below H1.out.1
  go_wp2_with fail
  refine (Holds_c s va A N c la lv L V k w1 h1 H.out.2.2.2 (H.out.2.1.below H1.out.1) (fun y hy => ?_)).mono ?_
  ·
   obtain ⟨i, hi, e⟩ := List.getElem_of_mem hy
   have := HIS.out.2.2 i y hi (by rw [List.getElem?_eq_getElem hi, e])
   omega
  rintro e w2 ⟨rfl, hb⟩
  have H2 : Hid (Below w.heap.size w w2) := H1.out.1.trans (hb.mono H1.out.1.size)
  have e1 : decide (atL (atV V) L k = 0) = decide (dot N (fn N L k) (ptOf V) = 0) := by
   rw [← dot_at (atV V) (HIS.out.vars H.out.1.rd)]
   rfl
  rw [e1]
  clear hb h1 e1 a0 a1 a2 a3 a4
  go_wp2
  go_ret
  exact ⟨by simp, H2.out⟩
end Go.Proofs.YtgffkaconhonlaaGreat

namespace Go.Proofs.YtgffkaconhonlaaGreat
set_option maxRecDepth 20000
open Go.RowKit
theorem spc_append1 {w : World} {ops : Array Oper} {o : Oper} {a : Act} {K : Act → World → Prop} {Q : Exit → Act → World → Prop} {E : Prop} (hgd : o.guard = none) (s x : Operand)
  (ho : o.op = .call { callee := .builtin .append, args := #[s, x], argTypes := #[22, 22] })
  {A : Option Addr} {b lo n c c' : Nat} {l : List Cv} {t : Cv} (hs : a.eval s = .slice A n c) (hx : a.eval x = .slice (some ⟨b, 0, none⟩) 1 c')
  (h1 : OwnC w lo A c n l) (h2 : At5 w b 0 t) (hm : n + 1 ≤ 2000000) (hlo : lo ≤ w.heap.size)
  (h : ∀ A2 c2 w', OwnC w' lo A2 c2 (n + 1) (l ++ [t]) → w.grownBy w' (A.map (·.block)) → (A2.map (·.block) = A.map (·.block) ∨ A2.map (·.block) = some w.heap.size) → K (a.put o.dst (.slice A2 (n + 1) c2)) w') :
  if Region.wanted o (yielded ops a.tmps) = true then Oper.wp Tryz.prog o a w K Q else E := by
 obtain ⟨i0, hi, hsz⟩ := Option.map_eq_some_iff.1 Tryz.info28
 have hz : i0.zero = some (.agg #[.int .i64 0, .slice none 0 0, .bool false, .slice none 0 0, .slice none 0 0]) := by
  have := Tryz.zero28
  rw [hi] at this
  exact this
 injection hsz with hsz1 hsz2
 have eb : (Value.slice A n c).ownBlock = A.map (·.block) := by cases A <;> rfl
 refine step_append_lies (w := w) hgd s x _ ho lo 28 i0 _ 5 88 Tryz.underlying22 hi hz hsz1 hsz2 rfl (by omega) _ n _ hs h1.own ⟨b, 0, none⟩ 1 c' (kcells t) hx rfl ?_ ?_ (by omega) (by unfold maxLen; omega) (by omega) hlo w.heap.size rfl ?_
 ·
  intro j u hu
  have hj : j < 5 := (List.getElem?_eq_some_iff.1 hu).1
  have : j = 0 ∨ j = 1 ∨ j = 2 ∨ j = 3 ∨ j = 4 := by omega
  rcases this with rfl | rfl | rfl | rfl | rfl
  · injection hu with hu; subst hu; exact h2.h0
  · injection hu with hu; subst hu; exact h2.h1
  · injection hu with hu; subst hu; exact h2.h2
  · injection hu with hu; subst hu; exact h2.h3
  · injection hu with hu; subst hu; exact h2.h4
 ·
  intro u hu
  simp only [kcells, List.mem_cons, List.not_mem_nil, or_false] at hu
  rcases hu with rfl | rfl | rfl | rfl | rfl <;> rfl
 ·
  intro g cap w' ho' hg' hwhere _
  rw [eb] at hg' hwhere
  have e : l.flatMap kcells ++ kcells t = (l ++ [t]).flatMap kcells := by rw [List.flatMap_append, List.flatMap_singleton]
  rw [e] at ho'
  refine h _ _ w' ⟨by rw [List.length_append, h1.len]; rfl, ho'⟩ hg' ?_
  rcases hwhere with h | h
  · exact .inl h.symm
  · exact .inr (by rw [h]; rfl)
theorem At5.of {w : World} {Y : Nat} {v : Cv} (h : C5 w Y (.int .i64 v.s) (.slice v.A v.n v.c) (.bool v.K.s) (.slice v.K.A v.K.n v.K.c) (.slice v.K.B v.K.m v.K.d)) : At5 w Y 0 v := by
 obtain ⟨h0, h1, h2, h3, h4⟩ := h.facts
 exact ⟨h0, h1, h2, h3, h4⟩
theorem kons5 {w : World} {b : Nat} {sv : Cv} (h : C5 w b (.int .i64 sv.s) (.slice sv.A sv.n sv.c) (.bool sv.K.s) (.slice sv.K.A sv.K.n sv.K.c) (.slice sv.K.B sv.K.m sv.K.d)) : Kons w (some ⟨b, 0, none⟩) 1 [sv] :=
 ⟨rfl, fun _ => ⟨b, 0, rfl, h.lt, fun i x hx => by
  have hi : i < 1 := (List.getElem?_eq_some_iff.1 hx).1
  have : i = 0 := by omega
  subst this
  injection hx with hx; subst hx
  exact At5.of h⟩⟩
theorem kons_new (w : World) (v : Cv) : Kons (w.alloc (.cells #[.int .i64 v.s, .slice v.A v.n v.c, .bool v.K.s, .slice v.K.A v.K.n v.K.c, .slice v.K.B v.K.m v.K.d] 28)) (some ⟨w.heap.size, 0, none⟩) 1 [v] := kons5 (sv := v) (C5.new w (.int .i64 v.s) (.slice v.A v.n v.c) (.bool v.K.s) (.slice v.K.A v.K.n v.K.c) (.slice v.K.B v.K.m v.K.d))
abbrev slOf (r : Option Addr × Nat) (l : List Cv) : Value := .slice r.1 l.length r.2
abbrev arr5 (R : Nat → Option Addr × Nat) (ls : Nat → List Cv) : Array Value := #[slOf (R 0) (ls 0), slOf (R 1) (ls 1), slOf (R 2) (ls 2), slOf (R 3) (ls 3), slOf (R 4) (ls 4)]
def C5a (w : World) (b : Nat) (xs : Array Value) : Prop := w.heap[b]? = some (.cells xs 86 (0, 0))
def updA {α : Type} (f : Nat → α) (s : Nat) (v : α) : Nat → α := fun k => if k = s then v else f k
structure Five (lo X : Nat) (w : World) (R : Nat → Option Addr × Nat) (ls : Nat → List Cv) : Prop where
 blk : C5a w X (arr5 R ls)
 own : ∀ s, s < 5 → OwnC w lo (R s).1 (R s).2 (ls s).length (ls s)
 ne : ∀ s t, s < 5 → t < 5 → s ≠ t → ∀ ad ad', (R s).1 = some ad → (R t).1 = some ad' → ad.block ≠ ad'.block
 lo : X < lo
section
variable {lo X : Nat} {w w' : World} {R : Nat → Option Addr × Nat} {ls : Nat → List Cv}
theorem Five.lt (h : Five lo X w R ls) : X < w.heap.size := (Array.getElem?_eq_some_iff.1 h.blk).1
theorem Five.below (h : Five lo X w R ls) (hb : Below w.heap.size w w') : Five lo X w' R ls :=
 ⟨(hb.block X h.lt).trans h.blk, fun s hs => (h.own s hs).below hb, h.ne, h.lo⟩
theorem Five.cell (h : Five lo X w R ls) {s : Nat} (hs : s < 5) : w.cell? ⟨X, s, none⟩ = some (.slice (R s).1 (ls s).length (R s).2) ∧ w.frozen? ⟨X, s, none⟩ = false := by
 have h' : w.heap[X]? = some (.cells (arr5 R ls) 86 (0, 0)) := h.blk
 have : s = 0 ∨ s = 1 ∨ s = 2 ∨ s = 3 ∨ s = 4 := by omega
 rcases this with rfl | rfl | rfl | rfl | rfl <;> constructor <;> simp [World.cell?, World.frozen?, h']
theorem Five.congr {ls' : Nat → List Cv} (h : Five lo X w R ls) (e : ∀ s, s < 5 → ls s = ls' s) : Five lo X w R ls' := by
 refine ⟨?_, fun s hs => (e s hs) ▸ h.own s hs, h.ne, h.lo⟩
 have h1 := h.blk
 unfold arr5 at *
 rw [e 0 (by omega), e 1 (by omega), e 2 (by omega), e 3 (by omega), e 4 (by omega)] at h1
 exact h1
theorem Five.append {s c2 : Nat} {A2 : Option Addr} {t : Cv} (h : Five lo X w R ls) (hs : s < 5) (ho : OwnC w' lo A2 c2 ((ls s).length + 1) (ls s ++ [t])) (hg : w.grownBy w' ((R s).1.map (·.block))) (hw : A2.map (·.block) = (R s).1.map (·.block) ∨ A2.map (·.block) = some w.heap.size) :
  Five lo X (w'.setCell ⟨X, s, none⟩ (.slice A2 ((ls s).length + 1) c2)) (updA R s (A2, c2)) (updA ls s (ls s ++ [t])) := by
 have hl : (ls s ++ [t]).length = (ls s).length + 1 := by simp
 have hXl := h.lt
 have hXne : some X ≠ (R s).1.map (·.block) := fun e => by
  cases hR : (R s).1 with
  | none => rw [hR] at e; cases e
  | some ad => rw [hR] at e; injection e with e; have h1 := ((h.own s hs).lt ad hR).1; have h2 := h.lo; have e2 : X = ad.block := e; omega
 have hXb : w'.heap[X]? = some (.cells (arr5 R ls) 86 (0, 0)) := (hg.block X hXl hXne).trans h.blk
 have hg2 : w'.grownBy (w'.setCell ⟨X, s, none⟩ (.slice A2 ((ls s).length + 1) c2)) (some X) := kput_grown w' X s _
 have hXA : ∀ {A : Option Addr} {c n : Nat} {l : List Cv}, OwnC w' lo A c n l → ∀ ad, A = some ad → some ad.block ≠ some X := fun hh ad e e2 => by
  injection e2 with e2
  have h1 := (hh.lt ad e).1
  have h2 := h.lo
  omega
 have hA2 : ∀ ad, A2 = some ad → some ad.block = (R s).1.map (·.block) ∨ ad.block = w.heap.size := fun ad e => by
  subst e
  rcases hw with hw | hw
  · exact .inl hw
  · exact .inr (by injection hw)
 have hne2 : ∀ k, k < 5 → k ≠ s → ∀ ad ad', A2 = some ad → (R k).1 = some ad' → ad.block ≠ ad'.block := fun k hk hks ad ad' e e' e3 => by
  rcases hA2 ad e with h1 | h1
  ·
   cases hR : (R s).1 with
   | none => rw [hR] at h1; cases h1
   |
    some a0 =>
    rw [hR] at h1
    injection h1 with h1
    exact h.ne s k hs hk (fun e => hks e.symm) a0 ad' hR e' (h1.symm.trans e3)
  ·
   have := ((h.own k hk).lt ad' e').2
   omega
 refine ⟨?_, fun k hk => ?_, fun k j hk hj hkj => ?_, h.lo⟩
 ·
  have : s = 0 ∨ s = 1 ∨ s = 2 ∨ s = 3 ∨ s = 4 := by omega
  show (w'.heap.modify X _)[X]? = _
  rw [Array.getElem?_modify, if_pos rfl, hXb, ← hl]
  rcases this with rfl | rfl | rfl | rfl | rfl <;> rfl
 ·
  unfold updA
  by_cases e : k = s
  ·
   subst e
   rw [if_pos rfl, if_pos rfl, hl]
   exact ho.grown hg2 (hXA ho)
  ·
   rw [if_neg e, if_neg e]
   have h1 : OwnC w' lo (R k).1 (R k).2 (ls k).length (ls k) := (h.own k hk).grown hg fun ad ea e2 => by
    cases hR : (R s).1 with
    | none => rw [hR] at e2; cases e2
    | some a0 => rw [hR] at e2; injection e2 with e2; exact h.ne k s hk hs e ad a0 ea hR e2
   exact h1.grown hg2 (hXA h1)
 ·
  unfold updA
  intro ad ad' e e'
  by_cases e1 : k = s
  ·
   rw [if_pos e1] at e
   rw [if_neg (fun e2 => hkj (e1.trans e2.symm))] at e'
   exact hne2 j hj (fun e2 => hkj (e1.trans e2.symm)) ad ad' e e'
  ·
   rw [if_neg e1] at e
   by_cases e2 : j = s
   ·
    rw [if_pos e2] at e'
    exact fun e3 => hne2 k hk e1 ad' ad e' e e3.symm
   ·
    rw [if_neg e2] at e'
    exact h.ne k j hk hj hkj ad ad' e e'
end
theorem ret5a {fn : Func} {t : Tmp} {R : Ending → World → Prop} {a : Act} {w : World} {b : Nat} {x0 x1 x2 x3 x4 : Value} (hres : fn.results = #[.cell t 86]) (ht : a.tmps.getD t undef = .pointer (some ⟨b, 0, none⟩)) (hd : a.defers = [])
  (hk : C5a w b #[x0, x1, x2, x3, x4]) (hR : R (.returned (.agg #[x0, x1, x2, x3, x4])) w) : bodyPost Tryz.prog fn R .ret a w := by
 have h' : w.heap[b]? = some (.cells #[x0, x1, x2, x3, x4] 86 (0, 0)) := hk
 have q0 : w.cell? ⟨b, 0, none⟩ = some x0 := by simp [World.cell?, h']
 have q1 : w.cell? ⟨b, 1, none⟩ = some x1 := by simp [World.cell?, h']
 have q2 : w.cell? ⟨b, 2, none⟩ = some x2 := by simp [World.cell?, h']
 have q3 : w.cell? ⟨b, 3, none⟩ = some x3 := by simp [World.cell?, h']
 have q4 : w.cell? ⟨b, 4, none⟩ = some x4 := by simp [World.cell?, h']
 have ht' : (a.tmps[t]?.getD undef) = .pointer (some ⟨b, 0, none⟩) := by simpa using ht
 refine bodyPost_ret (v := .agg #[x0, x1, x2, x3, x4]) ?_ hd hR
 simp [results, hres, go_sem, ht', q0, q1, q2, q3, q4]
theorem C5a.s0 {w : World} {b : Nat} {p0 p1 p2 p3 p4 : Value} (h : C5a w b #[p0, p1, p2, p3, p4]) (x : Value) : C5a (w.setCell ⟨b, 0, none⟩ x) b #[x, p1, p2, p3, p4] := by
 have h' : w.heap[b]? = some (.cells #[p0, p1, p2, p3, p4] 86 (0, 0)) := h
 show (w.heap.modify b _)[b]? = _
 rw [Array.getElem?_modify, if_pos rfl, h']; rfl
theorem C5a.s1 {w : World} {b : Nat} {p0 p1 p2 p3 p4 : Value} (h : C5a w b #[p0, p1, p2, p3, p4]) (x : Value) : C5a (w.setCell ⟨b, 1, none⟩ x) b #[p0, x, p2, p3, p4] := by
 have h' : w.heap[b]? = some (.cells #[p0, p1, p2, p3, p4] 86 (0, 0)) := h
 show (w.heap.modify b _)[b]? = _
 rw [Array.getElem?_modify, if_pos rfl, h']; rfl
theorem C5a.s2 {w : World} {b : Nat} {p0 p1 p2 p3 p4 : Value} (h : C5a w b #[p0, p1, p2, p3, p4]) (x : Value) : C5a (w.setCell ⟨b, 2, none⟩ x) b #[p0, p1, x, p3, p4] := by
 have h' : w.heap[b]? = some (.cells #[p0, p1, p2, p3, p4] 86 (0, 0)) := h
 show (w.heap.modify b _)[b]? = _
 rw [Array.getElem?_modify, if_pos rfl, h']; rfl
theorem C5a.s3 {w : World} {b : Nat} {p0 p1 p2 p3 p4 : Value} (h : C5a w b #[p0, p1, p2, p3, p4]) (x : Value) : C5a (w.setCell ⟨b, 3, none⟩ x) b #[p0, p1, p2, x, p4] := by
 have h' : w.heap[b]? = some (.cells #[p0, p1, p2, p3, p4] 86 (0, 0)) := h
 show (w.heap.modify b _)[b]? = _
 rw [Array.getElem?_modify, if_pos rfl, h']; rfl
theorem C5a.s4 {w : World} {b : Nat} {p0 p1 p2 p3 p4 : Value} (h : C5a w b #[p0, p1, p2, p3, p4]) (x : Value) : C5a (w.setCell ⟨b, 4, none⟩ x) b #[p0, p1, p2, p3, x] := by
 have h' : w.heap[b]? = some (.cells #[p0, p1, p2, p3, p4] 86 (0, 0)) := h
 show (w.heap.modify b _)[b]? = _
 rw [Array.getElem?_modify, if_pos rfl, h']; rfl
theorem C5a.put {w : World} {b : Nat} {p0 p1 p2 p3 p4 : Value} (h : C5a w b #[p0, p1, p2, p3, p4]) (x0 x1 x2 x3 x4 : Value) : C5a (put5 w b x0 x1 x2 x3 x4) b #[x0, x1, x2, x3, x4] := ((((h.s0 x0).s1 x1).s2 x2).s3 x3).s4 x4
def holdL (N : Nat) (p : Nat → Rat) (vs : List Kin) (s : Nat) : List Cv := (hold N p vs (s : Int)).map (·.v)
theorem holdL_len (N : Nat) (p : Nat → Rat) (vs : List Kin) (s : Nat) : (holdL N p vs s).length ≤ vs.length := by
 unfold holdL hold
 rw [List.length_map]
 exact List.length_filter_le ..
theorem holdL_no {N : Nat} {p : Nat → Rat} {vs : List Kin} {x : Kin} (h : holB N p x = false) (s : Nat) : holdL N p (vs ++ [x]) s = holdL N p vs s := by
 unfold holdL hold
 rw [List.filter_append, List.filter_cons_of_neg (by rw [h]; simp)]; simp
theorem holdL_yes {N : Nat} {p : Nat → Rat} {vs : List Kin} {x : Kin} (h : holB N p x = true) (s : Nat) : holdL N p (vs ++ [x]) s = if x.v.s ≤ (s : Int) then holdL N p vs s ++ [x.v] else holdL N p vs s := by
 unfold holdL hold
 by_cases e : x.v.s ≤ (s : Int)
 · rw [if_pos e, List.filter_append, List.filter_cons_of_pos (by rw [h, decide_eq_true e]; rfl), List.map_append]; rfl
 · rw [if_neg e, List.filter_append, List.filter_cons_of_neg (by rw [decide_eq_false e]; simp)]; simp
def stepL (ls : Nat → List Cv) (x : Cv) (s : Nat) : Nat → List Cv := fun k => if k < s ∧ x.s ≤ (k : Int) then ls k ++ [x] else ls k
theorem stepL_yes {ls : Nat → List Cv} {x : Cv} {s : Nat} (h : x.s ≤ (s : Int)) : updA (stepL ls x s) s (stepL ls x s s ++ [x]) = stepL ls x (s + 1) := by
 funext k
 unfold updA stepL
 by_cases e : k = s
 ·
  subst e
  rw [if_pos rfl, if_neg (by omega), if_pos (by omega)]
 ·
  rw [if_neg e]
  by_cases e2 : k < s ∧ x.s ≤ (k : Int)
  · rw [if_pos e2, if_pos (by omega)]
  · rw [if_neg e2, if_neg (by omega)]
theorem stepL_no {ls : Nat → List Cv} {x : Cv} {s : Nat} (h : ¬ x.s ≤ (s : Int)) : stepL ls x s = stepL ls x (s + 1) := by
 funext k
 unfold stepL
 by_cases e2 : k < s ∧ x.s ≤ (k : Int)
 · rw [if_pos e2, if_pos (by omega)]
 ·
  by_cases e : k = s
  ·
   subst e
   rw [if_neg e2, if_neg (by omega)]
  · rw [if_neg e2, if_neg (by omega)]
theorem stepL_hold {N : Nat} {p : Nat → Rat} {vs : List Kin} {x : Kin} (h : holB N p x = true) {k : Nat} (hk : k < 5) : stepL (holdL N p vs) x.v 5 k = holdL N p (vs ++ [x]) k := by
 rw [holdL_yes h]
 unfold stepL
 by_cases e : x.v.s ≤ (k : Int)
 · rw [if_pos ⟨hk, e⟩, if_pos e]
 · rw [if_neg (fun h => e h.2), if_neg e]
theorem stepL_len (ls : Nat → List Cv) (x : Cv) (s k : Nat) : (stepL ls x s k).length ≤ (ls k).length + 1 := by
 unfold stepL
 split
 · simp
 · omega
structure HoR (w wr : World) (R : Nat → Option Addr × Nat) (ls : Nat → List Cv) : Prop where
 five : Five (w.heap.size + 2) (w.heap.size + 1) wr R ls
 res : C5a wr w.heap.size (arr5 (fun _ => (none, 0)) (fun _ => []))
 below : Below w.heap.size w wr
theorem HoR.step_ {w wr w' : World} {R : Nat → Option Addr × Nat} {ls : Nat → List Cv} (h : HoR w wr R ls) (hb : Below wr.heap.size wr w') : HoR w w' R ls :=
 ⟨h.five.below hb, (hb.block _ (Nat.lt_of_succ_lt h.five.lt)).trans h.res, h.below.trans (hb.mono h.below.size)⟩
theorem HoR.start (w W : World) (h : (w.alloc (.cells #[.slice none 0 0, .slice none 0 0, .slice none 0 0, .slice none 0 0, .slice none 0 0] 86)).alloc (.cells #[.slice none 0 0, .slice none 0 0, .slice none 0 0, .slice none 0 0, .slice none 0 0] 86) = W) : HoR w W (fun _ => (none, 0)) (fun _ => []) := by
 subst h
 have e1 : (w.alloc (.cells #[.slice none 0 0, .slice none 0 0, .slice none 0 0, .slice none 0 0, .slice none 0 0] 86)).heap.size = w.heap.size + 1 := by simp
 refine ⟨⟨?_, fun s _ => OwnC.nil_ _ _, fun s t _ _ _ ad ad' e => (by cases e), by omega⟩, ?_, ((Below.refl w.heap.size w).alloc (Nat.le_refl _) _).alloc (by simp) _⟩
 ·
  have := heap_alloc_new (w.alloc (.cells #[.slice none 0 0, .slice none 0 0, .slice none 0 0, .slice none 0 0, .slice none 0 0] 86)) (.cells #[.slice none 0 0, .slice none 0 0, .slice none 0 0, .slice none 0 0, .slice none 0 0] 86)
  rw [e1] at this
  exact this
 · exact (((Below.refl (w.heap.size + 1) _).alloc (by rw [e1]; exact Nat.le_refl _) _).block w.heap.size (by omega)).trans (heap_alloc_new w _)
theorem HoR.append {w wr w' : World} {R : Nat → Option Addr × Nat} {ls : Nat → List Cv} {s c2 : Nat} {A2 : Option Addr} {t : Cv} (h : HoR w wr R ls) (hs : s < 5) (ho : OwnC w' (w.heap.size + 2) A2 c2 ((ls s).length + 1) (ls s ++ [t])) (hg : wr.grownBy w' ((R s).1.map (·.block))) (hw : A2.map (·.block) = (R s).1.map (·.block) ∨ A2.map (·.block) = some wr.heap.size) :
  HoR w (w'.setCell ⟨w.heap.size + 1, s, none⟩ (.slice A2 ((ls s).length + 1) c2)) (updA R s (A2, c2)) (updA ls s (ls s ++ [t])) := by
 have hB : ∀ b, b < w.heap.size + 2 → some b ≠ (R s).1.map (·.block) := fun b hb e => by
  cases hR : (R s).1 with
  | none => rw [hR] at e; cases e
  | some ad => rw [hR] at e; injection e with e; have h1 := ((h.five.own s hs).lt ad hR).1; have e2 : b = ad.block := e; omega
 have hs2 := h.five.lt
 have hs1 := h.below.size
 have hg2 : w'.grownBy (w'.setCell ⟨w.heap.size + 1, s, none⟩ (.slice A2 ((ls s).length + 1) c2)) (some (w.heap.size + 1)) := kput_grown w' _ s _
 refine ⟨h.five.append hs ho hg hw, ?_, ?_⟩
 · exact ((hg2.block w.heap.size (by have := hg.size; omega) (fun e => by injection e with e; omega)).trans (hg.block w.heap.size (by omega) (hB _ (by omega)))).trans h.res
 · exact (h.below.grown hg hs1 (fun b e => Classical.byContradiction fun hn => hB b (by omega) e.symm)).trans (below_of_grown_row hg2 (by omega) (by have := hg.size; omega))
def NoY (R : Nat → Option Addr × Nat) (Y : Nat) : Prop := ∀ s, s < 5 → ∀ ad, (R s).1 = some ad → ad.block ≠ Y
theorem NoY.upd {R : Nat → Option Addr × Nat} {Y s c2 : Nat} {A2 : Option Addr} {wr : World} (h : NoY R Y) (hs : s < 5) (hY : Y < wr.heap.size) (hw : A2.map (·.block) = (R s).1.map (·.block) ∨ A2.map (·.block) = some wr.heap.size) : NoY (updA R s (A2, c2)) Y := by
 intro k hk ad e
 unfold updA at e
 by_cases e1 : k = s
 ·
  rw [if_pos e1] at e
  have e2 : A2 = some ad := e
  subst e2
  rcases hw with hw | hw
  ·
   cases hR : (R s).1 with
   | none => rw [hR] at hw; cases hw
   | some a0 => rw [hR] at hw; injection hw with hw; have := h s hs a0 hR; have e3 : ad.block = a0.block := hw; omega
  ·
   injection hw with hw
   have e3 : ad.block = wr.heap.size := hw
   omega
 ·
  rw [if_neg e1] at e
  exact h k hk ad e
theorem C5.grown {w w' : World} {b : Nat} {x0 x1 x2 x3 x4 : Value} (h : C5 w b x0 x1 x2 x3 x4) {row : Option Nat} (hg : w.grownBy w' row) (hne : some b ≠ row) : C5 w' b x0 x1 x2 x3 x4 := (hg.block b h.lt hne).trans h
def HoldPost (N : Nat) (p : Nat → Rat) (vs : List Kin) (w : World) (e : Ending) (w' : World) : Prop :=
 ∃ R : Nat → Option Addr × Nat, e = .returned (.agg (arr5 R (holdL N p vs))) ∧ Below w.heap.size w w' ∧ (∀ s, s < 5 → OwnC w' w.heap.size (R s).1 (R s).2 (holdL N p vs s).length (holdL N p vs s)) ∧ ∀ s t, s < 5 → t < 5 → s ≠ t → ∀ ad ad', (R s).1 = some ad → (R t).1 = some ad' → ad.block ≠ ad'.block
set_option maxHeartbeats 12800000 in
theorem holding_c (s0 N : Nat) (A A' : Option Addr) (m c c' : Nat) (vs : List Kin) (lv : List Rv) (V : List Rat) (w : World) (h : Hns N s0 w A m vs) (hs0 : s0 ≤ 150) (hV : Vin N w A' lv V) (hm : m ≤ 1000) :
  Calls Tryz.prog 68 #[.slice A m c, .slice A' N c'] w (HoldPost N (ptOf V) vs w) := by
 have HH := Lib.hid (And.intro h (And.intro hV hs0))
 have m0 : (0 : Int) ≤ (m : Int) := by omega
 have m1 : (m : Int) ≤ 1000 := by omega
 have HLEN : Hid (vs.length = m) := h.len
 clear h hV hs0
 go_enter Tryz.func68, Tryz.ntmps68
 go_upto_region 2 with fail
 generalize hW : (w.alloc (.cells #[.slice none 0 0, .slice none 0 0, .slice none 0 0, .slice none 0 0, .slice none 0 0] 86)).alloc (.cells #[.slice none 0 0, .slice none 0 0, .slice none 0 0, .slice none 0 0, .slice none 0 0] 86) = W
 have HS0 := Lib.hid (HoR.start w W hW)
 clear hW
 go_wp2
 go_loopw [7, 8, 11] (fun _ _ iv wr => ∃ (i : Nat) (R : Nat → Option Addr × Nat), i ≤ m ∧ iv = .int .i64 i ∧ Hid (HoR w wr R (holdL N (ptOf V) (vs.take i)))) (fun _ _ iv _ => m - (intOf iv).toNat)
 case atStart => exact ⟨0, _, Nat.zero_le _, rfl, HS0⟩
 case round =>
  clear HS0
  obtain ⟨i, R, hi, rfl, HS⟩ := hrel
  have i0 : (0 : Int) ≤ (i : Int) := by omega
  by_cases hlt : i < m
  ·
   have i1 : (i : Int) < (m : Int) := by omega
   have hil : i < vs.length := by rw [HLEN.out]; exact hlt
   obtain ⟨b, off, hA, hbw, hcc⟩ := HH.out.1.kons.mem (by omega)
   have hx := List.getElem?_eq_getElem hil
   have HXI := Lib.hid (HH.out.1.rd _ (List.getElem_mem hil))
   have h5 := hcc i _ (show (vs.map (·.v))[i]? = some vs[i].v by rw [List.getElem?_map, hx]; rfl)
   have HTK : Hid (vs.take (i + 1) = vs.take i ++ [vs[i]]) := by show _ = _; rw [List.take_add_one, hx]; rfl
   generalize vs[i] = x at *
   obtain ⟨k0, k1, k2, k3, k4⟩ := h5.keep (HS.out.below.block b hbw)
   subst hA
   clear hx hcc hbw h5 hil
   go_upto_region 5 with fail
   clear k0 k1 k2 k3 k4
   have HY0 : Hid (C5 (wr.alloc (.cells #[.int .i64 x.v.s, .slice x.v.A x.v.n x.v.c, .bool x.v.K.s, .slice x.v.K.A x.v.K.n x.v.K.c, .slice x.v.K.B x.v.K.m x.v.K.d] 28)) wr.heap.size (.int .i64 x.v.s) (.slice x.v.A x.v.n x.v.c) (.bool x.v.K.s) (.slice x.v.K.A x.v.K.n x.v.K.c) (.slice x.v.K.B x.v.K.m x.v.K.d) ∧ Below wr.heap.size wr (wr.alloc (.cells #[.int .i64 x.v.s, .slice x.v.A x.v.n x.v.c, .bool x.v.K.s, .slice x.v.K.A x.v.K.n x.v.K.c, .slice x.v.K.B x.v.K.m x.v.K.d] 28))) := ⟨C5.new wr (.int .i64 x.v.s) (.slice x.v.A x.v.n x.v.c) (.bool x.v.K.s) (.slice x.v.K.A x.v.K.n x.v.K.c) (.slice x.v.K.B x.v.K.m x.v.K.d), (Below.refl _ _).alloc (Nat.le_refl _) _⟩
   generalize wr.alloc (.cells #[.int .i64 x.v.s, .slice x.v.A x.v.n x.v.c, .bool x.v.K.s, .slice x.v.K.A x.v.K.n x.v.K.c, .slice x.v.K.B x.v.K.m x.v.K.d] 28) = wa at *
   obtain ⟨Y, hY⟩ : ∃ Y, Y = wr.heap.size := ⟨_, rfl⟩
   rw [← hY] at HY0
   rw [← hY]
   have HNY : Hid (NoY R Y) := fun s hs ad e => by have := ((HS.out.five.own s hs).lt ad e).2; omega
   have HXY : Hid (w.heap.size + 1 < Y) := by rw [hY]; exact HS.out.five.lt
   have HWA : Hid (HoR w wa R (holdL N (ptOf V) (vs.take i)) ∧ C5 wa Y (.int .i64 x.v.s) (.slice x.v.A x.v.n x.v.c) (.bool x.v.K.s) (.slice x.v.K.A x.v.K.n x.v.K.c) (.slice x.v.K.B x.v.K.m x.v.K.d)) := ⟨HS.out.step_ (hY ▸ HY0.out.2), HY0.out.1⟩
   clear HY0 hY HS
   obtain ⟨k0, k1, k2, k3, k4⟩ := HWA.out.2.facts
   go_wp2_with fail
   refine (holds_c s0 N x A' c' lv V wa (HXI.out.below HWA.out.1.below) HH.out.2.2 (HH.out.2.1.below HWA.out.1.below)).mono ?_
   rintro e w5 ⟨rfl, hb5⟩
   have HS5 : Hid (HoR w w5 R (holdL N (ptOf V) (vs.take i)) ∧ C5 w5 Y (.int .i64 x.v.s) (.slice x.v.A x.v.n x.v.c) (.bool x.v.K.s) (.slice x.v.K.A x.v.K.n x.v.K.c) (.slice x.v.K.B x.v.K.m x.v.K.d)) := ⟨HWA.out.1.step_ hb5, HWA.out.2.below hb5⟩
   clear k0 k1 k2 k3 k4 hb5 HWA HXI
   by_cases hq : holB N (ptOf V) x = true
   ·
    have HQ := Lib.hid hq
    rw [hq]
    clear hq
    obtain ⟨va, L_, k_, ok_⟩ := x
    replace HS5 : Hid (HoR w w5 R (holdL N (ptOf V) (vs.take i)) ∧ C5 w5 Y (.int .i64 va.s) (.slice va.A va.n va.c) (.bool va.K.s) (.slice va.K.A va.K.n va.K.c) (.slice va.K.B va.K.m va.K.d)) := HS5
    have HLI : Hid (∀ s, (holdL N (ptOf V) (vs.take i) s).length ≤ 1000) := fun s => Nat.le_trans (holdL_len _ _ _ _) (by rw [List.length_take]; omega)
    go_wp2
    go_loopw [8, 19] (fun _ jv wx => ∃ (s : Nat) (R : Nat → Option Addr × Nat), s ≤ 5 ∧ jv = .int .i64 s ∧ Hid (HoR w wx R (stepL (holdL N (ptOf V) (vs.take i)) va s) ∧ C5 wx Y (.int .i64 va.s) (.slice va.A va.n va.c) (.bool va.K.s) (.slice va.K.A va.K.n va.K.c) (.slice va.K.B va.K.m va.K.d) ∧ NoY R Y)) (fun _ jv _ => 5 - (intOf jv).toNat)
    case atStart =>
     refine ⟨0, R, by omega, rfl, ?_⟩
     have e : stepL (holdL N (ptOf V) (vs.take i)) va 0 = holdL N (ptOf V) (vs.take i) := by funext k; unfold stepL; rw [if_neg (by omega)]
     rw [e]
     exact Lib.hid ⟨HS5.out.1, HS5.out.2, HNY.out⟩
    case round =>
     clear HS5 HNY
     obtain ⟨s, R, hs, rfl, HS⟩ := hrel
     obtain ⟨k0, k1, k2, k3, k4⟩ := HS.out.2.1.facts
     have s00 : (0 : Int) ≤ (s : Int) := by omega
     by_cases hs5 : s < 5
     ·
      have s1 : (s : Int) < 5 := by omega
      by_cases hle : va.s ≤ (s : Int)
      ·
       have HST : Hid (updA (stepL (holdL N (ptOf V) (vs.take i)) va s) s (stepL (holdL N (ptOf V) (vs.take i)) va s s ++ [va]) = stepL (holdL N (ptOf V) (vs.take i)) va (s + 1)) := stepL_yes hle
       have HSL : Hid ((stepL (holdL N (ptOf V) (vs.take i)) va s s).length ≤ 1001) := Nat.le_trans (stepL_len _ _ _ _) (Nat.succ_le_succ (HLI.out s))
       obtain ⟨ls, hls⟩ : ∃ ls, ls = stepL (holdL N (ptOf V) (vs.take i)) va s := ⟨_, rfl⟩
       rw [← hls] at HS HST HSL
       clear hls
       go_upto_region 10 with fail
       have HAL : Hid (∀ w', Below wr.heap.size wr w' → (w'.cell? ⟨Y, 0, none⟩ = some (.int .i64 va.s) ∧ w'.cell? ⟨Y, 1, none⟩ = some (.slice va.A va.n va.c) ∧ w'.cell? ⟨Y, 2, none⟩ = some (.bool va.K.s) ∧ w'.cell? ⟨Y, 3, none⟩ = some (.slice va.K.A va.K.n va.K.c) ∧ w'.cell? ⟨Y, 4, none⟩ = some (.slice va.K.B va.K.m va.K.d)) ∧ w'.cell? ⟨w.heap.size + 1, s, none⟩ = some (.slice (R s).1 (ls s).length (R s).2)) := fun w' h => ⟨(HS.out.2.1.below h).facts, ((HS.out.1.step_ h).five.cell hs5).1⟩
       clear k0 k1 k2 k3 k4
       obtain ⟨⟨k0, k1, k2, k3, k4⟩, l0⟩ := HAL.out _ (Below.refl _ _)
       refine wp_region_held_drew (S := fun w' => w'.cell? ⟨Y, 0, none⟩ = some (.int .i64 va.s) ∧ w'.cell? ⟨Y, 1, none⟩ = some (.slice va.A va.n va.c) ∧ w'.cell? ⟨Y, 2, none⟩ = some (.bool va.K.s) ∧ w'.cell? ⟨Y, 3, none⟩ = some (.slice va.K.A va.K.n va.K.c) ∧ w'.cell? ⟨Y, 4, none⟩ = some (.slice va.K.B va.K.m va.K.d)) (by kernel_rfl) ?_ (fun hHeld => ?_)
       ·
        (try dsimp only)
        go_keep
       refine tk (i := 0) (h := ?_)
       try simp only [zR]
       refine tk (i := 1) (h := ?_)
       try simp only [zR]
       refine tk (i := 2) (h := ?_)
       try simp only [zR]
       refine tk (i := 4) (h := ?_)
       try simp only [zR]
       refine tr [3, 5] ?_
       refine tc (h := fun K hK => ?_) (hs := tc (h := fun K hK => ?_) (hs := tn))
       ·
        skip
        try go_simp
        try go_wp2_with fail
        refine hK.out _ _ ?_ (fun hHeld => ?_)
        · (try dsimp only); go_keep
        clear hK K
        try simp only [zR]
        have P3 : Hid (Below wr.heap.size wr wr.drew) := bel1 wr
        generalize wr.drew = w3 at *
        clear k0 k1 k2 k3 k4 l0
        obtain ⟨⟨k0, k1, k2, k3, k4⟩, l0⟩ := HAL.out _ P3.out
        refine tr [5] ?_
        refine tc (h := fun K hK => ?_) (hs := tn)
        try go_simp
        try go_wp2_with fail
        refine hK.out _ _ ?_ (fun hHeld => ?_)
        · (try dsimp only); go_keep
        clear hK K
        try simp only [zR]
        have P5 : Hid (Below wr.heap.size wr (w3.alloc (.cells #[.int .i64 va.s, .slice va.A va.n va.c, .bool va.K.s, .slice va.K.A va.K.n va.K.c, .slice va.K.B va.K.m va.K.d] 28))) := P3.out.trans ((((Below.refl _ _).alloc (Nat.le_refl _) _)).mono P3.out.size)
        have G5 : Hid (C5 (w3.alloc (.cells #[.int .i64 va.s, .slice va.A va.n va.c, .bool va.K.s, .slice va.K.A va.K.n va.K.c, .slice va.K.B va.K.m va.K.d] 28)) w3.heap.size (.int .i64 va.s) (.slice va.A va.n va.c) (.bool va.K.s) (.slice va.K.A va.K.n va.K.c) (.slice va.K.B va.K.m va.K.d)) := C5.new w3 (.int .i64 va.s) (.slice va.A va.n va.c) (.bool va.K.s) (.slice va.K.A va.K.n va.K.c) (.slice va.K.B va.K.m va.K.d)
        generalize (w3.alloc (.cells #[.int .i64 va.s, .slice va.A va.n va.c, .bool va.K.s, .slice va.K.A va.K.n va.K.c, .slice va.K.B va.K.m va.K.d] 28)) = w5 at *
        clear k0 k1 k2 k3 k4 l0
        obtain ⟨⟨k0, k1, k2, k3, k4⟩, l0⟩ := HAL.out _ P5.out
        refine tr [6] ?_
        refine tc (h := fun K hK => ?_) (hs := tn)
        refine spc_append1 rfl _ _ rfl rfl rfl (lo := w.heap.size + 2) (t := va) ((HS.out.1.step_ P5.out).five.own s hs5) (At5.of G5.out) (by have := HSL.out; omega) (Nat.le_trans (Nat.succ_le_of_lt HS.out.1.five.lt) P5.out.size) ?_
        intro A6 c6 w6 hown hgrow hlies
        have HN6 : Hid (HoR w (w6.setCell ⟨w.heap.size + 1, s, none⟩ (.slice A6 ((ls s).length + 1) c6)) (updA R s (A6, c6)) (updA ls s (ls s ++ [va]))) := (HS.out.1.step_ P5.out).append hs5 hown hgrow hlies
        have HNY : Hid (NoY (updA R s (A6, c6)) Y) := HS.out.2.2.upd hs5 ((HS.out.2.1.below P5.out).lt) hlies
        have HY6 : Hid (C5 w6 Y (.int .i64 va.s) (.slice va.A va.n va.c) (.bool va.K.s) (.slice va.K.A va.K.n va.K.c) (.slice va.K.B va.K.m va.K.d)) := (HS.out.2.1.below P5.out).grown hgrow (fun e => by cases hR : (R s).1 with | none => (rw [hR] at e; cases e) | some a0 => (rw [hR] at e; injection e with e; exact HS.out.2.2 s hs5 a0 hR e.symm))
        have HL6 : Hid (w6.frozen? ⟨w.heap.size + 1, s, none⟩ = false ∧ ∃ x6, w6.cell? ⟨w.heap.size + 1, s, none⟩ = some x6) := by
         have hB : some (w.heap.size + 1) ≠ (R s).1.map (·.block) := fun e => by cases hR : (R s).1 with | none => (rw [hR] at e; cases e) | some a0 => (rw [hR] at e; injection e with e; have h1 := ((HS.out.1.five.own s hs5).lt a0 hR).1; have e2 : w.heap.size + 1 = a0.block := e; omega)
         have h5 := (HS.out.1.step_ P5.out).five
         have hk := hgrow.block _ h5.lt hB
         refine ⟨?_, _, (World.cell?_of_block hk).trans (h5.cell hs5).1⟩
         have h6 := (h5.cell hs5).2
         unfold World.frozen? at *
         rw [hk]; exact h6
        clear hown hgrow hlies k0 k1 k2 k3 k4 l0
        obtain ⟨k0, k1, k2, k3, k4⟩ := HY6.out.facts
        obtain ⟨f0, x6, l0⟩ := HL6.out
        have mA : ¬ Y = w.heap.size + 1 := by have := HXY.out; omega
        have mB : ¬ w.heap.size + 1 = Y := fun e => mA e.symm
        try go_wp2_with fail
        refine hK.out _ _ ?_ (fun hHeld => ?_)
        · (try dsimp only); go_keep
        clear hK K
        try simp only [zR]
        refine tk (i := 7) (h := ?_)
        try simp only [zR]
        refine tr [8] ?_
        refine tc (h := fun K hK => ?_) (hs := tn)
        try go_simp
        try go_wp2_with fail
        refine hK.out _ _ ?_ (fun hHeld => ?_)
        · (try dsimp only); go_keep
        clear hK K
        try simp only [zR]
        refine wpAnyH_done (by kernel_rfl) ?_ _
        clear k0 k1 k2 k3 k4 l0 f0
        have HNN : Hid (HoR w (w6.setCell ⟨w.heap.size + 1, s, none⟩ (.slice A6 ((ls s).length + 1) c6)) (updA R s (A6, c6)) (stepL (holdL N (ptOf V) (vs.take i)) va (s + 1)) ∧ C5 (w6.setCell ⟨w.heap.size + 1, s, none⟩ (.slice A6 ((ls s).length + 1) c6)) Y (.int .i64 va.s) (.slice va.A va.n va.c) (.bool va.K.s) (.slice va.K.A va.K.n va.K.c) (.slice va.K.B va.K.m va.K.d) ∧ NoY (updA R s (A6, c6)) Y) := ⟨by have h := HN6.out; rw [HST.out] at h; exact h, HY6.out.grown (kput_grown _ _ _ _) (fun e => by injection e with e; exact mA e), HNY.out⟩
        go_wp2
        go_roundw
        case rel => exact ⟨s + 1, _, by omega, by go_num, HNN⟩
        case measure => simp [intOf]; omega
       ·
        skip
        try go_simp
        try go_wp2_with fail
        refine hK.out _ _ ?_ (fun hHeld => ?_)
        · (try dsimp only); go_keep
        clear hK K
        try simp only [zR]
        have P5 : Hid (Below wr.heap.size wr (wr.alloc (.cells #[.int .i64 va.s, .slice va.A va.n va.c, .bool va.K.s, .slice va.K.A va.K.n va.K.c, .slice va.K.B va.K.m va.K.d] 28)).drew) := (Below.refl wr.heap.size wr).trans ((((Below.refl _ _).alloc (Nat.le_refl _) _).drew).mono (Below.refl wr.heap.size wr).size)
        have G5 : Hid (C5 (wr.alloc (.cells #[.int .i64 va.s, .slice va.A va.n va.c, .bool va.K.s, .slice va.K.A va.K.n va.K.c, .slice va.K.B va.K.m va.K.d] 28)).drew wr.heap.size (.int .i64 va.s) (.slice va.A va.n va.c) (.bool va.K.s) (.slice va.K.A va.K.n va.K.c) (.slice va.K.B va.K.m va.K.d)) := C5.new wr (.int .i64 va.s) (.slice va.A va.n va.c) (.bool va.K.s) (.slice va.K.A va.K.n va.K.c) (.slice va.K.B va.K.m va.K.d)
        generalize (wr.alloc (.cells #[.int .i64 va.s, .slice va.A va.n va.c, .bool va.K.s, .slice va.K.A va.K.n va.K.c, .slice va.K.B va.K.m va.K.d] 28)).drew = w5 at *
        clear k0 k1 k2 k3 k4 l0
        obtain ⟨⟨k0, k1, k2, k3, k4⟩, l0⟩ := HAL.out _ P5.out
        refine tr [3] ?_
        refine tc (h := fun K hK => ?_) (hs := tn)
        try go_simp
        try go_wp2_with fail
        refine hK.out _ _ ?_ (fun hHeld => ?_)
        · (try dsimp only); go_keep
        clear hK K
        try simp only [zR]
        have P3 := P5
        refine tr [6] ?_
        refine tc (h := fun K hK => ?_) (hs := tn)
        refine spc_append1 rfl _ _ rfl rfl rfl (lo := w.heap.size + 2) (t := va) ((HS.out.1.step_ P3.out).five.own s hs5) (At5.of G5.out) (by have := HSL.out; omega) (Nat.le_trans (Nat.succ_le_of_lt HS.out.1.five.lt) P3.out.size) ?_
        intro A6 c6 w6 hown hgrow hlies
        have HN6 : Hid (HoR w (w6.setCell ⟨w.heap.size + 1, s, none⟩ (.slice A6 ((ls s).length + 1) c6)) (updA R s (A6, c6)) (updA ls s (ls s ++ [va]))) := (HS.out.1.step_ P3.out).append hs5 hown hgrow hlies
        have HNY : Hid (NoY (updA R s (A6, c6)) Y) := HS.out.2.2.upd hs5 ((HS.out.2.1.below P3.out).lt) hlies
        have HY6 : Hid (C5 w6 Y (.int .i64 va.s) (.slice va.A va.n va.c) (.bool va.K.s) (.slice va.K.A va.K.n va.K.c) (.slice va.K.B va.K.m va.K.d)) := (HS.out.2.1.below P3.out).grown hgrow (fun e => by cases hR : (R s).1 with | none => (rw [hR] at e; cases e) | some a0 => (rw [hR] at e; injection e with e; exact HS.out.2.2 s hs5 a0 hR e.symm))
        have HL6 : Hid (w6.frozen? ⟨w.heap.size + 1, s, none⟩ = false ∧ ∃ x6, w6.cell? ⟨w.heap.size + 1, s, none⟩ = some x6) := by
         have hB : some (w.heap.size + 1) ≠ (R s).1.map (·.block) := fun e => by cases hR : (R s).1 with | none => (rw [hR] at e; cases e) | some a0 => (rw [hR] at e; injection e with e; have h1 := ((HS.out.1.five.own s hs5).lt a0 hR).1; have e2 : w.heap.size + 1 = a0.block := e; omega)
         have h5 := (HS.out.1.step_ P3.out).five
         have hk := hgrow.block _ h5.lt hB
         refine ⟨?_, _, (World.cell?_of_block hk).trans (h5.cell hs5).1⟩
         have h6 := (h5.cell hs5).2
         unfold World.frozen? at *
         rw [hk]; exact h6
        clear hown hgrow hlies k0 k1 k2 k3 k4 l0
        obtain ⟨k0, k1, k2, k3, k4⟩ := HY6.out.facts
        obtain ⟨f0, x6, l0⟩ := HL6.out
        have mA : ¬ Y = w.heap.size + 1 := by have := HXY.out; omega
        have mB : ¬ w.heap.size + 1 = Y := fun e => mA e.symm
        try go_wp2_with fail
        refine hK.out _ _ ?_ (fun hHeld => ?_)
        · (try dsimp only); go_keep
        clear hK K
        try simp only [zR]
        refine tk (i := 7) (h := ?_)
        try simp only [zR]
        refine tr [8] ?_
        refine tc (h := fun K hK => ?_) (hs := tn)
        try go_simp
        try go_wp2_with fail
        refine hK.out _ _ ?_ (fun hHeld => ?_)
        · (try dsimp only); go_keep
        clear hK K
        try simp only [zR]
        refine wpAnyH_done (by kernel_rfl) ?_ _
        clear k0 k1 k2 k3 k4 l0 f0
        have HNN : Hid (HoR w (w6.setCell ⟨w.heap.size + 1, s, none⟩ (.slice A6 ((ls s).length + 1) c6)) (updA R s (A6, c6)) (stepL (holdL N (ptOf V) (vs.take i)) va (s + 1)) ∧ C5 (w6.setCell ⟨w.heap.size + 1, s, none⟩ (.slice A6 ((ls s).length + 1) c6)) Y (.int .i64 va.s) (.slice va.A va.n va.c) (.bool va.K.s) (.slice va.K.A va.K.n va.K.c) (.slice va.K.B va.K.m va.K.d) ∧ NoY (updA R s (A6, c6)) Y) := ⟨by have h := HN6.out; rw [HST.out] at h; exact h, HY6.out.grown (kput_grown _ _ _ _) (fun e => by injection e with e; exact mA e), HNY.out⟩
        go_wp2
        go_roundw
        case rel => exact ⟨s + 1, _, by omega, by go_num, HNN⟩
        case measure => simp [intOf]; omega
      ·
       have HST : Hid (stepL (holdL N (ptOf V) (vs.take i)) va s = stepL (holdL N (ptOf V) (vs.take i)) va (s + 1)) := stepL_no hle
       clear hs5
       go_wp2
       clear k0 k1 k2 k3 k4 hle
       go_roundw
       case rel => exact ⟨s + 1, R, by omega, by go_num, by rw [← HST.out]; exact HS⟩
       case measure => simp [intOf]; omega
     ·
      have s1 : ¬ (s : Int) < 5 := by omega
      obtain rfl : s = 5 := by omega
      clear hs5 hs
      have HN : Hid (HoR w wr R (holdL N (ptOf V) (vs.take (i + 1)))) := by
       rw [HTK.out]
       exact ⟨HS.out.1.five.congr fun k hk => stepL_hold (x := ⟨va, L_, k_, ok_⟩) HQ.out hk, HS.out.1.res, HS.out.1.below⟩
      clear k0 k1 k2 k3 k4 HS
      go_wp2
      go_roundw
      case rel => exact ⟨i + 1, R, by omega, by go_num, HN⟩
      case measure => simp [intOf]; omega
   ·
    have hq' : holB N (ptOf V) x = false := by simpa using hq
    have HN : Hid (HoR w w5 R (holdL N (ptOf V) (vs.take (i + 1)))) := by
     rw [HTK.out]
     exact ⟨HS5.out.1.five.congr fun k _ => (holdL_no hq' k).symm, HS5.out.1.res, HS5.out.1.below⟩
    rw [hq']
    clear hq hq' HS5 HNY
    go_wp2
    go_roundw
    case rel => exact ⟨i + 1, R, by omega, by go_num, HN⟩
    case measure => simp [intOf]; omega
  ·
   have i1 : ¬ (i : Int) < (m : Int) := by omega
   obtain rfl : i = m := by omega
   have HN : Hid (HoR w wr R (holdL N (ptOf V) vs)) := by
    have h1 := HS.out
    rw [List.take_of_length_le (by rw [HLEN.out]; exact Nat.le_refl _)] at h1
    exact h1
   clear HS
   have c0 := HN.out.five.cell (s := 0) (by omega)
   have c1 := HN.out.five.cell (s := 1) (by omega)
   have c2 := HN.out.five.cell (s := 2) (by omega)
   have c3 := HN.out.five.cell (s := 3) (by omega)
   have c4 := HN.out.five.cell (s := 4) (by omega)
   obtain ⟨c0, _⟩ := c0
   obtain ⟨c1, _⟩ := c1
   obtain ⟨c2, _⟩ := c2
   obtain ⟨c3, _⟩ := c3
   obtain ⟨c4, _⟩ := c4
   have hr' : wr.heap[w.heap.size]? = some (.cells #[.slice none 0 0, .slice none 0 0, .slice none 0 0, .slice none 0 0, .slice none 0 0] 86 (0, 0)) := HN.out.res
   have f0 : wr.frozen? ⟨w.heap.size, 0, none⟩ = false := by simp [World.frozen?, hr']
   have f1 : wr.frozen? ⟨w.heap.size, 1, none⟩ = false := by simp [World.frozen?, hr']
   have f2 : wr.frozen? ⟨w.heap.size, 2, none⟩ = false := by simp [World.frozen?, hr']
   have f3 : wr.frozen? ⟨w.heap.size, 3, none⟩ = false := by simp [World.frozen?, hr']
   have f4 : wr.frozen? ⟨w.heap.size, 4, none⟩ = false := by simp [World.frozen?, hr']
   have g0 : wr.cell? ⟨w.heap.size, 0, none⟩ = some (.slice none 0 0) := by simp [World.cell?, hr']
   have g1 : wr.cell? ⟨w.heap.size, 1, none⟩ = some (.slice none 0 0) := by simp [World.cell?, hr']
   have g2 : wr.cell? ⟨w.heap.size, 2, none⟩ = some (.slice none 0 0) := by simp [World.cell?, hr']
   have g3 : wr.cell? ⟨w.heap.size, 3, none⟩ = some (.slice none 0 0) := by simp [World.cell?, hr']
   have g4 : wr.cell? ⟨w.heap.size, 4, none⟩ = some (.slice none 0 0) := by simp [World.cell?, hr']
   clear hr'
   obtain ⟨ls, hls⟩ : ∃ ls, ls = holdL N (ptOf V) vs := ⟨_, rfl⟩
   have HLS := Lib.hid hls
   rw [← hls] at HN c0 c1 c2 c3 c4
   clear hls
   go_wp2
   refine ret5a (fn := Tryz.f68) Tryz.results68 rfl rfl (C5a.put HN.out.res _ _ _ _ _) ?_
   refine ⟨R, by rw [← HLS.out], HN.out.below.trans (put5_below (Nat.le_refl _) _ _ _ _ _), fun s hs => ?_, HN.out.five.ne⟩
   rw [← HLS.out]
   exact ((HN.out.five.own s hs).grown (put5_grown _ _ _ _ _ _ _) (fun ad e e2 => by injection e2 with e2; have := ((HN.out.five.own s hs).lt ad e).1; omega)).lower (by omega)
end Go.Proofs.YtgffkaconhonlaaGreat

namespace Go.Proofs.YtgffkaconhonlaaGreat
set_option maxRecDepth 20000
open Go.RowKit
theorem OwnC.init {w : World} {lo g c n : Nat} {l : List Cv} {t : Cv} (h : OwnC w lo (some ⟨g, 0, none⟩) c (n + 1) (l ++ [t])) : OwnC w lo (some ⟨g, 0, none⟩) c n l := by
 have hl : l.length = n := by have := h.len; rw [List.length_append] at this; simpa using this
 refine ⟨hl, by rw [flatC_len, hl], .inr ?_⟩
 rcases h.own.2 with ⟨hv, _⟩ | ⟨g', cap, cur, hv, h1, h2, h3, h4, h5, h6⟩
 · cases hv
 ·
  injection hv with hA hn hc
  injection hA with hA
  injection hA with hA _ _
  subst hA hc
  refine ⟨g, c, cur, rfl, h1, h2, by omega, h4, h5, ?_⟩
  have h7 := congrArg (List.take (n * 5)) h6
  rw [List.take_take, Nat.min_eq_left (by omega), List.flatMap_append, List.take_append_of_le_length (by rw [flatC_len, hl]; exact Nat.le_refl _)] at h7
  exact h7.trans (List.take_of_length_le (by rw [flatC_len, hl]; exact Nat.le_refl _))
theorem spc_keep {w : World} {ops : Array Oper} {o : Oper} {a : Act} {K : Act → World → Prop} {Q : Exit → Act → World → Prop} {E : Prop} (hw : Region.wanted o (yielded ops a.tmps) = true) (s x : Operand)
  (ho : o.op = .call { callee := .builtin .append, args := #[s, x], argTypes := #[22, 22] })
  {A : Option Addr} {b lo n c c' : Nat} {l : List Cv} {t : Cv} (hs : a.eval s = .slice A n c) (hx : a.eval x = .slice (some ⟨b, 0, none⟩) 1 c')
  (h1 : OwnC w lo A c n l) (h2 : At5 w b 0 t) (hm : n + 1 ≤ 2000000) (hlo : lo ≤ w.heap.size)
  (h : ∀ A2 c2 w', OwnC w' lo A2 c2 (n + 1) (l ++ [t]) → OwnC w' lo A c n l → w.grownBy w' (A.map (·.block)) → K (a.put o.dst (.slice A2 (n + 1) c2)) w') :
  if Region.wanted o (yielded ops a.tmps) = true then Oper.wp Tryz.prog o a w K Q else E := by
 rw [if_pos hw]
 obtain ⟨i0, hi, hsz⟩ := Option.map_eq_some_iff.1 Tryz.info28
 have hz : i0.zero = some (.agg #[.int .i64 0, .slice none 0 0, .bool false, .slice none 0 0, .slice none 0 0]) := by
  have := Tryz.zero28
  rw [hi] at this
  exact this
 injection hsz with hsz1 hsz2
 have hnews : ∀ j u, (kcells t)[j]? = some u → w.cell? ((⟨b, 0, none⟩ : Addr).add j) = some u := by
  intro j u hu
  have hj : j < 5 := (List.getElem?_eq_some_iff.1 hu).1
  have : j = 0 ∨ j = 1 ∨ j = 2 ∨ j = 3 ∨ j = 4 := by omega
  rcases this with rfl | rfl | rfl | rfl | rfl
  · injection hu with hu; subst hu; exact h2.h0
  · injection hu with hu; subst hu; exact h2.h1
  · injection hu with hu; subst hu; exact h2.h2
  · injection hu with hu; subst hu; exact h2.h3
  · injection hu with hu; subst hu; exact h2.h4
 have hone : ∀ u ∈ kcells t, u.oneCell' = true := by
  intro u hu
  simp only [kcells, List.mem_cons, List.not_mem_nil, or_false] at hu
  rcases hu with rfl | rfl | rfl | rfl | rfl <;> rfl
 have e : l.flatMap kcells ++ kcells t = (l ++ [t]).flatMap kcells := by rw [List.flatMap_append, List.flatMap_singleton]
 have hl2 : (l ++ [t]).length = n + 1 := by rw [List.length_append, h1.len]; rfl
 have run_ : ∀ {v' : Value} {w' : World}, (Builtin.append_ #[22, 22] o.type #[.slice A n c, .slice (some ⟨b, 0, none⟩) 1 c']).run Tryz.prog w = .ok v' w' → K (a.put o.dst v') w' → Oper.wp Tryz.prog o a w K Q := fun hrun hk => by
  unfold Oper.wp
  simp [execOp, ho, resolve, invoke, builtin, hs, hx, hrun, Result.andThen]
  exact hk
 have far_ : ∀ {v' : Value} {w' : World}, (Builtin.append_ #[22, 22] o.type #[.slice A n c, .slice (some ⟨b, 0, none⟩) 1 c']).run Tryz.prog w = .ok v' w' → w'.ownsRow w.heap.size 28 5 v' (n + 1) (l.flatMap kcells ++ kcells t) → w.grownBy w' none → Oper.wp Tryz.prog o a w K Q := fun hrun r1 r2 => by
  obtain ⟨g, cap, rfl, _, _⟩ := r1.form (Nat.succ_pos _)
  rw [e] at r1
  exact run_ hrun (h _ _ _ (OwnC.lower ⟨hl2, r1⟩ hlo) (h1.below (below_of_grown r2)) (grown_row (below_of_grown r2) _))
 rcases h1.own.2 with ⟨hv, hn⟩ | ⟨g, cap, cur, hv, h3, h4, h5, h6, h7, h8⟩
 ·
  injection hv with hA _ hc
  subst hA hn hc
  have hl0 : l = [] := List.eq_nil_of_length_eq_zero h1.len
  subst hl0
  obtain ⟨v', w', hrun, r1, r2, _⟩ := run_append_own (P := Tryz.prog) w w.heap.size 22 o.type 28 i0 _ 5 88 Tryz.underlying22 hi hz hsz1 hsz2 rfl (by omega) (.slice none 0 0) 0 [] (World.ownsRow_nil w _ _ 5) ⟨b, 0, none⟩ 1 c' (kcells t) rfl hnews hone (by unfold maxLen; omega) (by omega) (Nat.le_refl _)
  exact far_ hrun r1 r2
 ·
  injection hv with hA _ hc
  subst hA hc
  by_cases hroom : n + 1 ≤ c
  ·
   obtain ⟨w', hrun, r1, r2⟩ := run_append_own_spare (P := Tryz.prog) w lo 22 o.type 28 i0 5 Tryz.underlying22 hi hsz1 g n c (l.flatMap kcells) h1.own ⟨b, 0, none⟩ 1 c' (kcells t) rfl hnews hone hroom
   rw [e] at r1
   exact run_ hrun (h _ _ _ ⟨hl2, r1⟩ (OwnC.init ⟨hl2, r1⟩) r2)
  ·
   have hold : ∀ j u, (l.flatMap kcells)[j]? = some u → w.cell? ((⟨g, 0, none⟩ : Addr).add j) = some u := by
    intro j u hu
    have h9 : j < n * 5 := by
     have h11 := (List.getElem?_eq_some_iff.1 hu).1
     rw [flatC_len, h1.len] at h11
     exact h11
    rw [← h8, List.getElem?_take, if_pos h9, Array.getElem?_toList] at hu
    rw [show (⟨g, 0, none⟩ : Addr).add j = ⟨g, j, none⟩ by unfold Addr.add; split <;> simp_all]
    have h10 : w.cell? ⟨g, j, none⟩ = cur[j]? := by simp [World.cell?, h4]
    rw [h10]
    exact hu
   obtain ⟨v', w', hrun, r1, r2⟩ := run_append_arg_grows (P := Tryz.prog) w 22 o.type 28 i0 _ 5 88 Tryz.underlying22 hi hz hsz1 hsz2 rfl (by omega) ⟨g, 0, none⟩ n c (l.flatMap kcells) (by rw [flatC_len, h1.len]) hold ⟨b, 0, none⟩ 1 c' (kcells t) rfl hnews (by omega) (by unfold maxLen; omega) (by omega)
   exact far_ hrun r1 r2
end Go.Proofs.YtgffkaconhonlaaGreat
