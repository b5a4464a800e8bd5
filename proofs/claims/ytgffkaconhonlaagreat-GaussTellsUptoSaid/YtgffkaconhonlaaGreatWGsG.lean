/-
  Taking a sum in.
-/
import Derived.Test.YtgffkaconhonlaaGreatWGsF
import Derived.Test.YtgffkaconhonlaaGreatWRgn
namespace Go.Proofs.YtgffkaconhonlaaGreat
set_option maxRecDepth 20000
open Go.RowKit
theorem step_mapUpdate {H : Type} {P : Program} {w : World} {ops : Array Oper} {o : Oper} {a : Act} {K : Act → World → Prop} {Q : Exit → Act → World → Prop} {E : Prop} (hgd : o.guard = none) (m x v : Operand) (t : TypeId) (hop : o.op = Op.mapUpdate t m x v)
  (k e : TypeId) (Kd : Maps.Keyed P k) (ht : P.underlying t = some (.map k e)) (R : Value → Option (DataW H × List MemPlace)) (b n : Nat) (D : DataW H)
  (hm : a.eval m = .map (some b)) (hown : w.ownsMap P k R b n D) (hn : n < maxLen) (key val : Value) (kl : Lit) (hx : a.eval x = key) (hv : a.eval v = val) (hkey : keyOf P k key = some kl)
  (d : DataW H) (ps : List MemPlace) (hval : R val = some (d, ps))
  (hK : ∀ w', w'.ownsMap P k R b (n + 1) (D.put kl d) → w.grownBy w' (some b) → K (a.put o.dst undef) w') :
  if Region.wanted o (yielded ops a.tmps) = true then Oper.wp P o a w K Q else E := by
 have hw : Region.wanted o (yielded ops a.tmps) = true := by simp [Region.wanted, hgd]
 rw [if_pos hw]
 obtain ⟨w', hrun, r1, r2⟩ := hown.update Kd ht hn hkey hval
 unfold Oper.wp
 simp [execOp, hop, hm, hx, hv, hrun, Result.andThen]
 exact hK w' r1 r2
theorem ownsMap_det {H : Type} {P : Program} {w : World} {k : TypeId} {R : Value → Option (DataW H × List MemPlace)} {b n n' : Nat} {D D' : DataW H} (h : w.ownsMap P k R b n D) (h' : w.ownsMap P k R b n' D') : D = D' := by
 obtain ⟨es, c, h1, _, _, e1⟩ := h
 obtain ⟨es', c', h1', _, _, e1'⟩ := h'
 rw [h1] at h1'
 injection h1' with h2
 injection h2 with h3 _
 subst h3
 rw [e1, e1']
set_option maxHeartbeats 1600000 in
theorem isNothing_c (va : Cv) (L : List (Int × Rat)) (k : Rat) (p : Nat) (w : World) (hv : Cw w va L k p) (hp : p ≤ 10000000000) :
  Calls Tryz.prog 51 #[.agg #[.int .i64 va.s, .slice va.A va.n va.c, .bool va.K.s, .slice va.K.A va.K.n va.K.c, .slice va.K.B va.K.m va.K.d]] w fun e w' => e = .returned (.bool (decide (L = [] ∧ k = 0))) ∧ Below w.heap.size w w' := by
 have HLEN := Lib.hid hv.len
 have hb : Below w.heap.size w (w.alloc (.cells #[.int .i64 va.s, .slice va.A va.n va.c, .bool va.K.s, .slice va.K.A va.K.n va.K.c, .slice va.K.B va.K.m va.K.d] 28)) := (Below.refl _ _).alloc (Nat.le_refl _) _
 have HV := Lib.hid (And.intro (hv.below hb) hb)
 have ka := C5.new w (.int .i64 va.s) (.slice va.A va.n va.c) (.bool va.K.s) (.slice va.K.A va.K.n va.K.c) (.slice va.K.B va.K.m va.K.d)
 clear hv hb
 obtain ⟨a0, a1, a2, a3, a4⟩ := ka.facts
 clear ka
 by_cases hn : va.n = 0
 ·
  have h1 : (va.n : Int) = 0 := by omega
  have h2 : ((va.n : Int) == 0) = true := by rw [beq_iff_eq]; exact h1
  have HN := Lib.hid hn
  have HL : Hid (L = []) := List.eq_nil_of_length_eq_zero (by rw [← HLEN.out]; exact hn)
  clear hn
  go_enter Tryz.func51, Tryz.ntmps51
  go_wp2_with fail
  generalize w.alloc (.cells #[.int .i64 va.s, .slice va.A va.n va.c, .bool va.K.s, .slice va.K.A va.K.n va.K.c, .slice va.K.B va.K.m va.K.d] 28) = W at *
  refine (Zero_any va.K k _ ((HV.out.1.num).more (by omega))).mono ?_
  rintro e w2 ⟨rfl, hb2⟩
  have HB := Lib.hid (HV.out.2.trans (hb2.mono HV.out.2.size))
  clear hb2
  go_wp2
  go_ret
  refine ⟨?_, HB.out⟩
  rw [HL.out]
  simp
 ·
  have h1 : ¬ (va.n : Int) = 0 := by omega
  have h2 : ((va.n : Int) == 0) = false := by rw [beq_eq_false_iff_ne]; exact h1
  have HL : Hid (¬ L = []) := fun e => hn (by rw [HLEN.out, e]; rfl)
  clear hn
  go_enter Tryz.func51, Tryz.ntmps51
  go_wp2
  go_ret
  refine ⟨?_, HV.out.2⟩
  rw [decide_eq_false (fun h => HL.out h.1)]
  rfl
def AddRel (n P0 : Nat) (rs : List Ro) (ok : Bool) (L : List (Int × Rat)) (k : Rat) (rs' : List Ro) (ok' : Bool) : Prop :=
 (∃ k', (∀ N, Red N (rows N rs) (fn N L k) (fn N [] k')) ∧ rs' = rs ∧ ok' = (ok && decide (k' = 0))) ∨
 (∃ v q l k' t r, (∀ N, Red N (rows N rs) (fn N L k) (fn N ((v, q) :: l) k')) ∧ Asc (n : Int) 0 ((v, q) :: l) ∧ (∀ s ∈ rs, (s.v : Int) ≠ v) ∧ t ≠ 0 ∧ rs' = rs ++ [r] ∧ (r.v : Int) = v ∧ r.L = scaleL t ((v, q) :: l) ∧ r.k = k' * t ∧ r.R ≤ P0 ∧ ok' = ok)
def AddPost (n hi sb mb P0 : Nat) (rs : List Ro) (ok : Bool) (L : List (Int × Rat)) (k : Rat) (w : World) (e : Ending) (w' : World) : Prop :=
 e = .returned (.tuple #[]) ∧ ∃ rs' ok', StM n hi w' sb mb rs' ok' ∧ AddRel n P0 rs ok L k rs' ok' ∧ Two w w' sb mb
theorem row_ok {n E j : Nat} {q k t : Rat} {l : List (Int × Rat)} (ha : Asc (n : Int) 0 (((j : Int), q) :: l)) (ht : t ≠ 0) (hw : Wh E (scaleL t (((j : Int), q) :: l)) (k * t)) (hE : 1 ≤ E) : RoOk n ⟨j, scaleL t (((j : Int), q) :: l), k * t, E⟩ := by
 have hq : q * t ≠ 0 := fun e => by
  rcases Rat.mul_eq_zero.1 e with h | h
  · exact ha.2.2.1 h
  · exact ht h
 refine ⟨⟨q * t, scaleL t l, ?_⟩, ha.scale t, hw, hE⟩
 show scaleL t (((j : Int), q) :: l) = _
 rw [scaleL, lay1, if_neg hq, List.singleton_append]
set_option maxHeartbeats 12800000 in
theorem add_c (n hi sb mb E P0 : Nat) (rs : List Ro) (ok : Bool) (va : Cv) (L : List (Int × Rat)) (k : Rat) (w : World) (hst : StM n hi w sb mb rs ok) (hhi : hi ≤ w.heap.size) (hn : n ≤ 100) (hA : Asc (n : Int) 0 L) (hF : Fr E L k) (hP : E * pot rs 0 ≤ P0) (hbd : Bd P0 10000000) (hv : Cw w va L k 10000000) (hlen : rs.length ≤ 100) :
  Calls Tryz.prog 74 #[.pointer (some ⟨sb, 0, none⟩), .agg #[.int .i64 va.s, .slice va.A va.n va.c, .bool va.K.s, .slice va.K.A va.K.n va.K.c, .slice va.K.B va.K.m va.K.d]] w (AddPost n hi sb mb P0 rs ok L k w) := by
 have hsl := hst.lt
 have hb0 : Below w.heap.size w (w.alloc (.cells #[.int .i64 va.s, .slice va.A va.n va.c, .bool va.K.s, .slice va.K.A va.K.n va.K.c, .slice va.K.B va.K.m va.K.d] 28)) := (Below.refl _ _).alloc (Nat.le_refl _) _
 have k0 := C5.new w (.int .i64 va.s) (.slice va.A va.n va.c) (.bool va.K.s) (.slice va.K.A va.K.n va.K.c) (.slice va.K.B va.K.m va.K.d)
 have HPRE := Lib.hid (And.intro hst.okr (And.intro hbd (And.intro hn hlen)))
 go_enter Tryz.func74, Tryz.ntmps74
 go_wp2_with fail
 have HR : Hid (Calls Tryz.prog 40 #[.pointer (some ⟨sb, 0, none⟩), .agg #[.int .i64 va.s, .slice va.A va.n va.c, .bool va.K.s, .slice va.K.A va.K.n va.K.c, .slice va.K.B va.K.m va.K.d]] (w.alloc (.cells #[.int .i64 va.s, .slice va.A va.n va.c, .bool va.K.s, .slice va.K.A va.K.n va.K.c, .slice va.K.B va.K.m va.K.d] 28)) (RestPost n n w.heap.size rs va L k P0 (w.alloc (.cells #[.int .i64 va.s, .slice va.A va.n va.c, .bool va.K.s, .slice va.K.A va.K.n va.K.c, .slice va.K.B va.K.m va.K.d] 28)))) := rest_c n n hi sb mb E P0 w.heap.size rs ok va L k _ (hst.below hb0) (Nat.le_refl _) hn hA hF hP hbd (by simp) (fun w' h => hv.below (below_gr hb0 (Nat.le_refl _) h))
 have HST0 := Lib.hid hst
 have HHI := Lib.hid (And.intro hhi hb0)
 clear hst hhi hn hA hF hP hbd hv hlen hb0
 have HK0 := Lib.hid k0
 clear k0
 generalize w.alloc (.cells #[.int .i64 va.s, .slice va.A va.n va.c, .bool va.K.s, .slice va.K.A va.K.n va.K.c, .slice va.K.B va.K.m va.K.d] 28) = W at *
 refine HR.out.mono ?_
 rintro e w1 ⟨z, L', k', rfl, hz1, hz2, hz3, hz4, hb1⟩
 have k1 := HK0.out.below hb1
 have HB1 := Lib.hid hb1
 clear HR hz1 hb1
 obtain ⟨t0, t1, t2, t3, t4⟩ := k1.thaw
 obtain ⟨b0, b1, b2, b3, b4⟩ := k1.facts
 have HK1 := Lib.hid k1
 clear k1
 have hneb : ¬ sb = w.heap.size := by omega
 have hnec : ¬ w.heap.size = sb := by omega
 have hW1 : w.heap.size < w1.heap.size := HK1.out.lt
 have HW9 : Hid (w.heap.size + 1 ≤ w1.heap.size) := hW1
 have HPUT : Hid (C5 (((((w1.setCell ⟨w.heap.size, 0, none⟩ (.int .i64 z.s)).setCell ⟨w.heap.size, 1, none⟩ (.slice z.A z.n z.c)).setCell ⟨w.heap.size, 2, none⟩ (.bool z.K.s)).setCell ⟨w.heap.size, 3, none⟩ (.slice z.K.A z.K.n z.K.c)).setCell ⟨w.heap.size, 4, none⟩ (.slice z.K.B z.K.m z.K.d)) w.heap.size (.int .i64 z.s) (.slice z.A z.n z.c) (.bool z.K.s) (.slice z.K.A z.K.n z.K.c) (.slice z.K.B z.K.m z.K.d) ∧ Below w.heap.size w (((((w1.setCell ⟨w.heap.size, 0, none⟩ (.int .i64 z.s)).setCell ⟨w.heap.size, 1, none⟩ (.slice z.A z.n z.c)).setCell ⟨w.heap.size, 2, none⟩ (.bool z.K.s)).setCell ⟨w.heap.size, 3, none⟩ (.slice z.K.A z.K.n z.K.c)).setCell ⟨w.heap.size, 4, none⟩ (.slice z.K.B z.K.m z.K.d)) ∧ Cw (((((w1.setCell ⟨w.heap.size, 0, none⟩ (.int .i64 z.s)).setCell ⟨w.heap.size, 1, none⟩ (.slice z.A z.n z.c)).setCell ⟨w.heap.size, 2, none⟩ (.bool z.K.s)).setCell ⟨w.heap.size, 3, none⟩ (.slice z.K.A z.K.n z.K.c)).setCell ⟨w.heap.size, 4, none⟩ (.slice z.K.B z.K.m z.K.d)) z L' k' 10000000) := by
  refine ⟨HK1.out.put _ _ _ _ _, (HHI.out.2.trans (HB1.out.mono HHI.out.2.size)).trans (put5_below (Nat.le_refl _) _ _ _ _ _), ?_⟩
  exact hz2 _ (put5_grown _ _ _ _ _ _ _)
 go_upto_region 2 with fail
 clear b0 b1 b2 b3 b4 t0 t1 t2 t3 t4 hW1
 generalize (((((w1.setCell ⟨w.heap.size, 0, none⟩ (.int .i64 z.s)).setCell ⟨w.heap.size, 1, none⟩ (.slice z.A z.n z.c)).setCell ⟨w.heap.size, 2, none⟩ (.bool z.K.s)).setCell ⟨w.heap.size, 3, none⟩ (.slice z.K.A z.K.n z.K.c)).setCell ⟨w.heap.size, 4, none⟩ (.slice z.K.B z.K.m z.K.d)) = wr at *
 have HBW : Hid (Below w.heap.size w wr) := HPUT.out.2.1
 have HCW : Hid (∀ w', Below wr.heap.size wr w' → Cw w' z L' k' 10000000) := fun w' h => HPUT.out.2.2.below h
 have HST : Hid (∀ w', Below wr.heap.size wr w' → StM n hi w' sb mb rs ok) := fun w' h => (HST0.out.below HBW.out).below h
 have HLEN := Lib.hid HPUT.out.2.2.len
 have HRA := Lib.hid (And.intro hz3 hz4)
 clear hz2 hz3 hz4
 match L', HCW, HLEN, HRA, HPUT with
 |
  [], HCW, HLEN, HRA, HPUT =>
  have hi0 : ¬ (0 : Int) < (z.n : Int) := by have := HLEN.out; simp at this; omega
  obtain ⟨a0, a1, a2, a3, a4⟩ := HPUT.out.1.facts
  go_wp2_with fail
  refine (isNothing_c z [] k' 10000000 _ (HCW.out _ (Below.refl _ _)) (by omega)).mono ?_
  rintro ee w2 ⟨rfl, hb2⟩
  have HS2 := Lib.hid (HST.out _ hb2)
  have HB2 := Lib.hid (HBW.out.trans (hb2.mono HBW.out.size))
  clear a0 a1 a2 a3 a4 hb2
  by_cases hk : k' = 0
  ·
   rw [decide_eq_true ⟨rfl, hk⟩]
   have HKK := Lib.hid hk
   clear hk
   go_wp2
   refine bodyPost_end (results_none rfl _ _ _) rfl ?_
   exact ⟨rfl, rs, ok, HS2.out, .inl ⟨k', HRA.out.1.red, rfl, by rw [decide_eq_true HKK.out, Bool.and_true]⟩, Two.below HB2.out⟩
  ·
   rw [decide_eq_false (fun h => hk h.2)]
   have HKK := Lib.hid hk
   clear hk
   obtain ⟨s0, s1, s2⟩ := HS2.out.facts
   go_wp2
   refine bodyPost_end (results_none rfl _ _ _) rfl ?_
   exact ⟨rfl, rs, false, HS2.out.broken.1, .inl ⟨k', HRA.out.1.red, rfl, by rw [decide_eq_false HKK.out, Bool.and_false]⟩, (Two.below HB2.out).trans (Two.one HS2.out.broken.2)⟩
 |
  (v, q) :: l, HCW, HLEN, HRA, HPUT =>
  obtain ⟨hh, E2, hasc, hF2, hE2⟩ := HRA.out.1.sz
  have hasc0 : Asc (n : Int) 0 ((v, q) :: l) := hasc.mono (by omega)
  obtain ⟨j, rfl⟩ := Int.eq_ofNat_of_zero_le (show 0 ≤ v by have := hasc.1; omega)
  have hjn : j < n := by have := hasc.2.1; omega
  have hE1 : 1 ≤ E2 := by obtain ⟨dd_, h1, h2, _⟩ := hF2; omega
  have hEP : E2 ≤ P0 := Nat.le_trans (Nat.le_mul_of_pos_right _ (pot_pos hh HPRE.out.1)) hE2
  have HQ : Hid (q ≠ 0 ∧ Fr E2 (((j : Int), q) :: l) k' ∧ Bd E2 10000000 ∧ Asc (n : Int) 0 (((j : Int), q) :: l) ∧ 1 ≤ E2 ∧ E2 ≤ P0) := ⟨hasc.2.2.1, hF2, HPRE.out.2.1.le hEP, hasc0, hE1, hEP⟩
  have HJ : Hid (j < n ∧ j ≤ 1000) := by show _ ∧ _; have := HPRE.out.2.2.1; omega
  have HZN : Hid (z.n ≤ 400) := by show _ ≤ _; have := hasc0.len (by omega); have := HLEN.out; have := HPRE.out.2.2.1; omega
  have HZ1 : Hid (z.n ≤ 100) := by show _ ≤ _; have := hasc0.len (by omega); have := HLEN.out; have := HPRE.out.2.2.1; omega
  have HLN : Hid (rs.length ≤ 100) := HPRE.out.2.2.2
  obtain ⟨hzp, ba, oa, xa, eA, hba, hxa, hxv, _⟩ := HPUT.out.2.2.first
  have hi1 : (0 : Int) < (z.n : Int) := by omega
  have EA := Lib.hid eA
  have hzz : (⟨z.s, some ⟨ba, oa, none⟩, z.n, z.c, z.K⟩ : Cv) = z := by rw [← EA.out]
  have HCW2 : Hid (∀ w', Below wr.heap.size wr w' → Cw w' ⟨z.s, some ⟨ba, oa, none⟩, z.n, z.c, z.K⟩ (((j : Int), q) :: l) k' 10000000) := fun w' h => by rw [hzz]; exact HCW.out w' h
  clear hzz
  have HMB : Hid (mb < wr.heap.size ∧ sb < wr.heap.size ∧ mb ≠ w.heap.size ∧ sb ≠ mb ∧ mb < hi) := by
   have h1 := HST0.out.mbh
   have h2 := HHI.out.1
   have h3 := HBW.out.size
   have h4 := HST0.out.ne
   have h5 := HST0.out.sbh
   refine ⟨by omega, by omega, by omega, h4, h1⟩
  have HBA : Hid (ba ≠ mb) := fun e => by
   subst e
   obtain ⟨D, hD, _⟩ := (HST.out _ (Below.refl _ _)).map
   obtain ⟨es, cl, h1, _⟩ := hD
   have h2 := hxa.h0
   simp [World.cell?, h1] at h2
  have HKEEP : Hid (∀ w', wr.grownBy w' (some mb) → (fun w' => w'.cell? ⟨sb, 0, none⟩ = some (.map (some mb)) ∧ (w'.cell? ⟨w.heap.size, 0, none⟩ = some (.int .i64 z.s) ∧ w'.cell? ⟨w.heap.size, 1, none⟩ = some (.slice (some ⟨ba, oa, none⟩) z.n z.c) ∧ w'.cell? ⟨w.heap.size, 2, none⟩ = some (.bool z.K.s) ∧ w'.cell? ⟨w.heap.size, 3, none⟩ = some (.slice z.K.A z.K.n z.K.c) ∧ w'.cell? ⟨w.heap.size, 4, none⟩ = some (.slice z.K.B z.K.m z.K.d)) ∧ w'.cell? ⟨ba, oa, none⟩ = some (.int .i64 (j : Int))) w') := fun w' h => by
   have e1 : ∀ {b o : Nat} {x : Value}, b ≠ mb → b < wr.heap.size → wr.cell? ⟨b, o, none⟩ = some x → w'.cell? ⟨b, o, none⟩ = some x := fun hb hl hc => (World.cell?_of_block (h.block _ hl (fun e => hb (by injection e)))).trans hc
   have h5 := HPUT.out.1.facts
   rw [EA.out] at h5
   have hl := HPUT.out.1.lt
   have hm := HMB.out.2.2.1
   refine ⟨e1 HMB.out.2.2.2.1 HMB.out.2.1 (HST.out _ (Below.refl _ _)).facts.1, ⟨e1 (fun e => hm e.symm) hl h5.1, e1 (fun e => hm e.symm) hl h5.2.1, e1 (fun e => hm e.symm) hl h5.2.2.1, e1 (fun e => hm e.symm) hl h5.2.2.2.1, e1 (fun e => hm e.symm) hl h5.2.2.2.2⟩, e1 HBA.out hba ?_⟩
   have := hxa.h0
   rw [hxv] at this; exact this
  have HXA := Lib.hid (And.intro hba hxv)
  clear hh hasc hF2 hE2 hasc0 hjn hE1 hEP eA hzp hba hxa hxv
  obtain ⟨s0, ⟨a0, a1, a2, a3, a4⟩, x0⟩ := HKEEP.out _ (grown_refl _ _)
  go_upto_region 3 with fail
  refine wp_region_held_drew (S := fun w' => w'.cell? ⟨sb, 0, none⟩ = some (.map (some mb)) ∧ (w'.cell? ⟨w.heap.size, 0, none⟩ = some (.int .i64 z.s) ∧ w'.cell? ⟨w.heap.size, 1, none⟩ = some (.slice (some ⟨ba, oa, none⟩) z.n z.c) ∧ w'.cell? ⟨w.heap.size, 2, none⟩ = some (.bool z.K.s) ∧ w'.cell? ⟨w.heap.size, 3, none⟩ = some (.slice z.K.A z.K.n z.K.c) ∧ w'.cell? ⟨w.heap.size, 4, none⟩ = some (.slice z.K.B z.K.m z.K.d)) ∧ w'.cell? ⟨ba, oa, none⟩ = some (.int .i64 (j : Int))) (by kernel_rfl) ?_ (fun hHeld => ?_)
  · exact HKEEP.out _ (by first | exact grown_row (Below.refl _ _) _ | exact grown_row (bel1 _) _ | exact grown_row H8.out.1 _ | exact (grown_row H8.out.1 _).trans H9.out.2)
  refine tk (i := 0) (h := ?_)
  try simp only [zR]
  refine tk (i := 1) (h := ?_)
  try simp only [zR]
  refine tk (i := 2) (h := ?_)
  try simp only [zR]
  refine tk (i := 3) (h := ?_)
  try simp only [zR]
  refine tk (i := 4) (h := ?_)
  try simp only [zR]
  refine tk (i := 5) (h := ?_)
  try simp only [zR]
  refine tk (i := 6) (h := ?_)
  try simp only [zR]
  refine tk (i := 7) (h := ?_)
  try simp only [zR]
  refine tk (i := 8) (h := ?_)
  try simp only [zR]
  refine tk (i := 9) (h := ?_)
  try simp only [zR]
  refine tr [10] ?_
  refine tc (h := fun K hK => ?_) (hs := tn)
  try go_simp
  go_at_call 98
  refine (inLowest_c ⟨z.s, some ⟨ba, oa, none⟩, z.n, z.c, z.K⟩ (j : Int) q k' l E2 10000000 _ (HCW2.out _ (bel1 _)) HQ.out.1 HQ.out.2.1 HQ.out.2.2.1 HZN.out (by omega)).mono ?_
  rintro ee w8 ⟨y, t, rfl, ht, hy1, hy2, hy3, hy4, hb⟩
  have H8 := Lib.hid (And.intro ((bel1 wr).trans hb) (And.intro ht (And.intro hy2 (And.intro hy3 hy4))))
  have HL8 : Hid (wr.heap.size ≤ wr.drew.heap.size) := Nat.le_refl _
  clear hy1 hy2 hy3 hy4 hb ht s0 a0 a1 a2 a3 a4 x0
  obtain ⟨s0, ⟨a0, a1, a2, a3, a4⟩, x0⟩ := HKEEP.out _ (grown_row H8.out.1 _)
  obtain ⟨D, hD⟩ := (HST.out _ H8.out.1).map
  have HD := Lib.hid hD.1
  clear hD
  try go_wp2_with fail
  refine hK.out _ _ ?_ (fun hHeld2 => ?_)
  · exact HKEEP.out _ (by first | exact grown_row (Below.refl _ _) _ | exact grown_row (bel1 _) _ | exact grown_row H8.out.1 _ | exact (grown_row H8.out.1 _).trans H9.out.2)
  clear hK K hHeld
  have hHeld := hHeld2
  clear hHeld2
  try simp only [zR]
  refine tr [11] ?_
  refine tc (h := fun K hK => ?_) (hs := tn)
  refine step_mapUpdate rfl _ _ _ _ rfl _ _ (Maps.int_keyed Tryz.under3) map_type conR mb rs.length D rfl HD.out (by have := HLN.out; unfold maxLen; omega) _ _ (mkey j) rfl rfl (mkey_of (by have := HJ.out; omega)) (.held y) [] (conR_mk y) ?_
  intro w9 hown hgrow
  have H9 := Lib.hid (And.intro hown hgrow)
  clear hown hgrow
  try go_wp2_with fail
  refine hK.out _ _ ?_ (fun hHeld2 => ?_)
  · exact HKEEP.out _ (by first | exact grown_row (Below.refl _ _) _ | exact grown_row (bel1 _) _ | exact grown_row H8.out.1 _ | exact (grown_row H8.out.1 _).trans H9.out.2)
  clear hK K hHeld
  have hHeld := hHeld2
  clear hHeld2
  try simp only [zR]
  refine wpAnyH_done (by kernel_rfl) ?_ _
  clear hHeld s0 a0 a1 a2 a3 a4 x0
  go_wp2
  refine bodyPost_end (results_none rfl _ _ _) rfl ?_
  exact ⟨rfl, rs ++ [⟨j, scaleL t (((j : Int), q) :: l), k' * t, E2⟩], ok, (HST.out _ H8.out.1).put (row_ok HQ.out.2.2.2.1 H8.out.2.1 H8.out.2.2.2.2 HQ.out.2.2.2.2.1) (fun s hs e => HRA.out.2 (j : Int) q l rfl s hs (by rw [e])) (Nat.le_trans H8.out.2.2.1 HZ1.out) H8.out.2.2.2.1 (Nat.le_trans HHI.out.1 (Nat.le_trans HBW.out.size HL8.out)) H9.out.2 HJ.out.2 (fun D' h' => by rw [← ownsMap_det HD.out h']; exact H9.out.1), .inr ⟨(j : Int), q, l, k', t, _, HRA.out.1.red, HQ.out.2.2.2.1, HRA.out.2 (j : Int) q l rfl, H8.out.2.1, rfl, rfl, rfl, rfl, HQ.out.2.2.2.2.2, rfl⟩, ((Two.below HBW.out).trans (Two.below H8.out.1)).trans (Two.two H9.out.2)⟩
end Go.Proofs.YtgffkaconhonlaaGreat
