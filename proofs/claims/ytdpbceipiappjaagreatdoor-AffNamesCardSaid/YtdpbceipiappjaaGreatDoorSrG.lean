/-
  What an expression comes to as a sum: the program's walk.
-/
import Derived.Test.YtdpbceipiappjaaGreatDoorSrF
import Derived.Test.YtdpbceipiappjaaGreatDoorTgP
namespace Go.Proofs.YtdpbceipiappjaaGreatDoor
set_option maxRecDepth 20000
open Go.RowKit

/-- What a struct and an error tell of what a part comes to. -/
def Res (w : World) (lo : Nat) (z : Cv) (c : Int) : SR → Prop
  | .ok L k => c = 0 ∧ Ct w lo z L k
  | .err e => c = (e : Int)
theorem KR.open_ {w w' : World} {r : SR} {e : Ending} (h : KR w r e w') : ∃ (z : Cv) (c : Int), e = .returned (.tuple #[.agg #[.int .i64 z.s, .slice z.A z.n z.c, .bool z.K.s, .slice z.K.A z.K.n z.K.c, .slice z.K.B z.K.m z.K.d], .int .i64 c]) ∧ Res w' w.heap.size z c r ∧ Below w.heap.size w w' := by
  obtain ⟨hb, h⟩ := h
  cases r with
  | ok L k => obtain ⟨z, rfl, hz⟩ := h; exact ⟨z, 0, rfl, ⟨rfl, hz⟩, hb⟩
  | err c => obtain ⟨z, rfl⟩ := h; exact ⟨z, c, rfl, rfl, hb⟩
theorem Res.below {w w' : World} {lo : Nat} {z : Cv} {c : Int} {r : SR} (h : Res w lo z c r) (hb : Below w.heap.size w w') : Res w' lo z c r := by
  cases r with
  | ok L k => exact ⟨h.1, h.2.below hb⟩
  | err e => exact h
theorem Res.lower {w : World} {lo lo' : Nat} {z : Cv} {c : Int} {r : SR} (h : Res w lo z c r) (hl : lo' ≤ lo) : Res w lo' z c r := by
  cases r with
  | ok L k => exact ⟨h.1, h.2.lower hl⟩
  | err e => exact h
theorem Res.put {w : World} {lo b : Nat} {z : Cv} {c : Int} {r : SR} (h : Res w lo z c r) (hb : b < lo) (y0 y1 y2 y3 y4 : Value) : Res (put5 w b y0 y1 y2 y3 y4) lo z c r := by
  cases r with
  | ok L k => exact ⟨h.1, h.2.put hb _ _ _ _ _⟩
  | err e => exact h
/-- One part's sum, in a block of its own. -/
structure SAt (W wx : World) (lb : Nat) (z : Cv) (c : Int) (r : SR) : Prop where
  cell : C5 wx lb (.int .i64 z.s) (.slice z.A z.n z.c) (.bool z.K.s) (.slice z.K.A z.K.n z.K.c) (.slice z.K.B z.K.m z.K.d)
  below : Below W.heap.size W wx
  res : Res wx W.heap.size z c r
  lb : W.heap.size ≤ lb
theorem SAt.new {W w2 : World} {z : Cv} {lo : Nat} {c : Int} {r : SR} (hc : Res w2 lo z c r) (hlo : W.heap.size ≤ lo) (hb : Below W.heap.size W w2) : SAt W (w2.alloc (.cells #[.int .i64 z.s, .slice z.A z.n z.c, .bool z.K.s, .slice z.K.A z.K.n z.K.c, .slice z.K.B z.K.m z.K.d] 39)) w2.heap.size z c r :=
  ⟨C5.new w2 (.int .i64 z.s) (.slice z.A z.n z.c) (.bool z.K.s) (.slice z.K.A z.K.n z.K.c) (.slice z.K.B z.K.m z.K.d), hb.alloc hb.size _, (hc.below ((Below.refl _ _).alloc (Nat.le_refl _) _)).lower hlo, hb.size⟩
theorem SAt.put {W w2 : World} {z : Cv} {lo nb : Nat} {c : Int} {r : SR} (hk : C5 w2 nb (.int .i64 0) (.slice none 0 0) (.bool false) (.slice none 0 0) (.slice none 0 0)) (hc : Res w2 lo z c r) (hnb : W.heap.size ≤ nb) (hlo : nb < lo) (hb : Below W.heap.size W w2) : SAt W (put5 w2 nb (.int .i64 z.s) (.slice z.A z.n z.c) (.bool z.K.s) (.slice z.K.A z.K.n z.K.c) (.slice z.K.B z.K.m z.K.d)) nb z c r :=
  ⟨hk.put _ _ _ _ _, hb.trans (put5_below hnb _ _ _ _ _), (hc.put hlo _ _ _ _ _).lower (by omega), hnb⟩
theorem C6.at6 {w : World} {b : Nat} {x0 x1 x2 x3 x4 x5 : Value} (h : C6 w b x0 x1 x2 x3 x4 x5) : w.cell? ⟨b, 0, none⟩ = some x0 ∧ w.cell? ⟨b, 1, none⟩ = some x1 ∧ w.cell? ⟨b, 2, none⟩ = some x2 ∧ w.cell? ⟨b, 3, none⟩ = some x3 ∧ w.cell? ⟨b, 4, none⟩ = some x4 ∧ w.cell? ⟨b, 5, none⟩ = some x5 := h.facts
set_option maxHeartbeats 6400000 in
theorem walkS_num (x0 x1 x2 x3 : Value) (y : Rv) (K : Option Addr) (c : Nat) (r : Rat) (w : World) (hy : Rw w y r 5000) :
    Calls Tryz.prog 28 #[.agg #[x0, x1, x2, x3], .agg #[.int .i64 1, .bool y.s, .slice y.A y.n y.c, .slice y.B y.m y.d, .string ⟨#[]⟩, .slice K 0 c]] w (KR w (.ok [] r)) := by
  have HY := Lib.hid hy
  clear hy
  go_enter Tryz.func28, Tryz.ntmps28
  have e1 : (w.alloc (.cells #[x0, x1, x2, x3] 52)).heap.size = w.heap.size + 1 := by simp
  have e2 : ((w.alloc (.cells #[x0, x1, x2, x3] 52)).alloc (.cells #[.int .i64 1, .bool y.s, .slice y.A y.n y.c, .slice y.B y.m y.d, .string ⟨#[]⟩, .slice K 0 c] 27)).heap.size = w.heap.size + 1 + 1 := by simp
  have hB2 : Below w.heap.size w ((w.alloc (.cells #[x0, x1, x2, x3] 52)).alloc (.cells #[.int .i64 1, .bool y.s, .slice y.A y.n y.c, .slice y.B y.m y.d, .string ⟨#[]⟩, .slice K 0 c] 27)) := ((Below.refl _ _).alloc (Nat.le_refl _) _).alloc (by simp) _
  have hg := ((R4.new w x0 x1 x2 x3).below ((Below.refl _ _).alloc (Nat.le_refl _) (.cells #[.int .i64 1, .bool y.s, .slice y.A y.n y.c, .slice y.B y.m y.d, .string ⟨#[]⟩, .slice K 0 c] 27))).below ((Below.refl _ _).alloc (Nat.le_refl _) (.cells #[.int .i64 0, .slice none 0 0, .bool false, .slice none 0 0, .slice none 0 0] 39))
  have he := (C6.new (w.alloc (.cells #[x0, x1, x2, x3] 52)) (.int .i64 1) (.bool y.s) (.slice y.A y.n y.c) (.slice y.B y.m y.d) (.string ⟨#[]⟩) (.slice K 0 c)).below ((Below.refl _ _).alloc (Nat.le_refl _) (.cells #[.int .i64 0, .slice none 0 0, .bool false, .slice none 0 0, .slice none 0 0] 39))
  have hz := C5.new ((w.alloc (.cells #[x0, x1, x2, x3] 52)).alloc (.cells #[.int .i64 1, .bool y.s, .slice y.A y.n y.c, .slice y.B y.m y.d, .string ⟨#[]⟩, .slice K 0 c] 27)) (.int .i64 0) (.slice none 0 0) (.bool false) (.slice none 0 0) (.slice none 0 0)
  have hB := hB2.alloc hB2.size (.cells #[.int .i64 0, .slice none 0 0, .bool false, .slice none 0 0, .slice none 0 0] 39)
  have hs : (((w.alloc (.cells #[x0, x1, x2, x3] 52)).alloc (.cells #[.int .i64 1, .bool y.s, .slice y.A y.n y.c, .slice y.B y.m y.d, .string ⟨#[]⟩, .slice K 0 c] 27)).alloc (.cells #[.int .i64 0, .slice none 0 0, .bool false, .slice none 0 0, .slice none 0 0] 39)).heap.size = w.heap.size + 3 := by simp
  rw [e1] at he
  rw [e2] at hz
  clear e1 e2 hB2
  obtain ⟨g0, g1, g2, g3⟩ := hg.facts
  obtain ⟨e0, e1, e2, e3, e4, e5⟩ := he.facts
  go_wp2_with fail
  have HBB : Hid (Below w.heap.size w (((w.alloc (.cells #[x0, x1, x2, x3] 52)).alloc (.cells #[.int .i64 1, .bool y.s, .slice y.A y.n y.c, .slice y.B y.m y.d, .string ⟨#[]⟩, .slice K 0 c] 27)).alloc (.cells #[.int .i64 0, .slice none 0 0, .bool false, .slice none 0 0, .slice none 0 0] 39))) := hB
  generalize (((w.alloc (.cells #[x0, x1, x2, x3] 52)).alloc (.cells #[.int .i64 1, .bool y.s, .slice y.A y.n y.c, .slice y.B y.m y.d, .string ⟨#[]⟩, .slice K 0 c] 27)).alloc (.cells #[.int .i64 0, .slice none 0 0, .bool false, .slice none 0 0, .slice none 0 0] 39)) = W at *
  refine (constant_c y r _ (HY.out.below HBB.out)).mono ?_
  rintro e w2 ⟨z, rfl, hzc, hb⟩
  have kz2 := hz.below hb
  have hB3 := hB.trans (hb.mono (by omega))
  have HZ := Lib.hid (hzc.lower (show w.heap.size + 3 ≤ W.heap.size by omega))
  clear g0 g1 g2 g3 e0 e1 e2 e3 e4 e5 hb hg he hz hB hzc
  obtain ⟨q0, q1, q2, q3, q4⟩ := kz2.facts
  obtain ⟨t0, t1, t2, t3, t4⟩ := kz2.thaw
  go_wp2
  refine ret5t (fn := Tryz.f28) Tryz.results28 rfl rfl rfl (kz2.put _ _ _ _ _) ?_
  exact ⟨hB3.trans (put5_below (by omega) _ _ _ _ _), z, rfl, (HZ.out.put (by omega) _ _ _ _ _).lower (by omega)⟩
set_option maxHeartbeats 6400000 in
theorem walkS_nm (x0 x1 x2 x3 : Value) (y : Rv) (s : ByteArray) (K : Option Addr) (c : Nat) (R : SR) (w : World) (hn : ∀ w', Below w.heap.size w w' → Calls Tryz.prog 45 #[.agg #[x0, x1, x2, x3], .string s] w' (KR w' R)) :
    Calls Tryz.prog 28 #[.agg #[x0, x1, x2, x3], .agg #[.int .i64 2, .bool y.s, .slice y.A y.n y.c, .slice y.B y.m y.d, .string s, .slice K 0 c]] w (KR w (R)) := by
  have HN := Lib.hid hn
  clear hn
  go_enter Tryz.func28, Tryz.ntmps28
  have e1 : (w.alloc (.cells #[x0, x1, x2, x3] 52)).heap.size = w.heap.size + 1 := by simp
  have e2 : ((w.alloc (.cells #[x0, x1, x2, x3] 52)).alloc (.cells #[.int .i64 2, .bool y.s, .slice y.A y.n y.c, .slice y.B y.m y.d, .string s, .slice K 0 c] 27)).heap.size = w.heap.size + 1 + 1 := by simp
  have hB2 : Below w.heap.size w ((w.alloc (.cells #[x0, x1, x2, x3] 52)).alloc (.cells #[.int .i64 2, .bool y.s, .slice y.A y.n y.c, .slice y.B y.m y.d, .string s, .slice K 0 c] 27)) := ((Below.refl _ _).alloc (Nat.le_refl _) _).alloc (by simp) _
  have hg := ((R4.new w x0 x1 x2 x3).below ((Below.refl _ _).alloc (Nat.le_refl _) (.cells #[.int .i64 2, .bool y.s, .slice y.A y.n y.c, .slice y.B y.m y.d, .string s, .slice K 0 c] 27))).below ((Below.refl _ _).alloc (Nat.le_refl _) (.cells #[.int .i64 0, .slice none 0 0, .bool false, .slice none 0 0, .slice none 0 0] 39))
  have he := (C6.new (w.alloc (.cells #[x0, x1, x2, x3] 52)) (.int .i64 2) (.bool y.s) (.slice y.A y.n y.c) (.slice y.B y.m y.d) (.string s) (.slice K 0 c)).below ((Below.refl _ _).alloc (Nat.le_refl _) (.cells #[.int .i64 0, .slice none 0 0, .bool false, .slice none 0 0, .slice none 0 0] 39))
  have hz := C5.new ((w.alloc (.cells #[x0, x1, x2, x3] 52)).alloc (.cells #[.int .i64 2, .bool y.s, .slice y.A y.n y.c, .slice y.B y.m y.d, .string s, .slice K 0 c] 27)) (.int .i64 0) (.slice none 0 0) (.bool false) (.slice none 0 0) (.slice none 0 0)
  have hB := hB2.alloc hB2.size (.cells #[.int .i64 0, .slice none 0 0, .bool false, .slice none 0 0, .slice none 0 0] 39)
  have hs : (((w.alloc (.cells #[x0, x1, x2, x3] 52)).alloc (.cells #[.int .i64 2, .bool y.s, .slice y.A y.n y.c, .slice y.B y.m y.d, .string s, .slice K 0 c] 27)).alloc (.cells #[.int .i64 0, .slice none 0 0, .bool false, .slice none 0 0, .slice none 0 0] 39)).heap.size = w.heap.size + 3 := by simp
  rw [e1] at he
  rw [e2] at hz
  clear e1 e2 hB2
  obtain ⟨g0, g1, g2, g3⟩ := hg.facts
  obtain ⟨e0, e1, e2, e3, e4, e5⟩ := he.facts
  go_wp2_with fail
  have HBB : Hid (Below w.heap.size w (((w.alloc (.cells #[x0, x1, x2, x3] 52)).alloc (.cells #[.int .i64 2, .bool y.s, .slice y.A y.n y.c, .slice y.B y.m y.d, .string s, .slice K 0 c] 27)).alloc (.cells #[.int .i64 0, .slice none 0 0, .bool false, .slice none 0 0, .slice none 0 0] 39))) := hB
  generalize (((w.alloc (.cells #[x0, x1, x2, x3] 52)).alloc (.cells #[.int .i64 2, .bool y.s, .slice y.A y.n y.c, .slice y.B y.m y.d, .string s, .slice K 0 c] 27)).alloc (.cells #[.int .i64 0, .slice none 0 0, .bool false, .slice none 0 0, .slice none 0 0] 39)) = W at *
  refine ((HN.out _ HBB.out).mono fun e w' h => KR.open_ h).mono ?_
  rintro e w2 ⟨z, cc, rfl, hr, hb⟩
  have kz2 := hz.below hb
  have hB3 := hB.trans (hb.mono (by omega))
  have HR := Lib.hid (hr.lower (show w.heap.size + 3 ≤ W.heap.size by omega))
  clear g0 g1 g2 g3 e0 e1 e2 e3 e4 e5 hb hg he hz hB hr
  obtain ⟨q0, q1, q2, q3, q4⟩ := kz2.facts
  obtain ⟨t0, t1, t2, t3, t4⟩ := kz2.thaw
  go_wp2
  refine ret5t (fn := Tryz.f28) Tryz.results28 rfl rfl rfl (kz2.put _ _ _ _ _) ?_
  refine ⟨hB3.trans (put5_below (by omega) _ _ _ _ _), ?_⟩
  have h9 := HR.out
  cases R with
  | ok L k => obtain ⟨rfl, h9⟩ := h9; exact ⟨z, rfl, (h9.put (by omega) _ _ _ _ _).lower (by omega)⟩
  | err e => subst h9; exact ⟨z, rfl⟩
end Go.Proofs.YtdpbceipiappjaaGreatDoor
