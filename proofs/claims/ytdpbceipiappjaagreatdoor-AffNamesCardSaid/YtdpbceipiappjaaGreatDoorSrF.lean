/-
  What a name means: the program's.
-/
import Derived.Test.YtdpbceipiappjaaGreatDoorSrE
import Derived.Test.YtdpbceipiappjaaGreatDoorPick
namespace Go.Proofs.YtdpbceipiappjaaGreatDoor
set_option maxRecDepth 20000
open Go.RowKit

/-- What names mean, as slices. -/
structure Nv where
  VA : Option Addr
  vn : Nat
  vc : Nat
  NA : Option Addr
  nn : Nat
  nc : Nat
  LA : Option Addr
  ln : Nat
  lc : Nat
/-- The slices hold such names and numbers. -/
structure EnvOk (w : World) (v : Nv) (ss ns : List ByteArray) (L : List Rat) : Prop where
  vars : Strs w v.VA v.vn ss
  names : Strs w v.NA v.nn ns
  vals : ∃ l, Nums w v.LA v.ln l ∧ RdV w 1900 l L
  vn : v.vn ≤ 1000
  nn : v.nn ≤ 1000
  ln : v.ln ≤ 1000
theorem EnvOk.below {w w' : World} {v : Nv} {ss ns : List ByteArray} {L : List Rat} (h : EnvOk w v ss ns L) (hb : Below w.heap.size w w') : EnvOk w' v ss ns L := by
  obtain ⟨l, h1, h2⟩ := h.vals
  exact ⟨h.vars.below hb, h.names.below hb, ⟨l, h1.below hb, RdV.below hb h2⟩, h.vn, h.nn, h.ln⟩
/-- What a name comes to. -/
def gOf (f : Int → List (Int × Rat) × Rat) (ss ns : List ByteArray) (L : List Rat) (s : ByteArray) : Option (List (Int × Rat) × Rat) :=
  match ixB s ss with
  | some i => some (f i)
  | none => match ixB s ns with
    | some i => some ([], atV L i)
    | none => none
/-- The block of a reader. -/
def R4 (w : World) (g : Nat) (x0 x1 x2 x3 : Value) : Prop := w.heap[g]? = some (.cells #[x0, x1, x2, x3] 52 (0, 0))
section
variable {w w' : World} {g : Nat} {x0 x1 x2 x3 : Value}
theorem R4.lt (h : R4 w g x0 x1 x2 x3) : g < w.heap.size := by
  rcases Nat.lt_or_ge g w.heap.size with h1 | h1
  · exact h1
  · have : w.heap[g]? = none := Array.getElem?_eq_none h1
    rw [R4, this] at h; cases h
theorem R4.below (h : R4 w g x0 x1 x2 x3) (hb : Below w.heap.size w w') : R4 w' g x0 x1 x2 x3 := (hb.block g h.lt).trans h
theorem R4.new (w : World) (x0 x1 x2 x3 : Value) : R4 (w.alloc (.cells #[x0, x1, x2, x3] 52)) w.heap.size x0 x1 x2 x3 := heap_alloc_new w _
theorem R4.facts (h : R4 w g x0 x1 x2 x3) : w.cell? ⟨g, 0, none⟩ = some x0 ∧ w.cell? ⟨g, 1, none⟩ = some x1 ∧ w.cell? ⟨g, 2, none⟩ = some x2 ∧ w.cell? ⟨g, 3, none⟩ = some x3 := by
  have h' : w.heap[g]? = some (.cells #[x0, x1, x2, x3] 52 (0, 0)) := h
  refine ⟨?_, ?_, ?_, ?_⟩ <;> simp [World.cell?, h']
end
theorem nums_nil (w : World) : Nums w none 0 [] := ⟨rfl, fun h => absurd h (by omega)⟩
set_option maxHeartbeats 3200000 in
theorem fixed_c (i : Nat) (b : Nat) (w : World) (hi : i ≤ 1000000) (h : w.cell? ⟨b, 0, none⟩ = some (.slice none 0 0)) (hbl : b < w.heap.size) :
    Calls Tryz.prog 17 #[.int .i64 (i : Int), .pointer (some ⟨b, 0, none⟩)] w fun e w' => ∃ z : Cv, e = .returned (.agg #[.int .i64 z.s, .slice z.A z.n z.c, .bool z.K.s, .slice z.K.A z.K.n z.K.c, .slice z.K.B z.K.m z.K.d]) ∧ Ct w' w.heap.size z [] 0 ∧ Below w.heap.size w w' := by
  have HI : Hid (-9223372036854775808 ≤ (i : Int) ∧ (i : Int) ≤ 9223372036854775807) := ⟨by omega, by omega⟩
  clear hi
  go_enter Tryz.func17, Tryz.ntmps17
  have kz := C5.new w (.int .i64 0) (.slice none 0 0) (.bool false) (.slice none 0 0) (.slice none 0 0)
  have hB : Below w.heap.size w (w.alloc (.cells #[.int .i64 0, .slice none 0 0, .bool false, .slice none 0 0, .slice none 0 0] 39)) := (Below.refl _ _).alloc (Nat.le_refl _) _
  have hs : (w.alloc (.cells #[.int .i64 0, .slice none 0 0, .bool false, .slice none 0 0, .slice none 0 0] 39)).heap.size = w.heap.size + 1 := by simp
  have h1 : (w.alloc (.cells #[.int .i64 0, .slice none 0 0, .bool false, .slice none 0 0, .slice none 0 0] 39)).cell? ⟨b, 0, none⟩ = some (.slice none 0 0) := (World.cell?_of_block (hB.block b hbl)).trans h
  go_wp2_with fail
  generalize w.alloc (.cells #[.int .i64 0, .slice none 0 0, .bool false, .slice none 0 0, .slice none 0 0] 39) = W at *
  refine (pick_c none 0 0 [] [] (i : Int) _ (nums_nil _) trivial (by omega) HI.out).mono ?_
  rintro e w1 ⟨x, rfl, hx, hb⟩
  have kz1 := kz.below hb
  have hB1 := hB.trans (hb.mono (by omega))
  have hs1 := hb.size
  have e0 : atV [] (i : Int) = 0 := by unfold atV; split <;> simp
  rw [e0] at hx
  have HX := Lib.hid hx
  clear hb kz hB hx e0 h h1
  go_wp2_with fail
  refine (constant_c x 0 _ (HX.out.more (by omega))).mono ?_
  rintro e w2 ⟨z, rfl, hz, hb⟩
  have kz2 := kz1.below hb
  have hB2 := hB1.trans (hb.mono hB1.size)
  have HZ := Lib.hid (hz.lower (show w.heap.size + 1 ≤ w1.heap.size by omega))
  clear hb kz1 hB1 hz hs1 hs
  obtain ⟨q0, q1, q2, q3, q4⟩ := kz2.facts
  obtain ⟨t0, t1, t2, t3, t4⟩ := kz2.thaw
  go_wp2
  refine ret5 (fn := Tryz.f17) Tryz.results17 rfl rfl kz2 ?_
  exact ⟨z, rfl, (HZ.out.put (by omega) _ _ _ _ _).lower (by omega), hB2.trans (put5_below (by omega) _ _ _ _ _)⟩
def fOf (i : Int) : List (Int × Rat) × Rat := ([(i, ((1 : Int) : Rat))], ((0 : Int) : Rat))
def fAt (_ : Int) : List (Int × Rat) × Rat := ([], 0)
set_option maxHeartbeats 6400000 in
theorem namedV_c (v : Nv) (ss ns : List ByteArray) (L : List Rat) (s : ByteArray) (w : World) (h : EnvOk w v ss ns L) :
    Calls Tryz.prog 45 #[.agg #[.slice v.VA v.vn v.vc, .slice v.NA v.nn v.nc, .slice v.LA v.ln v.lc, .func (.func 15) #[] #[]], .string s] w (KR w (nmS (gOf fOf ss ns L s))) := by
  have hg := (R4.new w (.slice v.VA v.vn v.vc) (.slice v.NA v.nn v.nc) (.slice v.LA v.ln v.lc) (.func (.func 15) #[] #[])).below ((Below.refl _ _).alloc (Nat.le_refl _) (.cells #[.int .i64 0, .slice none 0 0, .bool false, .slice none 0 0, .slice none 0 0] 39))
  have kz := C5.new (w.alloc (.cells #[.slice v.VA v.vn v.vc, .slice v.NA v.nn v.nc, .slice v.LA v.ln v.lc, .func (.func 15) #[] #[]] 52)) (.int .i64 0) (.slice none 0 0) (.bool false) (.slice none 0 0) (.slice none 0 0)
  have e1 : (w.alloc (.cells #[.slice v.VA v.vn v.vc, .slice v.NA v.nn v.nc, .slice v.LA v.ln v.lc, .func (.func 15) #[] #[]] 52)).heap.size = w.heap.size + 1 := by simp
  rw [e1] at kz
  have hB : Below w.heap.size w ((w.alloc (.cells #[.slice v.VA v.vn v.vc, .slice v.NA v.nn v.nc, .slice v.LA v.ln v.lc, .func (.func 15) #[] #[]] 52)).alloc (.cells #[.int .i64 0, .slice none 0 0, .bool false, .slice none 0 0, .slice none 0 0] 39)) := ((Below.refl _ _).alloc (Nat.le_refl _) _).alloc (by simp) _
  have hs : ((w.alloc (.cells #[.slice v.VA v.vn v.vc, .slice v.NA v.nn v.nc, .slice v.LA v.ln v.lc, .func (.func 15) #[] #[]] 52)).alloc (.cells #[.int .i64 0, .slice none 0 0, .bool false, .slice none 0 0, .slice none 0 0] 39)).heap.size = w.heap.size + 2 := by simp
  clear e1
  obtain ⟨g0, g1, g2, g3⟩ := hg.facts
  unfold gOf
  cases hv : ixB s ss with
  | some i =>
    have HV := Lib.hid hv
    have HI : Hid (i ≤ 1000000) := by show i ≤ 1000000; have h1 := ixB_lt hv; have h2 := h.vars.len; have h3 := h.vn; omega
    have i0 : (0 : Int) ≤ (i : Int) := by omega
    clear hv
    go_enter Tryz.func45, Tryz.ntmps45
    go_wp2_with fail
    have HA : Hid (EnvOk ((w.alloc (.cells #[.slice v.VA v.vn v.vc, .slice v.NA v.nn v.nc, .slice v.LA v.ln v.lc, .func (.func 15) #[] #[]] 52)).alloc (.cells #[.int .i64 0, .slice none 0 0, .bool false, .slice none 0 0, .slice none 0 0] 39)) v ss ns L) := h.below hB
    generalize (w.alloc (.cells #[.slice v.VA v.vn v.vc, .slice v.NA v.nn v.nc, .slice v.LA v.ln v.lc, .func (.func 15) #[] #[]] 52)).alloc (.cells #[.int .i64 0, .slice none 0 0, .bool false, .slice none 0 0, .slice none 0 0] 39) = W at *
    clear h
    refine (index_c v.VA v.vn v.vc ss s _ HA.out.vars (by have := HA.out.vn; omega)).mono ?_
    rintro e w' ⟨rfl, rfl⟩
    have hI : ixI s ss = (i : Int) := by unfold ixI; rw [HV.out]
    rw [hI]
    clear hI
    go_wp2_with fail
    refine (variable_c i _).mono ?_
    rintro e w2 ⟨z, rfl, hz, hb⟩
    have kz2 := kz.below hb
    have hB2 := hB.trans (hb.mono (by omega))
    have HZ := Lib.hid (hz.lower (show w.heap.size + 2 ≤ W.heap.size by omega))
    clear g0 g1 g2 g3 hb hg kz hB hz i0
    obtain ⟨q0, q1, q2, q3, q4⟩ := kz2.facts
    obtain ⟨t0, t1, t2, t3, t4⟩ := kz2.thaw
    go_wp2
    refine ret5t (fn := Tryz.f45) Tryz.results45 rfl rfl rfl (kz2.put _ _ _ _ _) ?_
    exact ⟨hB2.trans (put5_below (by omega) _ _ _ _ _), z, rfl, (HZ.out.put (by omega) _ _ _ _ _).lower (by omega)⟩
  | none =>
    cases hn : ixB s ns with
    | some i =>
      have HV := Lib.hid hv
      have HN := Lib.hid hn
      have HI : Hid (-9223372036854775808 ≤ (i : Int) ∧ (i : Int) ≤ 9223372036854775807) := by
        have h1 := ixB_lt hn; have h2 := h.names.len; have h3 := h.nn
        exact ⟨by omega, by omega⟩
      have i0 : (0 : Int) ≤ (i : Int) := by omega
      clear hv hn
      go_enter Tryz.func45, Tryz.ntmps45
      go_wp2_with fail
      have HA : Hid (EnvOk ((w.alloc (.cells #[.slice v.VA v.vn v.vc, .slice v.NA v.nn v.nc, .slice v.LA v.ln v.lc, .func (.func 15) #[] #[]] 52)).alloc (.cells #[.int .i64 0, .slice none 0 0, .bool false, .slice none 0 0, .slice none 0 0] 39)) v ss ns L) := h.below hB
      generalize (w.alloc (.cells #[.slice v.VA v.vn v.vc, .slice v.NA v.nn v.nc, .slice v.LA v.ln v.lc, .func (.func 15) #[] #[]] 52)).alloc (.cells #[.int .i64 0, .slice none 0 0, .bool false, .slice none 0 0, .slice none 0 0] 39) = W at *
      clear h
      refine (index_c v.VA v.vn v.vc ss s _ HA.out.vars (by have := HA.out.vn; omega)).mono ?_
      rintro e w' ⟨rfl, rfl⟩
      have hI : ixI s ss = -1 := by unfold ixI; rw [HV.out]
      rw [hI]
      clear hI
      go_wp2_with fail
      refine (index_c v.NA v.nn v.nc ns s _ HA.out.names (by have := HA.out.nn; omega)).mono ?_
      rintro e w' ⟨rfl, rfl⟩
      have hI : ixI s ns = (i : Int) := by unfold ixI; rw [HN.out]
      rw [hI]
      clear hI
      go_wp2_with fail
      obtain ⟨l, hl1, hl2⟩ := HA.out.vals
      refine (pick_c v.LA v.ln v.lc l L (i : Int) _ hl1 hl2 HA.out.ln HI.out).mono ?_
      rintro e w1 ⟨x, rfl, hx, hb⟩
      have kz1 := kz.below hb
      have hB1 := hB.trans (hb.mono (by omega))
      have hs1 := hb.size
      have HX := Lib.hid hx
      clear hb kz hB hx g0 g1 g2 g3 hg hl1 hl2 i0
      go_wp2_with fail
      refine (constant_c x (atV L i) _ (HX.out.more (by omega))).mono ?_
      rintro e w2 ⟨z, rfl, hz, hb⟩
      have kz2 := kz1.below hb
      have hB2 := hB1.trans (hb.mono hB1.size)
      have HZ := Lib.hid (hz.lower (show w.heap.size + 2 ≤ w1.heap.size by omega))
      clear hb kz1 hB1 hz hs1 hs
      obtain ⟨q0, q1, q2, q3, q4⟩ := kz2.facts
      obtain ⟨t0, t1, t2, t3, t4⟩ := kz2.thaw
      go_wp2
      refine ret5t (fn := Tryz.f45) Tryz.results45 rfl rfl rfl (kz2.put _ _ _ _ _) ?_
      exact ⟨hB2.trans (put5_below (by omega) _ _ _ _ _), z, rfl, (HZ.out.put (by omega) _ _ _ _ _).lower (by omega)⟩
    | none =>
      have HV := Lib.hid hv
      have HN := Lib.hid hn
      clear hv hn
      go_enter Tryz.func45, Tryz.ntmps45
      go_wp2_with fail
      have HA : Hid (EnvOk ((w.alloc (.cells #[.slice v.VA v.vn v.vc, .slice v.NA v.nn v.nc, .slice v.LA v.ln v.lc, .func (.func 15) #[] #[]] 52)).alloc (.cells #[.int .i64 0, .slice none 0 0, .bool false, .slice none 0 0, .slice none 0 0] 39)) v ss ns L) := h.below hB
      generalize (w.alloc (.cells #[.slice v.VA v.vn v.vc, .slice v.NA v.nn v.nc, .slice v.LA v.ln v.lc, .func (.func 15) #[] #[]] 52)).alloc (.cells #[.int .i64 0, .slice none 0 0, .bool false, .slice none 0 0, .slice none 0 0] 39) = W at *
      clear h
      refine (index_c v.VA v.vn v.vc ss s _ HA.out.vars (by have := HA.out.vn; omega)).mono ?_
      rintro e w' ⟨rfl, rfl⟩
      have hI : ixI s ss = -1 := by unfold ixI; rw [HV.out]
      rw [hI]
      clear hI
      go_wp2_with fail
      refine (index_c v.NA v.nn v.nc ns s _ HA.out.names (by have := HA.out.nn; omega)).mono ?_
      rintro e w' ⟨rfl, rfl⟩
      have hI : ixI s ns = -1 := by unfold ixI; rw [HN.out]
      rw [hI]
      clear hI g0 g1 g2 g3 hg
      obtain ⟨q0, q1, q2, q3, q4⟩ := kz.facts
      obtain ⟨t0, t1, t2, t3, t4⟩ := kz.thaw
      go_wp2
      refine ret5t (fn := Tryz.f45) Tryz.results45 rfl rfl rfl (kz.put _ _ _ _ _) ?_
      exact ⟨hB.trans (put5_below (by omega) _ _ _ _ _), Kz, rfl⟩
set_option maxHeartbeats 6400000 in
theorem namedF_c (v : Nv) (ss ns : List ByteArray) (L : List Rat) (s : ByteArray) (b : Nat) (w : World) (h : EnvOk w v ss ns L) (hat : w.cell? ⟨b, 0, none⟩ = some (.slice none 0 0) ∧ b < w.heap.size) :
    Calls Tryz.prog 45 #[.agg #[.slice v.VA v.vn v.vc, .slice v.NA v.nn v.nc, .slice v.LA v.ln v.lc, .func (.func 17) #[] #[.pointer (some ⟨b, 0, none⟩)]], .string s] w (KR w (nmS (gOf fAt ss ns L s))) := by
  have hg := (R4.new w (.slice v.VA v.vn v.vc) (.slice v.NA v.nn v.nc) (.slice v.LA v.ln v.lc) (.func (.func 17) #[] #[.pointer (some ⟨b, 0, none⟩)])).below ((Below.refl _ _).alloc (Nat.le_refl _) (.cells #[.int .i64 0, .slice none 0 0, .bool false, .slice none 0 0, .slice none 0 0] 39))
  have kz := C5.new (w.alloc (.cells #[.slice v.VA v.vn v.vc, .slice v.NA v.nn v.nc, .slice v.LA v.ln v.lc, .func (.func 17) #[] #[.pointer (some ⟨b, 0, none⟩)]] 52)) (.int .i64 0) (.slice none 0 0) (.bool false) (.slice none 0 0) (.slice none 0 0)
  have e1 : (w.alloc (.cells #[.slice v.VA v.vn v.vc, .slice v.NA v.nn v.nc, .slice v.LA v.ln v.lc, .func (.func 17) #[] #[.pointer (some ⟨b, 0, none⟩)]] 52)).heap.size = w.heap.size + 1 := by simp
  rw [e1] at kz
  have hB : Below w.heap.size w ((w.alloc (.cells #[.slice v.VA v.vn v.vc, .slice v.NA v.nn v.nc, .slice v.LA v.ln v.lc, .func (.func 17) #[] #[.pointer (some ⟨b, 0, none⟩)]] 52)).alloc (.cells #[.int .i64 0, .slice none 0 0, .bool false, .slice none 0 0, .slice none 0 0] 39)) := ((Below.refl _ _).alloc (Nat.le_refl _) _).alloc (by simp) _
  have hs : ((w.alloc (.cells #[.slice v.VA v.vn v.vc, .slice v.NA v.nn v.nc, .slice v.LA v.ln v.lc, .func (.func 17) #[] #[.pointer (some ⟨b, 0, none⟩)]] 52)).alloc (.cells #[.int .i64 0, .slice none 0 0, .bool false, .slice none 0 0, .slice none 0 0] 39)).heap.size = w.heap.size + 2 := by simp
  clear e1
  obtain ⟨g0, g1, g2, g3⟩ := hg.facts
  unfold gOf
  cases hv : ixB s ss with
  | some i =>
    have HV := Lib.hid hv
    have HI : Hid (i ≤ 1000000) := by show i ≤ 1000000; have h1 := ixB_lt hv; have h2 := h.vars.len; have h3 := h.vn; omega
    have i0 : (0 : Int) ≤ (i : Int) := by omega
    clear hv
    go_enter Tryz.func45, Tryz.ntmps45
    go_wp2_with fail
    have HA : Hid (EnvOk ((w.alloc (.cells #[.slice v.VA v.vn v.vc, .slice v.NA v.nn v.nc, .slice v.LA v.ln v.lc, .func (.func 17) #[] #[.pointer (some ⟨b, 0, none⟩)]] 52)).alloc (.cells #[.int .i64 0, .slice none 0 0, .bool false, .slice none 0 0, .slice none 0 0] 39)) v ss ns L) := h.below hB
    have HC : Hid (((w.alloc (.cells #[.slice v.VA v.vn v.vc, .slice v.NA v.nn v.nc, .slice v.LA v.ln v.lc, .func (.func 17) #[] #[.pointer (some ⟨b, 0, none⟩)]] 52)).alloc (.cells #[.int .i64 0, .slice none 0 0, .bool false, .slice none 0 0, .slice none 0 0] 39)).cell? ⟨b, 0, none⟩ = some (.slice none 0 0) ∧ b < ((w.alloc (.cells #[.slice v.VA v.vn v.vc, .slice v.NA v.nn v.nc, .slice v.LA v.ln v.lc, .func (.func 17) #[] #[.pointer (some ⟨b, 0, none⟩)]] 52)).alloc (.cells #[.int .i64 0, .slice none 0 0, .bool false, .slice none 0 0, .slice none 0 0] 39)).heap.size) := ⟨(World.cell?_of_block (hB.block b hat.2)).trans hat.1, by have := hB.size; have := hat.2; omega⟩
    generalize (w.alloc (.cells #[.slice v.VA v.vn v.vc, .slice v.NA v.nn v.nc, .slice v.LA v.ln v.lc, .func (.func 17) #[] #[.pointer (some ⟨b, 0, none⟩)]] 52)).alloc (.cells #[.int .i64 0, .slice none 0 0, .bool false, .slice none 0 0, .slice none 0 0] 39) = W at *
    clear h hat
    refine (index_c v.VA v.vn v.vc ss s _ HA.out.vars (by have := HA.out.vn; omega)).mono ?_
    rintro e w' ⟨rfl, rfl⟩
    have hI : ixI s ss = (i : Int) := by unfold ixI; rw [HV.out]
    rw [hI]
    clear hI
    go_wp2_with fail
    refine (fixed_c i b _ HI.out HC.out.1 HC.out.2).mono ?_
    rintro e w2 ⟨z, rfl, hz, hb⟩
    have kz2 := kz.below hb
    have hB2 := hB.trans (hb.mono (by omega))
    have HZ := Lib.hid (hz.lower (show w.heap.size + 2 ≤ W.heap.size by omega))
    clear g0 g1 g2 g3 hb hg kz hB hz i0
    obtain ⟨q0, q1, q2, q3, q4⟩ := kz2.facts
    obtain ⟨t0, t1, t2, t3, t4⟩ := kz2.thaw
    go_wp2
    refine ret5t (fn := Tryz.f45) Tryz.results45 rfl rfl rfl (kz2.put _ _ _ _ _) ?_
    exact ⟨hB2.trans (put5_below (by omega) _ _ _ _ _), z, rfl, (HZ.out.put (by omega) _ _ _ _ _).lower (by omega)⟩
  | none =>
    cases hn : ixB s ns with
    | some i =>
      have HV := Lib.hid hv
      have HN := Lib.hid hn
      have HI : Hid (-9223372036854775808 ≤ (i : Int) ∧ (i : Int) ≤ 9223372036854775807) := by
        have h1 := ixB_lt hn; have h2 := h.names.len; have h3 := h.nn
        exact ⟨by omega, by omega⟩
      have i0 : (0 : Int) ≤ (i : Int) := by omega
      clear hv hn
      go_enter Tryz.func45, Tryz.ntmps45
      go_wp2_with fail
      have HA : Hid (EnvOk ((w.alloc (.cells #[.slice v.VA v.vn v.vc, .slice v.NA v.nn v.nc, .slice v.LA v.ln v.lc, .func (.func 17) #[] #[.pointer (some ⟨b, 0, none⟩)]] 52)).alloc (.cells #[.int .i64 0, .slice none 0 0, .bool false, .slice none 0 0, .slice none 0 0] 39)) v ss ns L) := h.below hB
      have HC : Hid (((w.alloc (.cells #[.slice v.VA v.vn v.vc, .slice v.NA v.nn v.nc, .slice v.LA v.ln v.lc, .func (.func 17) #[] #[.pointer (some ⟨b, 0, none⟩)]] 52)).alloc (.cells #[.int .i64 0, .slice none 0 0, .bool false, .slice none 0 0, .slice none 0 0] 39)).cell? ⟨b, 0, none⟩ = some (.slice none 0 0) ∧ b < ((w.alloc (.cells #[.slice v.VA v.vn v.vc, .slice v.NA v.nn v.nc, .slice v.LA v.ln v.lc, .func (.func 17) #[] #[.pointer (some ⟨b, 0, none⟩)]] 52)).alloc (.cells #[.int .i64 0, .slice none 0 0, .bool false, .slice none 0 0, .slice none 0 0] 39)).heap.size) := ⟨(World.cell?_of_block (hB.block b hat.2)).trans hat.1, by have := hB.size; have := hat.2; omega⟩
      generalize (w.alloc (.cells #[.slice v.VA v.vn v.vc, .slice v.NA v.nn v.nc, .slice v.LA v.ln v.lc, .func (.func 17) #[] #[.pointer (some ⟨b, 0, none⟩)]] 52)).alloc (.cells #[.int .i64 0, .slice none 0 0, .bool false, .slice none 0 0, .slice none 0 0] 39) = W at *
      clear h hat
      refine (index_c v.VA v.vn v.vc ss s _ HA.out.vars (by have := HA.out.vn; omega)).mono ?_
      rintro e w' ⟨rfl, rfl⟩
      have hI : ixI s ss = -1 := by unfold ixI; rw [HV.out]
      rw [hI]
      clear hI
      go_wp2_with fail
      refine (index_c v.NA v.nn v.nc ns s _ HA.out.names (by have := HA.out.nn; omega)).mono ?_
      rintro e w' ⟨rfl, rfl⟩
      have hI : ixI s ns = (i : Int) := by unfold ixI; rw [HN.out]
      rw [hI]
      clear hI
      go_wp2_with fail
      obtain ⟨l, hl1, hl2⟩ := HA.out.vals
      refine (pick_c v.LA v.ln v.lc l L (i : Int) _ hl1 hl2 HA.out.ln HI.out).mono ?_
      rintro e w1 ⟨x, rfl, hx, hb⟩
      have kz1 := kz.below hb
      have hB1 := hB.trans (hb.mono (by omega))
      have hs1 := hb.size
      have HX := Lib.hid hx
      clear hb kz hB hx g0 g1 g2 g3 hg hl1 hl2 i0
      go_wp2_with fail
      refine (constant_c x (atV L i) _ (HX.out.more (by omega))).mono ?_
      rintro e w2 ⟨z, rfl, hz, hb⟩
      have kz2 := kz1.below hb
      have hB2 := hB1.trans (hb.mono hB1.size)
      have HZ := Lib.hid (hz.lower (show w.heap.size + 2 ≤ w1.heap.size by omega))
      clear hb kz1 hB1 hz hs1 hs
      obtain ⟨q0, q1, q2, q3, q4⟩ := kz2.facts
      obtain ⟨t0, t1, t2, t3, t4⟩ := kz2.thaw
      go_wp2
      refine ret5t (fn := Tryz.f45) Tryz.results45 rfl rfl rfl (kz2.put _ _ _ _ _) ?_
      exact ⟨hB2.trans (put5_below (by omega) _ _ _ _ _), z, rfl, (HZ.out.put (by omega) _ _ _ _ _).lower (by omega)⟩
    | none =>
      have HV := Lib.hid hv
      have HN := Lib.hid hn
      clear hv hn
      go_enter Tryz.func45, Tryz.ntmps45
      go_wp2_with fail
      have HA : Hid (EnvOk ((w.alloc (.cells #[.slice v.VA v.vn v.vc, .slice v.NA v.nn v.nc, .slice v.LA v.ln v.lc, .func (.func 17) #[] #[.pointer (some ⟨b, 0, none⟩)]] 52)).alloc (.cells #[.int .i64 0, .slice none 0 0, .bool false, .slice none 0 0, .slice none 0 0] 39)) v ss ns L) := h.below hB
      have HC : Hid (((w.alloc (.cells #[.slice v.VA v.vn v.vc, .slice v.NA v.nn v.nc, .slice v.LA v.ln v.lc, .func (.func 17) #[] #[.pointer (some ⟨b, 0, none⟩)]] 52)).alloc (.cells #[.int .i64 0, .slice none 0 0, .bool false, .slice none 0 0, .slice none 0 0] 39)).cell? ⟨b, 0, none⟩ = some (.slice none 0 0) ∧ b < ((w.alloc (.cells #[.slice v.VA v.vn v.vc, .slice v.NA v.nn v.nc, .slice v.LA v.ln v.lc, .func (.func 17) #[] #[.pointer (some ⟨b, 0, none⟩)]] 52)).alloc (.cells #[.int .i64 0, .slice none 0 0, .bool false, .slice none 0 0, .slice none 0 0] 39)).heap.size) := ⟨(World.cell?_of_block (hB.block b hat.2)).trans hat.1, by have := hB.size; have := hat.2; omega⟩
      generalize (w.alloc (.cells #[.slice v.VA v.vn v.vc, .slice v.NA v.nn v.nc, .slice v.LA v.ln v.lc, .func (.func 17) #[] #[.pointer (some ⟨b, 0, none⟩)]] 52)).alloc (.cells #[.int .i64 0, .slice none 0 0, .bool false, .slice none 0 0, .slice none 0 0] 39) = W at *
      clear h hat
      refine (index_c v.VA v.vn v.vc ss s _ HA.out.vars (by have := HA.out.vn; omega)).mono ?_
      rintro e w' ⟨rfl, rfl⟩
      have hI : ixI s ss = -1 := by unfold ixI; rw [HV.out]
      rw [hI]
      clear hI
      go_wp2_with fail
      refine (index_c v.NA v.nn v.nc ns s _ HA.out.names (by have := HA.out.nn; omega)).mono ?_
      rintro e w' ⟨rfl, rfl⟩
      have hI : ixI s ns = -1 := by unfold ixI; rw [HN.out]
      rw [hI]
      clear hI g0 g1 g2 g3 hg
      obtain ⟨q0, q1, q2, q3, q4⟩ := kz.facts
      obtain ⟨t0, t1, t2, t3, t4⟩ := kz.thaw
      go_wp2
      refine ret5t (fn := Tryz.f45) Tryz.results45 rfl rfl rfl (kz.put _ _ _ _ _) ?_
      exact ⟨hB.trans (put5_below (by omega) _ _ _ _ _), Kz, rfl⟩
end Go.Proofs.YtdpbceipiappjaaGreatDoor
