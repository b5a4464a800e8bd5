/-
  The document's looks over an expression that came in: whether it may be, and as which tree.
-/
import Derived.Test.YtdpbceipiappjaaGreatDoorWeight
import Derived.Test.YtdpbceipiappjaaGreatDoorExYh
namespace Go.Proofs.YtdpbceipiappjaaGreatDoor
set_option maxRecDepth 20000
open Go.RowKit

/-- A number that is none, or 0. -/
def Blk (w : World) (y : Rv) : Prop := y.s = false ∧ y.n = 0 ∧ (y.m = 0 ∨ Rt w 0 y 0)
/-- A struct that came in reads as a tree. -/
def Tg (w : World) : Ex → Ev → Prop
  | .bad, _ => False
  | .num r, v => v.k = 1 ∧ v.n = 0 ∧ v.s = ⟨#[]⟩ ∧ Rt w 0 v.r r
  | .nm s, v => v.k = 2 ∧ v.n = 0 ∧ v.s = s ∧ Blk w v.r
  | .bin k a b, v => v.k = (k : Int) ∧ v.n = 2 ∧ v.s = ⟨#[]⟩ ∧ Blk w v.r ∧ ∃ (b0 off : Nat) (x y : Ev), v.K = some ⟨b0, off, none⟩ ∧ b0 < w.heap.size ∧ At6 w b0 (off + 0 * 6) x ∧ At6 w b0 (off + 1 * 6) y ∧ Tg w a x ∧ Tg w b y
  | .neg a, v => v.k = 7 ∧ v.n = 1 ∧ v.s = ⟨#[]⟩ ∧ Blk w v.r ∧ ∃ (b0 off : Nat) (x : Ev), v.K = some ⟨b0, off, none⟩ ∧ b0 < w.heap.size ∧ At6 w b0 (off + 0 * 6) x ∧ Tg w a x
theorem row_one {w : World} {n : Nat} {A : Option Addr} {l m : List Nat} (h : Row w 0 A n l) (h' : Row w 0 A n m) : l = m := by
  refine dg_ext (by rw [h.len, h'.len]) (fun j hj => ?_)
  have hn : j < n := by rw [← h.len]; exact hj
  obtain ⟨b, off, e, _, _, hc⟩ := h.mem (by omega)
  obtain ⟨b', off', e', _, _, hc'⟩ := h'.mem (by omega)
  rw [e] at e'
  injection e' with e'
  injection e' with q1 q2
  subst q1; subst q2
  have h1 := (hc j hn).symm.trans (hc' j hn)
  injection h1 with h1
  injection h1 with _ h1
  omega
theorem rt_of_isN {w : World} {y : Rv} {a b : List Nat} {r : Rat} (h1 : y.n ≤ y.c) (h2 : y.m ≤ y.d) (ha : Row w 0 y.A y.n a) (hb : Row w 0 y.B y.m b) (hr : rn y.s (val a) (val b) = r) (h : IsN y.s a b) : Rt w 0 y r := by
  rw [IsN_iff y.s a b ha.l32 hb.l32 r hr] at h
  obtain ⟨e1, e2, e3⟩ := h
  rw [e2] at ha
  rw [e3] at hb
  exact ⟨e1, ha.len.symm, h1, ha, hb.len.symm, h2, hb⟩
theorem sumL_mem (ls : Nat → Nat) (i : Nat) : ∀ n, i < n → ls i ≤ sumL ls n := by
  intro n
  induction n with
  | zero => intro h; omega
  | succ n ih =>
    intro h
    show ls i ≤ sumL ls n + ls n
    by_cases e : i = n
    · subst e; omega
    · have := ih (by omega); omega
theorem bool_of (p : Prop) : ∃ b : Bool, b = true ↔ p := by
  by_cases h : p
  · exact ⟨true, fun _ => h, fun _ => rfl⟩
  · exact ⟨false, fun h => Bool.noConfusion h, fun h1 => absurd h1 h⟩
set_option maxHeartbeats 1600000 in
theorem rblank_any (y : Rv) (w : World) (hr : RawR w y) (h50 : y.m ≤ 75) : Calls Tryz.prog 25 #[.agg #[.bool y.s, .slice y.A y.n y.c, .slice y.B y.m y.d]] w fun e w' => ∃ b, e = .returned (.bool b) ∧ (b = true → Blk w y) ∧ Below w.heap.size w w' := by
  obtain ⟨h1, h2, _, _, a, b, ha, hb⟩ := hr
  have k_y := C3.new w (.bool y.s) (.slice y.A y.n y.c) (.slice y.B y.m y.d)
  have hb0 := (Below.refl w.heap.size w).alloc (Nat.le_refl _) (.cells #[.bool y.s, .slice y.A y.n y.c, .slice y.B y.m y.d] 24)
  obtain ⟨q0, q1, q2, q3, q4, q5⟩ := k_y.facts
  rcases Bool.eq_false_or_eq_true y.s with hs | hs
  · obtain ⟨ys, yA, yn, yc, yB, ym, yd⟩ := y
    dsimp only at *
    subst hs
    go_enter Tryz.func25, Tryz.ntmps25
    go_wp2
    go_ret
    exact ⟨false, rfl, fun h => Bool.noConfusion h, hb0⟩
  · by_cases hn : y.n = 0
    · have i1 : (y.n : Int) = 0 := by omega
      have j1 : ((y.n : Int) == 0) = true := by rw [beq_iff_eq]; exact i1
      by_cases hm : y.m = 0
      · have HB : Hid (Blk w y) := ⟨hs, hn, .inl hm⟩
        have i2 : (y.m : Int) = 0 := by omega
        have j2 : ((y.m : Int) == 0) = true := by rw [beq_iff_eq]; exact i2
        clear hn hm i1 i2
        obtain ⟨ys, yA, yn, yc, yB, ym, yd⟩ := y
        dsimp only at *
        subst hs
        go_enter Tryz.func25, Tryz.ntmps25
        go_wp2
        go_ret
        exact ⟨true, rfl, fun _ => HB.out, hb0⟩
      · have i2 : ¬ (y.m : Int) = 0 := by omega
        have j2 : ((y.m : Int) == 0) = false := beq_eq_false_iff_ne.2 i2
        have ha0 : val a = 0 := by
          have : a = [] := List.eq_nil_of_length_eq_zero (by rw [ha.len]; exact hn)
          rw [this]; rfl
        have hr0 : rn y.s (val a) (val b) = 0 := rn_zero (.inl ha0)
        obtain ⟨bb, hbb⟩ := bool_of (IsN y.s a b)
        have hw : Rw w y 0 90 := ⟨h1, h2, by omega, by omega, a, b, ha, hb, hr0⟩
        have HC := Lib.hid (rIs_c y a b 0 bb _ (hw.below hb0) (ha.below hb0) (hb.below hb0) hr0 hbb)
        have HB : Hid (bb = true → Blk w y) := fun h => ⟨hs, hn, .inr (rt_of_isN h1 h2 ha hb hr0 (hbb.1 h))⟩
        clear ha hb hw hbb ha0 hr0 hn hm i1
        obtain ⟨ys, yA, yn, yc, yB, ym, yd⟩ := y
        dsimp only at *
        subst hs
        go_enter Tryz.func25, Tryz.ntmps25
        go_wp2_with fail
        refine HC.out.mono ?_
        rintro e w1 ⟨rfl, hb1⟩
        clear q0 q1 q2 q3 q4 q5
        go_wp2
        go_ret
        exact ⟨bb, rfl, HB.out, hb0.trans (hb1.mono hb0.size)⟩
    · have i1 : ¬ (y.n : Int) = 0 := by omega
      have j1 : ((y.n : Int) == 0) = false := beq_eq_false_iff_ne.2 i1
      clear hn
      obtain ⟨ys, yA, yn, yc, yB, ym, yd⟩ := y
      dsimp only at *
      subst hs
      go_enter Tryz.func25, Tryz.ntmps25
      go_wp2
      go_ret
      exact ⟨false, rfl, fun h => Bool.noConfusion h, hb0⟩
set_option maxHeartbeats 1600000 in
theorem rGood_any (y : Rv) (a b : List Nat) (r : Rat) (w : World) (hw : Rw w y r 90) (ha : Row w 0 y.A y.n a) (hb : Row w 0 y.B y.m b) (hr : rn y.s (val a) (val b) = r) :
    Calls Tryz.prog 23 #[.agg #[.bool y.s, .slice y.A y.n y.c, .slice y.B y.m y.d]] w fun e w' => ∃ g, e = .returned (.bool g) ∧ (g = true → IsN y.s a b ∧ (lim r.num.natAbs).length ≤ 16 ∧ (lim r.den).length ≤ 16) ∧ Below w.heap.size w w' := by
  obtain ⟨bb, hbb⟩ := bool_of (IsN y.s a b)
  obtain ⟨lb, hlb⟩ : ∃ lb, Hid (decide (16 < (lim r.num.natAbs).length ∨ 16 < (lim r.den).length) = lb) := ⟨_, rfl⟩
  have HLB : Hid (lb = false → (lim r.num.natAbs).length ≤ 16 ∧ (lim r.den).length ≤ 16) := fun h => by
    have h1 := hlb.out
    rw [h] at h1
    have := of_decide_eq_false h1
    omega
  have HBB := Lib.hid hbb
  go_enter Tryz.func23, Tryz.ntmps23
  go_wp2_with fail
  generalize hW : (w.alloc (.cells #[.bool y.s, .slice y.A y.n y.c, .slice y.B y.m y.d] 24)) = W
  obtain ⟨k_v, HB, hsW⟩ := open1 w y W hW
  clear hW
  obtain ⟨v_0, v_1, v_2, v_3, v_4, v_5⟩ := k_v.facts
  replace hw := hw.below HB
  replace ha := ha.below HB
  replace hb := hb.below HB
  refine (rIs_c y a b r bb _ hw ha hb hr hbb).mono ?_
  rintro e w1 ⟨rfl, hb1⟩
  replace HB := HB.trans (hb1.mono HB.size)
  replace k_v := k_v.below hb1
  replace hw := hw.below hb1
  clear hb1 v_0 v_1 v_2 v_3 v_4 v_5 ha hb hbb hr
  obtain ⟨v_0, v_1, v_2, v_3, v_4, v_5⟩ := k_v.facts
  cases bb with
  | false =>
    go_wp2
    go_ret
    exact ⟨false, rfl, fun h => Bool.noConfusion h, HB⟩
  | true =>
    have HISN := Lib.hid (HBB.out.1 (by first | rfl | trivial))
    go_wp2_with fail
    refine (rLarge_c y r lb _ hw hlb).mono ?_
    rintro e w2 ⟨rfl, hb2⟩
    replace HB := HB.trans (hb2.mono HB.size)
    clear hb2 v_0 v_1 v_2 v_3 v_4 v_5 hw
    cases lb with
    | false =>
      go_wp2
      go_ret
      exact ⟨true, rfl, fun _ => ⟨HISN.out, HLB.out (by first | rfl | trivial)⟩, HB⟩
    | true =>
      go_wp2
      go_ret
      exact ⟨false, rfl, fun h => Bool.noConfusion h, HB⟩
theorem RawR.below {w w' : World} {y : Rv} (h : RawR w y) (hb : Below w.heap.size w w') : RawR w' y := by
  obtain ⟨h1, h2, h3, h4, a, b, ha, hb'⟩ := h
  exact ⟨h1, h2, h3, h4, a, b, ha.below hb, hb'.below hb⟩
theorem Row.back {w w' : World} {lo n : Nat} {A : Option Addr} {l m : List Nat} (h : Row w lo A n m) (hb : Below w.heap.size w w') (h' : Row w' 0 A n l) : l = m := by
  have h2 := (h.lower (Nat.zero_le _)).below hb
  exact row_one h' h2
theorem blk_back {w w' : World} {y : Rv} (hb : Below w.heap.size w w') (hr : RawR w y) (h : Blk w' y) : Blk w y := by
  obtain ⟨h1, h2, h3⟩ := h
  refine ⟨h1, h2, ?_⟩
  rcases h3 with h3 | h3
  · exact .inl h3
  · obtain ⟨c1, c2, _, _, a, b, ha, hb2⟩ := hr
    have e1 := ha.back hb h3.num
    have e2 := hb2.back hb h3.den
    rw [← e1] at ha
    rw [← e2] at hb2
    exact .inr ⟨h3.sign, h3.numLen, h3.numCap, ha, h3.denLen, h3.denCap, hb2⟩
/-- What the look answers of a struct that came in. -/
def OneP (w0 : World) (v : Ev) (d L : Nat) (w : World) (e : Ending) (w' : World) : Prop :=
  ∃ b, e = .returned (.bool b) ∧ (b = true → ∃ t : Ex, t.fine ∧ t.wf ∧ t.szd ∧ t.deep + d ≤ 33 ∧ 3 * t.nodes ≤ L ∧ Tg w0 t v) ∧ Below w.heap.size w w'
theorem oneP_no {w0 w w' : World} {v : Ev} {d L : Nat} (hb : Below w.heap.size w w') : OneP w0 v d L w (.returned (.bool false)) w' := ⟨false, rfl, fun h => Bool.noConfusion h, hb⟩
theorem st_no {st : ByteArray} (h : ¬ st = ⟨#[]⟩) : st.toList.isEmpty = false :=
  str_ne (Nat.pos_of_ne_zero fun h0 => h (ba_ext (List.eq_nil_of_length_eq_zero (by rw [data_size]; exact h0))))
set_option maxHeartbeats 6400000 in
theorem oneW_num (y : Rv) (st : ByteArray) (K : Option Addr) (n c d L : Nat) (w w0 : World) (hr : RawR w0 y) (h37 : y.n ≤ 75 ∧ y.m ≤ 75) (hL : 3 ≤ L) (hd : d ≤ 32) (hbw : Below w0.heap.size w0 w) :
    Calls Tryz.prog 13 #[.agg #[.int .i64 1, .bool y.s, .slice y.A y.n y.c, .slice y.B y.m y.d, .string st, .slice K n c], .int .i64 d] w (OneP w0 ⟨1, y, st, K, n, c⟩ d L w) := by
  have i1 : ¬ (32 : Int) < (d : Int) := by omega
  obtain ⟨h1, h2, _, _, a, b, ha, hb⟩ := hr
  obtain ⟨r, hrr⟩ : ∃ r, rn y.s (val a) (val b) = r := ⟨_, rfl⟩
  obtain ⟨G, b', hE⟩ := exW_ex r
  have HE := Lib.hid hE
  have hw : Rw w0 y r 75 := ⟨h1, h2, h37.1, h37.2, a, b, ha, hb, hrr⟩
  have HT : Hid (IsN y.s a b → Rt w0 0 y r) := fun h => rt_of_isN h1 h2 ha hb hrr h
  have k_e := C6.new w (.int .i64 1) (.bool y.s) (.slice y.A y.n y.c) (.slice y.B y.m y.d) (.string st) (.slice K n c)
  have hb0 := (Below.refl w.heap.size w).alloc (Nat.le_refl _) (.cells #[.int .i64 1, .bool y.s, .slice y.A y.n y.c, .slice y.B y.m y.d, .string st, .slice K n c] 27)
  have hbb := hbw.trans (hb0.mono hbw.size)
  replace hw := hw.below hbb
  replace ha := ha.below hbb
  replace hb := hb.below hbb
  clear hE hbb
  obtain ⟨e0, e1, e2, e3, e4, e5⟩ := k_e.facts
  go_enter Tryz.func13, Tryz.ntmps13
  go_wp2_with fail
  refine (rExact50_v G b' y r _ HE.out hw).mono ?_
  rintro e w2 ⟨rfl, hb2⟩
  replace k_e := k_e.below hb2
  replace hw := hw.below hb2
  replace ha := ha.below hb2
  replace hb := hb.below hb2
  replace hb0 := hb0.trans (hb2.mono hb0.size)
  clear hb2 e0 e1 e2 e3 e4 e5
  obtain ⟨e0, e1, e2, e3, e4, e5⟩ := k_e.facts
  by_cases hn : n = 0
  · have n1 : (n : Int) = 0 := by omega
    have n2 : ((n : Int) == 0) = true := by rw [beq_iff_eq]; exact n1
    have HN := Lib.hid hn
    clear hn n1
    by_cases hst : st = ⟨#[]⟩
    · rw [hst] at e4
      have HST := Lib.hid hst
      clear hst
      go_wp2_with fail
      refine (rGood_any y a b r _ (hw.more (by omega)) ha hb hrr).mono ?_
      rintro e w3 ⟨g, rfl, hg, hb2⟩
      replace k_e := k_e.below hb2
      replace hb0 := hb0.trans (hb2.mono hb0.size)
      have HG := Lib.hid hg
      clear hb2 e0 e1 e2 e3 e4 e5 hw ha hb hrr hg
      obtain ⟨e0, e1, e2, e3, e4, e5⟩ := k_e.facts
      cases g with
      | false =>
        go_wp2
        go_ret
        exact oneP_no hb0
      | true =>
        rcases Bool.eq_false_or_eq_true y.s with hs | hs
        · rw [hs] at e1
          go_wp2
          go_ret
          exact oneP_no hb0
        · rw [hs] at e1
          have HS := Lib.hid hs
          clear hs
          cases b' with
          | false =>
            go_wp2
            go_ret
            exact oneP_no hb0
          | true =>
            have HY : Hid (∃ t : Ex, t.fine ∧ t.wf ∧ t.szd ∧ t.deep + d ≤ 33 ∧ 3 * t.nodes ≤ L ∧ Tg w0 t ⟨1, y, st, K, n, c⟩) := by
              obtain ⟨g1, g2, g3⟩ := HG.out rfl
              have ht := HT.out g1
              refine ⟨.num r, ⟨g2, g3, ?_, G, HE.out⟩, trivial, ⟨(show Bd r.num.natAbs 16 from Bd.ofL g2).more (by omega), (show Bd r.den 16 from Bd.ofL g3).more (by omega)⟩, by show 1 + d ≤ 33; omega, by show 3 * 1 ≤ L; omega, rfl, HN.out, HST.out, ht⟩
              have := ht.sign
              rw [HS.out] at this
              exact of_decide_eq_false this.symm
            go_wp2
            go_ret
            exact ⟨true, rfl, fun _ => HY.out, hb0⟩
    · have s1 := st_no hst
      have s2 : ¬ st.toList = [] := fun e => by rw [e] at s1; cases s1
      go_wp2
      go_ret
      exact oneP_no hb0
  · have n1 : ¬ (n : Int) = 0 := by omega
    have n2 : ((n : Int) == 0) = false := beq_eq_false_iff_ne.2 n1
    go_wp2
    go_ret
    exact oneP_no hb0
set_option maxHeartbeats 6400000 in
theorem oneW_nm (y : Rv) (st : ByteArray) (K : Option Addr) (n c d L : Nat) (w w0 : World) (hr : RawR w0 y) (h37 : y.n ≤ 75 ∧ y.m ≤ 75) (hL : 3 ≤ L) (hd : d ≤ 32) (hbw : Below w0.heap.size w0 w) :
    Calls Tryz.prog 13 #[.agg #[.int .i64 2, .bool y.s, .slice y.A y.n y.c, .slice y.B y.m y.d, .string st, .slice K n c], .int .i64 d] w (OneP w0 ⟨2, y, st, K, n, c⟩ d L w) := by
  have i1 : ¬ (32 : Int) < (d : Int) := by omega
  have k_e := C6.new w (.int .i64 2) (.bool y.s) (.slice y.A y.n y.c) (.slice y.B y.m y.d) (.string st) (.slice K n c)
  have hb0 := (Below.refl w.heap.size w).alloc (Nat.le_refl _) (.cells #[.int .i64 2, .bool y.s, .slice y.A y.n y.c, .slice y.B y.m y.d, .string st, .slice K n c] 27)
  have hbb := hbw.trans (hb0.mono hbw.size)
  have HNM := Lib.hid (rName_c st)
  have HNT : Hid (isName st = isName st) := rfl
  generalize hnb : isName st = nb at *
  have HNB := Lib.hid hnb
  clear hnb HNT
  obtain ⟨e0, e1, e2, e3, e4, e5⟩ := k_e.facts
  go_enter Tryz.func13, Tryz.ntmps13
  by_cases hn : n = 0
  · have n1 : (n : Int) = 0 := by omega
    have n2 : ((n : Int) == 0) = true := by rw [beq_iff_eq]; exact n1
    have HN := Lib.hid hn
    clear hn n1
    go_wp2_with fail
    refine (HNM.out _).mono ?_
    rintro e w2 ⟨rfl, rfl⟩
    cases nb with
    | false =>
      go_wp2
      go_ret
      exact oneP_no hb0
    | true =>
      go_wp2_with fail
      refine (rblank_any y _ (hr.below hbb) h37.2).mono ?_
      rintro e w3 ⟨bb, rfl, hbk, hb2⟩
      replace hb0 := hb0.trans (hb2.mono hb0.size)
      have HBK : Hid (bb = true → Blk w0 y) := fun h => blk_back hbb hr (hbk h)
      clear hb2 hbk e0 e1 e2 e3 e4 e5 k_e
      cases bb with
      | false =>
        go_wp2
        go_ret
        exact oneP_no hb0
      | true =>
        have HY : Hid (∃ t : Ex, t.fine ∧ t.wf ∧ t.szd ∧ t.deep + d ≤ 33 ∧ 3 * t.nodes ≤ L ∧ Tg w0 t ⟨2, y, st, K, n, c⟩) :=
          ⟨.nm st, HNB.out, trivial, trivial, by show 1 + d ≤ 33; omega, by show 3 * 1 ≤ L; omega, rfl, HN.out, rfl, HBK.out rfl⟩
        go_wp2
        go_ret
        exact ⟨true, rfl, fun _ => HY.out, hb0⟩
  · have n1 : ¬ (n : Int) = 0 := by omega
    have n2 : ((n : Int) == 0) = false := beq_eq_false_iff_ne.2 n1
    go_wp2
    go_ret
    exact oneP_no hb0
set_option maxHeartbeats 3200000 in
theorem oneW_no (k : Int) (y : Rv) (st : ByteArray) (K : Option Addr) (n c d L : Nat) (w w0 : World) (hk : ¬ k = 1 ∧ ¬ k = 2 ∧ ¬ k = 3 ∧ ¬ k = 4 ∧ ¬ k = 5 ∧ ¬ k = 6 ∧ ¬ k = 7) (hd : d ≤ 32) :
    Calls Tryz.prog 13 #[.agg #[.int .i64 k, .bool y.s, .slice y.A y.n y.c, .slice y.B y.m y.d, .string st, .slice K n c], .int .i64 d] w (OneP w0 ⟨k, y, st, K, n, c⟩ d L w) := by
  have i1 : ¬ (32 : Int) < (d : Int) := by omega
  obtain ⟨k1, k2, k3, k4, k5, k6, k7⟩ := hk
  have k_e := C6.new w (.int .i64 k) (.bool y.s) (.slice y.A y.n y.c) (.slice y.B y.m y.d) (.string st) (.slice K n c)
  have hb0 := (Below.refl w.heap.size w).alloc (Nat.le_refl _) (.cells #[.int .i64 k, .bool y.s, .slice y.A y.n y.c, .slice y.B y.m y.d, .string st, .slice K n c] 27)
  obtain ⟨e0, e1, e2, e3, e4, e5⟩ := k_e.facts
  go_enter Tryz.func13, Tryz.ntmps13
  go_wp2
  go_ret
  exact oneP_no hb0
set_option maxHeartbeats 12800000 in
theorem oneW_step3 (y : Rv) (st : ByteArray) (K : Option Addr) (n c d L : Nat) (w w0 : World) (ls : Nat → Nat) (hr : RawR w0 y) (h37 : y.n ≤ 75 ∧ y.m ≤ 75) (hL : 3 + sumL ls n ≤ L) (hd : d ≤ 32) (hbw : Below w0.heap.size w0 w) (hnc : n ≤ c)
    (IH : Hid (∀ i, i < n → ∃ b off x, K = some ⟨b, off, none⟩ ∧ b < w0.heap.size ∧ At6 w0 b (off + i * 6) x ∧ ∀ w', Below w0.heap.size w0 w' → Calls Tryz.prog 13 #[.agg #[.int .i64 x.k, .bool x.r.s, .slice x.r.A x.r.n x.r.c, .slice x.r.B x.r.m x.r.d, .string x.s, .slice x.K x.n x.c], .int .i64 ((d + 1 : Nat) : Int)] w' (OneP w0 x (d + 1) (ls i) w'))) :
    Calls Tryz.prog 13 #[.agg #[.int .i64 3, .bool y.s, .slice y.A y.n y.c, .slice y.B y.m y.d, .string st, .slice K n c], .int .i64 d] w (OneP w0 ⟨3, y, st, K, n, c⟩ d L w) := by
  have i1 : ¬ (32 : Int) < (d : Int) := by omega
  have i2 : (d : Int) ≤ 32 := by omega
  have i3 : (0 : Int) ≤ (d : Int) := by omega
  have k_e := C6.new w (.int .i64 3) (.bool y.s) (.slice y.A y.n y.c) (.slice y.B y.m y.d) (.string st) (.slice K n c)
  have hb0 := (Below.refl w.heap.size w).alloc (Nat.le_refl _) (.cells #[.int .i64 3, .bool y.s, .slice y.A y.n y.c, .slice y.B y.m y.d, .string st, .slice K n c] 27)
  have hbb := hbw.trans (hb0.mono hbw.size)
  obtain ⟨e0, e1, e2, e3, e4, e5⟩ := k_e.facts
  go_enter Tryz.func13, Tryz.ntmps13
  by_cases hn : n = 2
  · have hN := Lib.hid hn
    by_cases hst : st = ⟨#[]⟩
    · have hST := Lib.hid hst
      subst hst
      subst hn
      go_wp2_with fail
      refine (rblank_any y _ (hr.below hbb) h37.2).mono ?_
      rintro e w1 ⟨bb, rfl, hbk, hb2⟩
      have HBK : Hid (bb = true → Blk w0 y) := fun h => blk_back hbb hr (hbk h)
      replace k_e := k_e.below hb2
      replace hb0 := hb0.trans (hb2.mono hb0.size)
      clear hb2 hbk e0 e1 e2 e3 e4 e5 hbb
      obtain ⟨e0, e1, e2, e3, e4, e5⟩ := k_e.facts
      cases bb with
      | false =>
        go_wp2
        go_ret
        exact oneP_no hb0
      | true =>
        have hBK := Lib.hid (HBK.out rfl)
        clear HBK
        go_wp2
        clear e0 e1 e2 e3 e4 e5
        go_loopw [8] (fun iv wr => ∃ i : Nat, i ≤ 2 ∧ iv = .int .i64 i ∧ Hid (∀ j, j < i → ∃ b off x t, K = some ⟨b, off, none⟩ ∧ b < w0.heap.size ∧ At6 w0 b (off + j * 6) x ∧ t.fine ∧ t.wf ∧ t.szd ∧ t.deep + (d + 1) ≤ 33 ∧ 3 * t.nodes ≤ ls j ∧ Tg w0 t x) ∧ C6 wr w.heap.size (.int .i64 3) (.bool y.s) (.slice y.A y.n y.c) (.slice y.B y.m y.d) (.string ⟨#[]⟩) (.slice K (2 : Nat) c) ∧ Below w.heap.size w wr) (fun iv _ => 2 - (intOf iv).toNat)
        case atStart => exact ⟨0, Nat.zero_le _, rfl, fun j hj => absurd hj (by omega), k_e, hb0⟩
        case round =>
          clear k_e hb0
          obtain ⟨i, hi, rfl, HJ, k_e, hb0⟩ := hrel
          obtain ⟨e0, e1, e2, e3, e4, e5⟩ := k_e.facts
          have a0 : (0 : Int) ≤ (i : Int) := by omega
          by_cases hlt : i < 2
          · have a1 : (i : Int) < 2 := by omega
            obtain ⟨b, off, x, hKb, hbl, hx, hcall⟩ := IH.out i hlt
            have hB : Below w0.heap.size w0 wr := hbw.trans (hb0.mono hbw.size)
            have hx6 := hx.keep (hB.block b hbl)
            have HC := Lib.hid (hcall wr hB)
            have HX := Lib.hid (And.intro hbl hx)
            have HKB := Lib.hid hKb
            rw [hKb] at e5
            clear hKb hx hbl hcall
            obtain ⟨x0, x1, x2, x3, x4, x5⟩ := hx6
            go_wp2_with fail
            have hd1 : (d : Int) + 1 = ((d + 1 : Nat) : Int) := by omega
            rw [hd1]
            clear hd1
            refine HC.out.mono ?_
            rintro e w2 ⟨cb, rfl, hcb, hb2⟩
            replace k_e := k_e.below hb2
            replace hb0 := hb0.trans (hb2.mono hb0.size)
            have HCB := Lib.hid hcb
            clear hb2 hcb HC e0 e1 e2 e3 e4 e5 x0 x1 x2 x3 x4 x5
            cases cb with
            | false =>
              go_wp2
              go_ret
              exact oneP_no hb0
            | true =>
              have HJ2 : Hid (∀ j, j < i + 1 → ∃ b off x t, K = some ⟨b, off, none⟩ ∧ b < w0.heap.size ∧ At6 w0 b (off + j * 6) x ∧ t.fine ∧ t.wf ∧ t.szd ∧ t.deep + (d + 1) ≤ 33 ∧ 3 * t.nodes ≤ ls j ∧ Tg w0 t x) := fun j hj => by
                by_cases h : j = i
                · subst h
                  obtain ⟨t, f1, f2, f3, f4, f5, f6⟩ := HCB.out rfl
                  exact ⟨b, off, x, t, HKB.out, HX.out.1, HX.out.2, f1, f2, f3, f4, f5, f6⟩
                · exact HJ.out j (by omega)
              go_wp2
              go_roundw
              case rel => exact ⟨i + 1, by omega, by go_num, HJ2, k_e, hb0⟩
              case measure => simp [intOf]; omega
          · have e : i = 2 := by omega
            have a1 : ¬ (i : Int) < 2 := by omega
            have HY : Hid (∃ t : Ex, t.fine ∧ t.wf ∧ t.szd ∧ t.deep + d ≤ 33 ∧ 3 * t.nodes ≤ L ∧ Tg w0 t ⟨3, y, ⟨#[]⟩, K, 2, c⟩) := by
              have h := HJ.out
              rw [e] at h
              obtain ⟨b1, o1, x, ta, eK1, hb1, hx, fa, wa, sa, da, na, ga⟩ := h 0 (by omega)
              obtain ⟨b2, o2, x2, tb, eK2, hb2, hx2, fb, wb, sb, db, nb, gb⟩ := h 1 (by omega)
              rw [eK1] at eK2
              injection eK2 with eK2
              injection eK2 with q1 q2
              subst q1; subst q2
              have hs2 : sumL ls 2 = 0 + ls 0 + ls 1 := rfl
              exact ⟨.bin 3 ta tb, ⟨fa, fb⟩, ⟨by omega, wa, wb⟩, ⟨sa, sb⟩, by show max ta.deep tb.deep + 1 + d ≤ 33; omega, by show 3 * (1 + ta.nodes + tb.nodes) ≤ L; omega, rfl, rfl, rfl, hBK.out, b1, o1, x, x2, eK1, hb1, hx, hx2, ga, gb⟩
            clear e
            go_wp2
            go_ret
            exact ⟨true, rfl, fun _ => HY.out, hb0⟩
    · have s1 := st_no hst
      have s2 : ¬ st.toList = [] := fun e => by rw [e] at s1; cases s1
      subst hn
      go_wp2
      go_ret
      exact oneP_no hb0
  · have n1 : ¬ (n : Int) = 2 := by omega
    have n2 : ((n : Int) != 2) = true := bne_iff_ne.2 n1
    go_wp2
    go_ret
    exact oneP_no hb0
set_option maxHeartbeats 12800000 in
theorem oneW_step4 (y : Rv) (st : ByteArray) (K : Option Addr) (n c d L : Nat) (w w0 : World) (ls : Nat → Nat) (hr : RawR w0 y) (h37 : y.n ≤ 75 ∧ y.m ≤ 75) (hL : 3 + sumL ls n ≤ L) (hd : d ≤ 32) (hbw : Below w0.heap.size w0 w) (hnc : n ≤ c)
    (IH : Hid (∀ i, i < n → ∃ b off x, K = some ⟨b, off, none⟩ ∧ b < w0.heap.size ∧ At6 w0 b (off + i * 6) x ∧ ∀ w', Below w0.heap.size w0 w' → Calls Tryz.prog 13 #[.agg #[.int .i64 x.k, .bool x.r.s, .slice x.r.A x.r.n x.r.c, .slice x.r.B x.r.m x.r.d, .string x.s, .slice x.K x.n x.c], .int .i64 ((d + 1 : Nat) : Int)] w' (OneP w0 x (d + 1) (ls i) w'))) :
    Calls Tryz.prog 13 #[.agg #[.int .i64 4, .bool y.s, .slice y.A y.n y.c, .slice y.B y.m y.d, .string st, .slice K n c], .int .i64 d] w (OneP w0 ⟨4, y, st, K, n, c⟩ d L w) := by
  have i1 : ¬ (32 : Int) < (d : Int) := by omega
  have i2 : (d : Int) ≤ 32 := by omega
  have i3 : (0 : Int) ≤ (d : Int) := by omega
  have k_e := C6.new w (.int .i64 4) (.bool y.s) (.slice y.A y.n y.c) (.slice y.B y.m y.d) (.string st) (.slice K n c)
  have hb0 := (Below.refl w.heap.size w).alloc (Nat.le_refl _) (.cells #[.int .i64 4, .bool y.s, .slice y.A y.n y.c, .slice y.B y.m y.d, .string st, .slice K n c] 27)
  have hbb := hbw.trans (hb0.mono hbw.size)
  obtain ⟨e0, e1, e2, e3, e4, e5⟩ := k_e.facts
  go_enter Tryz.func13, Tryz.ntmps13
  by_cases hn : n = 2
  · have hN := Lib.hid hn
    by_cases hst : st = ⟨#[]⟩
    · have hST := Lib.hid hst
      subst hst
      subst hn
      go_wp2_with fail
      refine (rblank_any y _ (hr.below hbb) h37.2).mono ?_
      rintro e w1 ⟨bb, rfl, hbk, hb2⟩
      have HBK : Hid (bb = true → Blk w0 y) := fun h => blk_back hbb hr (hbk h)
      replace k_e := k_e.below hb2
      replace hb0 := hb0.trans (hb2.mono hb0.size)
      clear hb2 hbk e0 e1 e2 e3 e4 e5 hbb
      obtain ⟨e0, e1, e2, e3, e4, e5⟩ := k_e.facts
      cases bb with
      | false =>
        go_wp2
        go_ret
        exact oneP_no hb0
      | true =>
        have hBK := Lib.hid (HBK.out rfl)
        clear HBK
        go_wp2
        clear e0 e1 e2 e3 e4 e5
        go_loopw [8] (fun iv wr => ∃ i : Nat, i ≤ 2 ∧ iv = .int .i64 i ∧ Hid (∀ j, j < i → ∃ b off x t, K = some ⟨b, off, none⟩ ∧ b < w0.heap.size ∧ At6 w0 b (off + j * 6) x ∧ t.fine ∧ t.wf ∧ t.szd ∧ t.deep + (d + 1) ≤ 33 ∧ 3 * t.nodes ≤ ls j ∧ Tg w0 t x) ∧ C6 wr w.heap.size (.int .i64 4) (.bool y.s) (.slice y.A y.n y.c) (.slice y.B y.m y.d) (.string ⟨#[]⟩) (.slice K (2 : Nat) c) ∧ Below w.heap.size w wr) (fun iv _ => 2 - (intOf iv).toNat)
        case atStart => exact ⟨0, Nat.zero_le _, rfl, fun j hj => absurd hj (by omega), k_e, hb0⟩
        case round =>
          clear k_e hb0
          obtain ⟨i, hi, rfl, HJ, k_e, hb0⟩ := hrel
          obtain ⟨e0, e1, e2, e3, e4, e5⟩ := k_e.facts
          have a0 : (0 : Int) ≤ (i : Int) := by omega
          by_cases hlt : i < 2
          · have a1 : (i : Int) < 2 := by omega
            obtain ⟨b, off, x, hKb, hbl, hx, hcall⟩ := IH.out i hlt
            have hB : Below w0.heap.size w0 wr := hbw.trans (hb0.mono hbw.size)
            have hx6 := hx.keep (hB.block b hbl)
            have HC := Lib.hid (hcall wr hB)
            have HX := Lib.hid (And.intro hbl hx)
            have HKB := Lib.hid hKb
            rw [hKb] at e5
            clear hKb hx hbl hcall
            obtain ⟨x0, x1, x2, x3, x4, x5⟩ := hx6
            go_wp2_with fail
            have hd1 : (d : Int) + 1 = ((d + 1 : Nat) : Int) := by omega
            rw [hd1]
            clear hd1
            refine HC.out.mono ?_
            rintro e w2 ⟨cb, rfl, hcb, hb2⟩
            replace k_e := k_e.below hb2
            replace hb0 := hb0.trans (hb2.mono hb0.size)
            have HCB := Lib.hid hcb
            clear hb2 hcb HC e0 e1 e2 e3 e4 e5 x0 x1 x2 x3 x4 x5
            cases cb with
            | false =>
              go_wp2
              go_ret
              exact oneP_no hb0
            | true =>
              have HJ2 : Hid (∀ j, j < i + 1 → ∃ b off x t, K = some ⟨b, off, none⟩ ∧ b < w0.heap.size ∧ At6 w0 b (off + j * 6) x ∧ t.fine ∧ t.wf ∧ t.szd ∧ t.deep + (d + 1) ≤ 33 ∧ 3 * t.nodes ≤ ls j ∧ Tg w0 t x) := fun j hj => by
                by_cases h : j = i
                · subst h
                  obtain ⟨t, f1, f2, f3, f4, f5, f6⟩ := HCB.out rfl
                  exact ⟨b, off, x, t, HKB.out, HX.out.1, HX.out.2, f1, f2, f3, f4, f5, f6⟩
                · exact HJ.out j (by omega)
              go_wp2
              go_roundw
              case rel => exact ⟨i + 1, by omega, by go_num, HJ2, k_e, hb0⟩
              case measure => simp [intOf]; omega
          · have e : i = 2 := by omega
            have a1 : ¬ (i : Int) < 2 := by omega
            have HY : Hid (∃ t : Ex, t.fine ∧ t.wf ∧ t.szd ∧ t.deep + d ≤ 33 ∧ 3 * t.nodes ≤ L ∧ Tg w0 t ⟨4, y, ⟨#[]⟩, K, 2, c⟩) := by
              have h := HJ.out
              rw [e] at h
              obtain ⟨b1, o1, x, ta, eK1, hb1, hx, fa, wa, sa, da, na, ga⟩ := h 0 (by omega)
              obtain ⟨b2, o2, x2, tb, eK2, hb2, hx2, fb, wb, sb, db, nb, gb⟩ := h 1 (by omega)
              rw [eK1] at eK2
              injection eK2 with eK2
              injection eK2 with q1 q2
              subst q1; subst q2
              have hs2 : sumL ls 2 = 0 + ls 0 + ls 1 := rfl
              exact ⟨.bin 4 ta tb, ⟨fa, fb⟩, ⟨by omega, wa, wb⟩, ⟨sa, sb⟩, by show max ta.deep tb.deep + 1 + d ≤ 33; omega, by show 3 * (1 + ta.nodes + tb.nodes) ≤ L; omega, rfl, rfl, rfl, hBK.out, b1, o1, x, x2, eK1, hb1, hx, hx2, ga, gb⟩
            clear e
            go_wp2
            go_ret
            exact ⟨true, rfl, fun _ => HY.out, hb0⟩
    · have s1 := st_no hst
      have s2 : ¬ st.toList = [] := fun e => by rw [e] at s1; cases s1
      subst hn
      go_wp2
      go_ret
      exact oneP_no hb0
  · have n1 : ¬ (n : Int) = 2 := by omega
    have n2 : ((n : Int) != 2) = true := bne_iff_ne.2 n1
    go_wp2
    go_ret
    exact oneP_no hb0
set_option maxHeartbeats 12800000 in
theorem oneW_step5 (y : Rv) (st : ByteArray) (K : Option Addr) (n c d L : Nat) (w w0 : World) (ls : Nat → Nat) (hr : RawR w0 y) (h37 : y.n ≤ 75 ∧ y.m ≤ 75) (hL : 3 + sumL ls n ≤ L) (hd : d ≤ 32) (hbw : Below w0.heap.size w0 w) (hnc : n ≤ c)
    (IH : Hid (∀ i, i < n → ∃ b off x, K = some ⟨b, off, none⟩ ∧ b < w0.heap.size ∧ At6 w0 b (off + i * 6) x ∧ ∀ w', Below w0.heap.size w0 w' → Calls Tryz.prog 13 #[.agg #[.int .i64 x.k, .bool x.r.s, .slice x.r.A x.r.n x.r.c, .slice x.r.B x.r.m x.r.d, .string x.s, .slice x.K x.n x.c], .int .i64 ((d + 1 : Nat) : Int)] w' (OneP w0 x (d + 1) (ls i) w'))) :
    Calls Tryz.prog 13 #[.agg #[.int .i64 5, .bool y.s, .slice y.A y.n y.c, .slice y.B y.m y.d, .string st, .slice K n c], .int .i64 d] w (OneP w0 ⟨5, y, st, K, n, c⟩ d L w) := by
  have i1 : ¬ (32 : Int) < (d : Int) := by omega
  have i2 : (d : Int) ≤ 32 := by omega
  have i3 : (0 : Int) ≤ (d : Int) := by omega
  have k_e := C6.new w (.int .i64 5) (.bool y.s) (.slice y.A y.n y.c) (.slice y.B y.m y.d) (.string st) (.slice K n c)
  have hb0 := (Below.refl w.heap.size w).alloc (Nat.le_refl _) (.cells #[.int .i64 5, .bool y.s, .slice y.A y.n y.c, .slice y.B y.m y.d, .string st, .slice K n c] 27)
  have hbb := hbw.trans (hb0.mono hbw.size)
  obtain ⟨e0, e1, e2, e3, e4, e5⟩ := k_e.facts
  go_enter Tryz.func13, Tryz.ntmps13
  by_cases hn : n = 2
  · have hN := Lib.hid hn
    by_cases hst : st = ⟨#[]⟩
    · have hST := Lib.hid hst
      subst hst
      subst hn
      go_wp2_with fail
      refine (rblank_any y _ (hr.below hbb) h37.2).mono ?_
      rintro e w1 ⟨bb, rfl, hbk, hb2⟩
      have HBK : Hid (bb = true → Blk w0 y) := fun h => blk_back hbb hr (hbk h)
      replace k_e := k_e.below hb2
      replace hb0 := hb0.trans (hb2.mono hb0.size)
      clear hb2 hbk e0 e1 e2 e3 e4 e5 hbb
      obtain ⟨e0, e1, e2, e3, e4, e5⟩ := k_e.facts
      cases bb with
      | false =>
        go_wp2
        go_ret
        exact oneP_no hb0
      | true =>
        have hBK := Lib.hid (HBK.out rfl)
        clear HBK
        go_wp2
        clear e0 e1 e2 e3 e4 e5
        go_loopw [8] (fun iv wr => ∃ i : Nat, i ≤ 2 ∧ iv = .int .i64 i ∧ Hid (∀ j, j < i → ∃ b off x t, K = some ⟨b, off, none⟩ ∧ b < w0.heap.size ∧ At6 w0 b (off + j * 6) x ∧ t.fine ∧ t.wf ∧ t.szd ∧ t.deep + (d + 1) ≤ 33 ∧ 3 * t.nodes ≤ ls j ∧ Tg w0 t x) ∧ C6 wr w.heap.size (.int .i64 5) (.bool y.s) (.slice y.A y.n y.c) (.slice y.B y.m y.d) (.string ⟨#[]⟩) (.slice K (2 : Nat) c) ∧ Below w.heap.size w wr) (fun iv _ => 2 - (intOf iv).toNat)
        case atStart => exact ⟨0, Nat.zero_le _, rfl, fun j hj => absurd hj (by omega), k_e, hb0⟩
        case round =>
          clear k_e hb0
          obtain ⟨i, hi, rfl, HJ, k_e, hb0⟩ := hrel
          obtain ⟨e0, e1, e2, e3, e4, e5⟩ := k_e.facts
          have a0 : (0 : Int) ≤ (i : Int) := by omega
          by_cases hlt : i < 2
          · have a1 : (i : Int) < 2 := by omega
            obtain ⟨b, off, x, hKb, hbl, hx, hcall⟩ := IH.out i hlt
            have hB : Below w0.heap.size w0 wr := hbw.trans (hb0.mono hbw.size)
            have hx6 := hx.keep (hB.block b hbl)
            have HC := Lib.hid (hcall wr hB)
            have HX := Lib.hid (And.intro hbl hx)
            have HKB := Lib.hid hKb
            rw [hKb] at e5
            clear hKb hx hbl hcall
            obtain ⟨x0, x1, x2, x3, x4, x5⟩ := hx6
            go_wp2_with fail
            have hd1 : (d : Int) + 1 = ((d + 1 : Nat) : Int) := by omega
            rw [hd1]
            clear hd1
            refine HC.out.mono ?_
            rintro e w2 ⟨cb, rfl, hcb, hb2⟩
            replace k_e := k_e.below hb2
            replace hb0 := hb0.trans (hb2.mono hb0.size)
            have HCB := Lib.hid hcb
            clear hb2 hcb HC e0 e1 e2 e3 e4 e5 x0 x1 x2 x3 x4 x5
            cases cb with
            | false =>
              go_wp2
              go_ret
              exact oneP_no hb0
            | true =>
              have HJ2 : Hid (∀ j, j < i + 1 → ∃ b off x t, K = some ⟨b, off, none⟩ ∧ b < w0.heap.size ∧ At6 w0 b (off + j * 6) x ∧ t.fine ∧ t.wf ∧ t.szd ∧ t.deep + (d + 1) ≤ 33 ∧ 3 * t.nodes ≤ ls j ∧ Tg w0 t x) := fun j hj => by
                by_cases h : j = i
                · subst h
                  obtain ⟨t, f1, f2, f3, f4, f5, f6⟩ := HCB.out rfl
                  exact ⟨b, off, x, t, HKB.out, HX.out.1, HX.out.2, f1, f2, f3, f4, f5, f6⟩
                · exact HJ.out j (by omega)
              go_wp2
              go_roundw
              case rel => exact ⟨i + 1, by omega, by go_num, HJ2, k_e, hb0⟩
              case measure => simp [intOf]; omega
          · have e : i = 2 := by omega
            have a1 : ¬ (i : Int) < 2 := by omega
            have HY : Hid (∃ t : Ex, t.fine ∧ t.wf ∧ t.szd ∧ t.deep + d ≤ 33 ∧ 3 * t.nodes ≤ L ∧ Tg w0 t ⟨5, y, ⟨#[]⟩, K, 2, c⟩) := by
              have h := HJ.out
              rw [e] at h
              obtain ⟨b1, o1, x, ta, eK1, hb1, hx, fa, wa, sa, da, na, ga⟩ := h 0 (by omega)
              obtain ⟨b2, o2, x2, tb, eK2, hb2, hx2, fb, wb, sb, db, nb, gb⟩ := h 1 (by omega)
              rw [eK1] at eK2
              injection eK2 with eK2
              injection eK2 with q1 q2
              subst q1; subst q2
              have hs2 : sumL ls 2 = 0 + ls 0 + ls 1 := rfl
              exact ⟨.bin 5 ta tb, ⟨fa, fb⟩, ⟨by omega, wa, wb⟩, ⟨sa, sb⟩, by show max ta.deep tb.deep + 1 + d ≤ 33; omega, by show 3 * (1 + ta.nodes + tb.nodes) ≤ L; omega, rfl, rfl, rfl, hBK.out, b1, o1, x, x2, eK1, hb1, hx, hx2, ga, gb⟩
            clear e
            go_wp2
            go_ret
            exact ⟨true, rfl, fun _ => HY.out, hb0⟩
    · have s1 := st_no hst
      have s2 : ¬ st.toList = [] := fun e => by rw [e] at s1; cases s1
      subst hn
      go_wp2
      go_ret
      exact oneP_no hb0
  · have n1 : ¬ (n : Int) = 2 := by omega
    have n2 : ((n : Int) != 2) = true := bne_iff_ne.2 n1
    go_wp2
    go_ret
    exact oneP_no hb0
set_option maxHeartbeats 12800000 in
theorem oneW_step6 (y : Rv) (st : ByteArray) (K : Option Addr) (n c d L : Nat) (w w0 : World) (ls : Nat → Nat) (hr : RawR w0 y) (h37 : y.n ≤ 75 ∧ y.m ≤ 75) (hL : 3 + sumL ls n ≤ L) (hd : d ≤ 32) (hbw : Below w0.heap.size w0 w) (hnc : n ≤ c)
    (IH : Hid (∀ i, i < n → ∃ b off x, K = some ⟨b, off, none⟩ ∧ b < w0.heap.size ∧ At6 w0 b (off + i * 6) x ∧ ∀ w', Below w0.heap.size w0 w' → Calls Tryz.prog 13 #[.agg #[.int .i64 x.k, .bool x.r.s, .slice x.r.A x.r.n x.r.c, .slice x.r.B x.r.m x.r.d, .string x.s, .slice x.K x.n x.c], .int .i64 ((d + 1 : Nat) : Int)] w' (OneP w0 x (d + 1) (ls i) w'))) :
    Calls Tryz.prog 13 #[.agg #[.int .i64 6, .bool y.s, .slice y.A y.n y.c, .slice y.B y.m y.d, .string st, .slice K n c], .int .i64 d] w (OneP w0 ⟨6, y, st, K, n, c⟩ d L w) := by
  have i1 : ¬ (32 : Int) < (d : Int) := by omega
  have i2 : (d : Int) ≤ 32 := by omega
  have i3 : (0 : Int) ≤ (d : Int) := by omega
  have k_e := C6.new w (.int .i64 6) (.bool y.s) (.slice y.A y.n y.c) (.slice y.B y.m y.d) (.string st) (.slice K n c)
  have hb0 := (Below.refl w.heap.size w).alloc (Nat.le_refl _) (.cells #[.int .i64 6, .bool y.s, .slice y.A y.n y.c, .slice y.B y.m y.d, .string st, .slice K n c] 27)
  have hbb := hbw.trans (hb0.mono hbw.size)
  obtain ⟨e0, e1, e2, e3, e4, e5⟩ := k_e.facts
  go_enter Tryz.func13, Tryz.ntmps13
  by_cases hn : n = 2
  · have hN := Lib.hid hn
    by_cases hst : st = ⟨#[]⟩
    · have hST := Lib.hid hst
      subst hst
      subst hn
      go_wp2_with fail
      refine (rblank_any y _ (hr.below hbb) h37.2).mono ?_
      rintro e w1 ⟨bb, rfl, hbk, hb2⟩
      have HBK : Hid (bb = true → Blk w0 y) := fun h => blk_back hbb hr (hbk h)
      replace k_e := k_e.below hb2
      replace hb0 := hb0.trans (hb2.mono hb0.size)
      clear hb2 hbk e0 e1 e2 e3 e4 e5 hbb
      obtain ⟨e0, e1, e2, e3, e4, e5⟩ := k_e.facts
      cases bb with
      | false =>
        go_wp2
        go_ret
        exact oneP_no hb0
      | true =>
        have hBK := Lib.hid (HBK.out rfl)
        clear HBK
        go_wp2
        clear e0 e1 e2 e3 e4 e5
        go_loopw [8] (fun iv wr => ∃ i : Nat, i ≤ 2 ∧ iv = .int .i64 i ∧ Hid (∀ j, j < i → ∃ b off x t, K = some ⟨b, off, none⟩ ∧ b < w0.heap.size ∧ At6 w0 b (off + j * 6) x ∧ t.fine ∧ t.wf ∧ t.szd ∧ t.deep + (d + 1) ≤ 33 ∧ 3 * t.nodes ≤ ls j ∧ Tg w0 t x) ∧ C6 wr w.heap.size (.int .i64 6) (.bool y.s) (.slice y.A y.n y.c) (.slice y.B y.m y.d) (.string ⟨#[]⟩) (.slice K (2 : Nat) c) ∧ Below w.heap.size w wr) (fun iv _ => 2 - (intOf iv).toNat)
        case atStart => exact ⟨0, Nat.zero_le _, rfl, fun j hj => absurd hj (by omega), k_e, hb0⟩
        case round =>
          clear k_e hb0
          obtain ⟨i, hi, rfl, HJ, k_e, hb0⟩ := hrel
          obtain ⟨e0, e1, e2, e3, e4, e5⟩ := k_e.facts
          have a0 : (0 : Int) ≤ (i : Int) := by omega
          by_cases hlt : i < 2
          · have a1 : (i : Int) < 2 := by omega
            obtain ⟨b, off, x, hKb, hbl, hx, hcall⟩ := IH.out i hlt
            have hB : Below w0.heap.size w0 wr := hbw.trans (hb0.mono hbw.size)
            have hx6 := hx.keep (hB.block b hbl)
            have HC := Lib.hid (hcall wr hB)
            have HX := Lib.hid (And.intro hbl hx)
            have HKB := Lib.hid hKb
            rw [hKb] at e5
            clear hKb hx hbl hcall
            obtain ⟨x0, x1, x2, x3, x4, x5⟩ := hx6
            go_wp2_with fail
            have hd1 : (d : Int) + 1 = ((d + 1 : Nat) : Int) := by omega
            rw [hd1]
            clear hd1
            refine HC.out.mono ?_
            rintro e w2 ⟨cb, rfl, hcb, hb2⟩
            replace k_e := k_e.below hb2
            replace hb0 := hb0.trans (hb2.mono hb0.size)
            have HCB := Lib.hid hcb
            clear hb2 hcb HC e0 e1 e2 e3 e4 e5 x0 x1 x2 x3 x4 x5
            cases cb with
            | false =>
              go_wp2
              go_ret
              exact oneP_no hb0
            | true =>
              have HJ2 : Hid (∀ j, j < i + 1 → ∃ b off x t, K = some ⟨b, off, none⟩ ∧ b < w0.heap.size ∧ At6 w0 b (off + j * 6) x ∧ t.fine ∧ t.wf ∧ t.szd ∧ t.deep + (d + 1) ≤ 33 ∧ 3 * t.nodes ≤ ls j ∧ Tg w0 t x) := fun j hj => by
                by_cases h : j = i
                · subst h
                  obtain ⟨t, f1, f2, f3, f4, f5, f6⟩ := HCB.out rfl
                  exact ⟨b, off, x, t, HKB.out, HX.out.1, HX.out.2, f1, f2, f3, f4, f5, f6⟩
                · exact HJ.out j (by omega)
              go_wp2
              go_roundw
              case rel => exact ⟨i + 1, by omega, by go_num, HJ2, k_e, hb0⟩
              case measure => simp [intOf]; omega
          · have e : i = 2 := by omega
            have a1 : ¬ (i : Int) < 2 := by omega
            have HY : Hid (∃ t : Ex, t.fine ∧ t.wf ∧ t.szd ∧ t.deep + d ≤ 33 ∧ 3 * t.nodes ≤ L ∧ Tg w0 t ⟨6, y, ⟨#[]⟩, K, 2, c⟩) := by
              have h := HJ.out
              rw [e] at h
              obtain ⟨b1, o1, x, ta, eK1, hb1, hx, fa, wa, sa, da, na, ga⟩ := h 0 (by omega)
              obtain ⟨b2, o2, x2, tb, eK2, hb2, hx2, fb, wb, sb, db, nb, gb⟩ := h 1 (by omega)
              rw [eK1] at eK2
              injection eK2 with eK2
              injection eK2 with q1 q2
              subst q1; subst q2
              have hs2 : sumL ls 2 = 0 + ls 0 + ls 1 := rfl
              exact ⟨.bin 6 ta tb, ⟨fa, fb⟩, ⟨by omega, wa, wb⟩, ⟨sa, sb⟩, by show max ta.deep tb.deep + 1 + d ≤ 33; omega, by show 3 * (1 + ta.nodes + tb.nodes) ≤ L; omega, rfl, rfl, rfl, hBK.out, b1, o1, x, x2, eK1, hb1, hx, hx2, ga, gb⟩
            clear e
            go_wp2
            go_ret
            exact ⟨true, rfl, fun _ => HY.out, hb0⟩
    · have s1 := st_no hst
      have s2 : ¬ st.toList = [] := fun e => by rw [e] at s1; cases s1
      subst hn
      go_wp2
      go_ret
      exact oneP_no hb0
  · have n1 : ¬ (n : Int) = 2 := by omega
    have n2 : ((n : Int) != 2) = true := bne_iff_ne.2 n1
    go_wp2
    go_ret
    exact oneP_no hb0
set_option maxHeartbeats 12800000 in
theorem oneW_step7 (y : Rv) (st : ByteArray) (K : Option Addr) (n c d L : Nat) (w w0 : World) (ls : Nat → Nat) (hr : RawR w0 y) (h37 : y.n ≤ 75 ∧ y.m ≤ 75) (hL : 3 + sumL ls n ≤ L) (hd : d ≤ 32) (hbw : Below w0.heap.size w0 w) (hnc : n ≤ c)
    (IH : Hid (∀ i, i < n → ∃ b off x, K = some ⟨b, off, none⟩ ∧ b < w0.heap.size ∧ At6 w0 b (off + i * 6) x ∧ ∀ w', Below w0.heap.size w0 w' → Calls Tryz.prog 13 #[.agg #[.int .i64 x.k, .bool x.r.s, .slice x.r.A x.r.n x.r.c, .slice x.r.B x.r.m x.r.d, .string x.s, .slice x.K x.n x.c], .int .i64 ((d + 1 : Nat) : Int)] w' (OneP w0 x (d + 1) (ls i) w'))) :
    Calls Tryz.prog 13 #[.agg #[.int .i64 7, .bool y.s, .slice y.A y.n y.c, .slice y.B y.m y.d, .string st, .slice K n c], .int .i64 d] w (OneP w0 ⟨7, y, st, K, n, c⟩ d L w) := by
  have i1 : ¬ (32 : Int) < (d : Int) := by omega
  have i2 : (d : Int) ≤ 32 := by omega
  have i3 : (0 : Int) ≤ (d : Int) := by omega
  have k_e := C6.new w (.int .i64 7) (.bool y.s) (.slice y.A y.n y.c) (.slice y.B y.m y.d) (.string st) (.slice K n c)
  have hb0 := (Below.refl w.heap.size w).alloc (Nat.le_refl _) (.cells #[.int .i64 7, .bool y.s, .slice y.A y.n y.c, .slice y.B y.m y.d, .string st, .slice K n c] 27)
  have hbb := hbw.trans (hb0.mono hbw.size)
  obtain ⟨e0, e1, e2, e3, e4, e5⟩ := k_e.facts
  go_enter Tryz.func13, Tryz.ntmps13
  by_cases hn : n = 1
  · have hN := Lib.hid hn
    by_cases hst : st = ⟨#[]⟩
    · have hST := Lib.hid hst
      subst hst
      subst hn
      go_wp2_with fail
      refine (rblank_any y _ (hr.below hbb) h37.2).mono ?_
      rintro e w1 ⟨bb, rfl, hbk, hb2⟩
      have HBK : Hid (bb = true → Blk w0 y) := fun h => blk_back hbb hr (hbk h)
      replace k_e := k_e.below hb2
      replace hb0 := hb0.trans (hb2.mono hb0.size)
      clear hb2 hbk e0 e1 e2 e3 e4 e5 hbb
      obtain ⟨e0, e1, e2, e3, e4, e5⟩ := k_e.facts
      cases bb with
      | false =>
        go_wp2
        go_ret
        exact oneP_no hb0
      | true =>
        have hBK := Lib.hid (HBK.out rfl)
        clear HBK
        go_wp2
        clear e0 e1 e2 e3 e4 e5
        go_loopw [8] (fun iv wr => ∃ i : Nat, i ≤ 1 ∧ iv = .int .i64 i ∧ Hid (∀ j, j < i → ∃ b off x t, K = some ⟨b, off, none⟩ ∧ b < w0.heap.size ∧ At6 w0 b (off + j * 6) x ∧ t.fine ∧ t.wf ∧ t.szd ∧ t.deep + (d + 1) ≤ 33 ∧ 3 * t.nodes ≤ ls j ∧ Tg w0 t x) ∧ C6 wr w.heap.size (.int .i64 7) (.bool y.s) (.slice y.A y.n y.c) (.slice y.B y.m y.d) (.string ⟨#[]⟩) (.slice K (1 : Nat) c) ∧ Below w.heap.size w wr) (fun iv _ => 1 - (intOf iv).toNat)
        case atStart => exact ⟨0, Nat.zero_le _, rfl, fun j hj => absurd hj (by omega), k_e, hb0⟩
        case round =>
          clear k_e hb0
          obtain ⟨i, hi, rfl, HJ, k_e, hb0⟩ := hrel
          obtain ⟨e0, e1, e2, e3, e4, e5⟩ := k_e.facts
          have a0 : (0 : Int) ≤ (i : Int) := by omega
          by_cases hlt : i < 1
          · have a1 : (i : Int) < 1 := by omega
            obtain ⟨b, off, x, hKb, hbl, hx, hcall⟩ := IH.out i hlt
            have hB : Below w0.heap.size w0 wr := hbw.trans (hb0.mono hbw.size)
            have hx6 := hx.keep (hB.block b hbl)
            have HC := Lib.hid (hcall wr hB)
            have HX := Lib.hid (And.intro hbl hx)
            have HKB := Lib.hid hKb
            rw [hKb] at e5
            clear hKb hx hbl hcall
            obtain ⟨x0, x1, x2, x3, x4, x5⟩ := hx6
            go_wp2_with fail
            have hd1 : (d : Int) + 1 = ((d + 1 : Nat) : Int) := by omega
            rw [hd1]
            clear hd1
            refine HC.out.mono ?_
            rintro e w2 ⟨cb, rfl, hcb, hb2⟩
            replace k_e := k_e.below hb2
            replace hb0 := hb0.trans (hb2.mono hb0.size)
            have HCB := Lib.hid hcb
            clear hb2 hcb HC e0 e1 e2 e3 e4 e5 x0 x1 x2 x3 x4 x5
            cases cb with
            | false =>
              go_wp2
              go_ret
              exact oneP_no hb0
            | true =>
              have HJ2 : Hid (∀ j, j < i + 1 → ∃ b off x t, K = some ⟨b, off, none⟩ ∧ b < w0.heap.size ∧ At6 w0 b (off + j * 6) x ∧ t.fine ∧ t.wf ∧ t.szd ∧ t.deep + (d + 1) ≤ 33 ∧ 3 * t.nodes ≤ ls j ∧ Tg w0 t x) := fun j hj => by
                by_cases h : j = i
                · subst h
                  obtain ⟨t, f1, f2, f3, f4, f5, f6⟩ := HCB.out rfl
                  exact ⟨b, off, x, t, HKB.out, HX.out.1, HX.out.2, f1, f2, f3, f4, f5, f6⟩
                · exact HJ.out j (by omega)
              go_wp2
              go_roundw
              case rel => exact ⟨i + 1, by omega, by go_num, HJ2, k_e, hb0⟩
              case measure => simp [intOf]; omega
          · have e : i = 1 := by omega
            have a1 : ¬ (i : Int) < 1 := by omega
            have HY : Hid (∃ t : Ex, t.fine ∧ t.wf ∧ t.szd ∧ t.deep + d ≤ 33 ∧ 3 * t.nodes ≤ L ∧ Tg w0 t ⟨7, y, ⟨#[]⟩, K, 1, c⟩) := by
              have h := HJ.out
              rw [e] at h
              obtain ⟨b1, o1, x, ta, eK1, hb1, hx, fa, wa, sa, da, na, ga⟩ := h 0 (by omega)
              have hs2 : sumL ls 1 = 0 + ls 0 := rfl
              exact ⟨.neg ta, fa, wa, sa, by show ta.deep + 1 + d ≤ 33; omega, by show 3 * (1 + ta.nodes) ≤ L; omega, rfl, rfl, rfl, hBK.out, b1, o1, x, eK1, hb1, hx, ga⟩
            clear e
            go_wp2
            go_ret
            exact ⟨true, rfl, fun _ => HY.out, hb0⟩
    · have s1 := st_no hst
      have s2 : ¬ st.toList = [] := fun e => by rw [e] at s1; cases s1
      subst hn
      go_wp2
      go_ret
      exact oneP_no hb0
  · have n1 : ¬ (n : Int) = 1 := by omega
    have n2 : ((n : Int) != 1) = true := bne_iff_ne.2 n1
    go_wp2
    go_ret
    exact oneP_no hb0
/-- The whole look. -/
theorem oneW_c : ∀ (k : Nat) (v : Ev) (w0 : World) (L : Nat), Raw w0 k v → Light w0 k v L → L ≤ 605 → ∀ (w : World) (d : Nat), Below w0.heap.size w0 w → d ≤ 40 →
    Calls Tryz.prog 13 #[.agg #[.int .i64 v.k, .bool v.r.s, .slice v.r.A v.r.n v.r.c, .slice v.r.B v.r.m v.r.d, .string v.s, .slice v.K v.n v.c], .int .i64 d] w (OneP w0 v d L w) := by
  intro k
  induction k with
  | zero => exact fun v w0 L h => h.elim
  | succ k ih =>
    intro v w0 L hraw hli hL w d hb hd
    by_cases h32 : 32 < d
    · exact (one_far v d h32 w).mono fun e w' ⟨he, hb'⟩ => by subst he; exact oneP_no hb'
    · obtain ⟨hk, hr, hs, hnc, hn9, _⟩ := hraw
      obtain ⟨ls, hLe, hkids⟩ := hli
      obtain ⟨vk, y, st, K, n, c⟩ := v
      dsimp only at *
      have h50 : y.n ≤ 75 ∧ y.m ≤ 75 := by omega
      have hsum : 3 + sumL ls n ≤ L := by omega
      have hmem : ∀ i, i < n → ls i ≤ sumL ls n := fun i hi => sumL_mem ls i n hi
      have IH : Hid (∀ i, i < n → ∃ b off x, K = some ⟨b, off, none⟩ ∧ b < w0.heap.size ∧ At6 w0 b (off + i * 6) x ∧ ∀ w', Below w0.heap.size w0 w' → Calls Tryz.prog 13 #[.agg #[.int .i64 x.k, .bool x.r.s, .slice x.r.A x.r.n x.r.c, .slice x.r.B x.r.m x.r.d, .string x.s, .slice x.K x.n x.c], .int .i64 ((d + 1 : Nat) : Int)] w' (OneP w0 x (d + 1) (ls i) w')) := by
        intro i hi
        obtain ⟨b, off, x, h1, h2, h3, h4, h5⟩ := hkids i hi
        exact ⟨b, off, x, h1, h2, h3, fun w' hb' => ih x w0 (ls i) h4 h5 (by have := hmem i hi; omega) w' (d + 1) hb' (by omega)⟩
      by_cases q1 : vk = 1
      · subst q1; exact oneW_num y st K n c d L w w0 hr h50 (by omega) (by omega) hb
      · by_cases q2 : vk = 2
        · subst q2; exact oneW_nm y st K n c d L w w0 hr h50 (by omega) (by omega) hb
        · by_cases q3 : vk = 3
          · subst q3; exact oneW_step3 y st K n c d L w w0 ls hr h50 hsum (by omega) hb hnc IH
          · by_cases q4 : vk = 4
            · subst q4; exact oneW_step4 y st K n c d L w w0 ls hr h50 hsum (by omega) hb hnc IH
            · by_cases q5 : vk = 5
              · subst q5; exact oneW_step5 y st K n c d L w w0 ls hr h50 hsum (by omega) hb hnc IH
              · by_cases q6 : vk = 6
                · subst q6; exact oneW_step6 y st K n c d L w w0 ls hr h50 hsum (by omega) hb hnc IH
                · by_cases q7 : vk = 7
                  · subst q7; exact oneW_step7 y st K n c d L w w0 ls hr h50 hsum (by omega) hb hnc IH
                  · exact oneW_no vk y st K n c d L w w0 ⟨q1, q2, q3, q4, q5, q6, q7⟩ (by omega)
end Go.Proofs.YtdpbceipiappjaaGreatDoor
