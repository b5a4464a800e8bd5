/-
  Whether sums imply another.
-/
import Derived.Test.YtgffkaconhonlaaGreatWRaw
namespace Go.Proofs.YtgffkaconhonlaaGreat
set_option maxRecDepth 20000
open Go.RowKit
def ImpPost (N : Nat) (vs : List Kin) (L : List (Int × Rat)) (k : Rat) (okc : Bool) (w : World) (e : Ending) (w' : World) : Prop :=
 ∃ b : Bool, e = .returned (.bool b) ∧ (b = true ↔ (¬ ∃ x, Sat N (sums N vs) x) ∨ (okc = true ∧ ∀ x, Sat N (sums N vs) x → dot N (fn N L k) x = 0)) ∧ Below w.heap.size w w'
theorem left_nil {N : Nat} {L : List (Int × Rat)} {k : Rat} (h : Asc (N : Int) 0 L) : (L = [] ∧ k = 0) ↔ (lead N (fn N L k) = N ∧ fn N L k N = 0) := by
 rw [fn_k]
 constructor
 · rintro ⟨rfl, rfl⟩; exact ⟨fn_nil _ _, rfl⟩
 ·
  rintro ⟨h1, h2⟩
  refine ⟨?_, h2⟩
  match L, h, h1 with
  | [], _, _ => rfl
  |
   (v, q) :: l, h, h1 =>
   exfalso
   have := fn_lead (n := N) (k := k) h
   have := h.2.1
   omega
set_option maxHeartbeats 12800000 in
theorem Implies_e (n : Int) (N s E e0 : Nat) (A : Option Addr) (m c : Nat) (vs : List Kin) (va : Cv) (L : List (Int × Rat)) (k : Rat) (okc : Bool) (w : World) (hN : heldN n = N) (h : Kns N s w A m vs) (hx : KinOf N s w ⟨va, L, k, okc⟩) (hm : m ≤ 1000) (hr : RoomE s E e0 N) (hd : ∀ x ∈ vs, x.ok = true → Fr E x.L x.k) (hc : okc = true → Fr E L k) :
  Calls Tryz.prog 21 #[.slice A m c, .agg #[.int .i64 va.s, .slice va.A va.n va.c, .bool va.K.s, .slice va.K.A va.K.n va.K.c, .slice va.K.B va.K.m va.K.d], .int .i64 n] w (ImpPost N vs L k okc w) := by
 have HH := Lib.hid h
 have HR := Lib.hid hr
 have HD := Lib.hid (And.intro hd hc)
 have HN := Lib.hid hN
 have HX : Hid (∃ la, va.n ≤ va.c ∧ va.n ≤ 1000 ∧ Rw w va.K k s ∧ Tms w 0 va.A va.n la ∧ Rds w s la L ∧ (okc = true ↔ IsS w va la (N : Int))) := by
  obtain ⟨h1, h2, h3, la, h4, h5, h6⟩ := hx
  exact ⟨la, h1, h2, h3, h4, h5, h6⟩
 obtain ⟨la, hX⟩ := HX.out
 have HX := Lib.hid hX
 have kc := C5.new w (.int .i64 va.s) (.slice va.A va.n va.c) (.bool va.K.s) (.slice va.K.A va.K.n va.K.c) (.slice va.K.B va.K.m va.K.d)
 have hB : Below w.heap.size w (w.alloc (.cells #[.int .i64 va.s, .slice va.A va.n va.c, .bool va.K.s, .slice va.K.A va.K.n va.K.c, .slice va.K.B va.K.m va.K.d] 28)) := (Below.refl _ _).alloc (Nat.le_refl _) _
 clear h hx hr hN hX hd hc
 go_enter Tryz.func21, Tryz.ntmps21
 go_wp2_with fail
 generalize w.alloc (.cells #[.int .i64 va.s, .slice va.A va.n va.c, .bool va.K.s, .slice va.K.A va.K.n va.K.c, .slice va.K.B va.K.m va.K.d] 28) = W0 at *
 have HZ0 := Lib.hid (And.intro kc hB)
 clear kc hB
 refine (held_c n _).mono ?_
 rintro e w1 ⟨rfl, rfl⟩
 rw [HN.out]
 go_wp2_with fail
 refine (stairsOf_e N s E e0 A m c vs _ (HH.out.below HZ0.out.2) HR.out.1 hm HR.out.2.1 HR.out.2.2.1 HR.out.2.2.2.1 HR.out.2.2.2.2 HD.out.1).mono ?_
 rintro e W ⟨sb, mb, hi, us, rs, ok, rfl, hp, hs, hhi, hb⟩
 have HS := Lib.hid (And.intro hp (And.intro hs (And.intro hhi hb)))
 have HZW : Hid (C5 W w.heap.size (.int .i64 va.s) (.slice va.A va.n va.c) (.bool va.K.s) (.slice va.K.A va.K.n va.K.c) (.slice va.K.B va.K.m va.K.d) ∧ Below w.heap.size w W) := ⟨HZ0.out.1.below hb, HZ0.out.2.trans (hb.mono HZ0.out.2.size)⟩
 clear hp hs hhi hb HZ0
 obtain ⟨s0, s1, _⟩ := HS.out.2.1.st.facts
 cases ok with
 |
  false =>
  go_wp2
  go_ret
  refine ⟨true, rfl, ⟨fun _ => .inl ?_, fun _ => rfl⟩, HZW.out.2⟩
  rintro ⟨x, hx⟩
  exact HS.out.2.1.stair.bad rfl x ((sat_perm HS.out.1 x).2 hx)
 |
  true =>
  obtain ⟨c0, c1, c2, c3, c4⟩ := HZW.out.1.facts
  go_wp2_with fail
  refine (IsK_c va (N : Int) la L k _ (HX.out.2.2.2.1.below HZW.out.2) ((HX.out.2.2.2.2.1.below HZW.out.2).more (by have := HR.out.2.1; omega)) ((HX.out.2.2.1.below HZW.out.2).more (by have := HR.out.2.1; omega)) HX.out.2.1 okc (HX.out.2.2.2.2.2.trans (IsS.turn HX.out.2.2.2.2.1 HX.out.2.2.1 HZW.out.2))).mono ?_
  rintro e w5 ⟨rfl, hb5⟩
  have H5 : Hid (C5 w5 w.heap.size (.int .i64 va.s) (.slice va.A va.n va.c) (.bool va.K.s) (.slice va.K.A va.K.n va.K.c) (.slice va.K.B va.K.m va.K.d) ∧ Below w.heap.size w w5 ∧ Below W.heap.size W w5) := ⟨HZW.out.1.below hb5, HZW.out.2.trans (hb5.mono HZW.out.2.size), hb5⟩
  clear c0 c1 c2 c3 c4 hb5 HZW s0 s1
  obtain ⟨c0, c1, c2, c3, c4⟩ := H5.out.1.facts
  have hsat : ∃ x, Sat N (sums N vs) x := by
   obtain ⟨x, hx⟩ := HS.out.2.1.stair.cons.1 rfl
   exact ⟨x, (sat_perm HS.out.1 x).1 hx⟩
  have HSAT := Lib.hid hsat
  clear hsat
  cases okc with
  |
   false =>
   go_wp2
   go_ret
   refine ⟨false, rfl, ⟨fun e => (by cases e), fun h => ?_⟩, H5.out.2.1⟩
   rcases h with h | h
   · exact absurd HSAT.out h
   · cases h.1
  |
   true =>
   have HPR : Hid (Asc (N : Int) 0 L ∧ Fr E L k) := by
    have hAsc := (HX.out.2.2.2.2.2.1 rfl).asc HX.out.2.2.2.2.1
    exact ⟨hAsc, HD.out.2 rfl⟩
   obtain ⟨P0, hP0⟩ : ∃ P0, P0 = E * bigX E rs.length := ⟨_, rfl⟩
   have HP : Hid (E * pot rs 0 ≤ P0 ∧ Bd P0 10000000) := by
    have hE : 1 ≤ E := HR.out.2.2.1
    have h1 := (bigX_bd (i := rs.length) hE HR.out.2.2.2.1).more (Nat.le_trans (Nat.mul_le_mul (Nat.le_refl _) (Nat.pow_le_pow_right (by omega) HS.out.2.1.len)) HR.out.2.2.2.2)
    have h2 := Nat.mul_le_mul (Nat.le_refl E) HS.out.2.1.pot
    rw [hP0]
    exact ⟨h2, h1⟩
   clear hP0
   have HVV : Hid (∀ w', w5.grownBy w' (some w.heap.size) → Cw w' va L k 10000000) := fun w' hg => by
    have hb := below_gr H5.out.2.1 (Nat.le_refl _) hg
    exact Cw.more (p := s) ⟨HX.out.1, ⟨la, HX.out.2.2.2.1.below hb, HX.out.2.2.2.2.1.below hb⟩, HX.out.2.2.1.below hb⟩ (by have := HR.out.2.1; omega)
   go_wp2_with fail
   refine (rest_c N N hi sb mb E P0 w.heap.size rs true va L k _ (HS.out.2.1.st.below H5.out.2.2) (Nat.le_refl _) (by have := HR.out.1; omega) HPR.out.1 HPR.out.2 HP.out.1 HP.out.2 H5.out.1.lt HVV.out).mono ?_
   rintro e w6 ⟨z, L', k', rfl, hzs, hr1, hr2, hr3, hb6⟩
   clear hzs
   have H6 : Hid (Cw w6 z L' k' 10000000 ∧ Below w.heap.size w w6) := ⟨hr1 _ (grown_refl _ _), H5.out.2.1.trans (hb6.mono H5.out.2.1.size)⟩
   have hA' := (hr2.bd HS.out.2.1.st.okr HP.out.2).2.2
   have hI := HS.out.2.1.stair.imp rfl (hr2.red N) (fun f hf e => by
    obtain ⟨r', hr', e1, e2⟩ := rows_lead HS.out.2.1.st.okr hf
    have hlt := HS.out.2.1.stair.ech.lt f hf
    match L', hA', hr3, e with
    | [], _, _, e => rw [fn_nil] at e; omega
    |
     (v, q) :: l, hA', hr3, e =>
     have h1 := fn_lead (n := N) (k := k') hA'
     refine hr3 v q l rfl r' hr' ?_
     omega)
   have HI : Hid ((L' = [] ∧ k' = 0) ↔ ∀ x, Sat N (sums N vs) x → dot N (fn N L k) x = 0) := ((left_nil hA').trans hI).trans ⟨fun g x hx => g x ((sat_perm HS.out.1 x).2 hx), fun g x hx => g x ((sat_perm HS.out.1 x).1 hx)⟩
   clear hr1 hr2 hr3 hb6 hA' hI c0 c1 c2 c3 c4
   go_wp2_with fail
   refine (isNothing_c z L' k' 10000000 _ H6.out.1 (by omega)).mono ?_
   rintro e w7 ⟨rfl, hb7⟩
   have H7 : Hid (Below w.heap.size w w7) := H6.out.2.trans (hb7.mono H6.out.2.size)
   clear hb7
   go_wp2
   go_ret
   refine ⟨decide (L' = [] ∧ k' = 0), by simp, ?_, H7.out⟩
   rw [decide_eq_true_iff, HI.out]
   exact ⟨fun g => .inr ⟨rfl, g⟩, fun g => g.elim (fun g => absurd HSAT.out g) (·.2)⟩
theorem Implies_c (n : Int) (N s : Nat) (A : Option Addr) (m c : Nat) (vs : List Kin) (va : Cv) (L : List (Int × Rat)) (k : Rat) (okc : Bool) (w : World) (hN : heldN n = N) (h : Kns N s w A m vs) (hx : KinOf N s w ⟨va, L, k, okc⟩) (hm : m ≤ 1000) (hr : Room s N) :
  Calls Tryz.prog 21 #[.slice A m c, .agg #[.int .i64 va.s, .slice va.A va.n va.c, .bool va.K.s, .slice va.K.A va.K.n va.K.c, .slice va.K.B va.K.m va.K.d], .int .i64 n] w (ImpPost N vs L k okc w) :=
 Implies_e n N s _ _ A m c vs va L k okc w hN h hx hm hr.d.e (h.fr hr.2.1 h.lens) fun ho => by
  obtain ⟨_, _, h3, la, _, h5, h6⟩ := hx
  replace h5 : Rds w s la L := h5
  have hl := ((h6.1 ho).asc h5).len (by omega)
  exact (fr_init s k (h3.sz hr.2.1) L (h5.sz hr.2.1)).le (Nat.pow_le_pow_right (by omega) (Nat.mul_le_mul (Nat.le_refl _) (by omega)))
end Go.Proofs.YtgffkaconhonlaaGreat
