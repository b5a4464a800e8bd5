/-
  ExprSettles: the walk of the law.
-/
import Derived.Test.YtplpkojikgeamaaGreatDoorExYi
import Derived.Test.YtplpkojikgeamaaGreatDoorExZa
namespace Go.Proofs.YtplpkojikgeamaaGreatDoor
set_option maxRecDepth 20000
open Go.RowKit

theorem dxt_len {r : Rat} (h : NumOk r) : (dxt r).length ≤ 290 := by
  obtain ⟨F, hE, hF⟩ := dxt_of h
  have sz : Sz r 16 := ⟨Bd.ofL h.1, Bd.ofL h.2.1⟩
  rcases hE with ⟨_, K, hK, hx, hl⟩ | ⟨h0, _⟩
  · rw [← hF, hl]
    unfold ext
    rw [decide_eq_false h.2.2.1]
    obtain ⟨q, hq⟩ := hx.tells
    have e : r.num.natAbs * 10 ^ K / r.den = q := by rw [hq, Nat.mul_div_cancel_left _ r.den_pos]
    rw [e]
    show (fx q K).length ≤ 290
    have hx := ten160 sz.num
    have h2 : q < 10 ^ (160 + K) := by
      have h3 : q ≤ r.num.natAbs * 10 ^ K := by rw [hq]; exact Nat.le_mul_of_pos_left _ r.den_pos
      have h4 : r.num.natAbs * 10 ^ K < 10 ^ 160 * 10 ^ K := Nat.mul_lt_mul_of_pos_right hx (ten_pos K)
      rw [Nat.pow_add]; omega
    have := fx_len (k := K) (j := 160 + K) (by omega) h2
    omega
  · cases h0
theorem pr_len2 : ∀ (t : Ex), t.fine → t.pr.length ≤ 300 * t.nodes := by
  intro t
  induction t with
  | bad => exact fun h => h.elim
  | num r =>
    intro h
    have := dxt_len h
    show (dxt r).length ≤ 300 * 1
    omega
  | nm s =>
    intro h
    have := (isName_iff.1 h).2.1
    show s.data.toList.length ≤ 300 * 1
    rw [data_size]; omega
  | bin k a b iha ihb =>
    intro h
    have h1 := iha h.1
    have h2 := ihb h.2
    have h3 := wrapK_len (if k = 3 ∨ k = 4 then 1 else 2) a.row a.pr
    have h4 := wrapK_len ((if k = 3 ∨ k = 4 then 1 else 2) + 1) b.row b.pr
    have h5 := sgnK_len k
    simp only [Ex.pr, Ex.nodes, List.length_append]
    omega
  | neg a iha =>
    intro h
    have h1 := iha h
    have h3 := wrapK_len 3 a.row a.pr
    simp only [Ex.pr, Ex.nodes, List.length_cons]
    omega
theorem fin_may {S : ByteArray} {t : Ex} (h : fin S = .ok t) : t.may 32 256 ∧ t.wf := by
  have hw := wf_parse S
  unfold fin at h
  cases hp : parse tv S with
  | err a c => rw [hp] at h; cases h
  | ok t' u p n lg =>
    rw [hp] at h hw
    by_cases hm : t'.may 32 256
    · rw [fin1_yes hm] at h
      injection h with h
      rw [← h]; exact ⟨hm, hw.1⟩
    · rw [fin1_no hm] at h; cases h
theorem fin_err {S : ByteArray} {a c : Nat} (h : fin S = .err a c) : c ≠ 0 := by
  have hg := parse_good tv S
  unfold fin at h
  cases hp : parse tv S with
  | err a' c' =>
    rw [hp] at h hg
    injection h with h1 h2
    have := hg.2
    omega
  | ok t' u p n lg =>
    rw [hp] at h
    by_cases hm : t'.may 32 256
    · rw [fin1_yes hm] at h; cases h
    · rw [fin1_no hm] at h
      injection h with h1 h2
      omega
theorem pr_fits {t : Ex} (h : t.may 32 256) : (⟨t.pr.toArray⟩ : ByteArray).size ≤ 100000 := by
  have h1 := pr_len2 t h.1
  have h2 := h.2.2
  show t.pr.toArray.size ≤ 100000
  simp
  omega
set_option maxHeartbeats 800000 in
theorem ExprSettles_long (S : ByteArray) (w : World) (h : 600 < S.size) : Calls Tryz.prog 5 #[.string S] w fun e w' => e = .returned (.bool true) ∧ Below w.heap.size w w' := by
  have i1 : (600 : Int) < (S.size : Int) := by omega
  go_enter Tryz.func5, Tryz.ntmps5
  go_wp2
  go_ret
  exact ⟨rfl, Below.refl _ _⟩
set_option maxRecDepth 100000 in
set_option maxHeartbeats 8000000 in
theorem ExprSettles_short (S : ByteArray) (w : World) (h : S.size ≤ 600) (ht : Tb w) (hm : Mx w) : Calls Tryz.prog 5 #[.string S] w fun e w' => e = .returned (.bool true) ∧ Below w.heap.size w w' := by
  have i1 : ¬ (600 : Int) < (S.size : Int) := by omega
  have HT := Lib.hid ht
  have HM := Lib.hid hm
  have HP := Lib.hid (eParse_c S w (by omega) hm ht)
  have HQ : Hid (∀ w', Calls Tryz.prog 9 #[.string S] w' (FP w' (fin S))) := fun w' => rParseE_c S w' (by omega)
  have HF : Hid (∀ t, fin S = .ok t → t.may 32 256 ∧ t.wf) := fun t h => fin_may h
  have HE : Hid (∀ a c, fin S = .err a c → c ≠ 0) := fun a c h => fin_err h
  clear ht hm h
  generalize hfs : fin S = FS at *
  clear hfs
  go_enter Tryz.func5, Tryz.ntmps5
  go_wp2_with fail
  refine HP.out.mono ?_
  cases FS with
  | err a c =>
    rintro e w1 ⟨rfl, hb1⟩
    have k_1 := C6.new w1 (.int .i64 0) (.bool false) (.slice none 0 0) (.slice none 0 0) (.string ⟨#[]⟩) (.slice none 0 0)
    have hb := hb1.alloc hb1.size (.cells #[.int .i64 0, .bool false, .slice none 0 0, .slice none 0 0, .string ⟨#[]⟩, .slice none 0 0] 27)
    have hc := HE.out a c rfl
    have n1 : ¬ ((c : Int) = 0) := by omega
    have n2 : ((c : Int) != 0) = true := by rw [bne_iff_ne]; exact n1
    clear hb1 hc
    go_wp2_with fail
    refine (HQ.out _).mono ?_
    rintro e w2 ⟨rfl, hb2⟩
    replace hb := hb.trans (hb2.mono hb.size)
    clear hb2 k_1
    have HB := Lib.hid hb
    go_wp2_with fail
    first
      | refine (known5_any _ (HT.out.below hb) (HM.out.below hb)).mono ?_
      | refine (known5_any _ (HT.out.below (hb.alloc hb.size _)) (HM.out.below (hb.alloc hb.size _))).mono ?_
    rintro e w5 ⟨rfl, hb5⟩
    go_wp2
    go_ret
    first
      | exact ⟨rfl, HB.out.trans (hb5.mono HB.out.size)⟩
      | exact ⟨rfl, (HB.out.alloc HB.out.size _).trans (hb5.mono (HB.out.alloc HB.out.size _).size)⟩
  | ok t =>
    rintro e w1 ⟨v, rfl, hv, hb1⟩
    obtain ⟨hmay, hwf⟩ := HF.out t rfl
    have HMAY := Lib.hid hmay
    have HWF := Lib.hid hwf
    have HFIT := Lib.hid (pr_fits hmay)
    have HPP : Hid (fin ⟨t.pr.toArray⟩ = .ok t) := parse_pr hmay hwf rfl
    have k_1 := C6.new w1 (.int .i64 v.k) (.bool v.r.s) (.slice v.r.A v.r.n v.r.c) (.slice v.r.B v.r.m v.r.d) (.string v.s) (.slice v.K v.n v.c)
    have hb := hb1.alloc hb1.size (.cells #[.int .i64 v.k, .bool v.r.s, .slice v.r.A v.r.n v.r.c, .slice v.r.B v.r.m v.r.d, .string v.s, .slice v.K v.n v.c] 27)
    replace hv := hv.alloc (.cells #[.int .i64 v.k, .bool v.r.s, .slice v.r.A v.r.n v.r.c, .slice v.r.B v.r.m v.r.d, .string v.s, .slice v.K v.n v.c] 27)
    clear hb1 hmay hwf
    obtain ⟨e0, e1, e2, e3, e4, e5⟩ := k_1.facts
    have HTX : Hid (∀ (v : Ev) (w' : World) (P : Nat → Prop), Tw w' P t v → Tb w' → Calls Tryz.prog 16 #[.agg #[.int .i64 v.k, .bool v.r.s, .slice v.r.A v.r.n v.r.c, .slice v.r.B v.r.m v.r.d, .string v.s, .slice v.K v.n v.c]] w' fun e w'' => e = .returned (.string ⟨t.pr.toArray⟩) ∧ Below w'.heap.size w' w'') := fun v w' P h1 h2 => ePrint_c HMAY.out HWF.out h1 h2
    obtain ⟨T, hTd⟩ : ∃ T : ByteArray, Hid (T = ⟨t.pr.toArray⟩) := ⟨_, rfl⟩
    rw [← hTd.out] at HTX HPP HFIT
    clear hTd
    go_wp2_with fail
    refine (HTX.out v _ _ hv (HT.out.below hb)).mono ?_
    rintro e w2 ⟨rfl, hb2⟩
    replace k_1 := k_1.below hb2
    replace hv := hv.below hb2
    replace hb := hb.trans (hb2.mono hb.size)
    clear hb2 e0 e1 e2 e3 e4 e5
    obtain ⟨e0, e1, e2, e3, e4, e5⟩ := k_1.facts
    have HC := eParse_c T w2 HFIT.out (HM.out.below hb) (HT.out.below hb)
    rw [HPP.out] at HC
    have HCC := Lib.hid HC
    clear HC
    go_wp2_with fail
    refine HCC.out.mono ?_
    rintro e w3 ⟨u, rfl, hu, hb2⟩
    replace k_1 := (k_1.below hb2).alloc (.cells #[.int .i64 u.k, .bool u.r.s, .slice u.r.A u.r.n u.r.c, .slice u.r.B u.r.m u.r.d, .string u.s, .slice u.K u.n u.c] 27)
    replace hv := (hv.below hb2).alloc (.cells #[.int .i64 u.k, .bool u.r.s, .slice u.r.A u.r.n u.r.c, .slice u.r.B u.r.m u.r.d, .string u.s, .slice u.K u.n u.c] 27)
    replace hb := hb.trans (hb2.mono hb.size)
    have k_2 := C6.new w3 (.int .i64 u.k) (.bool u.r.s) (.slice u.r.A u.r.n u.r.c) (.slice u.r.B u.r.m u.r.d) (.string u.s) (.slice u.K u.n u.c)
    replace hu := hu.alloc (.cells #[.int .i64 u.k, .bool u.r.s, .slice u.r.A u.r.n u.r.c, .slice u.r.B u.r.m u.r.d, .string u.s, .slice u.K u.n u.c] 27)
    replace hb := hb.alloc hb.size (.cells #[.int .i64 u.k, .bool u.r.s, .slice u.r.A u.r.n u.r.c, .slice u.r.B u.r.m u.r.d, .string u.s, .slice u.K u.n u.c] 27)
    clear hb2 HCC e0 e1 e2 e3 e4 e5
    obtain ⟨e0, e1, e2, e3, e4, e5⟩ := k_1.facts
    obtain ⟨d0, d1, d2, d3, d4, d5⟩ := k_2.facts
    go_wp2_with fail
    refine (eSame_c t v u _ HMAY.out.1 hv hu).mono ?_
    rintro e w4 ⟨rfl, hb2⟩
    replace k_1 := k_1.below hb2
    replace k_2 := k_2.below hb2
    replace hv := hv.below hb2
    replace hu := hu.below hb2
    replace hb := hb.trans (hb2.mono hb.size)
    clear hb2 e0 e1 e2 e3 e4 e5 d0 d1 d2 d3 d4 d5
    obtain ⟨e0, e1, e2, e3, e4, e5⟩ := k_1.facts
    obtain ⟨d0, d1, d2, d3, d4, d5⟩ := k_2.facts
    go_wp2_with fail
    refine (HTX.out u _ _ hu (HT.out.below hb)).mono ?_
    rintro e w5 ⟨rfl, hb2⟩
    replace k_1 := k_1.below hb2
    replace hv := hv.below hb2
    replace hb := hb.trans (hb2.mono hb.size)
    clear hb2 e0 e1 e2 e3 e4 e5 d0 d1 d2 d3 d4 d5 k_2 hu
    obtain ⟨e0, e1, e2, e3, e4, e5⟩ := k_1.facts
    go_wp2_with fail
    refine (eIs_c true ⟨fun _ => HMAY.out, fun _ => rfl⟩ HWF.out hv (HT.out.below hb)).mono ?_
    rintro e w6 ⟨rfl, hb2⟩
    replace hb := hb.trans (hb2.mono hb.size)
    clear hb2 e0 e1 e2 e3 e4 e5 hv k_1
    have HB := Lib.hid hb
    go_wp2_with fail
    refine (known5_any _ (HT.out.below hb) (HM.out.below hb)).mono ?_
    rintro e w7 ⟨rfl, hb5⟩
    go_wp2
    go_ret
    exact ⟨rfl, HB.out.trans (hb5.mono HB.out.size)⟩
theorem ExprSettles_all (S : ByteArray) (w : World) (ht : Tb w) (hm : Mx w) : Calls Tryz.prog 5 #[.string S] w fun e w' => e = .returned (.bool true) ∧ Below w.heap.size w w' := by
  by_cases h : S.size ≤ 600
  · exact ExprSettles_short S w h ht hm
  · exact ExprSettles_long S w (by omega)
end Go.Proofs.YtplpkojikgeamaaGreatDoor
