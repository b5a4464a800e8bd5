/-
  ExprBlanks: the walk of the law.
-/
import Derived.Test.YtcmkgoikmleanaaGreatDoorBlk
import Derived.Test.YtcmkgoikmleanaaGreatDoorExZc
import Derived.Deep.RegionHeld3
namespace Go.Proofs.YtcmkgoikmleanaaGreatDoor
set_option maxRecDepth 20000
open Go.RowKit

theorem left_light {w : World} {k : Nat} {v : Ev} {R : Int} (h : Left w k v 300 R) (hR : ¬ R < 0) : ∃ L, Light w k v L ∧ L ≤ 300 := by
  rcases h.2 with h | ⟨L, h1, h2, h3⟩
  · exact absurd h hR
  · exact ⟨L, h1, by omega⟩
/-- The answer that is asked. -/
def Yes (w : World) (e : Ending) (w' : World) : Prop := e = .returned (.bool true) ∧ Below w.heap.size w w'

theorem text_size {G TA TB : ByteArray} : (G ++ (⟨#[40]⟩ : ByteArray) ++ G ++ TA ++ G ++ (⟨#[41]⟩ : ByteArray) ++ G ++ (⟨#[42]⟩ : ByteArray) ++ G ++ (⟨#[40]⟩ : ByteArray) ++ TB ++ G ++ (⟨#[41]⟩ : ByteArray) ++ G).size = G.size + 1 + G.size + TA.size + G.size + 1 + G.size + 1 + G.size + 1 + TB.size + G.size + 1 + G.size := by
  simp only [ByteArray.size_append]
  rfl
theorem text_list {G TA TB : ByteArray} {g : Nat} {a b : List UInt8} (hg : G.data.toList = sp g) (ha : TA.data.toList = a) (hb : TB.data.toList = b) :
    (G ++ (⟨#[40]⟩ : ByteArray) ++ G ++ TA ++ G ++ (⟨#[41]⟩ : ByteArray) ++ G ++ (⟨#[42]⟩ : ByteArray) ++ G ++ (⟨#[40]⟩ : ByteArray) ++ TB ++ G ++ (⟨#[41]⟩ : ByteArray) ++ G).data.toList = sp g ++ 40 :: (sp g ++ (a ++ (sp g ++ 41 :: (sp g ++ 42 :: (sp g ++ 40 :: (sp 0 ++ (b ++ (sp g ++ 41 :: (sp g ++ []))))))))) := by
  subst ha; subst hb
  rw [← hg]
  simp [sp, ByteArray.data_append]
set_option maxRecDepth 100000 in
set_option maxHeartbeats 25600000 in
theorem ExprBlanks_main (va vb : Ev) (ka La Lb g : Nat) (ta tb : Ex) (n : Int) (w : World) (hra : Raw w ka va) (hrb : Raw w ka vb) (hla : Light w ka va La) (hlb : Light w ka vb Lb) (hLa : La ≤ 300) (hLb : Lb ≤ 300) (hma : ta.may 32 256) (hmb : tb.may 32 256) (hwa : ta.wf) (hwb : tb.wf) (hsa : ta.szd) (hsb : tb.szd) (hga : Tg w ta va) (hgb : Tg w tb vb) (hn : n = (g : Int)) (hn10 : g ≤ 10) (hT0 : Tb w) (hM0 : Mx w) :
    Calls Tryz.prog 4 #[.agg #[.int .i64 va.k, .bool va.r.s, .slice va.r.A va.r.n va.r.c, .slice va.r.B va.r.m va.r.d, .string va.s, .slice va.K va.n va.c], .agg #[.int .i64 vb.k, .bool vb.r.s, .slice vb.r.A vb.r.n vb.r.c, .slice vb.r.B vb.r.m vb.r.d, .string vb.s, .slice vb.K vb.n vb.c], .int .i64 n] w (Yes w) := by
  subst hn
  have na := tg_nodes ta ka La va hga hla
  have nb := tg_nodes tb ka Lb vb hgb hlb
  have pa := pr_len2 ta hma.1
  have pb := pr_len2 tb hmb.1
  have HIA : Hid (∀ w', Below w.heap.size w w' → Calls Tryz.prog 7 #[.agg #[.int .i64 va.k, .bool va.r.s, .slice va.r.A va.r.n va.r.c, .slice va.r.B va.r.m va.r.d, .string va.s, .slice va.K va.n va.c]] w' fun e w'' => e = .returned (.bool true) ∧ Below w'.heap.size w' w'') := fun w' hb => IsT_c hma hwa hsa hga hb
  have HIB : Hid (∀ w', Below w.heap.size w w' → Calls Tryz.prog 7 #[.agg #[.int .i64 vb.k, .bool vb.r.s, .slice vb.r.A vb.r.n vb.r.c, .slice vb.r.B vb.r.m vb.r.d, .string vb.s, .slice vb.K vb.n vb.c]] w' fun e w'' => e = .returned (.bool true) ∧ Below w'.heap.size w' w'') := fun w' hb => IsT_c hmb hwb hsb hgb hb
  have HPA : Hid (∀ w', Below w.heap.size w w' → Calls Tryz.prog 12 #[.agg #[.int .i64 va.k, .bool va.r.s, .slice va.r.A va.r.n va.r.c, .slice va.r.B va.r.m va.r.d, .string va.s, .slice va.K va.n va.c]] w' fun e w'' => e = .returned (.string (tx ta.pr)) ∧ Below w'.heap.size w' w'') := fun w' hb => PrintT_c hma hwa hsa hga hb
  have HPB : Hid (∀ w', Below w.heap.size w w' → Calls Tryz.prog 12 #[.agg #[.int .i64 vb.k, .bool vb.r.s, .slice vb.r.A vb.r.n vb.r.c, .slice vb.r.B vb.r.m vb.r.d, .string vb.s, .slice vb.K vb.n vb.c]] w' fun e w'' => e = .returned (.string (tx tb.pr)) ∧ Below w'.heap.size w' w'') := fun w' hb => PrintT_c hmb hwb hsb hgb hb
  obtain ⟨TA, hTA⟩ : ∃ TA, TA = tx ta.pr := ⟨_, rfl⟩
  obtain ⟨TB, hTB⟩ : ∃ TB, TB = tx tb.pr := ⟨_, rfl⟩
  rw [← hTA] at HPA
  rw [← hTB] at HPB
  have LTA : Hid (TA.data.toList = ta.pr) := by show _ = _; rw [hTA]; exact tx_list _
  have LTB : Hid (TB.data.toList = tb.pr) := by show _ = _; rw [hTB]; exact tx_list _
  have zA : TA.size ≤ 30000 := by rw [hTA, tx_size]; omega
  have zB : TB.size ≤ 30000 := by rw [hTB, tx_size]; omega
  have HMAY : Hid ((Ex.bin 5 ta tb).may 32 256 ∨ ¬ (Ex.bin 5 ta tb).may 32 256) := Classical.em _
  have HWF : Hid ((Ex.bin 5 ta tb).wf) := ⟨by omega, hwa, hwb⟩
  have HSZ : Hid ((Ex.bin 5 ta tb).szd) := ⟨hsa, hsb⟩
  have HRA := Lib.hid hra
  have HRB := Lib.hid hrb
  have HLA := Lib.hid hla
  have HLB := Lib.hid hlb
  have H3 := Lib.hid (And.intro hLa hLb)
  have HGA := Lib.hid hga
  have HGB := Lib.hid hgb
  have HT := Lib.hid hT0
  have HM := Lib.hid hM0
  have k_a := C6.new w (.int .i64 va.k) (.bool va.r.s) (.slice va.r.A va.r.n va.r.c) (.slice va.r.B va.r.m va.r.d) (.string va.s) (.slice va.K va.n va.c)
  have k_b := C6.new (w.alloc (.cells #[.int .i64 va.k, .bool va.r.s, .slice va.r.A va.r.n va.r.c, .slice va.r.B va.r.m va.r.d, .string va.s, .slice va.K va.n va.c] 27)) (.int .i64 vb.k) (.bool vb.r.s) (.slice vb.r.A vb.r.n vb.r.c) (.slice vb.r.B vb.r.m vb.r.d) (.string vb.s) (.slice vb.K vb.n vb.c)
  have e1 : (w.alloc (.cells #[.int .i64 va.k, .bool va.r.s, .slice va.r.A va.r.n va.r.c, .slice va.r.B va.r.m va.r.d, .string va.s, .slice va.K va.n va.c] 27)).heap.size = w.heap.size + 1 := by simp
  rw [e1] at k_b
  clear e1
  replace k_a := k_a.alloc (.cells #[.int .i64 vb.k, .bool vb.r.s, .slice vb.r.A vb.r.n vb.r.c, .slice vb.r.B vb.r.m vb.r.d, .string vb.s, .slice vb.K vb.n vb.c] 27)
  have HB := ((Below.refl w.heap.size w).alloc (Nat.le_refl _) (.cells #[.int .i64 va.k, .bool va.r.s, .slice va.r.A va.r.n va.r.c, .slice va.r.B va.r.m va.r.d, .string va.s, .slice va.K va.n va.c] 27)).alloc (by simp) (.cells #[.int .i64 vb.k, .bool vb.r.s, .slice vb.r.A vb.r.n vb.r.c, .slice vb.r.B vb.r.m vb.r.d, .string vb.s, .slice vb.K vb.n vb.c] 27)
  have HWA := Lib.hid (fun (w' : World) (hb : Below w.heap.size w w') => weight_c ka va w' w 300 hra hb (by omega) (by omega))
  have HWB := Lib.hid (fun (w' : World) (hb : Below w.heap.size w w') => weight_c ka vb w' w 300 hrb hb (by omega) (by omega))
  clear hTA hTB na nb pa pb hra hrb hla hlb hLa hLb hma hmb hwa hwb hsa hsb hga hgb hT0 hM0
  have n0 : ¬ (g : Int) < 0 := by omega
  have n1 : ¬ (10 : Int) < (g : Int) := by omega
  have n2 : (g : Int) ≤ 10 := by omega
  obtain ⟨a0, a1, a2, a3, a4, a5⟩ := k_a.facts
  obtain ⟨b0, b1, b2, b3, b4, b5⟩ := k_b.facts
  go_enter Tryz.func4, Tryz.ntmps4
  go_wp2_with fail
  refine (HWA.out _ HB).mono ?_
  rintro e w1 ⟨R1, rfl, _, hb1⟩
  replace k_a := k_a.below hb1
  replace k_b := k_b.below hb1
  replace HB := HB.trans (hb1.mono HB.size)
  clear hb1 a0 a1 a2 a3 a4 a5 b0 b1 b2 b3 b4 b5
  obtain ⟨a0, a1, a2, a3, a4, a5⟩ := k_a.facts
  obtain ⟨b0, b1, b2, b3, b4, b5⟩ := k_b.facts
  by_cases h1 : R1 < 0
  · go_wp2
    go_ret
    exact ⟨rfl, HB⟩
  go_wp2_with fail
  refine (HWB.out _ HB).mono ?_
  rintro e w2 ⟨Q1, rfl, _, hb1⟩
  replace k_a := k_a.below hb1
  replace k_b := k_b.below hb1
  replace HB := HB.trans (hb1.mono HB.size)
  clear hb1 a0 a1 a2 a3 a4 a5 b0 b1 b2 b3 b4 b5
  obtain ⟨a0, a1, a2, a3, a4, a5⟩ := k_a.facts
  obtain ⟨b0, b1, b2, b3, b4, b5⟩ := k_b.facts
  by_cases h2 : Q1 < 0
  · go_wp2
    go_ret
    exact ⟨rfl, HB⟩
  go_wp2_with fail
  refine (HIA.out _ HB).mono ?_
  rintro e w3 ⟨rfl, hb1⟩
  replace k_a := k_a.below hb1
  replace k_b := k_b.below hb1
  replace HB := HB.trans (hb1.mono HB.size)
  clear hb1 a0 a1 a2 a3 a4 a5 b0 b1 b2 b3 b4 b5
  obtain ⟨a0, a1, a2, a3, a4, a5⟩ := k_a.facts
  obtain ⟨b0, b1, b2, b3, b4, b5⟩ := k_b.facts
  go_wp2_with fail
  refine (HIB.out _ HB).mono ?_
  rintro e w4 ⟨rfl, hb1⟩
  replace k_a := k_a.below hb1
  replace k_b := k_b.below hb1
  replace HB := HB.trans (hb1.mono HB.size)
  clear hb1 a0 a1 a2 a3 a4 a5 b0 b1 b2 b3 b4 b5
  obtain ⟨a0, a1, a2, a3, a4, a5⟩ := k_a.facts
  obtain ⟨b0, b1, b2, b3, b4, b5⟩ := k_b.facts
  clear HWA HWB HIA HIB
  go_wp2
  clear h1 h2 n0 n1
  go_loop [7, 8] (fun gv iv => ∃ (i : Nat) (G : ByteArray), i ≤ g ∧ iv = .int .i64 i ∧ gv = .string G ∧ Hid (G.data.toList = sp i)) (fun _ iv => g - (intOf iv).toNat)
  case atStart => exact ⟨0, ⟨#[]⟩, Nat.zero_le _, rfl, rfl, (rfl : _ = _)⟩
  case round =>
    obtain ⟨i, G, hi, rfl, rfl, HG⟩ := hrel
    have i0 : (0 : Int) ≤ (i : Int) := by omega
    have gz : G.size = i := by rw [← data_size, HG.out, sp_len]
    have gq : G.size ≤ 10 := by omega
    by_cases hlt : i < g
    · have a1' : (i : Int) < (g : Int) := by omega
      have q1 : ¬ (9223372036854775807 < G.size + 1) := by omega
      have q2 : ¬ (G.size + 1 > 9223372036854775807) := by omega
      have HG2 : Hid ((G ++ (⟨#[32]⟩ : ByteArray)).data.toList = sp (i + 1)) := by
        show _ = _
        rw [app_list HG.out (m := [32]) rfl]
        show List.replicate i 32 ++ [32] = List.replicate (i + 1) 32
        rw [List.replicate_succ']
      clear gz
      go_wp2
      go_round
      case rel => exact ⟨i + 1, _, by omega, by go_num, rfl, HG2⟩
      case measure => simp [intOf]; omega
    · have e : i = g := by omega
      have a1' : ¬ (i : Int) < (g : Int) := by omega
      rw [e] at HG
      have gg : G.size ≤ 10 := gq
      clear e gz hlt
      have y40 : Hid ((⟨#[40]⟩ : ByteArray).size = 1) := (rfl : _ = _)
      have y41 : Hid ((⟨#[41]⟩ : ByteArray).size = 1) := (rfl : _ = _)
      have y42 : Hid ((⟨#[42]⟩ : ByteArray).size = 1) := (rfl : _ = _)
      have g0 : ¬ (9223372036854775807 < G.size + 1) := by have := y40.out; have := y41.out; have := y42.out; first | omega | (simp only [ByteArray.size_append]; omega)
      have l0 : ¬ (G.size + 1 > 9223372036854775807) := g0
      have g1 : ¬ (9223372036854775807 < G.size + 1 + G.size) := by have := y40.out; have := y41.out; have := y42.out; first | omega | (simp only [ByteArray.size_append]; omega)
      have l1 : ¬ (G.size + 1 + G.size > 9223372036854775807) := g1
      have g2 : ¬ (9223372036854775807 < G.size + 1 + G.size + TA.size) := by have := y40.out; have := y41.out; have := y42.out; first | omega | (simp only [ByteArray.size_append]; omega)
      have l2 : ¬ (G.size + 1 + G.size + TA.size > 9223372036854775807) := g2
      have g3 : ¬ (9223372036854775807 < G.size + 1 + G.size + TA.size + G.size) := by have := y40.out; have := y41.out; have := y42.out; first | omega | (simp only [ByteArray.size_append]; omega)
      have l3 : ¬ (G.size + 1 + G.size + TA.size + G.size > 9223372036854775807) := g3
      have g4 : ¬ (9223372036854775807 < G.size + 1 + G.size + TA.size + G.size + 1) := by have := y40.out; have := y41.out; have := y42.out; first | omega | (simp only [ByteArray.size_append]; omega)
      have l4 : ¬ (G.size + 1 + G.size + TA.size + G.size + 1 > 9223372036854775807) := g4
      have g5 : ¬ (9223372036854775807 < G.size + 1 + G.size + TA.size + G.size + 1 + G.size) := by have := y40.out; have := y41.out; have := y42.out; first | omega | (simp only [ByteArray.size_append]; omega)
      have l5 : ¬ (G.size + 1 + G.size + TA.size + G.size + 1 + G.size > 9223372036854775807) := g5
      have g6 : ¬ (9223372036854775807 < G.size + 1 + G.size + TA.size + G.size + 1 + G.size + 1) := by have := y40.out; have := y41.out; have := y42.out; first | omega | (simp only [ByteArray.size_append]; omega)
      have l6 : ¬ (G.size + 1 + G.size + TA.size + G.size + 1 + G.size + 1 > 9223372036854775807) := g6
      have g7 : ¬ (9223372036854775807 < G.size + 1 + G.size + TA.size + G.size + 1 + G.size + 1 + G.size) := by have := y40.out; have := y41.out; have := y42.out; first | omega | (simp only [ByteArray.size_append]; omega)
      have l7 : ¬ (G.size + 1 + G.size + TA.size + G.size + 1 + G.size + 1 + G.size > 9223372036854775807) := g7
      have g8 : ¬ (9223372036854775807 < G.size + 1 + G.size + TA.size + G.size + 1 + G.size + 1 + G.size + 1) := by have := y40.out; have := y41.out; have := y42.out; first | omega | (simp only [ByteArray.size_append]; omega)
      have l8 : ¬ (G.size + 1 + G.size + TA.size + G.size + 1 + G.size + 1 + G.size + 1 > 9223372036854775807) := g8
      have g9 : ¬ (9223372036854775807 < G.size + 1 + G.size + TA.size + G.size + 1 + G.size + 1 + G.size + 1 + TB.size) := by have := y40.out; have := y41.out; have := y42.out; first | omega | (simp only [ByteArray.size_append]; omega)
      have l9 : ¬ (G.size + 1 + G.size + TA.size + G.size + 1 + G.size + 1 + G.size + 1 + TB.size > 9223372036854775807) := g9
      have g10 : ¬ (9223372036854775807 < G.size + 1 + G.size + TA.size + G.size + 1 + G.size + 1 + G.size + 1 + TB.size + G.size) := by have := y40.out; have := y41.out; have := y42.out; first | omega | (simp only [ByteArray.size_append]; omega)
      have l10 : ¬ (G.size + 1 + G.size + TA.size + G.size + 1 + G.size + 1 + G.size + 1 + TB.size + G.size > 9223372036854775807) := g10
      have g11 : ¬ (9223372036854775807 < G.size + 1 + G.size + TA.size + G.size + 1 + G.size + 1 + G.size + 1 + TB.size + G.size + 1) := by have := y40.out; have := y41.out; have := y42.out; first | omega | (simp only [ByteArray.size_append]; omega)
      have l11 : ¬ (G.size + 1 + G.size + TA.size + G.size + 1 + G.size + 1 + G.size + 1 + TB.size + G.size + 1 > 9223372036854775807) := g11
      have g12 : ¬ (9223372036854775807 < G.size + 1 + G.size + TA.size + G.size + 1 + G.size + 1 + G.size + 1 + TB.size + G.size + 1 + G.size) := by have := y40.out; have := y41.out; have := y42.out; first | omega | (simp only [ByteArray.size_append]; omega)
      have l12 : ¬ (G.size + 1 + G.size + TA.size + G.size + 1 + G.size + 1 + G.size + 1 + TB.size + G.size + 1 + G.size > 9223372036854775807) := g12
      go_wp2_with fail
      have mk0 : Hid True := trivial
      have hn1 : ¬ w.heap.size = w.heap.size + 1 := by omega
      have hn2 : ¬ w.heap.size + 1 = w.heap.size := by omega
      go_region_held3 (fun w' => w'.cell? ⟨w.heap.size, 0, none⟩ = some (.int .i64 va.k) ∧ w'.cell? ⟨w.heap.size, 1, none⟩ = some (.bool va.r.s) ∧ w'.cell? ⟨w.heap.size, 2, none⟩ = some (.slice va.r.A va.r.n va.r.c) ∧ w'.cell? ⟨w.heap.size, 3, none⟩ = some (.slice va.r.B va.r.m va.r.d) ∧ w'.cell? ⟨w.heap.size, 4, none⟩ = some (.string va.s) ∧ w'.cell? ⟨w.heap.size, 5, none⟩ = some (.slice va.K va.n va.c) ∧ w'.cell? ⟨w.heap.size + 1, 0, none⟩ = some (.int .i64 vb.k) ∧ w'.cell? ⟨w.heap.size + 1, 1, none⟩ = some (.bool vb.r.s) ∧ w'.cell? ⟨w.heap.size + 1, 2, none⟩ = some (.slice vb.r.A vb.r.n vb.r.c) ∧ w'.cell? ⟨w.heap.size + 1, 3, none⟩ = some (.slice vb.r.B vb.r.m vb.r.d) ∧ w'.cell? ⟨w.heap.size + 1, 4, none⟩ = some (.string vb.s) ∧ w'.cell? ⟨w.heap.size + 1, 5, none⟩ = some (.slice vb.K vb.n vb.c)) (go_keep)
        (first
        | (go_at_call 12
           have mk1 := mk0
           clear mk0
           refine (HPA.out _ HB.drew).mono ?_
           rintro e w5 ⟨rfl, hb5⟩
           replace HB := HB.drew.trans (hb5.mono HB.drew.size)
           replace k_a := k_a.drew.below hb5
           replace k_b := k_b.drew.below hb5
           clear hb5 a0 a1 a2 a3 a4 a5 b0 b1 b2 b3 b4 b5
           obtain ⟨a0, a1, a2, a3, a4, a5⟩ := k_a.facts
           obtain ⟨b0, b1, b2, b3, b4, b5⟩ := k_b.facts)
        | (go_at_call 12
           have mk2 := mk1
           clear mk1
           refine (HPB.out _ HB).mono ?_
           rintro e w6 ⟨rfl, hb5⟩
           replace HB := HB.trans (hb5.mono HB.size)
           replace k_a := k_a.below hb5
           replace k_b := k_b.below hb5
           clear hb5 a0 a1 a2 a3 a4 a5 b0 b1 b2 b3 b4 b5
           obtain ⟨a0, a1, a2, a3, a4, a5⟩ := k_a.facts
           obtain ⟨b0, b1, b2, b3, b4, b5⟩ := k_b.facts))
      clear mk2 hn1 hn2
      clear g0 g1 g2 g3 g4 g5 g6 g7 g8 g9 g10 g11 g12 l0 l1 l2 l3 l4 l5 l6 l7 l8 l9 l10 l11 l12
      have za := k_a.lt
      have zb := k_b.lt
      generalize hS : G ++ (⟨#[40]⟩ : ByteArray) ++ G ++ TA ++ G ++ (⟨#[41]⟩ : ByteArray) ++ G ++ (⟨#[42]⟩ : ByteArray) ++ G ++ (⟨#[40]⟩ : ByteArray) ++ TB ++ G ++ (⟨#[41]⟩ : ByteArray) ++ G = S
      have HSL : Hid (S.data.toList = sp g ++ 40 :: (sp g ++ (ta.pr ++ (sp g ++ 41 :: (sp g ++ 42 :: (sp g ++ 40 :: (sp 0 ++ (tb.pr ++ (sp g ++ 41 :: (sp g ++ [])))))))))) := by
        show _ = _
        rw [← hS]; exact text_list HG.out LTA.out LTB.out
      have hSz : S.size ≤ 100000 := by rw [← hS, text_size]; omega
      clear hS
      have HQ : Hid (∀ w', Calls Tryz.prog 13 #[.string S] w' (FP w' (fin S))) := fun w' => rParseE_c S w' hSz
      have HPC : Hid (∀ w', Below w.heap.size w w' → Calls Tryz.prog 8 #[.string S] w' (FP w' (fin S))) := fun w' hb => eParse_c S w' hSz (HM.out.below hb) (HT.out.below hb)
      have HFIN : Hid ((Ex.bin 5 ta tb).may 32 256 → fin S = .ok (.bin 5 ta tb)) := fun h => blanks_fin h HWF.out HSL.out
      generalize hfs : fin S = FS at *
      clear hfs HSL hSz
      obtain ⟨W, hWW⟩ : ∃ W, W = w6 := ⟨_, rfl⟩
      go_wp2_with fail
      subst hWW
      have hB12 := (Below.refl W.heap.size W).alloc (Nat.le_refl _) (.cells #[.int .i64 va.k, .bool va.r.s, .slice va.r.A va.r.n va.r.c, .slice va.r.B va.r.m va.r.d, .string va.s, .slice va.K va.n va.c, .int .i64 vb.k, .bool vb.r.s, .slice vb.r.A vb.r.n vb.r.c, .slice vb.r.B vb.r.m vb.r.d, .string vb.s, .slice vb.K vb.n vb.c] 27)
      have k_12 : (W.alloc (.cells #[.int .i64 va.k, .bool va.r.s, .slice va.r.A va.r.n va.r.c, .slice va.r.B va.r.m va.r.d, .string va.s, .slice va.K va.n va.c, .int .i64 vb.k, .bool vb.r.s, .slice vb.r.A vb.r.n vb.r.c, .slice vb.r.B vb.r.m vb.r.d, .string vb.s, .slice vb.K vb.n vb.c] 27)).heap[W.heap.size]? = some (.cells #[.int .i64 va.k, .bool va.r.s, .slice va.r.A va.r.n va.r.c, .slice va.r.B va.r.m va.r.d, .string va.s, .slice va.K va.n va.c, .int .i64 vb.k, .bool vb.r.s, .slice vb.r.A vb.r.n vb.r.c, .slice vb.r.B vb.r.m vb.r.d, .string vb.s, .slice vb.K vb.n vb.c] 27 (0, 0)) := heap_alloc_new W _
      have hB6 := hB12.alloc (by simp) (.cells #[.int .i64 5, .bool false, .slice none 0 0, .slice none 0 0, .string ⟨#[]⟩, .slice (some ⟨W.heap.size, 0, none⟩) 2 2] 27)
      have k_s := C6.new (W.alloc (.cells #[.int .i64 va.k, .bool va.r.s, .slice va.r.A va.r.n va.r.c, .slice va.r.B va.r.m va.r.d, .string va.s, .slice va.K va.n va.c, .int .i64 vb.k, .bool vb.r.s, .slice vb.r.A vb.r.n vb.r.c, .slice vb.r.B vb.r.m vb.r.d, .string vb.s, .slice vb.K vb.n vb.c] 27)) (.int .i64 5) (.bool false) (.slice none 0 0) (.slice none 0 0) (.string ⟨#[]⟩) (.slice (some ⟨W.heap.size, 0, none⟩) (2 : Nat) 2)
      have e1 : (W.alloc (.cells #[.int .i64 va.k, .bool va.r.s, .slice va.r.A va.r.n va.r.c, .slice va.r.B va.r.m va.r.d, .string va.s, .slice va.K va.n va.c, .int .i64 vb.k, .bool vb.r.s, .slice vb.r.A vb.r.n vb.r.c, .slice vb.r.B vb.r.m vb.r.d, .string vb.s, .slice vb.K vb.n vb.c] 27)).heap.size = W.heap.size + 1 := by simp
      rw [e1] at k_s
      have zz : W.heap.size < ((W.alloc (.cells #[.int .i64 va.k, .bool va.r.s, .slice va.r.A va.r.n va.r.c, .slice va.r.B va.r.m va.r.d, .string va.s, .slice va.K va.n va.c, .int .i64 vb.k, .bool vb.r.s, .slice vb.r.A vb.r.n vb.r.c, .slice vb.r.B vb.r.m vb.r.d, .string vb.s, .slice vb.K vb.n vb.c] 27)).alloc (.cells #[.int .i64 5, .bool false, .slice none 0 0, .slice none 0 0, .string ⟨#[]⟩, .slice (some ⟨W.heap.size, 0, none⟩) 2 2] 27)).heap.size := by simp; omega
      have k_13 : ((W.alloc (.cells #[.int .i64 va.k, .bool va.r.s, .slice va.r.A va.r.n va.r.c, .slice va.r.B va.r.m va.r.d, .string va.s, .slice va.K va.n va.c, .int .i64 vb.k, .bool vb.r.s, .slice vb.r.A vb.r.n vb.r.c, .slice vb.r.B vb.r.m vb.r.d, .string vb.s, .slice vb.K vb.n vb.c] 27)).alloc (.cells #[.int .i64 5, .bool false, .slice none 0 0, .slice none 0 0, .string ⟨#[]⟩, .slice (some ⟨W.heap.size, 0, none⟩) 2 2] 27)).heap[W.heap.size]? = some (.cells #[.int .i64 va.k, .bool va.r.s, .slice va.r.A va.r.n va.r.c, .slice va.r.B va.r.m va.r.d, .string va.s, .slice va.K va.n va.c, .int .i64 vb.k, .bool vb.r.s, .slice vb.r.A vb.r.n vb.r.c, .slice vb.r.B vb.r.m vb.r.d, .string vb.s, .slice vb.K vb.n vb.c] 27 (0, 0)) := (((Below.refl (W.alloc (.cells #[.int .i64 va.k, .bool va.r.s, .slice va.r.A va.r.n va.r.c, .slice va.r.B va.r.m va.r.d, .string va.s, .slice va.K va.n va.c, .int .i64 vb.k, .bool vb.r.s, .slice vb.r.A vb.r.n vb.r.c, .slice vb.r.B vb.r.m vb.r.d, .string vb.s, .slice vb.K vb.n vb.c] 27)).heap.size (W.alloc (.cells #[.int .i64 va.k, .bool va.r.s, .slice va.r.A va.r.n va.r.c, .slice va.r.B va.r.m va.r.d, .string va.s, .slice va.K va.n va.c, .int .i64 vb.k, .bool vb.r.s, .slice vb.r.A vb.r.n vb.r.c, .slice vb.r.B vb.r.m vb.r.d, .string vb.s, .slice vb.K vb.n vb.c] 27))).alloc (Nat.le_refl _) (.cells #[.int .i64 5, .bool false, .slice none 0 0, .slice none 0 0, .string ⟨#[]⟩, .slice (some ⟨W.heap.size, 0, none⟩) 2 2] 27)).block W.heap.size (by rw [e1]; omega)).trans k_12
      have hBw := HB.trans (hB6.mono HB.size)
      generalize hX : (W.alloc (.cells #[.int .i64 va.k, .bool va.r.s, .slice va.r.A va.r.n va.r.c, .slice va.r.B va.r.m va.r.d, .string va.s, .slice va.K va.n va.c, .int .i64 vb.k, .bool vb.r.s, .slice vb.r.A vb.r.n vb.r.c, .slice vb.r.B vb.r.m vb.r.d, .string vb.s, .slice vb.K vb.n vb.c] 27)).alloc (.cells #[.int .i64 5, .bool false, .slice none 0 0, .slice none 0 0, .string ⟨#[]⟩, .slice (some ⟨W.heap.size, 0, none⟩) 2 2] 27) = X at *
      have HTG := Lib.hid (want_tg zz k_13 (Tg.below hBw _ _ HGA.out) (Tg.below hBw _ _ HGB.out))
      have HRW := Lib.hid (want_raw zz k_13 (raw_below hBw _ _ HRA.out) (raw_below hBw _ _ HRB.out))
      have HLW := Lib.hid (want_light zz k_13 (raw_below hBw _ _ HRA.out) (raw_below hBw _ _ HRB.out) (light_below hBw _ _ _ HLA.out) (light_below hBw _ _ _ HLB.out))
      have HX := Lib.hid hBw
      clear k_12 k_13 hB12 hB6 e1 zz hX k_a k_b za zb a0 a1 a2 a3 a4 a5 b0 b1 b2 b3 b4 b5 HB
      have hBX := Below.refl X.heap.size X
      refine (HPC.out _ hBw).mono ?_
      rcases HMAY.out with hmay | hmay
      · have hF := HFIN.out hmay
        subst hF
        rintro e w7 ⟨u, rfl, hu, hb7⟩
        have hgu := tg_of_tw _ u hmay.1 hu
        have HMY := Lib.hid hmay
        replace k_s := (k_s.below hb7).alloc (.cells #[.int .i64 u.k, .bool u.r.s, .slice u.r.A u.r.n u.r.c, .slice u.r.B u.r.m u.r.d, .string u.s, .slice u.K u.n u.c] 27)
        replace hBX := hBX.trans (hb7.mono hBX.size)
        have k_2 := C6.new w7 (.int .i64 u.k) (.bool u.r.s) (.slice u.r.A u.r.n u.r.c) (.slice u.r.B u.r.m u.r.d) (.string u.s) (.slice u.K u.n u.c)
        have hal := (Below.refl w7.heap.size w7).alloc (Nat.le_refl _) (.cells #[.int .i64 u.k, .bool u.r.s, .slice u.r.A u.r.n u.r.c, .slice u.r.B u.r.m u.r.d, .string u.s, .slice u.K u.n u.c] 27)
        replace hgu := Tg.below hal _ u hgu
        replace hBX := hBX.trans (hal.mono hBX.size)
        clear hb7 hu hal hmay hBw
        obtain ⟨s0, s1, s2, s3, s4, s5⟩ := k_s.facts
        obtain ⟨d0, d1, d2, d3, d4, d5⟩ := k_2.facts
        go_wp2_with fail
        refine (IsT_c (v := Wv W.heap.size) HMY.out HWF.out HSZ.out HTG.out hBX).mono ?_
        rintro e w8 ⟨rfl, hb8⟩
        replace k_s := k_s.below hb8
        replace k_2 := k_2.below hb8
        replace hgu := Tg.below hb8 _ u hgu
        replace hBX := hBX.trans (hb8.mono hBX.size)
        clear hb8 s0 s1 s2 s3 s4 s5 d0 d1 d2 d3 d4 d5
        obtain ⟨s0, s1, s2, s3, s4, s5⟩ := k_s.facts
        obtain ⟨d0, d1, d2, d3, d4, d5⟩ := k_2.facts
        go_wp2_with fail
        refine (gSame_c _ u (Wv W.heap.size) _ HMY.out.1 hgu (Tg.below hBX _ _ HTG.out)).mono ?_
        rintro e w9 ⟨rfl, hb9⟩
        replace hBX := hBX.trans (hb9.mono hBX.size)
        clear hb9 s0 s1 s2 s3 s4 s5 d0 d1 d2 d3 d4 d5 k_s k_2 hgu
        have HB9 := Lib.hid (HX.out.trans (hBX.mono HX.out.size))
        go_wp2_with fail
        refine (known5_any _ (HT.out.below HB9.out) (HM.out.below HB9.out)).mono ?_
        rintro e w10 ⟨rfl, hb10⟩
        go_wp2
        go_ret
        exact ⟨rfl, HB9.out.trans (hb10.mono HB9.out.size)⟩
      · have HNO : Hid (¬ ∃ t : Ex, t.may 32 256 ∧ t.wf ∧ t.szd ∧ Tg X t (Wv W.heap.size)) := by
          rintro ⟨t, h1, _, _, h4⟩
          have e := tg_one t (Ex.bin 5 ta tb) (Wv W.heap.size) h4 HTG.out
          exact hmay (e ▸ h1)
        have H605 : 3 + La + Lb ≤ 605 := by have := H3.out; omega
        have HIS : Hid (∀ w', Below X.heap.size X w' → Calls Tryz.prog 7 #[.agg #[.int .i64 5, .bool false, .slice none 0 0, .slice none 0 0, .string ⟨#[]⟩, .slice (some ⟨W.heap.size, 0, none⟩) 2 2]] w' fun e w'' => e = .returned (.bool false) ∧ Below w'.heap.size w' w'') := fun w' hb => by
          have h := IsF_c (v := Wv W.heap.size) HRW.out HLW.out H605 hb HNO.out
          exact h
        clear hmay H605 HFIN
        cases FS with
        | err a c =>
          rintro e w7 ⟨rfl, hb7⟩
          replace k_s := (k_s.below hb7).alloc (.cells #[.int .i64 0, .bool false, .slice none 0 0, .slice none 0 0, .string ⟨#[]⟩, .slice none 0 0] 27)
          replace hBX := hBX.trans (hb7.mono hBX.size)
          replace hBX := hBX.alloc hBX.size (.cells #[.int .i64 0, .bool false, .slice none 0 0, .slice none 0 0, .string ⟨#[]⟩, .slice none 0 0] 27)
          clear hb7 hBw
          obtain ⟨s0, s1, s2, s3, s4, s5⟩ := k_s.facts
          go_wp2_with fail
          refine (HIS.out _ hBX).mono ?_
          rintro e w8 ⟨rfl, hb8⟩
          replace hBX := hBX.trans (hb8.mono hBX.size)
          clear hb8 s0 s1 s2 s3 s4 s5 k_s
          go_wp2_with fail
          refine (HQ.out _).mono ?_
          rintro e w9 ⟨rfl, hb9⟩
          replace hBX := hBX.trans (hb9.mono hBX.size)
          replace hBX := hBX.alloc hBX.size (.cells #[.int .i64 0, .bool false, .slice none 0 0, .slice none 0 0, .string ⟨#[]⟩, .slice none 0 0] 27)
          clear hb9
          have HB9 := Lib.hid (HX.out.trans (hBX.mono HX.out.size))
          go_wp2_with fail
          refine (known5_any _ (HT.out.below HB9.out) (HM.out.below HB9.out)).mono ?_
          rintro e w10 ⟨rfl, hb10⟩
          go_wp2
          go_ret
          exact ⟨rfl, HB9.out.trans (hb10.mono HB9.out.size)⟩
        | ok t =>
          rintro e w7 ⟨u, rfl, hu, hb7⟩
          replace k_s := (k_s.below hb7).alloc (.cells #[.int .i64 u.k, .bool u.r.s, .slice u.r.A u.r.n u.r.c, .slice u.r.B u.r.m u.r.d, .string u.s, .slice u.K u.n u.c] 27)
          replace hBX := hBX.trans (hb7.mono hBX.size)
          replace hBX := hBX.alloc hBX.size (.cells #[.int .i64 u.k, .bool u.r.s, .slice u.r.A u.r.n u.r.c, .slice u.r.B u.r.m u.r.d, .string u.s, .slice u.K u.n u.c] 27)
          clear hb7 hBw
          obtain ⟨s0, s1, s2, s3, s4, s5⟩ := k_s.facts
          go_wp2_with fail
          refine (HIS.out _ hBX).mono ?_
          rintro e w8 ⟨rfl, hb8⟩
          replace hBX := hBX.trans (hb8.mono hBX.size)
          clear hb8 s0 s1 s2 s3 s4 s5 k_s
          go_wp2_with fail
          refine (HQ.out _).mono ?_
          rintro e w9 ⟨u2, rfl, _2, hb9⟩
          replace hBX := hBX.trans (hb9.mono hBX.size)
          replace hBX := hBX.alloc hBX.size (.cells #[.int .i64 u2.k, .bool u2.r.s, .slice u2.r.A u2.r.n u2.r.c, .slice u2.r.B u2.r.m u2.r.d, .string u2.s, .slice u2.K u2.n u2.c] 27)
          clear hb9
          have HB9 := Lib.hid (HX.out.trans (hBX.mono HX.out.size))
          go_wp2_with fail
          refine (known5_any _ (HT.out.below HB9.out) (HM.out.below HB9.out)).mono ?_
          rintro e w10 ⟨rfl, hb10⟩
          go_wp2
          go_ret
          exact ⟨rfl, HB9.out.trans (hb10.mono HB9.out.size)⟩
/-- All is such that the law looks at it. -/
def Looked (w : World) (k : Nat) (va vb : Ev) (n : Int) : Prop := ∃ (La Lb : Nat) (ta tb : Ex), Light w k va La ∧ Light w k vb Lb ∧ La ≤ 300 ∧ Lb ≤ 300 ∧ (ta.may 32 256 ∧ ta.wf ∧ ta.szd ∧ Tg w ta va) ∧ (tb.may 32 256 ∧ tb.wf ∧ tb.szd ∧ Tg w tb vb) ∧ 0 ≤ n ∧ n ≤ 10
set_option maxRecDepth 100000 in
set_option maxHeartbeats 12800000 in
theorem ExprBlanks_out (va vb : Ev) (k : Nat) (n : Int) (w : World) (hra : Raw w k va) (hrb : Raw w k vb) (hno : ¬ Looked w k va vb n) :
    Calls Tryz.prog 4 #[.agg #[.int .i64 va.k, .bool va.r.s, .slice va.r.A va.r.n va.r.c, .slice va.r.B va.r.m va.r.d, .string va.s, .slice va.K va.n va.c], .agg #[.int .i64 vb.k, .bool vb.r.s, .slice vb.r.A vb.r.n vb.r.c, .slice vb.r.B vb.r.m vb.r.d, .string vb.s, .slice vb.K vb.n vb.c], .int .i64 n] w (Yes w) := by
  have HNO := Lib.hid hno
  have HRA := Lib.hid hra
  have HRB := Lib.hid hrb
  have k_a := C6.new w (.int .i64 va.k) (.bool va.r.s) (.slice va.r.A va.r.n va.r.c) (.slice va.r.B va.r.m va.r.d) (.string va.s) (.slice va.K va.n va.c)
  have k_b := C6.new (w.alloc (.cells #[.int .i64 va.k, .bool va.r.s, .slice va.r.A va.r.n va.r.c, .slice va.r.B va.r.m va.r.d, .string va.s, .slice va.K va.n va.c] 27)) (.int .i64 vb.k) (.bool vb.r.s) (.slice vb.r.A vb.r.n vb.r.c) (.slice vb.r.B vb.r.m vb.r.d) (.string vb.s) (.slice vb.K vb.n vb.c)
  have e1 : (w.alloc (.cells #[.int .i64 va.k, .bool va.r.s, .slice va.r.A va.r.n va.r.c, .slice va.r.B va.r.m va.r.d, .string va.s, .slice va.K va.n va.c] 27)).heap.size = w.heap.size + 1 := by simp
  rw [e1] at k_b
  clear e1
  replace k_a := k_a.alloc (.cells #[.int .i64 vb.k, .bool vb.r.s, .slice vb.r.A vb.r.n vb.r.c, .slice vb.r.B vb.r.m vb.r.d, .string vb.s, .slice vb.K vb.n vb.c] 27)
  have HB := ((Below.refl w.heap.size w).alloc (Nat.le_refl _) (.cells #[.int .i64 va.k, .bool va.r.s, .slice va.r.A va.r.n va.r.c, .slice va.r.B va.r.m va.r.d, .string va.s, .slice va.K va.n va.c] 27)).alloc (by simp) (.cells #[.int .i64 vb.k, .bool vb.r.s, .slice vb.r.A vb.r.n vb.r.c, .slice vb.r.B vb.r.m vb.r.d, .string vb.s, .slice vb.K vb.n vb.c] 27)
  clear hra hrb hno
  obtain ⟨a0, a1, a2, a3, a4, a5⟩ := k_a.facts
  obtain ⟨b0, b1, b2, b3, b4, b5⟩ := k_b.facts
  go_enter Tryz.func4, Tryz.ntmps4
  go_wp2_with fail
  refine (weight_c k va _ w 300 HRA.out HB (by omega) (by omega)).mono ?_
  rintro e w1 ⟨R1, rfl, hL, hb1⟩
  have LA : Hid (¬ R1 < 0 → ∃ L, Light w k va L ∧ L ≤ 300) := left_light hL
  clear hL
  replace k_a := k_a.below hb1
  replace k_b := k_b.below hb1
  replace HB := HB.trans (hb1.mono HB.size)
  clear hb1 a0 a1 a2 a3 a4 a5 b0 b1 b2 b3 b4 b5
  obtain ⟨a0, a1, a2, a3, a4, a5⟩ := k_a.facts
  obtain ⟨b0, b1, b2, b3, b4, b5⟩ := k_b.facts
  by_cases h1 : R1 < 0
  · go_wp2
    go_ret
    exact ⟨rfl, HB⟩
  have LA1 := Lib.hid (LA.out h1)
  go_wp2_with fail
  refine (weight_c k vb _ w 300 HRB.out HB (by omega) (by omega)).mono ?_
  rintro e w2 ⟨Q1, rfl, hL, hb1⟩
  have LB : Hid (¬ Q1 < 0 → ∃ L, Light w k vb L ∧ L ≤ 300) := left_light hL
  clear hL
  replace k_a := k_a.below hb1
  replace k_b := k_b.below hb1
  replace HB := HB.trans (hb1.mono HB.size)
  clear hb1 a0 a1 a2 a3 a4 a5 b0 b1 b2 b3 b4 b5
  obtain ⟨a0, a1, a2, a3, a4, a5⟩ := k_a.facts
  obtain ⟨b0, b1, b2, b3, b4, b5⟩ := k_b.facts
  by_cases h2 : Q1 < 0
  · go_wp2
    go_ret
    exact ⟨rfl, HB⟩
  have LB1 := Lib.hid (LB.out h2)
  obtain ⟨La, hla⟩ := LA1.out
  obtain ⟨Lb, hlb⟩ := LB1.out
  have HLA := Lib.hid hla
  have HLB := Lib.hid hlb
  clear hla hlb LA LB LA1 LB1
  go_wp2_with fail
  by_cases hta : ∃ t : Ex, t.may 32 256 ∧ t.wf ∧ t.szd ∧ Tg w t va
  · have HTA := Lib.hid hta
    obtain ⟨ta, m1, m2, m3, m4⟩ := hta
    refine (IsT_c m1 m2 m3 m4 HB).mono ?_
    clear m1 m2 m3 m4
    rintro e w3 ⟨rfl, hb1⟩
    replace k_a := k_a.below hb1
    replace k_b := k_b.below hb1
    replace HB := HB.trans (hb1.mono HB.size)
    clear hb1 a0 a1 a2 a3 a4 a5 b0 b1 b2 b3 b4 b5
    obtain ⟨a0, a1, a2, a3, a4, a5⟩ := k_a.facts
    obtain ⟨b0, b1, b2, b3, b4, b5⟩ := k_b.facts
    go_wp2_with fail
    by_cases htb : ∃ t : Ex, t.may 32 256 ∧ t.wf ∧ t.szd ∧ Tg w t vb
    · have HTB := Lib.hid htb
      obtain ⟨tb, m1, m2, m3, m4⟩ := htb
      refine (IsT_c m1 m2 m3 m4 HB).mono ?_
      clear m1 m2 m3 m4
      rintro e w4 ⟨rfl, hb1⟩
      replace HB := HB.trans (hb1.mono HB.size)
      clear hb1 a0 a1 a2 a3 a4 a5 b0 b1 b2 b3 b4 b5 k_a k_b
      by_cases h3 : n < 0
      · go_wp2
        go_ret
        exact ⟨rfl, HB⟩
      · by_cases h4 : 10 < n
        · go_wp2
          go_ret
          exact ⟨rfl, HB⟩
        · exfalso
          obtain ⟨sa, n1⟩ := HTA.out
          obtain ⟨sb, n2⟩ := HTB.out
          exact HNO.out ⟨La, Lb, sa, sb, HLA.out.1, HLB.out.1, HLA.out.2, HLB.out.2, n1, n2, by omega, by omega⟩
    · refine (IsF_c (v := vb) HRB.out HLB.out.1 (by have := HLB.out.2; omega) HB htb).mono ?_
      rintro e w4 ⟨rfl, hb1⟩
      replace HB := HB.trans (hb1.mono HB.size)
      clear hb1 a0 a1 a2 a3 a4 a5 b0 b1 b2 b3 b4 b5 k_a k_b htb
      go_wp2
      go_ret
      exact ⟨rfl, HB⟩
  · refine (IsF_c (v := va) HRA.out HLA.out.1 (by have := HLA.out.2; omega) HB hta).mono ?_
    rintro e w4 ⟨rfl, hb1⟩
    replace HB := HB.trans (hb1.mono HB.size)
    clear hb1 a0 a1 a2 a3 a4 a5 b0 b1 b2 b3 b4 b5 k_a k_b hta
    go_wp2
    go_ret
    exact ⟨rfl, HB⟩
theorem ExprBlanks_all (va vb : Ev) (ka kb : Nat) (n : Int) (w : World) (hra : Raw w ka va) (hrb : Raw w kb vb) (hT : Tb w) (hM : Mx w) : Calls Tryz.prog 4 #[.agg #[.int .i64 va.k, .bool va.r.s, .slice va.r.A va.r.n va.r.c, .slice va.r.B va.r.m va.r.d, .string va.s, .slice va.K va.n va.c], .agg #[.int .i64 vb.k, .bool vb.r.s, .slice vb.r.A vb.r.n vb.r.c, .slice vb.r.B vb.r.m vb.r.d, .string vb.s, .slice vb.K vb.n vb.c], .int .i64 n] w fun e w' => e = .returned (.bool true) ∧ Below w.heap.size w w' := by
  have ra := raw_le hra (Nat.le_max_left ka kb)
  have rb := raw_le hrb (Nat.le_max_right ka kb)
  generalize max ka kb = k at *
  by_cases h : Looked w k va vb n
  · obtain ⟨La, Lb, ta, tb, h1, h2, h3, h4, ⟨m1, m2, m3, m4⟩, ⟨p1, p2, p3, p4⟩, h5, h6⟩ := h
    exact ExprBlanks_main va vb k La Lb n.toNat ta tb n w ra rb h1 h2 h3 h4 m1 p1 m2 p2 m3 p3 m4 p4 (by omega) (by omega) hT hM
  · exact ExprBlanks_out va vb k n w ra rb h
end Go.Proofs.YtcmkgoikmleanaaGreatDoor
