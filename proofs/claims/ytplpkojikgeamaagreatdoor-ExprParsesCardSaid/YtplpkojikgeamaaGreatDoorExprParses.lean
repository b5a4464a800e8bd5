/-
  ExprParses: the walk of the law.
-/
import Derived.Test.YtplpkojikgeamaaGreatDoorExYi
namespace Go.Proofs.YtplpkojikgeamaaGreatDoor
set_option maxRecDepth 20000
open Go.RowKit

theorem Tw.fine_sub {S : ByteArray} {t : Ex} (h : fin S = .ok t) : t.fine := by
  unfold fin at h
  cases hp : parse tv S with
  | err a c => rw [hp] at h; cases h
  | ok t' u p n lg =>
    rw [hp] at h
    by_cases hm : t'.may 32 256
    · rw [fin1_yes hm] at h
      injection h with h
      rw [← h]; exact hm.1
    · rw [fin1_no hm] at h; cases h
set_option maxHeartbeats 800000 in
theorem ExprParses_long (S : ByteArray) (w : World) (h : 600 < S.size) : Calls Tryz.prog 3 #[.string S] w fun e w' => e = .returned (.bool true) ∧ Below w.heap.size w w' := by
  have i1 : (600 : Int) < (S.size : Int) := by omega
  go_enter Tryz.func3, Tryz.ntmps3
  go_wp2
  go_ret
  exact ⟨rfl, Below.refl _ _⟩
set_option maxRecDepth 100000 in
set_option maxHeartbeats 8000000 in
theorem ExprParses_short (S : ByteArray) (w : World) (h : S.size ≤ 600) (ht : Tb w) (hm : Mx w) : Calls Tryz.prog 3 #[.string S] w fun e w' => e = .returned (.bool true) ∧ Below w.heap.size w w' := by
  have i1 : ¬ (600 : Int) < (S.size : Int) := by omega
  have HT := Lib.hid ht
  have HM := Lib.hid hm
  have HP := Lib.hid (eParse_c S w (by omega) hm ht)
  have HQ : Hid (∀ w', Calls Tryz.prog 9 #[.string S] w' (FP w' (fin S))) := fun w' => rParseE_c S w' (by omega)
  have HF : Hid (∀ t, fin S = .ok t → t.fine) := fun t h => Tw.fine_sub h
  clear ht hm h
  generalize hfs : fin S = FS at *
  clear hfs
  go_enter Tryz.func3, Tryz.ntmps3
  go_wp2_with fail
  refine HP.out.mono ?_
  cases FS with
  | err a c =>
    rintro e w1 ⟨rfl, hb1⟩
    have k_1 := C6.new w1 (.int .i64 0) (.bool false) (.slice none 0 0) (.slice none 0 0) (.string ⟨#[]⟩) (.slice none 0 0)
    have hb := hb1.alloc hb1.size (.cells #[.int .i64 0, .bool false, .slice none 0 0, .slice none 0 0, .string ⟨#[]⟩, .slice none 0 0] 27)
    go_wp2_with fail
    refine (HQ.out _).mono ?_
    rintro e w2 ⟨rfl, hb2⟩
    replace k_1 := (k_1.below hb2).alloc (.cells #[.int .i64 0, .bool false, .slice none 0 0, .slice none 0 0, .string ⟨#[]⟩, .slice none 0 0] 27)
    replace hb := hb.trans (hb2.mono hb.size)
    have k_2 := C6.new w2 (.int .i64 0) (.bool false) (.slice none 0 0) (.slice none 0 0) (.string ⟨#[]⟩) (.slice none 0 0)
    replace hb := hb.alloc hb.size (.cells #[.int .i64 0, .bool false, .slice none 0 0, .slice none 0 0, .string ⟨#[]⟩, .slice none 0 0] 27)
    clear hb1 hb2
    obtain ⟨e0, e1, e2, e3, e4, e5⟩ := k_1.facts
    obtain ⟨d0, d1, d2, d3, d4, d5⟩ := k_2.facts
    go_wp2_with fail
    refine (Same_bad _).mono ?_
    rintro e w3 ⟨rfl, hb3⟩
    replace hb := hb.trans (hb3.mono hb.size)
    clear hb3 e0 e1 e2 e3 e4 e5 d0 d1 d2 d3 d4 d5 k_1 k_2
    go_wp2_with fail
    refine (Name_c S _).mono ?_
    rintro e w4 ⟨rfl, rfl⟩
    go_wp2_with fail
    refine (rName_c S _).mono ?_
    rintro e w4 ⟨rfl, rfl⟩
    generalize isName S = nb
    have HB := Lib.hid hb
    go_wp2_with fail
    refine (known5_any _ (HT.out.below hb) (HM.out.below hb)).mono ?_
    rintro e w5 ⟨rfl, hb5⟩
    go_wp2
    go_ret
    exact ⟨rfl, HB.out.trans (hb5.mono HB.out.size)⟩
  | ok t =>
    rintro e w1 ⟨v, rfl, hv, hb1⟩
    have k_1 := C6.new w1 (.int .i64 v.k) (.bool v.r.s) (.slice v.r.A v.r.n v.r.c) (.slice v.r.B v.r.m v.r.d) (.string v.s) (.slice v.K v.n v.c)
    have hb := hb1.alloc hb1.size (.cells #[.int .i64 v.k, .bool v.r.s, .slice v.r.A v.r.n v.r.c, .slice v.r.B v.r.m v.r.d, .string v.s, .slice v.K v.n v.c] 27)
    replace hv := hv.alloc (.cells #[.int .i64 v.k, .bool v.r.s, .slice v.r.A v.r.n v.r.c, .slice v.r.B v.r.m v.r.d, .string v.s, .slice v.K v.n v.c] 27)
    go_wp2_with fail
    refine (HQ.out _).mono ?_
    rintro e w2 ⟨u, rfl, hu, hb2⟩
    replace k_1 := (k_1.below hb2).alloc (.cells #[.int .i64 u.k, .bool u.r.s, .slice u.r.A u.r.n u.r.c, .slice u.r.B u.r.m u.r.d, .string u.s, .slice u.K u.n u.c] 27)
    replace hb := hb.trans (hb2.mono hb.size)
    have k_2 := C6.new w2 (.int .i64 u.k) (.bool u.r.s) (.slice u.r.A u.r.n u.r.c) (.slice u.r.B u.r.m u.r.d) (.string u.s) (.slice u.K u.n u.c)
    replace hb := hb.alloc hb.size (.cells #[.int .i64 u.k, .bool u.r.s, .slice u.r.A u.r.n u.r.c, .slice u.r.B u.r.m u.r.d, .string u.s, .slice u.K u.n u.c] 27)
    replace hv := (hv.below hb2).alloc (.cells #[.int .i64 u.k, .bool u.r.s, .slice u.r.A u.r.n u.r.c, .slice u.r.B u.r.m u.r.d, .string u.s, .slice u.K u.n u.c] 27)
    replace hu := hu.alloc (.cells #[.int .i64 u.k, .bool u.r.s, .slice u.r.A u.r.n u.r.c, .slice u.r.B u.r.m u.r.d, .string u.s, .slice u.K u.n u.c] 27)
    clear hb1 hb2
    obtain ⟨e0, e1, e2, e3, e4, e5⟩ := k_1.facts
    obtain ⟨d0, d1, d2, d3, d4, d5⟩ := k_2.facts
    go_wp2_with fail
    refine (eSame_c t v u _ (HF.out t rfl) hv hu).mono ?_
    rintro e w3 ⟨rfl, hb3⟩
    replace hb := hb.trans (hb3.mono hb.size)
    clear hb3 e0 e1 e2 e3 e4 e5 d0 d1 d2 d3 d4 d5 k_1 k_2 hv hu
    go_wp2_with fail
    refine (Name_c S _).mono ?_
    rintro e w4 ⟨rfl, rfl⟩
    go_wp2_with fail
    refine (rName_c S _).mono ?_
    rintro e w4 ⟨rfl, rfl⟩
    generalize isName S = nb
    have HB := Lib.hid hb
    go_wp2_with fail
    refine (known5_any _ (HT.out.below hb) (HM.out.below hb)).mono ?_
    rintro e w5 ⟨rfl, hb5⟩
    go_wp2
    go_ret
    exact ⟨rfl, HB.out.trans (hb5.mono HB.out.size)⟩
theorem ExprParses_all (S : ByteArray) (w : World) (ht : Tb w) (hm : Mx w) : Calls Tryz.prog 3 #[.string S] w fun e w' => e = .returned (.bool true) ∧ Below w.heap.size w w' := by
  by_cases h : S.size ≤ 600
  · exact ExprParses_short S w h ht hm
  · exact ExprParses_long S w (by omega)
end Go.Proofs.YtplpkojikgeamaaGreatDoor
