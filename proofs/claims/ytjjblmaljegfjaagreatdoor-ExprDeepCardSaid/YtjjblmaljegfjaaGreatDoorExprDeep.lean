/-
  ExprDeep: the walk of the law.
-/
import Derived.Test.YtjjblmaljegfjaaGreatDoorExDeepP
import Derived.Test.YtjjblmaljegfjaaGreatDoorExprDeep0
namespace Go.Proofs.YtjjblmaljegfjaaGreatDoor
set_option maxRecDepth 20000
open Go.RowKit

set_option maxHeartbeats 3200000 in
theorem ExprDeep_a (i : Int) (s : Bool) (w : World) (h : i < 0 ∨ 60 < i) (ht : Tb w) (hm : Mx w) : Calls Tryz.prog 7 #[.int .i64 i, .bool s] w fun e w' => e = .returned (.bool true) ∧ Below w.heap.size w w' := by
  have HK := known5_any w ht hm
  rcases h with h | h
  · go_enter Tryz.func7, Tryz.ntmps7
    go_wp2_with fail
    refine HK.mono ?_
    rintro e w1 ⟨rfl, hb⟩
    go_wp2
    go_ret
    exact ⟨rfl, hb⟩
  · have h0 : ¬ i < 0 := by omega
    go_enter Tryz.func7, Tryz.ntmps7
    go_wp2_with fail
    refine HK.mono ?_
    rintro e w1 ⟨rfl, hb⟩
    go_wp2
    go_ret
    exact ⟨rfl, hb⟩

set_option maxRecDepth 100000 in
set_option maxHeartbeats 8000000 in
theorem ExprDeep_true (n : Nat) (w : World) (hn : n ≤ 60) (ht : Tb w) (hm : Mx w) : Calls Tryz.prog 7 #[.int .i64 (n : Int), .bool true] w fun e w' => e = .returned (.bool true) ∧ Below w.heap.size w w' := by
  have i0 : (0 : Int) ≤ (n : Int) := by omega
  have i1 : (n : Int) ≤ 60 := by omega
  have HT := Lib.hid ht
  have HM := Lib.hid hm
  clear ht hm
  go_enter Tryz.func7, Tryz.ntmps7
  go_wp2
  go_loop [5, 6, 7] (fun ov ev iv => ∃ (k : Nat) (A B : ByteArray), k ≤ n ∧ iv = .int .i64 k ∧ ov = .string A ∧ ev = .string B ∧ Hid (A.data.toList = List.replicate k 45) ∧ Hid (B.data.toList = ([] : List UInt8))) (fun _ _ iv => n - (intOf iv).toNat)
  case atStart => exact ⟨0, ⟨#[]⟩, ⟨#[]⟩, Nat.zero_le _, rfl, rfl, rfl, rfl, rfl⟩
  case round =>
    obtain ⟨k, A, B, hk, rfl, rfl, rfl, HA, HB⟩ := hrel
    have a0 : (0 : Int) ≤ (k : Int) := by omega
    have sa : A.size = k := by rw [size_list HA.out, List.length_replicate]
    have sb : B.size ≤ k := by rw [size_list HB.out]; simp
    by_cases hlt : k < n
    · have a1 : (k : Int) < (n : Int) := by omega
      have g1 : ¬ (9223372036854775807 < A.size + 1) := by omega
      have g2 : ¬ (9223372036854775807 < B.size + 1) := by omega
      have g3 : ¬ (A.size + 1 > 9223372036854775807) := by omega
      have g4 : ¬ (B.size + 1 > 9223372036854775807) := by omega
      have HSA := Lib.hid sa
      clear sa sb
      have HA2 : Hid ((A ++ (⟨#[45]⟩ : ByteArray)).data.toList = List.replicate (k + 1) 45) := by
        show _ = _
        rw [app_list HA.out (m := [45]) rfl, List.replicate_succ']
      have HB2 : Hid (B.data.toList = ([] : List UInt8)) := by
        show _ = _
        exact HB.out
      go_wp2
      go_round
      case rel => exact ⟨k + 1, _, _, by omega, by go_num, rfl, rfl, HA2, HB2⟩
      case measure => simp [intOf]; omega
    · have e : k = n := by omega
      have a1 : ¬ (k : Int) < (n : Int) := by omega
      subst e
      have hS : A ++ (⟨#[97]⟩ : ByteArray) ++ B = dS k true := by
        apply ba_ext
        rw [app_list (app_list HA.out (m := [97]) rfl) HB.out]
        simp [dS, dL]
      have g1 : ¬ (9223372036854775807 < A.size + 1) := by omega
      have g3 : ¬ (A.size + 1 > 9223372036854775807) := by omega
      have s97 : (A ++ (⟨#[97]⟩ : ByteArray)).size = A.size + 1 := by rw [ByteArray.size_append]; rfl
      have g2 : ¬ (9223372036854775807 < A.size + 1 + B.size) := by omega
      have g4 : ¬ (A.size + 1 + B.size > 9223372036854775807) := by omega
      have g5 : ¬ (9223372036854775807 < (A ++ (⟨#[97]⟩ : ByteArray)).size + B.size) := by omega
      have g6 : ¬ ((A ++ (⟨#[97]⟩ : ByteArray)).size + B.size > 9223372036854775807) := by omega
      have hsz : (A ++ (⟨#[97]⟩ : ByteArray) ++ B).size ≤ 100000 := by rw [ByteArray.size_append]; omega
      have HC := Lib.hid (eParse_c (A ++ (⟨#[97]⟩ : ByteArray) ++ B) w hsz HM.out HT.out)
      have HS := Lib.hid hS
      clear sa sb hsz hS s97
      go_wp2_with fail
      refine HC.out.mono ?_
      rw [HS.out]
      clear HC
      by_cases h32 : 32 ≤ k
      · rw [dfin_err true h32 hn]
        have c1 : (32 : Int) ≤ (k : Int) := by omega
        rintro e w1 ⟨rfl, hb⟩
        have hb1 := hb.trans (((Below.refl w1.heap.size w1).alloc (Nat.le_refl _) (.cells #[.int .i64 0, .bool false, .slice none 0 0, .slice none 0 0, .string ⟨#[]⟩, .slice none 0 0] 27)).mono hb.size)
        have k_e := C6.new w1 (.int .i64 0) (.bool false) (.slice none 0 0) (.slice none 0 0) (.string ⟨#[]⟩) (.slice none 0 0)
        obtain ⟨e0, e1, e2, e3, e4, e5⟩ := k_e.facts
        clear h32
        go_wp2_with fail
        refine (Same_bad _).mono ?_
        rintro e w2 ⟨rfl, hb2⟩
        replace hb1 := hb1.trans (hb2.mono hb1.size)
        clear e0 e1 e2 e3 e4 e5 hb2
        go_wp2_with fail
        refine (known5_any _ (HT.out.below hb1) (HM.out.below hb1)).mono ?_
        rintro e w3 ⟨rfl, hb3⟩
        go_wp2
        go_ret
        exact ⟨rfl, hb1.trans (hb3.mono hb1.size)⟩
      · rw [dfin_ok true (by omega)]
        have c1 : ¬ (32 : Int) ≤ (k : Int) := by omega
        rintro e w1 ⟨v, rfl, hv, hb⟩
        have hb1 := hb.trans (((Below.refl w1.heap.size w1).alloc (Nat.le_refl _) (.cells #[.int .i64 v.k, .bool v.r.s, .slice v.r.A v.r.n v.r.c, .slice v.r.B v.r.m v.r.d, .string v.s, .slice v.K v.n v.c] 27)).mono hb.size)
        have k_e := C6.new w1 (.int .i64 v.k) (.bool v.r.s) (.slice v.r.A v.r.n v.r.c) (.slice v.r.B v.r.m v.r.d) (.string v.s) (.slice v.K v.n v.c)
        have hv2 := hv.alloc (.cells #[.int .i64 v.k, .bool v.r.s, .slice v.r.A v.r.n v.r.c, .slice v.r.B v.r.m v.r.d, .string v.s, .slice v.K v.n v.c] 27)
        have hdn := dT_nodes k true
        have HDD : Hid ((dT k true).deep = k + 1) := dT_deep k true
        have HD := Lib.hid (eDepth_c (dT k true) v (w1.alloc (.cells #[.int .i64 v.k, .bool v.r.s, .slice v.r.A v.r.n v.r.c, .slice v.r.B v.r.m v.r.d, .string v.s, .slice v.K v.n v.c] 27)) (by omega) hv2)
        obtain ⟨e0, e1, e2, e3, e4, e5⟩ := k_e.facts
        clear h32 hdn hv hv2
        go_wp2_with fail
        refine HD.out.mono ?_
        rintro e w2 ⟨rfl, hb2⟩
        replace hb1 := hb1.trans (hb2.mono hb1.size)
        clear e0 e1 e2 e3 e4 e5 hb2 HD
        rw [HDD.out]
        go_wp2_with fail
        refine (known5_any _ (HT.out.below hb1) (HM.out.below hb1)).mono ?_
        rintro e w3 ⟨rfl, hb3⟩
        go_wp2
        go_ret
        exact ⟨rfl, hb1.trans (hb3.mono hb1.size)⟩

set_option maxRecDepth 100000 in
set_option maxHeartbeats 8000000 in
theorem ExprDeep_false (n : Nat) (w : World) (hn : n ≤ 60) (ht : Tb w) (hm : Mx w) : Calls Tryz.prog 7 #[.int .i64 (n : Int), .bool false] w fun e w' => e = .returned (.bool true) ∧ Below w.heap.size w w' := by
  have i0 : (0 : Int) ≤ (n : Int) := by omega
  have i1 : (n : Int) ≤ 60 := by omega
  have HT := Lib.hid ht
  have HM := Lib.hid hm
  clear ht hm
  go_enter Tryz.func7, Tryz.ntmps7
  go_wp2
  go_loop [5, 6, 7] (fun ov ev iv => ∃ (k : Nat) (A B : ByteArray), k ≤ n ∧ iv = .int .i64 k ∧ ov = .string A ∧ ev = .string B ∧ Hid (A.data.toList = List.replicate k 40) ∧ Hid (B.data.toList = List.replicate k 41)) (fun _ _ iv => n - (intOf iv).toNat)
  case atStart => exact ⟨0, ⟨#[]⟩, ⟨#[]⟩, Nat.zero_le _, rfl, rfl, rfl, rfl, rfl⟩
  case round =>
    obtain ⟨k, A, B, hk, rfl, rfl, rfl, HA, HB⟩ := hrel
    have a0 : (0 : Int) ≤ (k : Int) := by omega
    have sa : A.size = k := by rw [size_list HA.out, List.length_replicate]
    have sb : B.size ≤ k := by rw [size_list HB.out]; simp
    by_cases hlt : k < n
    · have a1 : (k : Int) < (n : Int) := by omega
      have g1 : ¬ (9223372036854775807 < A.size + 1) := by omega
      have g2 : ¬ (9223372036854775807 < B.size + 1) := by omega
      have g3 : ¬ (A.size + 1 > 9223372036854775807) := by omega
      have g4 : ¬ (B.size + 1 > 9223372036854775807) := by omega
      have HSA := Lib.hid sa
      clear sa sb
      have HA2 : Hid ((A ++ (⟨#[40]⟩ : ByteArray)).data.toList = List.replicate (k + 1) 40) := by
        show _ = _
        rw [app_list HA.out (m := [40]) rfl, List.replicate_succ']
      have HB2 : Hid ((B ++ (⟨#[41]⟩ : ByteArray)).data.toList = List.replicate (k + 1) 41) := by
        show _ = _
        rw [app_list HB.out (m := [41]) rfl, List.replicate_succ']
      go_wp2
      go_round
      case rel => exact ⟨k + 1, _, _, by omega, by go_num, rfl, rfl, HA2, HB2⟩
      case measure => simp [intOf]; omega
    · have e : k = n := by omega
      have a1 : ¬ (k : Int) < (n : Int) := by omega
      subst e
      have hS : A ++ (⟨#[97]⟩ : ByteArray) ++ B = dS k false := by
        apply ba_ext
        rw [app_list (app_list HA.out (m := [97]) rfl) HB.out]
        rfl
      have g1 : ¬ (9223372036854775807 < A.size + 1) := by omega
      have g3 : ¬ (A.size + 1 > 9223372036854775807) := by omega
      have s97 : (A ++ (⟨#[97]⟩ : ByteArray)).size = A.size + 1 := by rw [ByteArray.size_append]; rfl
      have g2 : ¬ (9223372036854775807 < A.size + 1 + B.size) := by omega
      have g4 : ¬ (A.size + 1 + B.size > 9223372036854775807) := by omega
      have g5 : ¬ (9223372036854775807 < (A ++ (⟨#[97]⟩ : ByteArray)).size + B.size) := by omega
      have g6 : ¬ ((A ++ (⟨#[97]⟩ : ByteArray)).size + B.size > 9223372036854775807) := by omega
      have hsz : (A ++ (⟨#[97]⟩ : ByteArray) ++ B).size ≤ 100000 := by rw [ByteArray.size_append]; omega
      have HC := Lib.hid (eParse_c (A ++ (⟨#[97]⟩ : ByteArray) ++ B) w hsz HM.out HT.out)
      have HS := Lib.hid hS
      clear sa sb hsz hS s97
      go_wp2_with fail
      refine HC.out.mono ?_
      rw [HS.out]
      clear HC
      by_cases h32 : 32 ≤ k
      · rw [dfin_err false h32 hn]
        have c1 : (32 : Int) ≤ (k : Int) := by omega
        rintro e w1 ⟨rfl, hb⟩
        have hb1 := hb.trans (((Below.refl w1.heap.size w1).alloc (Nat.le_refl _) (.cells #[.int .i64 0, .bool false, .slice none 0 0, .slice none 0 0, .string ⟨#[]⟩, .slice none 0 0] 27)).mono hb.size)
        have k_e := C6.new w1 (.int .i64 0) (.bool false) (.slice none 0 0) (.slice none 0 0) (.string ⟨#[]⟩) (.slice none 0 0)
        obtain ⟨e0, e1, e2, e3, e4, e5⟩ := k_e.facts
        clear h32
        go_wp2_with fail
        refine (Same_bad _).mono ?_
        rintro e w2 ⟨rfl, hb2⟩
        replace hb1 := hb1.trans (hb2.mono hb1.size)
        clear e0 e1 e2 e3 e4 e5 hb2
        go_wp2_with fail
        refine (known5_any _ (HT.out.below hb1) (HM.out.below hb1)).mono ?_
        rintro e w3 ⟨rfl, hb3⟩
        go_wp2
        go_ret
        exact ⟨rfl, hb1.trans (hb3.mono hb1.size)⟩
      · rw [dfin_ok false (by omega)]
        have c1 : ¬ (32 : Int) ≤ (k : Int) := by omega
        rintro e w1 ⟨v, rfl, hv, hb⟩
        have hb1 := hb.trans (((Below.refl w1.heap.size w1).alloc (Nat.le_refl _) (.cells #[.int .i64 v.k, .bool v.r.s, .slice v.r.A v.r.n v.r.c, .slice v.r.B v.r.m v.r.d, .string v.s, .slice v.K v.n v.c] 27)).mono hb.size)
        have k_e := C6.new w1 (.int .i64 v.k) (.bool v.r.s) (.slice v.r.A v.r.n v.r.c) (.slice v.r.B v.r.m v.r.d) (.string v.s) (.slice v.K v.n v.c)
        have hv2 := hv.alloc (.cells #[.int .i64 v.k, .bool v.r.s, .slice v.r.A v.r.n v.r.c, .slice v.r.B v.r.m v.r.d, .string v.s, .slice v.K v.n v.c] 27)
        have hdn := dT_nodes k false
        have HDD : Hid ((dT k false).deep = 1) := dT_deep k false
        have HD := Lib.hid (eDepth_c (dT k false) v (w1.alloc (.cells #[.int .i64 v.k, .bool v.r.s, .slice v.r.A v.r.n v.r.c, .slice v.r.B v.r.m v.r.d, .string v.s, .slice v.K v.n v.c] 27)) (by omega) hv2)
        obtain ⟨e0, e1, e2, e3, e4, e5⟩ := k_e.facts
        clear h32 hdn hv hv2
        go_wp2_with fail
        refine HD.out.mono ?_
        rintro e w2 ⟨rfl, hb2⟩
        replace hb1 := hb1.trans (hb2.mono hb1.size)
        clear e0 e1 e2 e3 e4 e5 hb2 HD
        rw [HDD.out]
        go_wp2_with fail
        refine (known5_any _ (HT.out.below hb1) (HM.out.below hb1)).mono ?_
        rintro e w3 ⟨rfl, hb3⟩
        go_wp2
        go_ret
        exact ⟨rfl, hb1.trans (hb3.mono hb1.size)⟩

theorem ExprDeep_all (i : Int) (s : Bool) (w : World) (ht : Tb w) (hm : Mx w) : Calls Tryz.prog 7 #[.int .i64 i, .bool s] w fun e w' => e = .returned (.bool true) ∧ Below w.heap.size w w' := by
  by_cases h : i < 0 ∨ 60 < i
  · exact ExprDeep_a i s w h ht hm
  · obtain ⟨n, rfl⟩ : ∃ n : Nat, i = (n : Int) := ⟨i.toNat, by omega⟩
    cases s
    · exact ExprDeep_false n w (by omega) ht hm
    · exact ExprDeep_true n w (by omega) ht hm
end Go.Proofs.YtjjblmaljegfjaaGreatDoor
