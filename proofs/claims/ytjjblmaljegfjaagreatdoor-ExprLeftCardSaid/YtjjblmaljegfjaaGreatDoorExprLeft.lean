/-
  ExprLeft: the walk of the law.
-/
import Derived.Test.YtjjblmaljegfjaaGreatDoorExLeftP
import Derived.Test.YtjjblmaljegfjaaGreatDoorExprDeep0
namespace Go.Proofs.YtjjblmaljegfjaaGreatDoor
set_option maxRecDepth 20000
open Go.RowKit

/-- What the slice of bools reads as. -/
def BRow (w : World) (A : Option Addr) (n : Nat) (bs : List Bool) : Prop := bs.length = n ∧ (0 < n → ∃ b off, A = some ⟨b, off, none⟩ ∧ b < w.heap.size ∧ ∀ i, i < n → w.cell? ⟨b, off + i, none⟩ = some (.bool (bs.getD i false)))
theorem take_fl (P : Bool) (bs : List Bool) (i : Nat) (h : i < bs.length) : fl P (bs.take (i + 1)) = fl P (bs.take i) ++ [sg P (bs.getD i false), 98] := by
  have e : bs.take (i + 1) = bs.take i ++ [bs.getD i false] := by
    rw [List.take_succ_eq_append_getElem h]
    congr 2
    simp [List.getD, h]
  rw [e]; simp [fl]
theorem take_lT (P : Bool) (t : Ex) (bs : List Bool) (i : Nat) (h : i < bs.length) : lT P t (bs.take (i + 1)) = .bin (kd P (bs.getD i false)) (lT P t (bs.take i)) (.nm ⟨#[98]⟩) := by
  have e : bs.take (i + 1) = bs.take i ++ [bs.getD i false] := by
    rw [List.take_succ_eq_append_getElem h]
    congr 2
    simp [List.getD, h]
  rw [e]; simp [lT]
set_option maxHeartbeats 800000 in
theorem ExprLeft_many (A : Option Addr) (n c : Nat) (P : Bool) (w : World) (h : 28 < n) : Calls Tryz.prog 8 #[.slice A n c, .bool P] w fun e w' => e = .returned (.bool true) ∧ Below w.heap.size w w' := by
  have i1 : (28 : Int) < (n : Int) := by omega
  go_enter Tryz.func8, Tryz.ntmps8
  go_wp2
  go_ret
  exact ⟨rfl, Below.refl _ _⟩

set_option maxRecDepth 100000 in
set_option maxHeartbeats 16000000 in
theorem ExprLeft_true (A : Option Addr) (n c : Nat) (bs : List Bool) (w : World) (h28 : n ≤ 28) (hB : BRow w A n bs) (ht : Tb w) (hm : Mx w) : Calls Tryz.prog 8 #[.slice A n c, .bool true] w fun e w' => e = .returned (.bool true) ∧ Below w.heap.size w w' := by
  have i1 : ¬ (28 : Int) < (n : Int) := by omega
  have HT := Lib.hid ht
  have HM := Lib.hid hm
  have hlen := Lib.hid hB.1
  have HBR := Lib.hid hB.2
  clear ht hm hB
  have k_e := C6.new w (.int .i64 2) (.bool false) (.slice none 0 0) (.slice none 0 0) (.string ⟨#[97]⟩) (.slice none 0 0)
  have hb0 := (Below.refl w.heap.size w).alloc (Nat.le_refl _) (.cells #[.int .i64 2, .bool false, .slice none 0 0, .slice none 0 0, .string ⟨#[97]⟩, .slice none 0 0] 27)
  have hz : (w.alloc (.cells #[.int .i64 2, .bool false, .slice none 0 0, .slice none 0 0, .string ⟨#[97]⟩, .slice none 0 0] 27)).heap.size = w.heap.size + 1 := by simp
  go_enter Tryz.func8, Tryz.ntmps8
  go_wp2
  generalize w.alloc (.cells #[.int .i64 2, .bool false, .slice none 0 0, .slice none 0 0, .string ⟨#[97]⟩, .slice none 0 0] 27) = w1 at *
  go_loopw [5, 7] (fun sv iv wr => ∃ (i : Nat) (R : ByteArray) (v : Ev), i ≤ n ∧ iv = .int .i64 i ∧ sv = .string R ∧ Hid (R.data.toList = 97 :: fl true (bs.take i)) ∧ C6 wr w.heap.size (.int .i64 v.k) (.bool v.r.s) (.slice v.r.A v.r.n v.r.c) (.slice v.r.B v.r.m v.r.d) (.string v.s) (.slice v.K v.n v.c) ∧ Tw wr (fun b => w.heap.size < b) (lT true (.nm ⟨#[97]⟩) (bs.take i)) v ∧ Below w.heap.size w wr) (fun _ iv _ => n - (intOf iv).toNat)
  case atStart => exact ⟨0, ⟨#[97]⟩, ⟨2, Rz, ⟨#[97]⟩, none, 0, 0⟩, Nat.zero_le _, rfl, rfl, rfl, k_e, rfl, hb0⟩
  case round =>
    clear k_e hb0 hz
    obtain ⟨i, R, v, hi, rfl, rfl, HR, k_e, hv, hb⟩ := hrel
    have a0 : (0 : Int) ≤ (i : Int) := by omega
    have hsz : R.size = 1 + 2 * i := by
      rw [size_list HR.out, List.length_cons, fl_len, List.length_take, hlen.out, Nat.min_eq_left hi]; omega
    by_cases hlt : i < n
    · have a1 : (i : Int) < (n : Int) := by omega
      have a2 : (i : Int) ≤ 28 := by omega
      obtain ⟨bb, off, rfl, hbb, hcell⟩ := HBR.out (by omega)
      have hc := (hb.cell (p := ⟨bb, off + i, none⟩) hbb).trans (hcell i hlt)
      clear hcell
      have HFL := Lib.hid (take_fl true bs i (by rw [hlen.out]; exact hlt))
      have HLT := Lib.hid (take_lT true (.nm ⟨#[97]⟩) bs i (by rw [hlen.out]; exact hlt))
      have g1 : ¬ (9223372036854775807 < R.size + 1) := by omega
      have g2 : ¬ (R.size + 1 > 9223372036854775807) := by omega
      have g3 : ¬ (9223372036854775807 < R.size + 1 + 1) := by omega
      have g4 : ¬ (R.size + 1 + 1 > 9223372036854775807) := by omega
      have HSZ := Lib.hid hsz
      clear hsz
      have hwe := k_e.lt
      obtain ⟨e0, e1, e2, e3, e4, e5⟩ := k_e.facts
      obtain ⟨E0, E1, E2, E3, E4, E5⟩ := k_e.thaw
      generalize hbv : bs.getD i false = bv at *
      clear hbv
      cases bv with
      | true =>
        have HR2 : Hid ((R ++ (⟨#[47]⟩ : ByteArray) ++ (⟨#[98]⟩ : ByteArray)).data.toList = 97 :: fl true (bs.take (i + 1))) := by
          show _ = _
          rw [app_list (app_list HR.out (m := [47]) rfl) (m := [98]) rfl, HFL.out]
          simp [sg]
        go_wp2
        have k_2 := (k_e.put (.int .i64 6) (.bool false) (.slice none 0 0) (.slice none 0 0) (.string ⟨#[]⟩) (.slice (some ⟨wr.heap.size, 0, none⟩) 2 2)).alloc (.cells #[.int .i64 v.k, .bool v.r.s, .slice v.r.A v.r.n v.r.c, .slice v.r.B v.r.m v.r.d, .string v.s, .slice v.K v.n v.c, .int .i64 2, .bool false, .slice none 0 0, .slice none 0 0, .string ⟨#[98]⟩, .slice none 0 0] 27)
        have hzq : (put6 wr w.heap.size (.int .i64 6) (.bool false) (.slice none 0 0) (.slice none 0 0) (.string ⟨#[]⟩) (.slice (some ⟨wr.heap.size, 0, none⟩) 2 2)).heap.size = wr.heap.size := by simp
        have hnew := heap_alloc_new (put6 wr w.heap.size (.int .i64 6) (.bool false) (.slice none 0 0) (.slice none 0 0) (.string ⟨#[]⟩) (.slice (some ⟨wr.heap.size, 0, none⟩) 2 2)) (.cells #[.int .i64 v.k, .bool v.r.s, .slice v.r.A v.r.n v.r.c, .slice v.r.B v.r.m v.r.d, .string v.s, .slice v.K v.n v.c, .int .i64 2, .bool false, .slice none 0 0, .slice none 0 0, .string ⟨#[98]⟩, .slice none 0 0] 27)
        rw [hzq] at hnew
        have hv2 := (hv.but (put6_but (b := w.heap.size) (.int .i64 6) (.bool false) (.slice none 0 0) (.slice none 0 0) (.string ⟨#[]⟩) (.slice (some ⟨wr.heap.size, 0, none⟩) 2 2)) (fun b h => by omega)).alloc (.cells #[.int .i64 v.k, .bool v.r.s, .slice v.r.A v.r.n v.r.c, .slice v.r.B v.r.m v.r.d, .string v.s, .slice v.K v.n v.c, .int .i64 2, .bool false, .slice none 0 0, .slice none 0 0, .string ⟨#[98]⟩, .slice none 0 0] 27)
        have hzp : wr.heap.size < ((put6 wr w.heap.size (.int .i64 6) (.bool false) (.slice none 0 0) (.slice none 0 0) (.string ⟨#[]⟩) (.slice (some ⟨wr.heap.size, 0, none⟩) 2 2)).alloc (.cells #[.int .i64 v.k, .bool v.r.s, .slice v.r.A v.r.n v.r.c, .slice v.r.B v.r.m v.r.d, .string v.s, .slice v.K v.n v.c, .int .i64 2, .bool false, .slice none 0 0, .slice none 0 0, .string ⟨#[98]⟩, .slice none 0 0] 27)).heap.size := by
          have : ((put6 wr w.heap.size (.int .i64 6) (.bool false) (.slice none 0 0) (.slice none 0 0) (.string ⟨#[]⟩) (.slice (some ⟨wr.heap.size, 0, none⟩) 2 2)).alloc (.cells #[.int .i64 v.k, .bool v.r.s, .slice v.r.A v.r.n v.r.c, .slice v.r.B v.r.m v.r.d, .string v.s, .slice v.K v.n v.c, .int .i64 2, .bool false, .slice none 0 0, .slice none 0 0, .string ⟨#[98]⟩, .slice none 0 0] 27)).heap.size = (put6 wr w.heap.size (.int .i64 6) (.bool false) (.slice none 0 0) (.slice none 0 0) (.string ⟨#[]⟩) (.slice (some ⟨wr.heap.size, 0, none⟩) 2 2)).heap.size + 1 := by simp
          omega
        have hb2 : Below w.heap.size w ((put6 wr w.heap.size (.int .i64 6) (.bool false) (.slice none 0 0) (.slice none 0 0) (.string ⟨#[]⟩) (.slice (some ⟨wr.heap.size, 0, none⟩) 2 2)).alloc (.cells #[.int .i64 v.k, .bool v.r.s, .slice v.r.A v.r.n v.r.c, .slice v.r.B v.r.m v.r.d, .string v.s, .slice v.K v.n v.c, .int .i64 2, .bool false, .slice none 0 0, .slice none 0 0, .string ⟨#[98]⟩, .slice none 0 0] 27)) := (hb.trans (put6_below (Nat.le_refl _) _ _ _ _ _ _)).alloc (by rw [hzq]; exact hb.size) _
        have hv3 : Hid (Tw ((put6 wr w.heap.size (.int .i64 6) (.bool false) (.slice none 0 0) (.slice none 0 0) (.string ⟨#[]⟩) (.slice (some ⟨wr.heap.size, 0, none⟩) 2 2)).alloc (.cells #[.int .i64 v.k, .bool v.r.s, .slice v.r.A v.r.n v.r.c, .slice v.r.B v.r.m v.r.d, .string v.s, .slice v.K v.n v.c, .int .i64 2, .bool false, .slice none 0 0, .slice none 0 0, .string ⟨#[98]⟩, .slice none 0 0] 27)) (fun b => w.heap.size < b) (lT true (.nm ⟨#[97]⟩) (bs.take (i + 1))) ⟨6, Rz, ⟨#[]⟩, some ⟨wr.heap.size, 0, none⟩, 2, 2⟩) := by
          show Tw _ _ _ _
          rw [HLT.out]
          exact ⟨wr.heap.size, v, ⟨2, Rz, ⟨#[98]⟩, none, 0, 0⟩, rfl, by show w.heap.size < wr.heap.size; omega, hzp, hnew, hv2, rfl⟩
        have HK2 := Lib.hid k_2
        have HB2 := Lib.hid hb2
        clear hv2 hzq hzp hnew k_2 hb2 k_e hv hb hwe e0 e1 e2 e3 e4 e5 E0 E1 E2 E3 E4 E5 hc g1 g2 g3 g4
        go_roundw
        case rel => exact ⟨i + 1, _, ⟨6, Rz, ⟨#[]⟩, some ⟨wr.heap.size, 0, none⟩, 2, 2⟩, by omega, by go_num, rfl, HR2, HK2.out, hv3.out, HB2.out⟩
        case measure => simp [intOf]; omega
      | false =>
        have HR2 : Hid ((R ++ (⟨#[42]⟩ : ByteArray) ++ (⟨#[98]⟩ : ByteArray)).data.toList = 97 :: fl true (bs.take (i + 1))) := by
          show _ = _
          rw [app_list (app_list HR.out (m := [42]) rfl) (m := [98]) rfl, HFL.out]
          simp [sg]
        go_wp2
        have k_2 := (k_e.put (.int .i64 5) (.bool false) (.slice none 0 0) (.slice none 0 0) (.string ⟨#[]⟩) (.slice (some ⟨wr.heap.size, 0, none⟩) 2 2)).alloc (.cells #[.int .i64 v.k, .bool v.r.s, .slice v.r.A v.r.n v.r.c, .slice v.r.B v.r.m v.r.d, .string v.s, .slice v.K v.n v.c, .int .i64 2, .bool false, .slice none 0 0, .slice none 0 0, .string ⟨#[98]⟩, .slice none 0 0] 27)
        have hzq : (put6 wr w.heap.size (.int .i64 5) (.bool false) (.slice none 0 0) (.slice none 0 0) (.string ⟨#[]⟩) (.slice (some ⟨wr.heap.size, 0, none⟩) 2 2)).heap.size = wr.heap.size := by simp
        have hnew := heap_alloc_new (put6 wr w.heap.size (.int .i64 5) (.bool false) (.slice none 0 0) (.slice none 0 0) (.string ⟨#[]⟩) (.slice (some ⟨wr.heap.size, 0, none⟩) 2 2)) (.cells #[.int .i64 v.k, .bool v.r.s, .slice v.r.A v.r.n v.r.c, .slice v.r.B v.r.m v.r.d, .string v.s, .slice v.K v.n v.c, .int .i64 2, .bool false, .slice none 0 0, .slice none 0 0, .string ⟨#[98]⟩, .slice none 0 0] 27)
        rw [hzq] at hnew
        have hv2 := (hv.but (put6_but (b := w.heap.size) (.int .i64 5) (.bool false) (.slice none 0 0) (.slice none 0 0) (.string ⟨#[]⟩) (.slice (some ⟨wr.heap.size, 0, none⟩) 2 2)) (fun b h => by omega)).alloc (.cells #[.int .i64 v.k, .bool v.r.s, .slice v.r.A v.r.n v.r.c, .slice v.r.B v.r.m v.r.d, .string v.s, .slice v.K v.n v.c, .int .i64 2, .bool false, .slice none 0 0, .slice none 0 0, .string ⟨#[98]⟩, .slice none 0 0] 27)
        have hzp : wr.heap.size < ((put6 wr w.heap.size (.int .i64 5) (.bool false) (.slice none 0 0) (.slice none 0 0) (.string ⟨#[]⟩) (.slice (some ⟨wr.heap.size, 0, none⟩) 2 2)).alloc (.cells #[.int .i64 v.k, .bool v.r.s, .slice v.r.A v.r.n v.r.c, .slice v.r.B v.r.m v.r.d, .string v.s, .slice v.K v.n v.c, .int .i64 2, .bool false, .slice none 0 0, .slice none 0 0, .string ⟨#[98]⟩, .slice none 0 0] 27)).heap.size := by
          have : ((put6 wr w.heap.size (.int .i64 5) (.bool false) (.slice none 0 0) (.slice none 0 0) (.string ⟨#[]⟩) (.slice (some ⟨wr.heap.size, 0, none⟩) 2 2)).alloc (.cells #[.int .i64 v.k, .bool v.r.s, .slice v.r.A v.r.n v.r.c, .slice v.r.B v.r.m v.r.d, .string v.s, .slice v.K v.n v.c, .int .i64 2, .bool false, .slice none 0 0, .slice none 0 0, .string ⟨#[98]⟩, .slice none 0 0] 27)).heap.size = (put6 wr w.heap.size (.int .i64 5) (.bool false) (.slice none 0 0) (.slice none 0 0) (.string ⟨#[]⟩) (.slice (some ⟨wr.heap.size, 0, none⟩) 2 2)).heap.size + 1 := by simp
          omega
        have hb2 : Below w.heap.size w ((put6 wr w.heap.size (.int .i64 5) (.bool false) (.slice none 0 0) (.slice none 0 0) (.string ⟨#[]⟩) (.slice (some ⟨wr.heap.size, 0, none⟩) 2 2)).alloc (.cells #[.int .i64 v.k, .bool v.r.s, .slice v.r.A v.r.n v.r.c, .slice v.r.B v.r.m v.r.d, .string v.s, .slice v.K v.n v.c, .int .i64 2, .bool false, .slice none 0 0, .slice none 0 0, .string ⟨#[98]⟩, .slice none 0 0] 27)) := (hb.trans (put6_below (Nat.le_refl _) _ _ _ _ _ _)).alloc (by rw [hzq]; exact hb.size) _
        have hv3 : Hid (Tw ((put6 wr w.heap.size (.int .i64 5) (.bool false) (.slice none 0 0) (.slice none 0 0) (.string ⟨#[]⟩) (.slice (some ⟨wr.heap.size, 0, none⟩) 2 2)).alloc (.cells #[.int .i64 v.k, .bool v.r.s, .slice v.r.A v.r.n v.r.c, .slice v.r.B v.r.m v.r.d, .string v.s, .slice v.K v.n v.c, .int .i64 2, .bool false, .slice none 0 0, .slice none 0 0, .string ⟨#[98]⟩, .slice none 0 0] 27)) (fun b => w.heap.size < b) (lT true (.nm ⟨#[97]⟩) (bs.take (i + 1))) ⟨5, Rz, ⟨#[]⟩, some ⟨wr.heap.size, 0, none⟩, 2, 2⟩) := by
          show Tw _ _ _ _
          rw [HLT.out]
          exact ⟨wr.heap.size, v, ⟨2, Rz, ⟨#[98]⟩, none, 0, 0⟩, rfl, by show w.heap.size < wr.heap.size; omega, hzp, hnew, hv2, rfl⟩
        have HK2 := Lib.hid k_2
        have HB2 := Lib.hid hb2
        clear hv2 hzq hzp hnew k_2 hb2 k_e hv hb hwe e0 e1 e2 e3 e4 e5 E0 E1 E2 E3 E4 E5 hc g1 g2 g3 g4
        go_roundw
        case rel => exact ⟨i + 1, _, ⟨5, Rz, ⟨#[]⟩, some ⟨wr.heap.size, 0, none⟩, 2, 2⟩, by omega, by go_num, rfl, HR2, HK2.out, hv3.out, HB2.out⟩
        case measure => simp [intOf]; omega
    · have e : i = n := by omega
      have a1 : ¬ (i : Int) < (n : Int) := by omega
      subst e
      have htk : bs.take i = bs := List.take_of_length_le (by rw [hlen.out]; exact Nat.le_refl _)
      have hS : R.data.toList = 97 :: fl true bs := by rw [HR.out, htk]
      rw [htk] at hv
      obtain ⟨hfin, hfine⟩ := left_fin hS (by rw [hlen.out]; exact h28)
      have HC := eParse_c R wr (by omega) (HM.out.below hb) (HT.out.below hb)
      rw [hfin] at HC
      have HCC := Lib.hid HC
      have HFI := Lib.hid hfine
      clear HC hfine hfin hS htk hsz HR HBR
      go_wp2_with fail
      refine HCC.out.mono ?_
      rintro e w2 ⟨u, rfl, hu, hb2⟩
      replace hv := hv.below hb2
      replace k_e := k_e.below hb2
      replace hb := hb.trans (hb2.mono hb.size)
      have k_u := C6.new w2 (.int .i64 u.k) (.bool u.r.s) (.slice u.r.A u.r.n u.r.c) (.slice u.r.B u.r.m u.r.d) (.string u.s) (.slice u.K u.n u.c)
      replace k_e := k_e.alloc (.cells #[.int .i64 u.k, .bool u.r.s, .slice u.r.A u.r.n u.r.c, .slice u.r.B u.r.m u.r.d, .string u.s, .slice u.K u.n u.c] 27)
      replace hv := hv.alloc (.cells #[.int .i64 u.k, .bool u.r.s, .slice u.r.A u.r.n u.r.c, .slice u.r.B u.r.m u.r.d, .string u.s, .slice u.K u.n u.c] 27)
      replace hu := hu.alloc (.cells #[.int .i64 u.k, .bool u.r.s, .slice u.r.A u.r.n u.r.c, .slice u.r.B u.r.m u.r.d, .string u.s, .slice u.K u.n u.c] 27)
      replace hb := hb.trans (((Below.refl w2.heap.size w2).alloc (Nat.le_refl _) (.cells #[.int .i64 u.k, .bool u.r.s, .slice u.r.A u.r.n u.r.c, .slice u.r.B u.r.m u.r.d, .string u.s, .slice u.K u.n u.c] 27)).mono hb.size)
      obtain ⟨e0, e1, e2, e3, e4, e5⟩ := k_e.facts
      obtain ⟨u0, u1, u2, u3, u4, u5⟩ := k_u.facts
      clear hb2 HCC
      go_wp2_with fail
      refine (eSame_c _ u v _ HFI.out hu hv).mono ?_
      rintro e w3 ⟨rfl, hb3⟩
      replace hb := hb.trans (hb3.mono hb.size)
      clear hb3 e0 e1 e2 e3 e4 e5 u0 u1 u2 u3 u4 u5 k_e k_u hv hu
      go_wp2_with fail
      refine (known5_any _ (HT.out.below hb) (HM.out.below hb)).mono ?_
      rintro e w4 ⟨rfl, hb4⟩
      go_wp2
      go_ret
      exact ⟨rfl, hb.trans (hb4.mono hb.size)⟩

set_option maxRecDepth 100000 in
set_option maxHeartbeats 16000000 in
theorem ExprLeft_false (A : Option Addr) (n c : Nat) (bs : List Bool) (w : World) (h28 : n ≤ 28) (hB : BRow w A n bs) (ht : Tb w) (hm : Mx w) : Calls Tryz.prog 8 #[.slice A n c, .bool false] w fun e w' => e = .returned (.bool true) ∧ Below w.heap.size w w' := by
  have i1 : ¬ (28 : Int) < (n : Int) := by omega
  have HT := Lib.hid ht
  have HM := Lib.hid hm
  have hlen := Lib.hid hB.1
  have HBR := Lib.hid hB.2
  clear ht hm hB
  have k_e := C6.new w (.int .i64 2) (.bool false) (.slice none 0 0) (.slice none 0 0) (.string ⟨#[97]⟩) (.slice none 0 0)
  have hb0 := (Below.refl w.heap.size w).alloc (Nat.le_refl _) (.cells #[.int .i64 2, .bool false, .slice none 0 0, .slice none 0 0, .string ⟨#[97]⟩, .slice none 0 0] 27)
  have hz : (w.alloc (.cells #[.int .i64 2, .bool false, .slice none 0 0, .slice none 0 0, .string ⟨#[97]⟩, .slice none 0 0] 27)).heap.size = w.heap.size + 1 := by simp
  go_enter Tryz.func8, Tryz.ntmps8
  go_wp2
  generalize w.alloc (.cells #[.int .i64 2, .bool false, .slice none 0 0, .slice none 0 0, .string ⟨#[97]⟩, .slice none 0 0] 27) = w1 at *
  go_loopw [5, 7] (fun sv iv wr => ∃ (i : Nat) (R : ByteArray) (v : Ev), i ≤ n ∧ iv = .int .i64 i ∧ sv = .string R ∧ Hid (R.data.toList = 97 :: fl false (bs.take i)) ∧ C6 wr w.heap.size (.int .i64 v.k) (.bool v.r.s) (.slice v.r.A v.r.n v.r.c) (.slice v.r.B v.r.m v.r.d) (.string v.s) (.slice v.K v.n v.c) ∧ Tw wr (fun b => w.heap.size < b) (lT false (.nm ⟨#[97]⟩) (bs.take i)) v ∧ Below w.heap.size w wr) (fun _ iv _ => n - (intOf iv).toNat)
  case atStart => exact ⟨0, ⟨#[97]⟩, ⟨2, Rz, ⟨#[97]⟩, none, 0, 0⟩, Nat.zero_le _, rfl, rfl, rfl, k_e, rfl, hb0⟩
  case round =>
    clear k_e hb0 hz
    obtain ⟨i, R, v, hi, rfl, rfl, HR, k_e, hv, hb⟩ := hrel
    have a0 : (0 : Int) ≤ (i : Int) := by omega
    have hsz : R.size = 1 + 2 * i := by
      rw [size_list HR.out, List.length_cons, fl_len, List.length_take, hlen.out, Nat.min_eq_left hi]; omega
    by_cases hlt : i < n
    · have a1 : (i : Int) < (n : Int) := by omega
      have a2 : (i : Int) ≤ 28 := by omega
      obtain ⟨bb, off, rfl, hbb, hcell⟩ := HBR.out (by omega)
      have hc := (hb.cell (p := ⟨bb, off + i, none⟩) hbb).trans (hcell i hlt)
      clear hcell
      have HFL := Lib.hid (take_fl false bs i (by rw [hlen.out]; exact hlt))
      have HLT := Lib.hid (take_lT false (.nm ⟨#[97]⟩) bs i (by rw [hlen.out]; exact hlt))
      have g1 : ¬ (9223372036854775807 < R.size + 1) := by omega
      have g2 : ¬ (R.size + 1 > 9223372036854775807) := by omega
      have g3 : ¬ (9223372036854775807 < R.size + 1 + 1) := by omega
      have g4 : ¬ (R.size + 1 + 1 > 9223372036854775807) := by omega
      have HSZ := Lib.hid hsz
      clear hsz
      have hwe := k_e.lt
      obtain ⟨e0, e1, e2, e3, e4, e5⟩ := k_e.facts
      obtain ⟨E0, E1, E2, E3, E4, E5⟩ := k_e.thaw
      generalize hbv : bs.getD i false = bv at *
      clear hbv
      cases bv with
      | true =>
        have HR2 : Hid ((R ++ (⟨#[45]⟩ : ByteArray) ++ (⟨#[98]⟩ : ByteArray)).data.toList = 97 :: fl false (bs.take (i + 1))) := by
          show _ = _
          rw [app_list (app_list HR.out (m := [45]) rfl) (m := [98]) rfl, HFL.out]
          simp [sg]
        go_wp2
        have k_2 := (k_e.put (.int .i64 4) (.bool false) (.slice none 0 0) (.slice none 0 0) (.string ⟨#[]⟩) (.slice (some ⟨wr.heap.size, 0, none⟩) 2 2)).alloc (.cells #[.int .i64 v.k, .bool v.r.s, .slice v.r.A v.r.n v.r.c, .slice v.r.B v.r.m v.r.d, .string v.s, .slice v.K v.n v.c, .int .i64 2, .bool false, .slice none 0 0, .slice none 0 0, .string ⟨#[98]⟩, .slice none 0 0] 27)
        have hzq : (put6 wr w.heap.size (.int .i64 4) (.bool false) (.slice none 0 0) (.slice none 0 0) (.string ⟨#[]⟩) (.slice (some ⟨wr.heap.size, 0, none⟩) 2 2)).heap.size = wr.heap.size := by simp
        have hnew := heap_alloc_new (put6 wr w.heap.size (.int .i64 4) (.bool false) (.slice none 0 0) (.slice none 0 0) (.string ⟨#[]⟩) (.slice (some ⟨wr.heap.size, 0, none⟩) 2 2)) (.cells #[.int .i64 v.k, .bool v.r.s, .slice v.r.A v.r.n v.r.c, .slice v.r.B v.r.m v.r.d, .string v.s, .slice v.K v.n v.c, .int .i64 2, .bool false, .slice none 0 0, .slice none 0 0, .string ⟨#[98]⟩, .slice none 0 0] 27)
        rw [hzq] at hnew
        have hv2 := (hv.but (put6_but (b := w.heap.size) (.int .i64 4) (.bool false) (.slice none 0 0) (.slice none 0 0) (.string ⟨#[]⟩) (.slice (some ⟨wr.heap.size, 0, none⟩) 2 2)) (fun b h => by omega)).alloc (.cells #[.int .i64 v.k, .bool v.r.s, .slice v.r.A v.r.n v.r.c, .slice v.r.B v.r.m v.r.d, .string v.s, .slice v.K v.n v.c, .int .i64 2, .bool false, .slice none 0 0, .slice none 0 0, .string ⟨#[98]⟩, .slice none 0 0] 27)
        have hzp : wr.heap.size < ((put6 wr w.heap.size (.int .i64 4) (.bool false) (.slice none 0 0) (.slice none 0 0) (.string ⟨#[]⟩) (.slice (some ⟨wr.heap.size, 0, none⟩) 2 2)).alloc (.cells #[.int .i64 v.k, .bool v.r.s, .slice v.r.A v.r.n v.r.c, .slice v.r.B v.r.m v.r.d, .string v.s, .slice v.K v.n v.c, .int .i64 2, .bool false, .slice none 0 0, .slice none 0 0, .string ⟨#[98]⟩, .slice none 0 0] 27)).heap.size := by
          have : ((put6 wr w.heap.size (.int .i64 4) (.bool false) (.slice none 0 0) (.slice none 0 0) (.string ⟨#[]⟩) (.slice (some ⟨wr.heap.size, 0, none⟩) 2 2)).alloc (.cells #[.int .i64 v.k, .bool v.r.s, .slice v.r.A v.r.n v.r.c, .slice v.r.B v.r.m v.r.d, .string v.s, .slice v.K v.n v.c, .int .i64 2, .bool false, .slice none 0 0, .slice none 0 0, .string ⟨#[98]⟩, .slice none 0 0] 27)).heap.size = (put6 wr w.heap.size (.int .i64 4) (.bool false) (.slice none 0 0) (.slice none 0 0) (.string ⟨#[]⟩) (.slice (some ⟨wr.heap.size, 0, none⟩) 2 2)).heap.size + 1 := by simp
          omega
        have hb2 : Below w.heap.size w ((put6 wr w.heap.size (.int .i64 4) (.bool false) (.slice none 0 0) (.slice none 0 0) (.string ⟨#[]⟩) (.slice (some ⟨wr.heap.size, 0, none⟩) 2 2)).alloc (.cells #[.int .i64 v.k, .bool v.r.s, .slice v.r.A v.r.n v.r.c, .slice v.r.B v.r.m v.r.d, .string v.s, .slice v.K v.n v.c, .int .i64 2, .bool false, .slice none 0 0, .slice none 0 0, .string ⟨#[98]⟩, .slice none 0 0] 27)) := (hb.trans (put6_below (Nat.le_refl _) _ _ _ _ _ _)).alloc (by rw [hzq]; exact hb.size) _
        have hv3 : Hid (Tw ((put6 wr w.heap.size (.int .i64 4) (.bool false) (.slice none 0 0) (.slice none 0 0) (.string ⟨#[]⟩) (.slice (some ⟨wr.heap.size, 0, none⟩) 2 2)).alloc (.cells #[.int .i64 v.k, .bool v.r.s, .slice v.r.A v.r.n v.r.c, .slice v.r.B v.r.m v.r.d, .string v.s, .slice v.K v.n v.c, .int .i64 2, .bool false, .slice none 0 0, .slice none 0 0, .string ⟨#[98]⟩, .slice none 0 0] 27)) (fun b => w.heap.size < b) (lT false (.nm ⟨#[97]⟩) (bs.take (i + 1))) ⟨4, Rz, ⟨#[]⟩, some ⟨wr.heap.size, 0, none⟩, 2, 2⟩) := by
          show Tw _ _ _ _
          rw [HLT.out]
          exact ⟨wr.heap.size, v, ⟨2, Rz, ⟨#[98]⟩, none, 0, 0⟩, rfl, by show w.heap.size < wr.heap.size; omega, hzp, hnew, hv2, rfl⟩
        have HK2 := Lib.hid k_2
        have HB2 := Lib.hid hb2
        clear hv2 hzq hzp hnew k_2 hb2 k_e hv hb hwe e0 e1 e2 e3 e4 e5 E0 E1 E2 E3 E4 E5 hc g1 g2 g3 g4
        go_roundw
        case rel => exact ⟨i + 1, _, ⟨4, Rz, ⟨#[]⟩, some ⟨wr.heap.size, 0, none⟩, 2, 2⟩, by omega, by go_num, rfl, HR2, HK2.out, hv3.out, HB2.out⟩
        case measure => simp [intOf]; omega
      | false =>
        have HR2 : Hid ((R ++ (⟨#[43]⟩ : ByteArray) ++ (⟨#[98]⟩ : ByteArray)).data.toList = 97 :: fl false (bs.take (i + 1))) := by
          show _ = _
          rw [app_list (app_list HR.out (m := [43]) rfl) (m := [98]) rfl, HFL.out]
          simp [sg]
        go_wp2
        have k_2 := (k_e.put (.int .i64 3) (.bool false) (.slice none 0 0) (.slice none 0 0) (.string ⟨#[]⟩) (.slice (some ⟨wr.heap.size, 0, none⟩) 2 2)).alloc (.cells #[.int .i64 v.k, .bool v.r.s, .slice v.r.A v.r.n v.r.c, .slice v.r.B v.r.m v.r.d, .string v.s, .slice v.K v.n v.c, .int .i64 2, .bool false, .slice none 0 0, .slice none 0 0, .string ⟨#[98]⟩, .slice none 0 0] 27)
        have hzq : (put6 wr w.heap.size (.int .i64 3) (.bool false) (.slice none 0 0) (.slice none 0 0) (.string ⟨#[]⟩) (.slice (some ⟨wr.heap.size, 0, none⟩) 2 2)).heap.size = wr.heap.size := by simp
        have hnew := heap_alloc_new (put6 wr w.heap.size (.int .i64 3) (.bool false) (.slice none 0 0) (.slice none 0 0) (.string ⟨#[]⟩) (.slice (some ⟨wr.heap.size, 0, none⟩) 2 2)) (.cells #[.int .i64 v.k, .bool v.r.s, .slice v.r.A v.r.n v.r.c, .slice v.r.B v.r.m v.r.d, .string v.s, .slice v.K v.n v.c, .int .i64 2, .bool false, .slice none 0 0, .slice none 0 0, .string ⟨#[98]⟩, .slice none 0 0] 27)
        rw [hzq] at hnew
        have hv2 := (hv.but (put6_but (b := w.heap.size) (.int .i64 3) (.bool false) (.slice none 0 0) (.slice none 0 0) (.string ⟨#[]⟩) (.slice (some ⟨wr.heap.size, 0, none⟩) 2 2)) (fun b h => by omega)).alloc (.cells #[.int .i64 v.k, .bool v.r.s, .slice v.r.A v.r.n v.r.c, .slice v.r.B v.r.m v.r.d, .string v.s, .slice v.K v.n v.c, .int .i64 2, .bool false, .slice none 0 0, .slice none 0 0, .string ⟨#[98]⟩, .slice none 0 0] 27)
        have hzp : wr.heap.size < ((put6 wr w.heap.size (.int .i64 3) (.bool false) (.slice none 0 0) (.slice none 0 0) (.string ⟨#[]⟩) (.slice (some ⟨wr.heap.size, 0, none⟩) 2 2)).alloc (.cells #[.int .i64 v.k, .bool v.r.s, .slice v.r.A v.r.n v.r.c, .slice v.r.B v.r.m v.r.d, .string v.s, .slice v.K v.n v.c, .int .i64 2, .bool false, .slice none 0 0, .slice none 0 0, .string ⟨#[98]⟩, .slice none 0 0] 27)).heap.size := by
          have : ((put6 wr w.heap.size (.int .i64 3) (.bool false) (.slice none 0 0) (.slice none 0 0) (.string ⟨#[]⟩) (.slice (some ⟨wr.heap.size, 0, none⟩) 2 2)).alloc (.cells #[.int .i64 v.k, .bool v.r.s, .slice v.r.A v.r.n v.r.c, .slice v.r.B v.r.m v.r.d, .string v.s, .slice v.K v.n v.c, .int .i64 2, .bool false, .slice none 0 0, .slice none 0 0, .string ⟨#[98]⟩, .slice none 0 0] 27)).heap.size = (put6 wr w.heap.size (.int .i64 3) (.bool false) (.slice none 0 0) (.slice none 0 0) (.string ⟨#[]⟩) (.slice (some ⟨wr.heap.size, 0, none⟩) 2 2)).heap.size + 1 := by simp
          omega
        have hb2 : Below w.heap.size w ((put6 wr w.heap.size (.int .i64 3) (.bool false) (.slice none 0 0) (.slice none 0 0) (.string ⟨#[]⟩) (.slice (some ⟨wr.heap.size, 0, none⟩) 2 2)).alloc (.cells #[.int .i64 v.k, .bool v.r.s, .slice v.r.A v.r.n v.r.c, .slice v.r.B v.r.m v.r.d, .string v.s, .slice v.K v.n v.c, .int .i64 2, .bool false, .slice none 0 0, .slice none 0 0, .string ⟨#[98]⟩, .slice none 0 0] 27)) := (hb.trans (put6_below (Nat.le_refl _) _ _ _ _ _ _)).alloc (by rw [hzq]; exact hb.size) _
        have hv3 : Hid (Tw ((put6 wr w.heap.size (.int .i64 3) (.bool false) (.slice none 0 0) (.slice none 0 0) (.string ⟨#[]⟩) (.slice (some ⟨wr.heap.size, 0, none⟩) 2 2)).alloc (.cells #[.int .i64 v.k, .bool v.r.s, .slice v.r.A v.r.n v.r.c, .slice v.r.B v.r.m v.r.d, .string v.s, .slice v.K v.n v.c, .int .i64 2, .bool false, .slice none 0 0, .slice none 0 0, .string ⟨#[98]⟩, .slice none 0 0] 27)) (fun b => w.heap.size < b) (lT false (.nm ⟨#[97]⟩) (bs.take (i + 1))) ⟨3, Rz, ⟨#[]⟩, some ⟨wr.heap.size, 0, none⟩, 2, 2⟩) := by
          show Tw _ _ _ _
          rw [HLT.out]
          exact ⟨wr.heap.size, v, ⟨2, Rz, ⟨#[98]⟩, none, 0, 0⟩, rfl, by show w.heap.size < wr.heap.size; omega, hzp, hnew, hv2, rfl⟩
        have HK2 := Lib.hid k_2
        have HB2 := Lib.hid hb2
        clear hv2 hzq hzp hnew k_2 hb2 k_e hv hb hwe e0 e1 e2 e3 e4 e5 E0 E1 E2 E3 E4 E5 hc g1 g2 g3 g4
        go_roundw
        case rel => exact ⟨i + 1, _, ⟨3, Rz, ⟨#[]⟩, some ⟨wr.heap.size, 0, none⟩, 2, 2⟩, by omega, by go_num, rfl, HR2, HK2.out, hv3.out, HB2.out⟩
        case measure => simp [intOf]; omega
    · have e : i = n := by omega
      have a1 : ¬ (i : Int) < (n : Int) := by omega
      subst e
      have htk : bs.take i = bs := List.take_of_length_le (by rw [hlen.out]; exact Nat.le_refl _)
      have hS : R.data.toList = 97 :: fl false bs := by rw [HR.out, htk]
      rw [htk] at hv
      obtain ⟨hfin, hfine⟩ := left_fin hS (by rw [hlen.out]; exact h28)
      have HC := eParse_c R wr (by omega) (HM.out.below hb) (HT.out.below hb)
      rw [hfin] at HC
      have HCC := Lib.hid HC
      have HFI := Lib.hid hfine
      clear HC hfine hfin hS htk hsz HR HBR
      go_wp2_with fail
      refine HCC.out.mono ?_
      rintro e w2 ⟨u, rfl, hu, hb2⟩
      replace hv := hv.below hb2
      replace k_e := k_e.below hb2
      replace hb := hb.trans (hb2.mono hb.size)
      have k_u := C6.new w2 (.int .i64 u.k) (.bool u.r.s) (.slice u.r.A u.r.n u.r.c) (.slice u.r.B u.r.m u.r.d) (.string u.s) (.slice u.K u.n u.c)
      replace k_e := k_e.alloc (.cells #[.int .i64 u.k, .bool u.r.s, .slice u.r.A u.r.n u.r.c, .slice u.r.B u.r.m u.r.d, .string u.s, .slice u.K u.n u.c] 27)
      replace hv := hv.alloc (.cells #[.int .i64 u.k, .bool u.r.s, .slice u.r.A u.r.n u.r.c, .slice u.r.B u.r.m u.r.d, .string u.s, .slice u.K u.n u.c] 27)
      replace hu := hu.alloc (.cells #[.int .i64 u.k, .bool u.r.s, .slice u.r.A u.r.n u.r.c, .slice u.r.B u.r.m u.r.d, .string u.s, .slice u.K u.n u.c] 27)
      replace hb := hb.trans (((Below.refl w2.heap.size w2).alloc (Nat.le_refl _) (.cells #[.int .i64 u.k, .bool u.r.s, .slice u.r.A u.r.n u.r.c, .slice u.r.B u.r.m u.r.d, .string u.s, .slice u.K u.n u.c] 27)).mono hb.size)
      obtain ⟨e0, e1, e2, e3, e4, e5⟩ := k_e.facts
      obtain ⟨u0, u1, u2, u3, u4, u5⟩ := k_u.facts
      clear hb2 HCC
      go_wp2_with fail
      refine (eSame_c _ u v _ HFI.out hu hv).mono ?_
      rintro e w3 ⟨rfl, hb3⟩
      replace hb := hb.trans (hb3.mono hb.size)
      clear hb3 e0 e1 e2 e3 e4 e5 u0 u1 u2 u3 u4 u5 k_e k_u hv hu
      go_wp2_with fail
      refine (known5_any _ (HT.out.below hb) (HM.out.below hb)).mono ?_
      rintro e w4 ⟨rfl, hb4⟩
      go_wp2
      go_ret
      exact ⟨rfl, hb.trans (hb4.mono hb.size)⟩

theorem ExprLeft_all (A : Option Addr) (n c : Nat) (P : Bool) (bs : List Bool) (w : World) (hB : BRow w A n bs) (ht : Tb w) (hm : Mx w) : Calls Tryz.prog 8 #[.slice A n c, .bool P] w fun e w' => e = .returned (.bool true) ∧ Below w.heap.size w w' := by
  by_cases h : n ≤ 28
  · cases P
    · exact ExprLeft_false A n c bs w h hB ht hm
    · exact ExprLeft_true A n c bs w h hB ht hm
  · exact ExprLeft_many A n c P w (by omega)
end Go.Proofs.YtjjblmaljegfjaaGreatDoor
