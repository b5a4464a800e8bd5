/-
  dec, first part: powers of ten, both ways; whether a row is 0, is odd; a sign; a scale that is held.
  dec, second part: units in digits with a point, both ways.
  dec, third part: the document's digits with a point.
  dec, fourth part: how often a unit is in a number, and what is left, both ways.
  dec, fifth part: how many units are nearest to a number.
  dec, sixth part: Print, Round, Fixed.
-/
import Derived.Test.YtdpbceipiappjaaGreatDoorMTx
import Derived.Test.YtdpbceipiappjaaGreatDoorMRa
import Derived.Test.YtdpbceipiappjaaGreatDoorMRf
namespace Go.Proofs.YtdpbceipiappjaaGreatDoor
set_option maxRecDepth 20000
open Go.RowKit

theorem bd_ten (k : Nat) : Bd (10 ^ k) (k / 9 + 1) := by
  unfold Bd
  have h1 : 10 ^ k ≤ 10 ^ (9 * (k / 9 + 1)) := Nat.pow_le_pow_right (by omega) (by omega)
  have h2 : 10 ^ (9 * (k / 9 + 1)) ≤ 4294967296 ^ (k / 9 + 1) := by
    rw [Nat.pow_mul]; exact Nat.pow_le_pow_left (by omega) _
  have h3 : 10 ^ k < 10 ^ (9 * (k / 9 + 1)) := Nat.pow_lt_pow_right (by omega) (by omega)
  omega
theorem ten_len {k m : Nat} (h : k ≤ m) : (lim (10 ^ k)).length ≤ m / 9 + 1 := by
  have h1 := (bd_ten k).len
  have h2 : k / 9 ≤ m / 9 := Nat.div_le_div_right h
  omega

set_option maxHeartbeats 1600000 in
theorem powerOfTen_any (m : Nat) (w : World) (hm : m ≤ 1000) :
    Calls Tryz.prog 118 #[.int .i64 (m : Int)] w fun e w' => ∃ A c, e = .returned (.slice A (lim (10 ^ m)).length c) ∧ Own w' w.heap.size A c (lim (10 ^ m)).length (lim (10 ^ m)) ∧ Below w.heap.size w w' := by
  go_enter Tryz.func118, Tryz.ntmps118
  go_wp2_with fail
  refine (Of_any 1 _ (by omega)).mono ?_
  rintro e w1 ⟨A, c, rfl, ho, hb⟩
  have hs1 := hb.size
  have HB1 := Lib.hid hb
  go_wp2_with fail
  refine (Of_any 10 _ (by omega)).mono ?_
  rintro e w2 ⟨T, d, rfl, ht, hb2⟩
  have HO : Hid (Own w2 w.heap.size A c (lim (10 ^ 0)).length (lim (10 ^ 0))) := ho.below hb2
  have HB2 := Lib.hid (HB1.out.trans (hb2.mono hs1))
  have hr := ht.row.lower (Nat.zero_le _)
  have hcd := ht.capLe
  have h10 : (lim 10).length ≤ 100000 := by have := lim_len_lt (n := 10) (k := 1) (by omega); omega
  have hs2 := HB2.out.size
  clear hb hb2 ho ht HB1
  go_wp2
  go_loopw [3, 8] (fun nv iv wr => ∃ (k : Nat) (A : Option Addr) (c : Nat), k ≤ m ∧ iv = .int .i64 (k : Int) ∧ nv = .slice A (lim (10 ^ k)).length c ∧ Hid (Own wr w.heap.size A c (lim (10 ^ k)).length (lim (10 ^ k))) ∧ Hid (Row wr 0 T (lim 10).length (lim 10)) ∧ Hid (Below w.heap.size w wr)) (fun _ iv _ => m - (intOf iv).toNat)
  case atStart => exact ⟨0, A, c, Nat.zero_le _, rfl, rfl, HO, hr, HB2⟩
  case round =>
    obtain ⟨k, A, c, hk, rfl, rfl, HO, HR, HB⟩ := hrel
    by_cases hlt : k < m
    · have hl := ten_len (k := k) (m := 1000) (by omega)
      have hcc := HO.out.capLe
      have hsz := HB.out.size
      have HE : Hid (10 ^ k * 10 = 10 ^ (k + 1)) := (Nat.pow_succ _ _).symm
      go_wp2_with fail
      refine (Mul_v (10 ^ k) 10 _ _ _ _ _ _ _ _ _ (val_lim _) (val_lim _) (by omega) h10 hcc hcd (HO.out.row.lower (Nat.zero_le _)) HR.out).mono ?_
      rintro e w3 ⟨B, f, rfl, ho, hb⟩
      rw [HE.out] at ho ⊢
      have HO2 := Lib.hid (ho.lower hsz)
      have HB2 := Lib.hid (HB.out.trans (hb.mono hsz))
      have HR2 := Lib.hid (HR.out.below hb)
      clear ho hb HO HB HR HE
      go_wp2
      go_roundw
      case rel => exact ⟨k + 1, B, f, by omega, by go_num, rfl, HO2, HR2, HB2⟩
      case measure => simp [intOf]; omega
    · have e : Hid (k = m) := by show _ = _; omega
      clear hr
      go_wp2
      go_ret
      have := e.out
      subst this
      exact ⟨A, c, rfl, HO.out, HB.out⟩

set_option maxHeartbeats 400000 in
theorem disNought_any (A : Option Addr) (n c x : Nat) (a : List Nat) (b : Bool) (w : World) (hx : val a = x) (hn : n ≤ 100000) (hcn : n ≤ c) (ha : Row w 0 A n a) (h : decide (x = 0) = b) :
    Calls Tryz.prog 103 #[.slice A n c] w fun e w' => e = .returned (.bool b) ∧ w = w' := by
  subst hx
  by_cases h0 : val a = 0
  · have hz := nbits_zero h0
    rw [decide_eq_true h0] at h
    subst h
    clear h0
    go_enter Tryz.func103, Tryz.ntmps103
    go_wp2_with fail
    refine (Bits_any A n c a _ hn hcn ha).mono ?_
    rintro e w' ⟨rfl, rfl⟩
    rw [hz]
    go_wp2
    go_ret
    exact ⟨rfl, rfl⟩
  · have hz := nbits_pos h0
    rw [decide_eq_false h0] at h
    subst h
    clear h0
    go_enter Tryz.func103, Tryz.ntmps103
    go_wp2_with fail
    refine (Bits_any A n c a _ hn hcn ha).mono ?_
    rintro e w' ⟨rfl, rfl⟩
    have hb2 : (((nbits (val a) : Nat) : Int) == 0) = false := by rw [beq_eq_false_iff_ne]; omega
    go_wp2
    go_ret
    exact ⟨rfl, rfl⟩

/-- A text with its sign. -/
def sgnd (b : Bool) (l : List UInt8) : List UInt8 := if b then 45 :: l else l

set_option maxHeartbeats 400000 in
theorem signed_any (b : Bool) (l : List UInt8) (w : World) (hl : l.length ≤ 1000000) :
    Calls Tryz.prog 106 #[.bool b, .string ⟨l.toArray⟩] w fun e w' => e = .returned (.string ⟨(sgnd b l).toArray⟩) ∧ w = w' := by
  cases b
  · have HE : Hid (sgnd false l = l) := rfl
    go_enter Tryz.func106, Tryz.ntmps106
    go_wp2
    go_ret
    exact ⟨by rw [HE.out]; rfl, rfl⟩
  · have HE : Hid ((⟨(sgnd true l).toArray⟩ : ByteArray) = ⟨#[45]⟩ ++ ⟨l.toArray⟩) := (str_append [45] l).symm
    go_enter Tryz.func106, Tryz.ntmps106
    go_wp2
    go_ret
    exact ⟨by rw [HE.out]; rfl, rfl⟩

set_option maxHeartbeats 400000 in
theorem sign_any (b : Bool) (w : World) :
    Calls Tryz.prog 58 #[.bool b] w fun e w' => e = .returned (.string ⟨(sgnd b []).toArray⟩) ∧ w = w' := by
  cases b
  · go_enter Tryz.func58, Tryz.ntmps58
    go_wp2
    go_ret
    exact ⟨rfl, rfl⟩
  · go_enter Tryz.func58, Tryz.ntmps58
    go_wp2
    go_ret
    exact ⟨rfl, rfl⟩

/-- A scale that is held within 0 and 9. -/
def hsc (i : Int) : Nat := (min (max i 0) 9).toNat
theorem hsc_le (i : Int) : hsc i ≤ 9 := by unfold hsc; omega
theorem hsc_cast (i : Int) : min (max i 0) 9 = ((hsc i : Nat) : Int) := by unfold hsc; omega
theorem hsc_of {k : Nat} (h : k ≤ 9) : hsc (k : Int) = k := by unfold hsc; omega

end Go.Proofs.YtdpbceipiappjaaGreatDoor

namespace Go.Proofs.YtdpbceipiappjaaGreatDoor
set_option maxRecDepth 20000
open Go.RowKit

theorem rep_nought (c : Nat) : Lib.repeatL [48] c = List.replicate c 48 := by
  have := Lib.repeatL_replicate 48 1 c
  simpa using this
theorem mk_data' (l : List UInt8) : (⟨l.toArray⟩ : ByteArray).data.toList = l := rfl
theorem size_mk' (l : List UInt8) : (⟨l.toArray⟩ : ByteArray).size = l.length := Lib.size_mk l
/-- A text that is so many units in digits, at least one ahead of the point. -/
structure Padded (D : ByteArray) (x k : Nat) : Prop where
  data : D.data.toList = List.replicate (k + 1 - (Lib.decDigits x).length) 48 ++ Lib.decDigits x
theorem Padded.lt {D : ByteArray} {x k : Nat} (h : Padded D x k) : k < D.size := by
  rw [Lib.size_eq, h.data, List.length_append, List.length_replicate]; omega
theorem Padded.text {D : ByteArray} {x k : Nat} (h : Padded D x k) (hk : k ≠ 0) : D.extract 0 (D.size - k) ++ ⟨#[46]⟩ ++ D.extract (D.size - k) D.size = ⟨(fx x k).toArray⟩ := by
  obtain ⟨_, h2⟩ := fx_cut hk _ h.data
  rw [← Lib.size_eq] at h2
  rw [Lib.extract_eq, Lib.extract_eq, show (⟨#[46]⟩ : ByteArray) = ⟨[46].toArray⟩ from rfl, str_append, str_append, ← h2]
  congr 2
  have e : List.take (D.size - (D.size - k)) (List.drop (D.size - k) D.data.toList) = List.drop (D.size - k) D.data.toList := by
    apply List.take_of_length_le
    rw [List.length_drop, ← Lib.size_eq]
    exact Nat.le_refl _
  rw [e]
  simp

set_option maxHeartbeats 1600000 in
theorem withPoint_any (A : Option Addr) (c x k : Nat) (w : World) (hl : (lim x).length ≤ 1000) (hlc : (lim x).length ≤ c) (hk : k ≤ 1000) (ha : Row w 0 A (lim x).length (lim x)) (ht : Tb w) :
    Calls Tryz.prog 105 #[.slice A (lim x).length c, .int .i64 (k : Int)] w fun e w' => e = .returned (.string ⟨(fx x k).toArray⟩) ∧ Below w.heap.size w w' := by
  have hdl : (Lib.decDigits x).length ≤ 10 * 1000 := dec_len_lim (by omega) hl
  obtain ⟨S, hS⟩ : ∃ S : ByteArray, S = ⟨(Lib.decDigits x).toArray⟩ := ⟨_, rfl⟩
  have hss : S.size ≤ 10000 := by rw [hS, size_mk']; omega
  have HS := Lib.hid hS
  have HSL : Hid (S.size = (Lib.decDigits x).length) := by show _ = _; rw [hS, size_mk']
  have HTB := Lib.hid ht
  clear hS ht
  by_cases h0 : k = 0
  · have HE : Hid (fx x k = Lib.decDigits x) := by show _ = _; unfold fx; rw [if_pos h0]
    have q1 : ((k : Int) == 0) = true := by rw [beq_iff_eq]; omega
    clear h0
    go_enter Tryz.func105, Tryz.ntmps105
    go_wp2_with fail
    refine (Print_any A _ c (lim x) x _ (val_lim _) hl hlc ha HTB.out).mono ?_
    rintro e w1 ⟨rfl, hb⟩
    rw [← HS.out]
    have HB := Lib.hid hb
    clear hb
    go_wp2
    go_ret
    exact ⟨by rw [HE.out, ← HS.out]; rfl, HB.out⟩
  · have q1 : ((k : Int) == 0) = false := by rw [beq_eq_false_iff_ne]; omega
    obtain ⟨m, hm⟩ : ∃ m, m = k + 1 - S.size := ⟨_, rfl⟩
    have hm1 : m ≤ 2000 := by omega
    have HM : Hid (max ((k : Int) + 1 - (S.size : Int)) 0 = (m : Int)) := by show _ = _; omega
    obtain ⟨D, hD⟩ : ∃ D : ByteArray, (⟨(List.replicate m (48 : UInt8)).toArray⟩ : ByteArray) ++ S = D := ⟨_, rfl⟩
    have HP : Hid (Padded D x k) := by
      refine ⟨?_⟩
      rw [← hD, HS.out, str_append, mk_data', hm, HSL.out]
    have hlt := HP.out.lt
    have HK := Lib.hid h0
    have hDs : D.size ≤ 20000 := by
      rw [Lib.size_eq, HP.out.data, List.length_append, List.length_replicate]; omega
    have HDE := Lib.hid hD
    clear hm h0 hD
    go_enter Tryz.func105, Tryz.ntmps105
    go_wp2_with fail
    refine (Print_any A _ c (lim x) x _ (val_lim _) hl hlc ha HTB.out).mono ?_
    rintro e w1 ⟨rfl, hb⟩
    rw [← HS.out]
    have HB := Lib.hid hb
    have hs1 := hb.size
    clear hb
    go_wp2_with fail
    rw [HM.out]
    refine (Tryz.strings_Repeat ⟨#[48]⟩ m _ (by omega) (by show 1 * m ≤ _; omega)).mono ?_
    rintro e w2 ⟨rfl, hb⟩
    have HB2 := Lib.hid (HB.out.trans (hb.mono hs1))
    clear hb
    rw [show Lib.repeatL (⟨#[48]⟩ : ByteArray).data.toList m = List.replicate m 48 from rep_nought m]
    have hDE := HDE.out
    obtain ⟨Z, hZ⟩ : ∃ Z : ByteArray, (⟨(List.replicate m (48 : UInt8)).toArray⟩ : ByteArray) = Z := ⟨_, rfl⟩
    have hZs : Z.size ≤ 2000 := by rw [← hZ, size_mk', List.length_replicate]; omega
    rw [hZ] at hDE ⊢
    have HF := Lib.hid (HP.out.text HK.out)
    obtain ⟨h, hh⟩ : ∃ h, h = D.size - k := ⟨_, rfl⟩
    rw [← hh] at HF
    have hi : (D.size : Int) - (k : Int) = (h : Int) := by omega
    have hhD : h ≤ D.size := by omega
    have hh0 : (0 : Int) ≤ (h : Int) := by omega
    have hhI : (h : Int) ≤ (D.size : Int) := by omega
    have hZ2 : (D.extract 0 h).size ≤ 20000 := by rw [ByteArray.size_extract]; omega
    have hZ3 : (D.extract h D.size).size ≤ 20000 := by rw [ByteArray.size_extract]; omega
    clear hZ hh HDE HP
    go_wp2_with fail
    clear hi hDE
    go_quiet (fail)
    go_wp2
    go_ret
    exact ⟨by rw [← HF.out]; rfl, HB2.out.trans (below_drewN' _ _ _)⟩
end Go.Proofs.YtdpbceipiappjaaGreatDoor

namespace Go.Proofs.YtdpbceipiappjaaGreatDoor
set_option maxRecDepth 20000
open Go.RowKit

/-- What the loop of digits keeps: j noughts are ahead. -/
structure DgsAt (D : ByteArray) (x j least : Nat) : Prop where
  data : D.data.toList = List.replicate j 48 ++ Lib.decDigits x
  few : j = 0 ∨ j + (Lib.decDigits x).length ≤ least
theorem DgsAt.size {D : ByteArray} {x j least : Nat} (h : DgsAt D x j least) : D.size = j + (Lib.decDigits x).length := by
  rw [Lib.size_eq, h.data, List.length_append, List.length_replicate]
theorem DgsAt.step {D : ByteArray} {x j least : Nat} (h : DgsAt D x j least) (hl : D.size < least) : DgsAt (⟨#[48]⟩ ++ D) x (j + 1) least := by
  have hs := h.size
  refine ⟨?_, .inr (by omega)⟩
  rw [ByteArray.data_append, Array.toList_append, h.data, List.replicate_succ]
  rfl
theorem DgsAt.done {D : ByteArray} {x j k : Nat} (h : DgsAt D x j (k + 1)) (hl : ¬ D.size < k + 1) : Padded D x k := by
  have hs := h.size
  refine ⟨?_⟩
  rw [h.data]
  congr 2
  rcases h.few with h0 | h0 <;> omega

set_option maxHeartbeats 1600000 in
theorem digits_any (A : Option Addr) (c x k : Nat) (w : World) (hl : (lim x).length ≤ 1000) (hlc : (lim x).length ≤ c) (hk : k ≤ 1000) (ha : Row w 0 A (lim x).length (lim x)) :
    Calls Tryz.prog 57 #[.slice A (lim x).length c, .int .i64 ((k : Int) + 1)] w fun e w' => ∃ D : ByteArray, e = .returned (.string D) ∧ Padded D x k ∧ Below w.heap.size w w' := by
  have hdl : (Lib.decDigits x).length ≤ 10 * 1000 := dec_len_lim (by omega) hl
  obtain ⟨S, hS⟩ : ∃ S : ByteArray, S = ⟨(Lib.decDigits x).toArray⟩ := ⟨_, rfl⟩
  have hss : S.size ≤ 10000 := by rw [hS, size_mk']; omega
  have HST : Hid (DgsAt S x 0 (k + 1)) := ⟨by rw [hS]; rfl, .inl rfl⟩
  have HS := Lib.hid hS
  clear hS
  go_enter Tryz.func57, Tryz.ntmps57
  go_wp2_with fail
  refine (rPrint_any A _ c (lim x) x _ (val_lim _) hl hlc ha).mono ?_
  rintro e w1 ⟨rfl, hb⟩
  rw [← HS.out]
  have HB := Lib.hid hb
  clear hb
  go_wp2
  go_loop [5] (fun sv => ∃ (j : Nat) (D : ByteArray), sv = .string D ∧ D.size ≤ 20000 ∧ Hid (DgsAt D x j (k + 1))) (fun sv => (k + 1) - (match sv with | .string D => D.size | _ => 0))
  case atStart => exact ⟨0, S, rfl, by omega, HST⟩
  case round =>
    obtain ⟨j, D, rfl, hD, HA⟩ := hrel
    clear HST
    by_cases hlt : D.size < k + 1
    · have HS2 : Hid (DgsAt (⟨#[48]⟩ ++ D) x (j + 1) (k + 1)) := HA.out.step hlt
      have hs2 : (⟨#[48]⟩ ++ D : ByteArray).size = D.size + 1 := by rw [ByteArray.size_append]; show 1 + D.size = _; omega
      have hq : (D.size : Int) < (k : Int) + 1 := by omega
      have HZ := Lib.hid hs2
      clear hs2 HA
      go_wp2
      go_round
      case rel => exact ⟨j + 1, _, rfl, by rw [HZ.out]; omega, HS2⟩
      case measure => simp only []; rw [HZ.out]; omega
    · have HP := Lib.hid (HA.out.done hlt)
      have hq : (k : Int) + 1 ≤ (D.size : Int) := by omega
      clear HA
      go_wp2
      go_ret
      exact ⟨D, rfl, HP.out, HB.out⟩

theorem sgnd_app (b : Bool) (l : List UInt8) : sgnd b [] ++ l = sgnd b l := by cases b <;> rfl

set_option maxHeartbeats 1600000 in
theorem point_any (A : Option Addr) (c x k : Nat) (neg : Bool) (w : World) (hl : (lim x).length ≤ 1000) (hlc : (lim x).length ≤ c) (hk : k ≤ 1000) (ha : Row w 0 A (lim x).length (lim x)) :
    Calls Tryz.prog 36 #[.bool neg, .slice A (lim x).length c, .int .i64 (k : Int)] w fun e w' => e = .returned (.string ⟨(sgnd (neg && decide (x ≠ 0)) (fx x k)).toArray⟩) ∧ Below w.heap.size w w' := by
  obtain ⟨F, hF⟩ : ∃ F : ByteArray, F = ⟨(fx x k).toArray⟩ := ⟨_, rfl⟩
  have hfl : F.size ≤ 20000 := by
    rw [hF, size_mk']
    obtain ⟨q, hq⟩ : ∃ q : Nat, q = 1000 := ⟨_, rfl⟩
    have h1 : x < 10 ^ (10 * q) := by
      have h1 : x < 4294967296 ^ q := Bd.ofL (by omega)
      have h2 : 4294967296 ^ q ≤ (10 ^ 10) ^ q := Nat.pow_le_pow_left (by omega) _
      rw [Nat.pow_mul]; omega
    have := fx_len (k := k) (by omega) h1
    omega
  have HFE := Lib.hid hF
  clear hF
  obtain ⟨g, hg⟩ : ∃ g, g = (neg && decide (x ≠ 0)) := ⟨_, rfl⟩
  have HG : Hid ((⟨(sgnd g (fx x k)).toArray⟩ : ByteArray) = ⟨(sgnd g []).toArray⟩ ++ F) := by
    show _ = _
    rw [HFE.out, str_append, sgnd_app]
  rw [← hg]
  have hx0 : (0 < (lim x).length) = (x ≠ 0) := by
    apply propext
    constructor
    · rintro h rfl; rw [lim_zero] at h; simp at h
    · intro h; rw [lim_pos h]; simp
  have hgd : g = (neg && decide (0 < (lim x).length)) := by rw [hg]; congr 1; exact decide_eq_decide.2 (by rw [hx0])
  have HGD := Lib.hid hgd
  clear hg hx0 hgd
  have hsl : (⟨(sgnd g []).toArray⟩ : ByteArray).size ≤ 1 := by rw [size_mk']; cases g <;> simp [sgnd]
  obtain ⟨Z, hZ⟩ : ∃ Z : ByteArray, (⟨(sgnd g []).toArray⟩ : ByteArray) = Z := ⟨_, rfl⟩
  rw [hZ] at hsl HG
  have HZ := Lib.hid hZ
  clear hZ
  by_cases h0 : k = 0
  · have q1 : ¬ (0 < (k : Int)) := by omega
    have HPF : Hid (∀ D : ByteArray, Padded D x k → D = F) := by
      intro D hD
      have h2 := hD.data
      rw [padded, h0] at h2
      have h3 : fx x k = Lib.decDigits x := by unfold fx; rw [if_pos h0]
      rw [HFE.out, h3, ← Lib.mk_data D, h2]
      simp [pad]
    clear h0
    go_enter Tryz.func36, Tryz.ntmps36
    go_wp2_with fail
    refine (digits_any A c x k _ hl hlc hk ha).mono ?_
    rintro e w1 ⟨D, rfl, hp, hb⟩
    have hDF := HPF.out D hp
    subst hDF
    have HB := Lib.hid hb
    clear hb hp HPF
    cases neg
    · go_wp2_with fail
      refine (sign_any false _).mono ?_
      rintro e w2 ⟨rfl, rfl⟩
      have e1 : g = false := by rw [HGD.out]; rfl
      rw [show (⟨(sgnd false []).toArray⟩ : ByteArray) = Z by rw [← HZ.out, e1]]
      clear e1
      go_wp2
      go_ret
      exact ⟨by rw [HG.out]; rfl, HB.out⟩
    · go_wp2_with fail
      have e1 : decide (0 < (lim x).length) = g := by rw [HGD.out]; simp
      rw [e1]
      refine (sign_any g _).mono ?_
      rintro e w2 ⟨rfl, rfl⟩
      rw [HZ.out]
      clear e1
      go_wp2
      go_ret
      exact ⟨by rw [HG.out]; rfl, HB.out⟩
  · have q1 : (0 < (k : Int)) := by omega
    have HPF : Hid (∀ D : ByteArray, Padded D x k → D.extract 0 (D.size - k) ++ ⟨#[46]⟩ ++ D.extract (D.size - k) D.size = F ∧ k < D.size ∧ D.size ≤ 20000) := by
      intro D hD
      refine ⟨by rw [hD.text h0, HFE.out], hD.lt, ?_⟩
      rw [Lib.size_eq, hD.data, List.length_append, List.length_replicate]
      have := dec_len_lim (x := x) (p := 1000) (by omega) hl
      omega
    clear h0
    go_enter Tryz.func36, Tryz.ntmps36
    go_wp2_with fail
    refine (digits_any A c x k _ hl hlc hk ha).mono ?_
    rintro e w1 ⟨D, rfl, hp, hb⟩
    obtain ⟨hDF, hlt, hDs⟩ := HPF.out D hp
    have HB := Lib.hid hb
    obtain ⟨h, hh⟩ : ∃ h, h = D.size - k := ⟨_, rfl⟩
    rw [← hh] at hDF
    have HDF := Lib.hid hDF
    have hi : IntKind.i64.wrap ((D.size : Int) - (k : Int)) = (h : Int) := by rw [IntKind.wrap_i64]; omega
    have hhD : h ≤ D.size := by omega
    have hh0 : (0 : Int) ≤ (h : Int) := by omega
    have hhI : (h : Int) ≤ (D.size : Int) := by omega
    have hZ2 : (D.extract 0 h).size ≤ 20000 := by rw [ByteArray.size_extract]; omega
    have hZ3 : (D.extract h D.size).size ≤ 20000 := by rw [ByteArray.size_extract]; omega
    clear hb hp HPF hDF hh
    go_wp2_with fail
    go_quiet (fail)
    rw [HDF.out]
    have HB2 : Hid (∀ q, Below w.heap.size w (w1.drewN q)) := fun q => HB.out.trans (below_drewN' _ _ _)
    clear hi hhD hh0 hhI hZ2 hZ3 HDF hlt hDs
    cases neg
    · go_wp2_with fail
      refine (sign_any false _).mono ?_
      rintro e w2 ⟨rfl, rfl⟩
      have e1 : g = false := by rw [HGD.out]; rfl
      rw [show (⟨(sgnd false []).toArray⟩ : ByteArray) = Z by rw [← HZ.out, e1]]
      clear e1
      go_wp2
      go_ret
      exact ⟨by rw [HG.out]; rfl, HB2.out _⟩
    · go_wp2_with fail
      have e1 : decide (0 < (lim x).length) = g := by rw [HGD.out]; simp
      rw [e1]
      refine (sign_any g _).mono ?_
      rintro e w2 ⟨rfl, rfl⟩
      rw [HZ.out]
      clear e1
      go_wp2
      go_ret
      exact ⟨by rw [HG.out]; rfl, HB2.out _⟩
end Go.Proofs.YtdpbceipiappjaaGreatDoor

namespace Go.Proofs.YtdpbceipiappjaaGreatDoor
set_option maxRecDepth 20000
open Go.RowKit

theorem Rt.drewn {w : World} {lo : Nat} {v : Rv} {r : Rat} (h : Rt w lo v r) : Rt w.drew lo v r := h.below ⟨rfl, rfl, rfl, Nat.le_refl _, fun _ _ => rfl⟩
theorem Own.rowz {w : World} {lo n c : Nat} {A : Option Addr} {l : List Nat} (h : Own w lo A c n l) : Row w 0 A n l := h.row.lower (Nat.zero_le _)
/-- How great the units are. -/
theorem Sz.units {r : Rat} {p : Nat} (hz : Sz r p) (k : Nat) : Bd (r.num.natAbs * 10 ^ k) (p + (k / 9 + 1)) := hz.num.mul (bd_ten k)

set_option maxRecDepth 100000 in
set_option maxHeartbeats 4000000 in
theorem inUnits_any (v : Rv) (r : Rat) (p k : Nat) (w : World) (hv : Rt w 0 v r) (hz : Sz r p) (hp : p ≤ 1000) (hk : k ≤ 1000) :
    Calls Tryz.prog 102 #[.agg #[.bool v.s, .slice v.A v.n v.c, .slice v.B v.m v.d], .int .i64 (k : Int)] w fun e w' => ∃ X c Y d, e = .returned (.tuple #[.slice X (lim (r.num.natAbs * 10 ^ k / r.den)).length c, .slice Y (lim (r.num.natAbs * 10 ^ k % r.den)).length d]) ∧ Own w' w.heap.size X c (lim (r.num.natAbs * 10 ^ k / r.den)).length (lim (r.num.natAbs * 10 ^ k / r.den)) ∧ Own w' w.heap.size Y d (lim (r.num.natAbs * 10 ^ k % r.den)).length (lim (r.num.natAbs * 10 ^ k % r.den)) ∧ Below w.heap.size w w' := by
  have hy0 : 0 < r.den := r.den_pos
  have hnb : v.n ≤ 1000 := by rw [hv.numLen]; have := hz.num.len; omega
  have hmb : v.m ≤ 1000 := by rw [hv.denLen]; have := hz.den.len; omega
  have htb : (lim (10 ^ k)).length ≤ 1000 := by have := ten_len (k := k) (m := 1000) hk; omega
  have hub : (lim (r.num.natAbs * 10 ^ k)).length ≤ 3000 := by have := (hz.units k).len; omega
  go_enter Tryz.func102, Tryz.ntmps102
  go_wp2_with fail
  generalize hW : (w.alloc (.cells #[.bool v.s, .slice v.A v.n v.c, .slice v.B v.m v.d] 24)) = W
  obtain ⟨k_v, HB, hsW⟩ := open1 w v W hW
  clear hW hsW
  replace hv := (hv.below HB).drewn
  obtain ⟨v_0, v_1, v_2, v_3, v_4, v_5⟩ := k_v.facts
  replace k_v := k_v.drew
  replace HB := HB.drew
  go_region_held3 (fun w' => w'.cell? ⟨w.heap.size, 0, none⟩ = some (.bool v.s) ∧ w'.cell? ⟨w.heap.size, 1, none⟩ = some (.slice v.A v.n v.c) ∧ w'.cell? ⟨w.heap.size, 2, none⟩ = some (.slice v.B v.m v.d)) (go_keep)
      (first
      | (go_at_call 118
         have hs0 := HB.size
         refine (powerOfTen_any k _ hk).mono ?_
         rintro e w1 ⟨T, d, rfl, ht, hb⟩
         replace HB := HB.trans (hb.mono HB.size)
         replace k_v := k_v.below hb
         replace hv := hv.below hb
         have hrt := ht.rowz
         have hct := ht.capLe
         clear ht
         clear hb hs0
         clear v_0 v_1 v_2 v_3 v_4 v_5
         obtain ⟨v_0, v_1, v_2, v_3, v_4, v_5⟩ := k_v.facts)
      | (go_at_call 95
         have hs0 := HB.size
         refine (Mul_v r.num.natAbs (10 ^ k) v.A _ v.n _ v.c _ _ _ _ (val_lim _) (val_lim _) (by omega) (by omega) hv.numCap hct hv.num hrt).mono ?_
         rintro e w1 ⟨X, c, rfl, hx, hb⟩
         replace HB := HB.trans (hb.mono HB.size)
         replace k_v := k_v.below hb
         replace hv := hv.below hb
         have hrx := hx.rowz
         have hcx := hx.capLe
         clear hx hrt
         clear hb hs0
         clear v_0 v_1 v_2 v_3 v_4 v_5
         obtain ⟨v_0, v_1, v_2, v_3, v_4, v_5⟩ := k_v.facts)
      | (go_at_call 74
         have hs0 := HB.size
         refine (DivMod_pos _ v.B _ v.m _ v.d (r.num.natAbs * 10 ^ k) r.den _ _ _ (by omega) (by omega) hcx hv.denCap hrx hv.den (val_lim _) (val_lim _) hy0).mono ?_
         rintro e w1 ⟨X2, c2, Y2, d2, rfl, ho1, ho2, hb⟩
         replace HB := HB.trans (hb.mono HB.size)
         replace k_v := k_v.below hb
         replace hv := hv.below hb
         replace ho1 := ho1.lower (lo' := w.heap.size) hs0
         replace ho2 := ho2.lower (lo' := w.heap.size) hs0
         clear hb hs0
         clear v_0 v_1 v_2 v_3 v_4 v_5
         obtain ⟨v_0, v_1, v_2, v_3, v_4, v_5⟩ := k_v.facts))
  have HO1 := Lib.hid ho1
  have HO2 := Lib.hid ho2
  clear ho1 ho2
  go_wp2
  go_ret2
  exact ⟨_, _, _, _, rfl, HO1.out, HO2.out, HB⟩
end Go.Proofs.YtdpbceipiappjaaGreatDoor

namespace Go.Proofs.YtdpbceipiappjaaGreatDoor
set_option maxRecDepth 20000
open Go.RowKit

/-- How many units of so many digits are nearest to a number without its sign: of two that are as near, the even one. -/
def un (r : Rat) (k : Nat) : Nat :=
  if r.den < 2 * (r.num.natAbs * 10 ^ k % r.den) ∨ (2 * (r.num.natAbs * 10 ^ k % r.den) = r.den ∧ (r.num.natAbs * 10 ^ k / r.den) % 2 = 1) then (r.num.natAbs * 10 ^ k / r.den) + 1 else (r.num.natAbs * 10 ^ k / r.den)
theorem nCmp_v (x y : Nat) (s : Int) (A B : Option Addr) (n m c d : Nat) (a b : List Nat) (w : World) (hx : val a = x) (hy : val b = y) (hs : cmpI x y = s) (hn : n ≤ 1000000) (hm : m ≤ 1000000) (hcn : n ≤ c) (hdm : m ≤ d) (ha : Row w 0 A n a) (hb : Row w 0 B m b) :
    Calls Tryz.prog 73 #[.slice A n c, .slice B m d] w fun e w' => e = .returned (.int .i64 s) ∧ Below w.heap.size w w' := by
  subst hx hy hs
  refine (Cmp_any A B n m c d a b w hn hm hcn hdm ha hb).mono ?_
  rintro e w' ⟨rfl, q, rfl⟩
  exact ⟨rfl, below_drewN' _ _ _⟩
/-- The four ways in which a rest lies to the half. -/
theorem un_cases (r : Rat) (k : Nat) : (cmpI ((r.num.natAbs * 10 ^ k % r.den) + (r.num.natAbs * 10 ^ k % r.den)) r.den = 1 ∧ un r k = (r.num.natAbs * 10 ^ k / r.den) + 1) ∨ (cmpI ((r.num.natAbs * 10 ^ k % r.den) + (r.num.natAbs * 10 ^ k % r.den)) r.den = -1 ∧ un r k = (r.num.natAbs * 10 ^ k / r.den)) ∨
    (cmpI ((r.num.natAbs * 10 ^ k % r.den) + (r.num.natAbs * 10 ^ k % r.den)) r.den = 0 ∧ decide ((r.num.natAbs * 10 ^ k / r.den) % 2 = 1) = true ∧ un r k = (r.num.natAbs * 10 ^ k / r.den) + 1) ∨ (cmpI ((r.num.natAbs * 10 ^ k % r.den) + (r.num.natAbs * 10 ^ k % r.den)) r.den = 0 ∧ decide ((r.num.natAbs * 10 ^ k / r.den) % 2 = 1) = false ∧ un r k = (r.num.natAbs * 10 ^ k / r.den)) := by
  unfold un
  rcases Nat.lt_trichotomy r.den ((r.num.natAbs * 10 ^ k % r.den) + (r.num.natAbs * 10 ^ k % r.den)) with h | h | h
  · exact .inl ⟨cmpI_gt h, by rw [if_pos (.inl (by omega))]⟩
  · by_cases h2 : (r.num.natAbs * 10 ^ k / r.den) % 2 = 1
    · exact .inr (.inr (.inl ⟨cmpI_eq h.symm, decide_eq_true h2, by rw [if_pos (.inr ⟨by omega, h2⟩)]⟩))
    · exact .inr (.inr (.inr ⟨cmpI_eq h.symm, decide_eq_false h2, by rw [if_neg (by omega)]⟩))
  · exact .inr (.inl ⟨cmpI_lt h, by rw [if_neg (by omega)]⟩)
theorem un_len {r : Rat} {p : Nat} (hz : Sz r p) (k : Nat) : (lim (un r k)).length ≤ p + (k / 9 + 1) + 1 := by
  have h1 : Bd (r.num.natAbs * 10 ^ k / r.den) (p + (k / 9 + 1)) := (hz.units k).le (Nat.div_le_self _ _)
  have h2 : Bd 1 1 := by show (1 : Nat) < 4294967296 ^ 1; omega
  have h3 : Bd ((r.num.natAbs * 10 ^ k / r.den) + 1) (p + (k / 9 + 1) + 1) := (h1.add h2).more (by omega)
  refine (h3.le ?_).len
  unfold un; split <;> omega

end Go.Proofs.YtdpbceipiappjaaGreatDoor

namespace Go.Proofs.YtdpbceipiappjaaGreatDoor
set_option maxRecDepth 20000
open Go.RowKit

theorem Tb.drewn {w : World} (h : Tb w) : Tb w.drew := h.below ⟨rfl, rfl, rfl, Nat.le_refl _, fun _ _ => rfl⟩
theorem str_of (S : ByteArray) (l : List UInt8) (h : S.data.toList = l) : S = ⟨l.toArray⟩ := by rw [← h]
theorem str_data (l : List UInt8) : ∃ S : ByteArray, S.data.toList = l := ⟨⟨l.toArray⟩, rfl⟩
theorem str_size {S : ByteArray} {l : List UInt8} (h : S.data.toList = l) : S.size = l.length := by rw [Lib.size_eq, h]
theorem sgnd_len (b : Bool) (l : List UInt8) : (sgnd b l).length ≤ l.length + 1 := by cases b <;> simp [sgnd]
theorem app_data (S T : ByteArray) : (S ++ T).data.toList = S.data.toList ++ T.data.toList := by
  rw [ByteArray.data_append, Array.toList_append]
theorem Print_s (S : ByteArray) (A : Option Addr) (n c x : Nat) (a : List Nat) (w : World) (hS : S.data.toList = Lib.decDigits x) (hx : val a = x) (hn : n ≤ 1000) (hcn : n ≤ c) (ha : Row w 0 A n a) (ht : Tb w) :
    Calls Tryz.prog 123 #[.slice A n c] w fun e w' => e = .returned (.string S) ∧ Below w.heap.size w w' := by
  rw [str_of S _ hS]; exact Print_any A n c a x w hx hn hcn ha ht
theorem signed_s (b : Bool) (S T : ByteArray) (w : World) (hT : T.data.toList = sgnd b S.data.toList) (hl : S.size ≤ 1000000) :
    Calls Tryz.prog 106 #[.bool b, .string S] w fun e w' => e = .returned (.string T) ∧ w = w' := by
  rw [str_of T _ hT, str_of S _ rfl]; exact signed_any b _ w (by rw [← Lib.size_eq]; exact hl)
theorem withPoint_s (S : ByteArray) (A : Option Addr) (c x k : Nat) (w : World) (hS : S.data.toList = fx x k) (hl : (lim x).length ≤ 1000) (hlc : (lim x).length ≤ c) (hk : k ≤ 1000) (ha : Row w 0 A (lim x).length (lim x)) (ht : Tb w) :
    Calls Tryz.prog 105 #[.slice A (lim x).length c, .int .i64 (k : Int)] w fun e w' => e = .returned (.string S) ∧ Below w.heap.size w w' := by
  rw [str_of S _ hS]; exact withPoint_any A c x k w hl hlc hk ha ht

/-- A number as a text. -/
def dpr (r : Rat) : List UInt8 := sgnd (decide (r.num < 0)) (Lib.decDigits r.num.natAbs) ++ (if r.den = 1 then [] else 47 :: Lib.decDigits r.den)

/-- A number rounded to so many digits. -/
def rnd (r : Rat) (k : Nat) : Rat := rn (decide (r.num < 0)) (un r k) (10 ^ k)

/-- A number in so many digits. -/
def fxd (r : Rat) (k : Nat) : List UInt8 := sgnd (decide (r.num < 0) && decide (un r k ≠ 0)) (fx (un r k) k)

end Go.Proofs.YtdpbceipiappjaaGreatDoor
