/-
  The long division, limb by limb.
-/
import Derived.Test.YtffnjdfmaebmhaaGreatDoorNorm
import Derived.Test.YtffnjdfmaebmhaaGreatDoorShift
import Derived.Test.YtffnjdfmaebmhaaGreatDoorRShift
namespace Go.Proofs.YtffnjdfmaebmhaaGreatDoor
set_option maxRecDepth 20000
open Go.RowKit

set_option maxHeartbeats 400000 in
theorem LeadingZeros32_any (x : Nat) (w : World) (hx : x < 4294967296) :
    Calls Tryz.prog 119 #[.int .u32 (x : Int)] w fun e w' => e = .returned (.int .i64 ((32 - Lib.bitLen x : Nat) : Int)) ∧ w = w' := by
  have hle := bitLen_le32 hx
  have H := Lib.hid (fun (w : World) => Len32_any x w hx)
  go_enter Tryz.func119, Tryz.ntmps119
  go_wp2_with fail
  refine (H.out _).mono ?_
  rintro e w' ⟨rfl, rfl⟩
  go_wp2
  go_ret
  exact ⟨ret_int (by omega), rfl⟩

/-- What the loop of the long division keeps: k digits are still to come. -/
structure LongAt (w0 w1 wr : World) (gr gq C N K m x : Nat) (v : List Nat) (k : Nat) (L Q : List Nat) : Prop where
  rest : Own wr w0.heap.size (some ⟨gr, 0, none⟩) C N L
  quo : Own wr w1.heap.size (some ⟨gq, 0, none⟩) K K Q
  sum : val L + 4294967296 ^ k * val (Q.drop k) * val v = x
  less : val (L.drop k) < val v
  below : Below w0.heap.size w0 wr

theorem LongAt.step {w0 w1 wr w2 : World} {gr gq C N K m x : Nat} {v : List Nat} {k q : Nat} {L Q s' : List Nat} (h : LongAt w0 w1 wr gr gq C N K m x v (k + 1) L Q) (hN : N = K + m) (hk : k < K) (hv : v.length = m) (lv : L32 v) (hgr : gr < w1.heap.size) (hgq : w1.heap.size ≤ gq) (hw1 : w0.heap.size ≤ w1.heap.size) (hq : q < 4294967296)
    (ht : Taken wr w0 w2 gr C N m (L.take k) ((L.drop k).take (m + 1)) s' v (L.drop (k + (m + 1))) q) :
    LongAt w0 w1 (w2.setCell ⟨gq, k, none⟩ (.int .u32 (q : Int))) gr gq C N K m x v k (L.take k ++ s' ++ L.drop (k + (m + 1))) (Q.set k q) := by
  have hL := h.rest.len
  have hQ := h.quo.len
  have hne : gr ≠ gq := by omega
  have hvP : val v ≤ 4294967296 ^ m := Nat.le_of_lt (by have := val_lt lv; rwa [hv] at this)
  have hVB : val v * 4294967296 ≤ 4294967296 ^ (m + 1) := by rw [Nat.pow_succ]; exact Nat.mul_le_mul_right _ hvP
  have hcons := val_cons_drop L k (by omega)
  have hlt : val (L.drop k) < val v * 4294967296 := by
    have h1 := h.rest.l32 k
    have h2 := h.less
    omega
  obtain ⟨e1, e2⟩ := seg_val (L := L) (i := k) (m := m) hVB hlt (by omega)
  have hs := ht.sum
  rw [e1] at hs
  have hl1 : (L.take k).length = k := by simp; omega
  have hsplit := val_take_drop L k (by omega)
  have hnew : val (L.take k ++ s' ++ L.drop (k + (m + 1))) = val (L.take k) + 4294967296 ^ k * val s' := by
    rw [val_append, val_append, e2, hl1, Nat.mul_zero, Nat.add_zero]
  have hd : (L.take k ++ s' ++ L.drop (k + (m + 1))).drop k = s' ++ L.drop (k + (m + 1)) := by
    rw [List.append_assoc, List.drop_left' hl1]
  refine ⟨?_, ?_, ?_, ?_, ht.below.setCell (by show w0.heap.size ≤ gq; omega) _⟩
  · exact ht.own.grown ⟨rfl, rfl, rfl, by simp, fun j hj hne2 => heap_setCell_other w2 ⟨gq, k, none⟩ j _ (fun e => hne2 (by rw [e]))⟩ (row := some gq) (fun ad had => by
      injection had with had
      subst had
      simpa using hne)
  · have h3 := h.quo.grown ht.gr (fun ad had => by
      injection had with had
      subst had
      simp
      omega)
    exact h3.set hq
  · rw [hnew, ← h.sum, hsplit]
    have hqd : val ((Q.set k q).drop k) = q + 4294967296 * val (Q.drop (k + 1)) := by
      rw [val_cons_drop _ k (by simp; omega), dg_set_eq _ _ _ (by omega)]
      congr 2
      rw [List.drop_set_of_lt (by omega)]
    rw [hqd, ← hs, Nat.pow_succ]
    generalize 4294967296 ^ k = P
    generalize val (Q.drop (k + 1)) = Y
    generalize val (L.take k) = A
    generalize val s' = B
    generalize val v = V
    grind
  · rw [hd, val_append, e2, Nat.mul_zero, Nat.add_zero]
    exact ht.less

theorem split3 (L : List Nat) (k m : Nat) : L.take k ++ (L.drop k).take (m + 1) ++ L.drop (k + (m + 1)) = L := by
  rw [← List.drop_drop, List.append_assoc, List.take_append_drop, List.take_append_drop]
theorem sh_up0 (x : Nat) {k : Nat} (hk : k ≤ 32) : sh x (k : Int) = x * 2 ^ k := by
  have e : held (k : Int) = (k : Int) := by unfold held; omega
  unfold sh
  rw [e, if_neg (by omega)]
  rfl
theorem sh_dn0 (x : Nat) {k : Nat} (hk : k ≤ 32) : sh (x * 2 ^ k) (-(k : Int)) = x := by
  rcases Nat.eq_zero_or_pos k with h0 | h0
  · subst h0
    have := sh_up0 (x * 2 ^ 0) (k := 0) (by omega)
    simp at this ⊢
    exact this
  · have e : held (-(k : Int)) = -(k : Int) := by unfold held; omega
    unfold sh
    rw [e, if_pos (by omega)]
    have e2 : (- -(k : Int)).toNat = k := by omega
    rw [e2]
    exact Nat.mul_div_cancel x (pow_pos2 k)
theorem Shift_w (z m : Nat) (A : Option Addr) (n c : Nat) (a : List Nat) (i : Int) (w : World) (hz : Hid (sh (val a) i = z)) (hm : Hid ((lim z).length = m)) (hn : n ≤ 100000) (hcn : n ≤ c) (ha : Row w 0 A n a) (hi : -9223372036854775808 ≤ i ∧ i ≤ 9223372036854775807) :
    Calls Tryz.prog 120 #[.slice A n c, .int .i64 i] w fun e w' => ∃ A2 c2, e = .returned (.slice A2 m c2) ∧ Own w' w.heap.size A2 c2 m (lim z) ∧ Below w.heap.size w w' := by
  have h1 : sh (val a) i = z := hz
  have h2 : (lim z).length = m := hm
  subst h1 h2
  exact Shift_any A n c a i w hn hcn ha hi
theorem div_end {x y U Q L : Nat} (hU : 0 < U) (h : L + Q * (y * U) = x * U) (hlt : L < y * U) : Q = x / y ∧ L = x % y * U := by
  have hy : 0 < y := by
    rcases Nat.eq_zero_or_pos y with h0 | h0
    · subst h0; omega
    · exact h0
  have e1 : x * U / (y * U) = x / y := Nat.mul_div_mul_right x y hU
  have e2 : x * U % (y * U) = x % y * U := Nat.mul_mod_mul_right U x y
  rw [← e1, ← e2, ← h]
  have hp : 0 < y * U := Nat.mul_pos hy hU
  constructor
  · rw [Nat.add_mul_div_right _ _ hp, Nat.div_eq_of_lt hlt, Nat.zero_add]
  · rw [Nat.add_mul_mod_self_right, Nat.mod_eq_of_lt hlt]

set_option maxHeartbeats 1600000 in
theorem divideLong_any (A B : Option Addr) (n m c d x y : Nat) (a b : List Nat) (w : World) (hn : n ≤ 50000) (hm1 : 2 ≤ m) (hmn : m ≤ n) (hcn : n ≤ c) (hdm : m ≤ d) (ha : Row w 0 A n a) (hb : Row w 0 B m b) (hax : val a = x) (hby : val b = y) (htop : dg b (m - 1) ≠ 0) (hyx : y ≤ x) :
    Calls Tryz.prog 109 #[.slice A n c, .slice B m d] w fun e w' => ∃ X2 c2 Y2 d2, e = .returned (.tuple #[.slice X2 (lim (x / y)).length c2, .slice Y2 (lim (x % y)).length d2]) ∧ Own w' w.heap.size X2 c2 (lim (x / y)).length (lim (x / y)) ∧ Own w' w.heap.size Y2 d2 (lim (x % y)).length (lim (x % y)) ∧ Below w.heap.size w w' := by
  obtain ⟨i0, hi, hz0, hz1', hz2⟩ := info_parts Tryz.info74
  obtain ⟨up, hup⟩ : ∃ up, up = 32 - Lib.bitLen (dg b (m - 1)) := ⟨_, rfl⟩
  obtain ⟨k1, k2, k3⟩ := norm_ok (by omega) hb.l32 hb.len htop hup
  have hx5 := hb.l32 (m - 1)
  have HLZ := Lib.hid (fun (w : World) => LeadingZeros32_any (dg b (m - 1)) w hx5)
  rw [← hup] at HLZ
  have Z1 : Hid (sh (val b) (up : Int) = y * 2 ^ up) := by show _ = _; rw [sh_up0 _ (by omega), hby]
  have Z2 : Hid (sh (val a) (up : Int) = x * 2 ^ up) := by show _ = _; rw [sh_up0 _ (by omega), hax]
  rw [hby] at k2 k3
  have K2 : Hid ((lim (y * 2 ^ up)).length = m) := k2
  obtain ⟨n2, hn2⟩ : ∃ n2, n2 = (lim (x * 2 ^ up)).length := ⟨_, rfl⟩
  have hmn2 : m ≤ n2 := by
    rw [hn2, ← k2]
    exact lim_len_mono (Nat.mul_le_mul_right _ hyx)
  have hn2b : n2 ≤ n + 1 := by
    rw [hn2]
    refine lim_len_lt ?_
    have h1 := val_lt ha.l32
    rw [hax, ha.len] at h1
    have h2 := pow_lt_32 k1
    rw [Nat.pow_succ]
    exact Nat.mul_lt_mul'' h1 h2
  have N2 := Lib.hid hn2.symm
  obtain ⟨K, hK⟩ : ∃ K, n2 + 1 = K + m := ⟨n2 + 1 - m, by omega⟩
  have hK1 : ((n2 : Int) + 1 - (m : Int)) = (K : Int) := by omega
  have hK2 : n2 + 1 ≤ K + m := by omega
  have hK3 : K + m ≤ n2 + 1 := by omega
  have K3 : Hid (2147483648 ≤ dg (lim (y * 2 ^ up)) (m - 1)) := k3
  obtain ⟨b', off, rfl, h1, h2, hc⟩ := hb.mem (by omega)
  have hcb := hc (m - 1) (by omega)
  have hup32 : up < 32 := k1
  clear hc hup k1 k2 k3 hn2 hK
  have HYX := Lib.hid hyx
  clear hyx hax hby htop
  go_enter Tryz.func109, Tryz.ntmps109
  go_wp2_with fail
  refine (HLZ.out _).mono ?_
  rintro e w' ⟨rfl, rfl⟩
  go_wp2_with fail
  refine (Shift_w (y * 2 ^ up) m _ m d b _ _ Z1 K2 (by omega) hdm hb (by omega)).mono ?_
  rintro e w0 ⟨Y, cy, rfl, ho, hb0⟩
  have hv0 := ho.row.lower (Nat.zero_le _)
  have hcy := ho.capLe
  have ha0 := ha.below hb0
  have HB0 := Lib.hid hb0
  have hz00 := hb0.size
  clear ho hb0 ha hb
  go_wp2_with fail
  refine (Shift_w (x * 2 ^ up) n2 _ n c a _ _ Z2 N2 (by omega) hcn ha0 (by omega)).mono ?_
  rintro e w1 ⟨R, cr, rfl, ho, hb1⟩
  have HO := Lib.hid ho
  have HB1 := Lib.hid hb1
  have hz1 := hb1.size
  clear ho hb1 ha0
  go_wp2_with (at_builtin; refine wpl_append rfl _ _ rfl rfl rfl (HO.out.alloc _) (Row.one (x := 0) (lo := 0) ?c1 ?c2 ?c3) ?c4 ?c5 ?_)
  case c1 => rfl
  case c2 => omega
  case c3 => omega
  case c4 => omega
  case c5 => simp; omega
  intro R2 cr2 w3 ho3 hg3
  obtain ⟨gr, rfl, hgr1, hgr2⟩ := ho3.form (by omega)
  have hcr2 := ho3.capLe
  have HO3 := Lib.hid ho3
  have HB3 := Lib.hid (below_app HO.out hz1 HB1.out (below_alloc w1 _) hg3)
  have hz3 : w0.heap.size ≤ w3.heap.size := HB3.out.size
  clear ho3 hg3 HO HB1
  go_wp2_with (at_make; refine wpList_make_full _ rfl _ _ _ rfl w3.heap.size 74 i0 (.int .u32 0) 1 Tryz.underlying23 hi hz0 hz1' .i64 .i64 _ _ K rfl rfl ?c6 ?c7 ?c8 ?c9 ?c10 ?_)
  case c6 => omega
  case c7 => omega
  case c8 => rw [hz2]; omega
  case c9 => unfold maxLen; omega
  case c10 => exact Nat.le_refl _
  intro w4 ho hg
  have hbg := below_of_grown hg
  have HU : Hid (0 < 2 ^ up) := pow_pos2 up
  have HST : Hid (LongAt w0 w3 w4 gr w3.heap.size cr2 (n2 + 1) K m (x * 2 ^ up) (lim (y * 2 ^ up)) K (lim (x * 2 ^ up) ++ [0]) (List.replicate K 0)) := by
    refine ⟨HO3.out.below hbg, Own.made ho, ?_, ?_, HB3.out.trans (hbg.mono hz3)⟩
    · have e : (List.replicate K 0).drop K = [] := List.drop_eq_nil_of_le (by simp)
      rw [e, val_snoc, val_lim]
      simp [val]
    · have hl := N2.out
      have e1 : val ((lim (x * 2 ^ up) ++ [0]).drop K) < 4294967296 ^ (m - 1) := by
        rw [List.drop_append_of_le_length (by omega), val_snoc, Nat.mul_zero, Nat.add_zero]
        have h5 := val_lt ((L32_lim (x * 2 ^ up)).drop K)
        have h6 : ((lim (x * 2 ^ up)).drop K).length = m - 1 := by simp; omega
        rwa [h6] at h5
      have e2 : 4294967296 ^ (m - 1) ≤ val (lim (y * 2 ^ up)) := by
        rcases Nat.lt_or_ge (val (lim (y * 2 ^ up))) (4294967296 ^ (m - 1)) with h | h
        · exfalso
          rw [val_lim] at h
          have := lim_len_lt h
          have := K2.out
          omega
        · exact h
      exact Nat.lt_of_lt_of_le e1 e2
  have hz4 : w3.heap.size < w4.heap.size := by
    have := ho.lt w3.heap.size rfl
    omega
  clear ho hg hbg HO3 HB3
  go_wp2
  go_loopw [10] (fun iv wr => ∃ (k : Nat) (L Q : List Nat), k ≤ K ∧ iv = .int .i64 ((k : Int) - 1) ∧ Hid (LongAt w0 w3 wr gr w3.heap.size cr2 (n2 + 1) K m (x * 2 ^ up) (lim (y * 2 ^ up)) k L Q)) (fun iv _ => (intOf iv + 1).toNat)
  case atStart => exact ⟨K, _, _, by omega, rfl, HST⟩
  case round =>
    obtain ⟨k, L, Q, hk, rfl, HA⟩ := hrel
    by_cases h0 : k = 0
    · subst h0
      have hsum := HA.out.sum
      have hless := HA.out.less
      rw [List.drop_zero, Nat.pow_zero, Nat.one_mul, val_lim] at hsum
      rw [List.drop_zero, val_lim] at hless
      obtain ⟨q1, q2⟩ := div_end HU.out hsum hless
      have Q1 := Lib.hid q1
      have Q2 : Hid (sh (val L) (-(up : Int)) = x % y) := by show _ = _; rw [q2, sh_dn0 _ (by omega)]
      have hqrow := HA.out.quo.row.lower (Nat.zero_le _)
      have hrrow := HA.out.rest.row.lower (Nat.zero_le _)
      have HQO := Lib.hid ((HA.out.quo.lim).lower (Nat.le_trans hz00 hz3))
      have HBL := Lib.hid (HB0.out.trans (HA.out.below.mono hz00))
      clear hsum hless q1 q2 HA HST hv0
      have hcr3 : n2 + 1 ≤ cr2 := hcr2
      go_wp2_with fail
      refine (head_any _ K K Q _ (by omega) (Nat.le_refl _) hqrow).mono ?_
      rintro e w' ⟨rfl, rfl⟩
      go_wp2_with fail
      refine (Shift_w (x % y) _ _ (n2 + 1) cr2 L _ _ Q2 rfl (by omega) hcr3 hrrow (by omega)).mono ?_
      rintro e w6 ⟨Y2, d2, rfl, ho6, hb6⟩
      have HQ6 := Lib.hid (HQO.out.below hb6)
      have HR6 := Lib.hid (ho6.lower HBL.out.size)
      have HB6 := Lib.hid (HBL.out.trans (hb6.mono HBL.out.size))
      clear ho6 hb6 HQO HBL
      go_wp2
      go_ret2
      have HQ7 := HQ6.out
      rw [Q1.out] at HQ7
      exact ⟨_, _, Y2, d2, by rw [← Q1.out]; rfl, HQ7, HR6.out, HB6.out⟩
    · obtain ⟨k, rfl⟩ : ∃ j, k = j + 1 := ⟨k - 1, by omega⟩
      have hkK : k < K := by omega
      have he1 : ((k + 1 : Nat) : Int) - 1 = (k : Int) := by omega
      simp only [he1]
      have hL := HA.out.rest.len
      have hvl := K2.out
      have hlt1 : val (L.drop k) < val (lim (y * 2 ^ up)) * 4294967296 := by
        have e := val_cons_drop L k (by omega)
        have e1 := HA.out.rest.l32 k
        have e2 := HA.out.less
        omega
      have hVB : val (lim (y * 2 ^ up)) * 4294967296 ≤ 4294967296 ^ (m + 1) := by
        have := val_lt (L32_lim (y * 2 ^ up))
        rw [hvl] at this
        rw [Nat.pow_succ]; exact Nat.mul_le_mul_right _ (Nat.le_of_lt this)
      obtain ⟨s1, _⟩ := seg_val (L := L) (i := k) (m := m) hVB hlt1 (by omega)
      have hrest := HA.out.rest
      rw [← split3 L k m] at hrest
      have HT := Lib.hid (takeOut_any w0 gr k m cr2 (n2 + 1) (cr2 - k) cy Y (L.take k) ((L.drop k).take (m + 1)) (lim (y * 2 ^ up)) (L.drop (k + (m + 1))) wr hgr1 hm1 (by omega) (by omega) (by simp; omega) (by simp; omega) hv0 HA.out.below hrest K3.out (by rw [s1]; exact hlt1))
      have STEP := Lib.hid (fun (w2 : World) (q : Nat) (s' : List Nat) (hq : q < 4294967296) (ht : Taken wr w0 w2 gr cr2 (n2 + 1) m (L.take k) ((L.drop k).take (m + 1)) s' (lim (y * 2 ^ up)) (L.drop (k + (m + 1))) q) => HA.out.step (by omega) hkK hvl (L32_lim _) hgr2 (Nat.le_refl _) hz3 hq ht)
      have HQO := Lib.hid HA.out.quo
      have hnc : ¬ cr2 = k := by omega
      have hi1 : k + (m + 1) ≤ n2 + 1 := by omega
      clear hlt1 hVB s1 hrest HA HST hL hvl he1
      go_wp2_with fail
      rw [show k + m + 1 - k = m + 1 by omega]
      refine HT.out.mono ?_
      rintro e w2 ⟨q, s', rfl, hq, ht⟩
      have hq2 : q < 4294967296 := hq
      have HS := Lib.hid (STEP.out w2 q s' hq2 ht)
      have hqo := HQO.out.grown ht.gr (fun ad had => by
        injection had with had
        subst had
        simp
        omega)
      obtain ⟨b2, off2, hA2, h7, h8, hc2⟩ := hqo.row.mem (by omega)
      injection hA2 with hA2
      injection hA2 with e1 e2
      subst e1 e2
      have hcs := hc2 k hkK
      rw [Nat.zero_add] at hcs
      have hfs := hqo.own.frozenAt k
      clear hc2 hqo ht STEP HT HQO hq
      go_wp2
      go_roundw
      case rel => exact ⟨k, _, _, by omega, rfl, HS⟩
      case measure => simp [intOf]
end Go.Proofs.YtffnjdfmaebmhaaGreatDoor
