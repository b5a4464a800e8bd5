/-
  The long division, limb by limb.
  A row by one limb, in place.
  How often, and what is left: the program's DivMod.
  The greatest common divisor: the program's way.
-/
import Derived.Test.YtjbhhccklfddaaaVMNg
import Derived.Test.YtjbhhccklfddaaaVMNc
import Derived.Test.YtjbhhccklfddaaaVMNb
import Derived.Deep.LoopGhost
namespace Go.Proofs.Ytjbhhccklfddaaa
set_option maxRecDepth 20000
open Go.RowKit
set_option maxHeartbeats 400000 in
theorem LeadingZeros32_any (x : Nat) (w : World) (hx : x < 4294967296) :
  Calls Try.prog 101 #[.int .u32 (x : Int)] w fun e w' => e = .returned (.int .i64 ((32 - Lib.bitLen x : Nat) : Int)) ∧ w = w' := by
 have hle := bitLen_le32 hx
 have H := Lib.hid (fun (w : World) => Len32_any x w hx)
 go_enter Try.func101, Try.ntmps101
 go_wp2_with fail
 refine (H.out _).mono ?_
 rintro e w' ⟨rfl, rfl⟩
 go_wp2
 go_ret
 exact ⟨ret_int (by omega), rfl⟩
structure LongAt (w0 w1 wr : World) (gr gq C N K m x : Nat) (v : List Nat) (k : Nat) (L Q : List Nat) : Prop where
 rest : Own wr w0.heap.size (some ⟨gr, 0, none⟩) C N L
 quo : Own wr w1.heap.size (some ⟨gq, 0, none⟩) K K Q
 sum : val L + 4294967296 ^ k * val (Q.drop k) * val v = x
 less : val (L.drop k) < val v
 below : Below w0.heap.size w0 wr
theorem LongAt.step {w0 w1 wr w2 : World} {gr gq C N K m x : Nat} {v : List Nat} {k q : Nat} {L Q s' : List Nat} (h : LongAt w0 w1 wr gr gq C N K m x v (k + 1) L Q) (hN : N = K + m) (hk : k < K) (hv : v.length = m) (lv : L32 v) (hgr : gr < w1.heap.size) (hgq : w1.heap.size ≤ gq) (hw1 : w0.heap.size ≤ w1.heap.size) (hq : q < 4294967296)
  (ht : Taken wr w0 w2 gr C N m (L.take k) ((L.drop k).take (m + 1)) s' v (L.drop (k + (m + 1))) q) :
  LongAt w0 w1 (w2.setCell ⟨gq, k, none⟩ (.int .u32 (q : Int))) gr gq C N K m x v k (L.take k ++ s' ++ L.drop (k + (m + 1))) (Q.set k q) := by
 have hL := h.rest.len
 have hQ := h.quo.len
 have hne : gr ≠ gq := by omega
 have hvP : val v ≤ 4294967296 ^ m := Nat.le_of_lt (by have := val_lt lv; rwa [hv] at this)
 have hVB : val v * 4294967296 ≤ 4294967296 ^ (m + 1) := by rw [Nat.pow_succ]; exact Nat.mul_le_mul_right _ hvP
 have hcons := val_cons_drop L k (by omega)
 have hlt : val (L.drop k) < val v * 4294967296 := by
  have h1 := h.rest.l32 k
  have h2 := h.less
  omega
 obtain ⟨e1, e2⟩ := seg_val (L := L) (i := k) (m := m) hVB hlt (by omega)
 have hs := ht.sum
 rw [e1] at hs
 have hl1 : (L.take k).length = k := by simp; omega
 have hsplit := val_take_drop L k (by omega)
 have hnew : val (L.take k ++ s' ++ L.drop (k + (m + 1))) = val (L.take k) + 4294967296 ^ k * val s' := by
  rw [val_append, val_append, e2, hl1, Nat.mul_zero, Nat.add_zero]
 have hd : (L.take k ++ s' ++ L.drop (k + (m + 1))).drop k = s' ++ L.drop (k + (m + 1)) := by
  rw [List.append_assoc, List.drop_left' hl1]
 refine ⟨?_, ?_, ?_, ?_, ht.below.setCell (by show w0.heap.size ≤ gq; omega) _⟩
 ·
  exact ht.own.grown ⟨rfl, rfl, rfl, by simp, fun j hj hne2 => heap_setCell_other w2 ⟨gq, k, none⟩ j _ (fun e => hne2 (by rw [e]))⟩ (row := some gq) (fun ad had => by
   injection had with had
   subst had
   simpa using hne)
 ·
  have h3 := h.quo.grown ht.gr (fun ad had => by
   injection had with had
   subst had
   simp
   omega)
  exact h3.set hq
 ·
  rw [hnew, ← h.sum, hsplit]
  have hqd : val ((Q.set k q).drop k) = q + 4294967296 * val (Q.drop (k + 1)) := by
   rw [val_cons_drop _ k (by simp; omega), dg_set_eq _ _ _ (by omega)]
   congr 2
   rw [List.drop_set_of_lt (by omega)]
  rw [hqd, ← hs, Nat.pow_succ]
  generalize 4294967296 ^ k = P
  generalize val (Q.drop (k + 1)) = Y
  generalize val (L.take k) = A
  generalize val s' = B
  generalize val v = V
  grind
 ·
  rw [hd, val_append, e2, Nat.mul_zero, Nat.add_zero]
  exact ht.less
theorem split3 (L : List Nat) (k m : Nat) : L.take k ++ (L.drop k).take (m + 1) ++ L.drop (k + (m + 1)) = L := by
 rw [← List.drop_drop, List.append_assoc, List.take_append_drop, List.take_append_drop]
theorem sh_up0 (x : Nat) {k : Nat} (hk : k ≤ 32) : sh x (k : Int) = x * 2 ^ k := by
 have e : held (k : Int) = (k : Int) := by unfold held; omega
 unfold sh
 rw [e, if_neg (by omega)]
 rfl
theorem sh_dn0 (x : Nat) {k : Nat} (hk : k ≤ 32) : sh (x * 2 ^ k) (-(k : Int)) = x := by
 rcases Nat.eq_zero_or_pos k with h0 | h0
 ·
  subst h0
  have := sh_up0 (x * 2 ^ 0) (k := 0) (by omega)
  simp at this ⊢
  exact this
 ·
  have e : held (-(k : Int)) = -(k : Int) := by unfold held; omega
  unfold sh
  rw [e, if_pos (by omega)]
  have e2 : (- -(k : Int)).toNat = k := by omega
  rw [e2]
  exact Nat.mul_div_cancel x (pow_pos2 k)
theorem Shift_w (z m : Nat) (A : Option Addr) (n c : Nat) (a : List Nat) (i : Int) (w : World) (hz : Hid (sh (val a) i = z)) (hm : Hid ((lim z).length = m)) (hn : n ≤ 1000000000000) (hcn : n ≤ c) (ha : Row w 0 A n a) (hi : -9223372036854775808 ≤ i ∧ i ≤ 9223372036854775807) :
  Calls Try.prog 102 #[.slice A n c, .int .i64 i] w fun e w' => ∃ A2 c2, e = .returned (.slice A2 m c2) ∧ Own w' w.heap.size A2 c2 m (lim z) ∧ Below w.heap.size w w' := by
 have h1 : sh (val a) i = z := hz
 have h2 : (lim z).length = m := hm
 subst h1 h2
 exact Shift_any A n c a i w hn hcn ha hi
theorem div_end {x y U Q L : Nat} (hU : 0 < U) (h : L + Q * (y * U) = x * U) (hlt : L < y * U) : Q = x / y ∧ L = x % y * U := by
 have hy : 0 < y := by
  rcases Nat.eq_zero_or_pos y with h0 | h0
  · subst h0; omega
  · exact h0
 have e1 : x * U / (y * U) = x / y := Nat.mul_div_mul_right x y hU
 have e2 : x * U % (y * U) = x % y * U := Nat.mul_mod_mul_right U x y
 rw [← e1, ← e2, ← h]
 have hp : 0 < y * U := Nat.mul_pos hy hU
 constructor
 · rw [Nat.add_mul_div_right _ _ hp, Nat.div_eq_of_lt hlt, Nat.zero_add]
 · rw [Nat.add_mul_mod_self_right, Nat.mod_eq_of_lt hlt]
set_option maxHeartbeats 1600000 in
theorem divideLong_any (A B : Option Addr) (n m c d x y : Nat) (a b : List Nat) (w : World) (hn : n ≤ 500000000000) (hm1 : 2 ≤ m) (hmn : m ≤ n) (hcn : n ≤ c) (hdm : m ≤ d) (ha : Row w 0 A n a) (hb : Row w 0 B m b) (hax : val a = x) (hby : val b = y) (htop : dg b (m - 1) ≠ 0) (hyx : y ≤ x) :
  Calls Try.prog 98 #[.slice A n c, .slice B m d] w fun e w' => ∃ X2 c2 Y2 d2, e = .returned (.tuple #[.slice X2 (lim (x / y)).length c2, .slice Y2 (lim (x % y)).length d2]) ∧ Own w' w.heap.size X2 c2 (lim (x / y)).length (lim (x / y)) ∧ Own w' w.heap.size Y2 d2 (lim (x % y)).length (lim (x % y)) ∧ Below w.heap.size w w' := by
 obtain ⟨i0, hi, hz0, hz1', hz2⟩ := info_parts Try.info66
 obtain ⟨up, hup⟩ : ∃ up, up = 32 - Lib.bitLen (dg b (m - 1)) := ⟨_, rfl⟩
 obtain ⟨k1, k2, k3⟩ := norm_ok (by omega) hb.l32 hb.len htop hup
 have hx5 := hb.l32 (m - 1)
 have HLZ := Lib.hid (fun (w : World) => LeadingZeros32_any (dg b (m - 1)) w hx5)
 rw [← hup] at HLZ
 have Z1 : Hid (sh (val b) (up : Int) = y * 2 ^ up) := by show _ = _; rw [sh_up0 _ (by omega), hby]
 have Z2 : Hid (sh (val a) (up : Int) = x * 2 ^ up) := by show _ = _; rw [sh_up0 _ (by omega), hax]
 rw [hby] at k2 k3
 have K2 : Hid ((lim (y * 2 ^ up)).length = m) := k2
 obtain ⟨n2, hn2⟩ : ∃ n2, n2 = (lim (x * 2 ^ up)).length := ⟨_, rfl⟩
 have hmn2 : m ≤ n2 := by
  rw [hn2, ← k2]
  exact lim_len_mono (Nat.mul_le_mul_right _ hyx)
 have hn2b : n2 ≤ n + 1 := by
  rw [hn2]
  refine lim_len_lt ?_
  have h1 := val_lt ha.l32
  rw [hax, ha.len] at h1
  have h2 := pow_lt_32 k1
  rw [Nat.pow_succ]
  exact Nat.mul_lt_mul'' h1 h2
 have N2 := Lib.hid hn2.symm
 obtain ⟨K, hK⟩ : ∃ K, n2 + 1 = K + m := ⟨n2 + 1 - m, by omega⟩
 have hK1 : ((n2 : Int) + 1 - (m : Int)) = (K : Int) := by omega
 have hK2 : n2 + 1 ≤ K + m := by omega
 have hK3 : K + m ≤ n2 + 1 := by omega
 have K3 : Hid (2147483648 ≤ dg (lim (y * 2 ^ up)) (m - 1)) := k3
 obtain ⟨b', off, rfl, h1, h2, hc⟩ := hb.mem (by omega)
 have hcb := hc (m - 1) (by omega)
 have hup32 : up < 32 := k1
 clear hc hup k1 k2 k3 hn2 hK
 have HYX := Lib.hid hyx
 clear hyx hax hby htop
 go_enter Try.func98, Try.ntmps98
 go_wp2_with fail
 refine (HLZ.out _).mono ?_
 rintro e w' ⟨rfl, rfl⟩
 go_wp2_with fail
 refine (Shift_w (y * 2 ^ up) m _ m d b _ _ Z1 K2 (by omega) hdm hb (by omega)).mono ?_
 rintro e w0 ⟨Y, cy, rfl, ho, hb0⟩
 have hv0 := ho.row.lower (Nat.zero_le _)
 have hcy := ho.capLe
 have ha0 := ha.below hb0
 have HB0 := Lib.hid hb0
 have hz00 := hb0.size
 clear ho hb0 ha hb
 go_wp2_with fail
 refine (Shift_w (x * 2 ^ up) n2 _ n c a _ _ Z2 N2 (by omega) hcn ha0 (by omega)).mono ?_
 rintro e w1 ⟨R, cr, rfl, ho, hb1⟩
 have HO := Lib.hid ho
 have HB1 := Lib.hid hb1
 have hz1 := hb1.size
 clear ho hb1 ha0
 go_wp2_with (at_builtin; refine wpl_append rfl _ _ rfl rfl rfl (HO.out.alloc _) (Row.one (x := 0) (lo := 0) ?c1 ?c2 ?c3) ?c4 ?c5 ?_)
 case c1 => rfl
 case c2 => omega
 case c3 => omega
 case c4 => omega
 case c5 => simp; omega
 intro R2 cr2 w3 ho3 hg3
 obtain ⟨gr, rfl, hgr1, hgr2⟩ := ho3.form (by omega)
 have hcr2 := ho3.capLe
 have HO3 := Lib.hid ho3
 have HB3 := Lib.hid (below_app HO.out hz1 HB1.out (below_alloc w1 _) hg3)
 have hz3 : w0.heap.size ≤ w3.heap.size := HB3.out.size
 clear ho3 hg3 HO HB1
 go_wp2_with (at_make; refine wpList_make_full _ rfl _ _ _ rfl w3.heap.size 66 i0 (.int .u32 0) 1 Try.underlying35 hi hz0 hz1' .i64 .i64 _ _ K rfl rfl ?c6 ?c7 ?c8 ?c9 ?c10 ?_)
 case c6 => omega
 case c7 => omega
 case c8 => rw [hz2]; omega
 case c9 => unfold maxLen; omega
 case c10 => exact Nat.le_refl _
 intro w4 ho hg
 have hbg := below_of_grown hg
 have HU : Hid (0 < 2 ^ up) := pow_pos2 up
 have HST : Hid (LongAt w0 w3 w4 gr w3.heap.size cr2 (n2 + 1) K m (x * 2 ^ up) (lim (y * 2 ^ up)) K (lim (x * 2 ^ up) ++ [0]) (List.replicate K 0)) := by
  refine ⟨HO3.out.below hbg, Own.made ho, ?_, ?_, HB3.out.trans (hbg.mono hz3)⟩
  ·
   have e : (List.replicate K 0).drop K = [] := List.drop_eq_nil_of_le (by simp)
   rw [e, val_snoc, val_lim]
   simp [val]
  ·
   have hl := N2.out
   have e1 : val ((lim (x * 2 ^ up) ++ [0]).drop K) < 4294967296 ^ (m - 1) := by
    rw [List.drop_append_of_le_length (by omega), val_snoc, Nat.mul_zero, Nat.add_zero]
    have h5 := val_lt ((L32_lim (x * 2 ^ up)).drop K)
    have h6 : ((lim (x * 2 ^ up)).drop K).length = m - 1 := by simp; omega
    rwa [h6] at h5
   have e2 : 4294967296 ^ (m - 1) ≤ val (lim (y * 2 ^ up)) := by
    rcases Nat.lt_or_ge (val (lim (y * 2 ^ up))) (4294967296 ^ (m - 1)) with h | h
    ·
     exfalso
     rw [val_lim] at h
     have := lim_len_lt h
     have := K2.out
     omega
    · exact h
   exact Nat.lt_of_lt_of_le e1 e2
 have hz4 : w3.heap.size < w4.heap.size := by
  have := ho.lt w3.heap.size rfl
  omega
 clear ho hg hbg HO3 HB3
 go_wp2
 go_loopw [10] (fun iv wr => ∃ (k : Nat) (L Q : List Nat), k ≤ K ∧ iv = .int .i64 ((k : Int) - 1) ∧ Hid (LongAt w0 w3 wr gr w3.heap.size cr2 (n2 + 1) K m (x * 2 ^ up) (lim (y * 2 ^ up)) k L Q)) (fun iv _ => (intOf iv + 1).toNat)
 case atStart => exact ⟨K, _, _, by omega, rfl, HST⟩
 case round =>
  obtain ⟨k, L, Q, hk, rfl, HA⟩ := hrel
  by_cases h0 : k = 0
  ·
   subst h0
   have hsum := HA.out.sum
   have hless := HA.out.less
   rw [List.drop_zero, Nat.pow_zero, Nat.one_mul, val_lim] at hsum
   rw [List.drop_zero, val_lim] at hless
   obtain ⟨q1, q2⟩ := div_end HU.out hsum hless
   have Q1 := Lib.hid q1
   have Q2 : Hid (sh (val L) (-(up : Int)) = x % y) := by show _ = _; rw [q2, sh_dn0 _ (by omega)]
   have hqrow := HA.out.quo.row.lower (Nat.zero_le _)
   have hrrow := HA.out.rest.row.lower (Nat.zero_le _)
   have HQO := Lib.hid ((HA.out.quo.lim).lower (Nat.le_trans hz00 hz3))
   have HBL := Lib.hid (HB0.out.trans (HA.out.below.mono hz00))
   clear hsum hless q1 q2 HA HST hv0
   have hcr3 : n2 + 1 ≤ cr2 := hcr2
   go_wp2_with fail
   refine (head_any _ K K Q _ (by omega) (Nat.le_refl _) hqrow).mono ?_
   rintro e w' ⟨rfl, rfl⟩
   go_wp2_with fail
   refine (Shift_w (x % y) _ _ (n2 + 1) cr2 L _ _ Q2 rfl (by omega) hcr3 hrrow (by omega)).mono ?_
   rintro e w6 ⟨Y2, d2, rfl, ho6, hb6⟩
   have HQ6 := Lib.hid (HQO.out.below hb6)
   have HR6 := Lib.hid (ho6.lower HBL.out.size)
   have HB6 := Lib.hid (HBL.out.trans (hb6.mono HBL.out.size))
   clear ho6 hb6 HQO HBL
   go_wp2
   go_ret2
   have HQ7 := HQ6.out
   rw [Q1.out] at HQ7
   exact ⟨_, _, Y2, d2, by rw [← Q1.out]; rfl, HQ7, HR6.out, HB6.out⟩
  ·
   obtain ⟨k, rfl⟩ : ∃ j, k = j + 1 := ⟨k - 1, by omega⟩
   have hkK : k < K := by omega
   have he1 : ((k + 1 : Nat) : Int) - 1 = (k : Int) := by omega
   simp only [he1]
   have hL := HA.out.rest.len
   have hvl := K2.out
   have hlt1 : val (L.drop k) < val (lim (y * 2 ^ up)) * 4294967296 := by
    have e := val_cons_drop L k (by omega)
    have e1 := HA.out.rest.l32 k
    have e2 := HA.out.less
    omega
   have hVB : val (lim (y * 2 ^ up)) * 4294967296 ≤ 4294967296 ^ (m + 1) := by
    have := val_lt (L32_lim (y * 2 ^ up))
    rw [hvl] at this
    rw [Nat.pow_succ]; exact Nat.mul_le_mul_right _ (Nat.le_of_lt this)
   obtain ⟨s1, _⟩ := seg_val (L := L) (i := k) (m := m) hVB hlt1 (by omega)
   have hrest := HA.out.rest
   rw [← split3 L k m] at hrest
   have HT := Lib.hid (takeOut_any w0 gr k m cr2 (n2 + 1) (cr2 - k) cy Y (L.take k) ((L.drop k).take (m + 1)) (lim (y * 2 ^ up)) (L.drop (k + (m + 1))) wr hgr1 hm1 (by omega) (by omega) (by simp; omega) (by simp; omega) hv0 HA.out.below hrest K3.out (by rw [s1]; exact hlt1))
   have STEP := Lib.hid (fun (w2 : World) (q : Nat) (s' : List Nat) (hq : q < 4294967296) (ht : Taken wr w0 w2 gr cr2 (n2 + 1) m (L.take k) ((L.drop k).take (m + 1)) s' (lim (y * 2 ^ up)) (L.drop (k + (m + 1))) q) => HA.out.step (by omega) hkK hvl (L32_lim _) hgr2 (Nat.le_refl _) hz3 hq ht)
   have HQO := Lib.hid HA.out.quo
   have hnc : ¬ cr2 = k := by omega
   have hi1 : k + (m + 1) ≤ n2 + 1 := by omega
   clear hlt1 hVB s1 hrest HA HST hL hvl he1
   go_wp2_with fail
   rw [show k + m + 1 - k = m + 1 by omega]
   refine HT.out.mono ?_
   rintro e w2 ⟨q, s', rfl, hq, ht⟩
   have hq2 : q < 4294967296 := hq
   have HS := Lib.hid (STEP.out w2 q s' hq2 ht)
   have hqo := HQO.out.grown ht.gr (fun ad had => by
    injection had with had
    subst had
    simp
    omega)
   obtain ⟨b2, off2, hA2, h7, h8, hc2⟩ := hqo.row.mem (by omega)
   injection hA2 with hA2
   injection hA2 with e1 e2
   subst e1 e2
   have hcs := hc2 k hkK
   rw [Nat.zero_add] at hcs
   have hfs := hqo.own.frozenAt k
   clear hc2 hqo ht STEP HT HQO hq
   go_wp2
   go_roundw
   case rel => exact ⟨k, _, _, by omega, rfl, HS⟩
   case measure => simp [intOf]
end Go.Proofs.Ytjbhhccklfddaaa
namespace Go.Proofs.Ytjbhhccklfddaaa
set_option maxRecDepth 20000
open Go.RowKit
theorem div_cast {T y : Nat} (h : T / y < 4294967296) : (T : Int) / (y : Int) % 4294967296 = ((T / y : Nat) : Int) := by
 have e : (T : Int) / (y : Int) = ((T / y : Nat) : Int) := rfl
 rw [e]
 generalize T / y = q at *
 omega
theorem rem_cast {T y : Nat} (h : T % y < 4294967296) : (T : Int) % (y : Int) % 4294967296 = ((T % y : Nat) : Int) := by
 have e : (T : Int) % (y : Int) = ((T % y : Nat) : Int) := rfl
 rw [e]
 generalize T % y = q at *
 omega
set_option maxHeartbeats 800000 in
theorem Div32_any (h l y : Nat) (w : World) (hl : l < 4294967296) (hy : y < 4294967296) (hh : h < y) :
  Calls Try.prog 100 #[.int .u32 (h : Int), .int .u32 (l : Int), .int .u32 (y : Int)] w fun e w' => e = .returned (.tuple #[.int .u32 (((h * 4294967296 + l) / y : Nat) : Int), .int .u32 (((h * 4294967296 + l) % y : Nat) : Int)]) ∧ ∃ q, w' = w.drewN q := by
 have hor := or_step2 hl (show h < 4294967296 by omega)
 have hyn : ¬ (y : Int) = 0 := by omega
 have hyb : ((y : Int) != 0) = true := by rw [bne_iff_ne]; exact hyn
 have hd : decide (y ≤ h) = false := by rw [decide_eq_false_iff_not]; omega
 have hd2 : decide ((y : Int) ≤ (h : Int)) = false := by rw [decide_eq_false_iff_not]; omega
 have hT : h * 4294967296 + l < 18446744073709551616 := by omega
 have hq : (h * 4294967296 + l) / y < 4294967296 := by
  rw [Nat.div_lt_iff_lt_mul (by omega)]
  have : (h + 1) * 4294967296 ≤ y * 4294967296 := Nat.mul_le_mul_right _ hh
  rw [Nat.mul_comm]
  omega
 have hr : (h * 4294967296 + l) % y < 4294967296 := by
  have : (h * 4294967296 + l) % y < y := Nat.mod_lt _ (by omega)
  omega
 go_enter Try.func100, Try.ntmps100
 go_wp2
 go_quiet (fail)
 go_wp2
 go_ret2
 have ec : (h : Int) * 4294967296 + (l : Int) = ((h * 4294967296 + l : Nat) : Int) := by omega
 exact ⟨ret_int2 (by rw [ec]; exact div_cast hq) (by rw [ec]; exact rem_cast hr), _, rfl⟩
structure ByAt (ws wr : World) (lo g c n : Nat) (l : List Nat) (b k left : Nat) (qs : List Nat) : Prop where
 own : Own wr lo (some ⟨g, 0, none⟩) c n (l.take k ++ qs)
 sum : val qs * b + left = val (l.drop k)
 less : left < b
 gr : ws.grownBy wr (some g)
theorem ByAt.step {ws wr : World} {lo g c n : Nat} {l : List Nat} {b k left : Nat} {qs : List Nat} (h : ByAt ws wr lo g c n l b (k + 1) left qs) (hk : k < l.length) (hb : 0 < b) (hq : (left * 4294967296 + dg l k) / b < 4294967296) (q : Nat) :
  ByAt ws ((wr.drewN q).setCell ⟨g, k, none⟩ (.int .u32 (((left * 4294967296 + dg l k) / b : Nat) : Int))) lo g c n l b k ((left * 4294967296 + dg l k) % b) ((left * 4294967296 + dg l k) / b :: qs) := by
 refine ⟨?_, ?_, Nat.mod_lt _ hb, grown_set ⟨h.gr.os, h.gr.tape, h.gr.output, h.gr.size, h.gr.block⟩⟩
 ·
  have h1 := (h.own.drewN q).set (j := k) hq
  have e : (l.take (k + 1) ++ qs).set k ((left * 4294967296 + dg l k) / b) = l.take k ++ ((left * 4294967296 + dg l k) / b :: qs) := by
   have hl1 : (l.take k).length = k := by rw [List.length_take]; omega
   rw [List.take_succ_eq_append_getElem hk, List.append_assoc, List.set_append_right _ _ (by omega), hl1, Nat.sub_self]
   rfl
  rw [e] at h1
  exact h1
 ·
  rw [val_cons_drop l k hk, ← h.sum, val, Nat.add_mul]
  have := Nat.div_add_mod (left * 4294967296 + dg l k) b
  rw [Nat.mul_comm b] at this
  have e2 : 4294967296 * val qs * b = 4294967296 * (val qs * b) := Nat.mul_assoc _ _ _
  rw [e2]
  omega
set_option maxHeartbeats 800000 in
theorem divideByLimb_any (lo g n c b : Nat) (l : List Nat) (w : World) (hn : n ≤ 1000000000000) (hb : 0 < b) (hb2 : b < 4294967296) (ho : Own w lo (some ⟨g, 0, none⟩) c n l) :
  Calls Try.prog 97 #[.slice (some ⟨g, 0, none⟩) n c, .int .u32 (b : Int)] w fun e w' => ∃ l', e = .returned (.int .u32 ((val l % b : Nat) : Int)) ∧ Own w' lo (some ⟨g, 0, none⟩) c n l' ∧ val l' = val l / b ∧ w.grownBy w' (some g) := by
 have hlen := Lib.hid ho.len
 have hl32 := ho.l32
 have HST : Hid (ByAt w w lo g c n l b n 0 []) := by
  refine ⟨?_, ?_, hb, World.grownBy.refl _ _⟩
  · rw [List.take_of_length_le (Nat.le_of_eq hlen.out), List.append_nil]; exact ho
  · rw [List.drop_eq_nil_of_le (Nat.le_of_eq hlen.out)]; simp [val]
 clear ho
 go_enter Try.func97, Try.ntmps97
 go_wp2
 go_loopw [5, 6] (fun lv iv wr => ∃ (k left : Nat) (qs : List Nat), k ≤ n ∧ left < b ∧ iv = .int .i64 ((k : Int) - 1) ∧ lv = .int .u32 left ∧ Hid (ByAt w wr lo g c n l b k left qs)) (fun _ iv _ => (intOf iv + 1).toNat)
 case atStart => exact ⟨n, 0, [], by omega, hb, rfl, rfl, HST⟩
 case round =>
  obtain ⟨k, left, qs, hk, hleft, rfl, rfl, HA⟩ := hrel
  by_cases h0 : k = 0
  ·
   subst h0
   have hs := HA.out.sum
   rw [List.drop_zero] at hs
   have ho := HA.out.own
   rw [List.take_zero, List.nil_append] at ho
   have E1 : Hid (val l % b = left) := by
    show _ = _
    rw [← hs, Nat.add_comm, Nat.add_mul_mod_self_right, Nat.mod_eq_of_lt hleft]
   have E2 : Hid (val qs = val l / b) := by
    show _ = _
    rw [← hs, Nat.add_comm, Nat.add_mul_div_right _ _ hb, Nat.div_eq_of_lt hleft, Nat.zero_add]
   have HO := Lib.hid ho
   have HG := Lib.hid HA.out.gr
   clear hs ho HA HST
   go_wp2
   go_ret
   exact ⟨qs, ret_int (by rw [E1.out]), HO.out, E2.out, HG.out⟩
  ·
   obtain ⟨k, rfl⟩ : ∃ j, k = j + 1 := ⟨k - 1, by omega⟩
   have hkl : k < l.length := by have := hlen.out; omega
   have hx := hl32 k
   have hq : (left * 4294967296 + dg l k) / b < 4294967296 := by
    rw [Nat.div_lt_iff_lt_mul hb]
    have : (left + 1) * 4294967296 ≤ b * 4294967296 := Nat.mul_le_mul_right _ hleft
    rw [Nat.mul_comm]
    omega
   have hr : (left * 4294967296 + dg l k) % b < b := Nat.mod_lt _ hb
   have he1 : ((k + 1 : Nat) : Int) - 1 = (k : Int) := by omega
   simp only [he1]
   obtain ⟨b2, off2, hA2, h7, h8, hc2⟩ := HA.out.own.row.mem (by omega)
   injection hA2 with hA2
   injection hA2 with e1 e2
   subst e1 e2
   have hcs := hc2 k (by omega)
   have e3 : dg (l.take (k + 1) ++ qs) k = dg l k := by
    rw [dg_eq, dg_eq, List.getElem?_append_left (by simp; omega), List.getElem?_take]
    simp
   rw [Nat.zero_add, e3] at hcs
   have hfs := HA.out.own.own.frozenAt k
   have hkn : k < n := by omega
   have STEP := Lib.hid (fun q => HA.out.step hkl hb hq q)
   have HD := Lib.hid (fun (w : World) => Div32_any left (dg l k) b w hx hb2 hleft)
   clear hc2 HA HST e3 hkl he1
   go_wp2_with fail
   refine (HD.out _).mono ?_
   rintro e w2 ⟨rfl, q, rfl⟩
   have HS := Lib.hid (STEP.out q)
   clear STEP HD
   go_wp2
   go_roundw
   case rel => exact ⟨k, _, _, by omega, hr, rfl, rfl, HS⟩
   case measure => simp [intOf]
end Go.Proofs.Ytjbhhccklfddaaa
namespace Go.Proofs.Ytjbhhccklfddaaa
set_option maxRecDepth 20000
open Go.RowKit
theorem Trim_v (x : Nat) (A : Option Addr) (n c : Nat) (l : List Nat) (w : World) (hx : val l = x) (hn : n ≤ 10000000000000) (hcap : n ≤ c) (hr : Row w 0 A n l) :
  Calls Try.prog 88 #[.slice A n c] w fun e w' => ∃ g, e = .returned (.slice (some ⟨g, 0, none⟩) (lim x).length (lim x).length) ∧ Own w' w.heap.size (some ⟨g, 0, none⟩) (lim x).length (lim x).length (lim x) ∧ Below w.heap.size w w' := by
 subst hx; exact Trim_any A n c l w hn hcap hr
set_option maxHeartbeats 800000 in
theorem DivMod_less (A B : Option Addr) (n m c d x y : Nat) (a b : List Nat) (w : World) (hn : n ≤ 400000000000) (hm : m ≤ 400000000000) (hcn : n ≤ c) (hdm : m ≤ d) (ha : Row w 0 A n a) (hb : Row w 0 B m b) (hx : val a = x) (hy : val b = y) (hlt : x < y) :
  Calls Try.prog 89 #[.slice A n c, .slice B m d] w fun e w' => ∃ X2 c2 Y2 d2, e = .returned (.tuple #[.slice X2 (lim (x / y)).length c2, .slice Y2 (lim (x % y)).length d2, .bool true]) ∧ Own w' w.heap.size X2 c2 (lim (x / y)).length (lim (x / y)) ∧ Own w' w.heap.size Y2 d2 (lim (x % y)).length (lim (x % y)) ∧ Below w.heap.size w w' := by
 subst hx hy
 have hna : (lim (val a)).length ≤ n := by have := lim_len_le ha.l32; have := ha.len; omega
 have hnb : (lim (val b)).length ≤ m := by have := lim_len_le hb.l32; have := hb.len; omega
 have hpos : 0 < (lim (val b)).length := by
  rcases Nat.eq_zero_or_pos (lim (val b)).length with h0 | h0
  ·
   have := val_lim (val b)
   rw [List.eq_nil_of_length_eq_zero h0] at this
   simp [val] at this
   omega
  · exact h0
 have hbl : (((lim (val b)).length : Int) == 0) = false := by rw [beq_eq_false_iff_ne]; omega
 have E1 : Hid (lim (val a / val b) = []) := by show _ = _; rw [Nat.div_eq_of_lt hlt, lim_zero]
 have E2 : Hid (val a % val b = val a) := Nat.mod_eq_of_lt hlt
 have hcmp := Lib.hid (fun (w : World) (h1 : Row w 0 A (lim (val a)).length (lim (val a))) (h2 : Row w 0 B (lim (val b)).length (lim (val b))) => by
  have h := Cmp_any A B (lim (val a)).length (lim (val b)).length c d (lim (val a)) (lim (val b)) w (by omega) (by omega) (by omega) (by omega) h1 h2
  rw [val_lim, val_lim, cmpI_lt hlt] at h
  exact h)
 have hla := ha.lim
 have hlb := hb.lim
 clear hlt
 go_enter Try.func89, Try.ntmps89
 go_wp2_with fail
 refine (head_any A n c a _ (by omega) hcn ha).mono ?_
 rintro e w' ⟨rfl, rfl⟩
 go_wp2_with fail
 refine (head_any B m d b _ (by omega) hdm hb).mono ?_
 rintro e w' ⟨rfl, rfl⟩
 go_wp2_with fail
 refine (hcmp.out _ hla hlb).mono ?_
 rintro e w1 ⟨rfl, q, hw1⟩
 have HB1 : Hid (Below w.heap.size w w1) := by rw [hw1]; exact below_drewN' _ _ _
 have hla1 := hla.below HB1.out
 clear hw1 hla hlb ha hb hcmp
 go_wp2_with fail
 refine (Trim_v (val a) A _ c (lim (val a)) _ (val_lim _) (by omega) (by omega) hla1).mono ?_
 rintro e w2 ⟨g, rfl, ho, hb2⟩
 have HO := Lib.hid (ho.lower HB1.out.size)
 have HB2 := Lib.hid (HB1.out.trans (hb2.mono HB1.out.size))
 clear ho hb2 hla1
 go_wp2
 go_ret3
 have HO2 := HO.out
 rw [E1.out, E2.out]
 exact ⟨none, 0, _, _, rfl, Own.nil_ _ _, HO2, HB2.out⟩
set_option maxHeartbeats 1600000 in
theorem DivMod_one (A B : Option Addr) (n m c d x y : Nat) (a b : List Nat) (w : World) (hn : n ≤ 400000000000) (hm : m ≤ 400000000000) (hcn : n ≤ c) (hdm : m ≤ d) (ha : Row w 0 A n a) (hb : Row w 0 B m b) (hx : val a = x) (hy : val b = y) (hle : y ≤ x) (h1 : (lim y).length = 1) :
  Calls Try.prog 89 #[.slice A n c, .slice B m d] w fun e w' => ∃ X2 c2 Y2 d2, e = .returned (.tuple #[.slice X2 (lim (x / y)).length c2, .slice Y2 (lim (x % y)).length d2, .bool true]) ∧ Own w' w.heap.size X2 c2 (lim (x / y)).length (lim (x / y)) ∧ Own w' w.heap.size Y2 d2 (lim (x % y)).length (lim (x % y)) ∧ Below w.heap.size w w' := by
 subst hx hy
 have hna : (lim (val a)).length ≤ n := by have := lim_len_le ha.l32; have := ha.len; omega
 have hnb : (lim (val b)).length ≤ m := by have := lim_len_le hb.l32; have := hb.len; omega
 have hbl : (((lim (val b)).length : Int) == 0) = false := by rw [beq_eq_false_iff_ne]; omega
 have hbl1 : (((lim (val b)).length : Int) == 1) = true := by rw [beq_iff_eq]; omega
 have hd0 : dg (lim (val b)) 0 = val b := by
  have h2 := S_val (lim (val b))
  rw [h1, val_lim] at h2
  simpa [S] using h2
 have hb32 := L32_lim (val b) 0
 have hbne : dg (lim (val b)) 0 ≠ 0 := by
  have := lim_tr (val b)
  unfold Tr at this
  rw [h1] at this
  simpa using this
 have hcmp := Lib.hid (fun (w : World) (h1 : Row w 0 A (lim (val a)).length (lim (val a))) (h2 : Row w 0 B (lim (val b)).length (lim (val b))) => (by
  have h := Cmp_any A B (lim (val a)).length (lim (val b)).length c d (lim (val a)) (lim (val b)) w (by omega) (by omega) (by omega) (by omega) h1 h2
  rw [val_lim, val_lim] at h
  refine ⟨_, ?_, ?_, h⟩
  · unfold cmpI; rw [if_neg (by omega)]; split <;> omega
  · unfold cmpI; rw [if_neg (by omega)]; split <;> omega : ∃ s : Int, 0 ≤ s ∧ s ≤ 1 ∧ Calls Try.prog 70 #[.slice A (lim (val a)).length c, .slice B (lim (val b)).length d] w fun e w' => e = .returned (.int .i64 s) ∧ ∃ q, w' = w.drewN q))
 have hla := ha.lim
 have hlb := hb.lim
 obtain ⟨s, hs0, hs1, hc⟩ := hcmp.out w hla hlb
 have HC := Lib.hid hc
 obtain ⟨b', off, rfl, h3, h4, hcl⟩ := hlb.mem (by omega)
 have hcb := hcl 0 (by omega)
 rw [Nat.add_zero] at hcb
 have hbpos : 0 < dg (lim (val b)) 0 := by omega
 have hl1 : 0 < (lim (val b)).length := by omega
 have HD0 := Lib.hid hd0
 clear hc hcmp hle h1 hd0 hbne hcl hlb
 go_enter Try.func89, Try.ntmps89
 go_wp2_with fail
 refine (head_any A n c a _ (by omega) hcn ha).mono ?_
 rintro e w' ⟨rfl, rfl⟩
 go_wp2_with fail
 refine (head_any _ m d b _ (by omega) hdm hb).mono ?_
 rintro e w' ⟨rfl, rfl⟩
 go_wp2_with fail
 refine HC.out.mono ?_
 rintro e w1 ⟨rfl, q, hw1⟩
 have hb1 : Below w.heap.size w w1 := by rw [hw1]; exact below_drewN' _ _ _
 have hla1 := hla.below hb1
 have hcb1 := (hb1.cell (p := ⟨b', off, none⟩) h4).trans hcb
 have HB1 := Lib.hid hb1
 have hz1 := hb1.size
 clear hw1 hla ha hb HC hb1 hcb
 go_wp2_with fail
 refine (Trim_v (val a) A _ c (lim (val a)) _ (val_lim _) (by omega) (by omega) hla1).mono ?_
 rintro e w2 ⟨g, rfl, ho, hb2⟩
 have hg0 := ho.own.lt g rfl
 have hcb2 := (hb2.cell (p := ⟨b', off, none⟩) (by show b' < w1.heap.size; omega)).trans hcb1
 have HB2 := Lib.hid (HB1.out.trans (hb2.mono hz1))
 have hz2 := HB2.out.size
 have HDV := Lib.hid (divideByLimb_any w1.heap.size g (lim (val a)).length (lim (val a)).length (dg (lim (val b)) 0) (lim (val a)) w2 (by omega) hbpos hb32 ho)
 have hgw : w.heap.size ≤ g := by omega
 clear ho hb2 hla1 hcb1
 go_wp2_with fail
 refine HDV.out.mono ?_
 rintro e w3 ⟨l', rfl, ho3, hv3, hg3⟩
 rw [HD0.out, val_lim] at hv3 ⊢
 have hrow := ho3.row.lower (Nat.zero_le _)
 have HO3 := Lib.hid ((ho3.lim).lower hz1)
 have HV3 := Lib.hid hv3
 have HB3 := Lib.hid (HB2.out.trans (below_of_grown_row hg3 hgw hz2))
 have hrem : val a % val b < 4294967296 := by
  have : val a % val b < val b := Nat.mod_lt _ (by have := HD0.out; omega)
  have := HD0.out
  omega
 clear ho3 hv3 hg3 HDV HB2
 go_wp2_with fail
 refine (head_any _ _ _ l' _ (by omega) (Nat.le_refl _) hrow).mono ?_
 rintro e w' ⟨rfl, rfl⟩
 go_wp2_with fail
 refine (Of_any (val a % val b) _ (by omega)).mono ?_
 rintro e w4 ⟨Y2, d2, rfl, ho4, hb4⟩
 have HO4 := Lib.hid (HO3.out.below hb4)
 have HR4 := Lib.hid (ho4.lower HB3.out.size)
 have HB4 := Lib.hid (HB3.out.trans (hb4.mono HB3.out.size))
 clear ho4 hb4 HO3 HB3 hrow
 go_wp2
 go_ret3
 have HO5 := HO4.out
 rw [HV3.out] at HO5
 exact ⟨_, _, Y2, d2, by rw [← HV3.out]; rfl, HO5, HR4.out, HB4.out⟩
set_option maxHeartbeats 1600000 in
theorem DivMod_long (A B : Option Addr) (n m c d x y : Nat) (a b : List Nat) (w : World) (hn : n ≤ 400000000000) (hm : m ≤ 400000000000) (hcn : n ≤ c) (hdm : m ≤ d) (ha : Row w 0 A n a) (hb : Row w 0 B m b) (hx : val a = x) (hy : val b = y) (hle : y ≤ x) (h1 : 2 ≤ (lim y).length) :
  Calls Try.prog 89 #[.slice A n c, .slice B m d] w fun e w' => ∃ X2 c2 Y2 d2, e = .returned (.tuple #[.slice X2 (lim (x / y)).length c2, .slice Y2 (lim (x % y)).length d2, .bool true]) ∧ Own w' w.heap.size X2 c2 (lim (x / y)).length (lim (x / y)) ∧ Own w' w.heap.size Y2 d2 (lim (x % y)).length (lim (x % y)) ∧ Below w.heap.size w w' := by
 subst hx hy
 have hna : (lim (val a)).length ≤ n := by have := lim_len_le ha.l32; have := ha.len; omega
 have hnb : (lim (val b)).length ≤ m := by have := lim_len_le hb.l32; have := hb.len; omega
 have hbl : (((lim (val b)).length : Int) == 0) = false := by rw [beq_eq_false_iff_ne]; omega
 have hbl1 : (((lim (val b)).length : Int) == 1) = false := by rw [beq_eq_false_iff_ne]; omega
 have htop : dg (lim (val b)) ((lim (val b)).length - 1) ≠ 0 := by
  have := lim_tr (val b)
  unfold Tr at this
  rcases this with h | h
  · omega
  · exact h
 have hla := ha.lim
 have hlb := hb.lim
 have hc : ∃ s : Int, 0 ≤ s ∧ s ≤ 1 ∧ Calls Try.prog 70 #[.slice A (lim (val a)).length c, .slice B (lim (val b)).length d] w fun e w' => e = .returned (.int .i64 s) ∧ ∃ q, w' = w.drewN q := by
  have h := Cmp_any A B (lim (val a)).length (lim (val b)).length c d (lim (val a)) (lim (val b)) w (by omega) (by omega) (by omega) (by omega) hla hlb
  rw [val_lim, val_lim] at h
  refine ⟨_, ?_, ?_, h⟩
  · unfold cmpI; rw [if_neg (by omega)]; split <;> omega
  · unfold cmpI; rw [if_neg (by omega)]; split <;> omega
 obtain ⟨s, hs0, hs1, hc⟩ := hc
 have HC := Lib.hid hc
 have HT := Lib.hid htop
 have HLE := Lib.hid hle
 have hmn := lim_len_mono hle
 clear hc hle htop
 go_enter Try.func89, Try.ntmps89
 go_wp2_with fail
 refine (head_any A n c a _ (by omega) hcn ha).mono ?_
 rintro e w' ⟨rfl, rfl⟩
 go_wp2_with fail
 refine (head_any B m d b _ (by omega) hdm hb).mono ?_
 rintro e w' ⟨rfl, rfl⟩
 go_wp2_with fail
 refine HC.out.mono ?_
 rintro e w1 ⟨rfl, q, hw1⟩
 have hb1 : Below w.heap.size w w1 := by rw [hw1]; exact below_drewN' _ _ _
 have hla1 := hla.below hb1
 have hlb1 := hlb.below hb1
 have HB1 := Lib.hid hb1
 clear hw1 hla hlb ha hb HC hb1
 go_wp2_with fail
 refine (divideLong_any A B (lim (val a)).length (lim (val b)).length c d (val a) (val b) (lim (val a)) (lim (val b)) _ (by omega) h1 hmn (by omega) (by omega) hla1 hlb1 (val_lim _) (val_lim _) HT.out HLE.out).mono ?_
 rintro e w2 ⟨X2, c2, Y2, d2, rfl, hq2, hr2, hb2⟩
 have HQ := Lib.hid (hq2.lower HB1.out.size)
 have HR := Lib.hid (hr2.lower HB1.out.size)
 have HB2 := Lib.hid (HB1.out.trans (hb2.mono HB1.out.size))
 clear hq2 hr2 hb2 hla1 hlb1
 go_wp2
 go_ret3
 exact ⟨X2, c2, Y2, d2, rfl, HQ.out, HR.out, HB2.out⟩
theorem DivMod_pos (A B : Option Addr) (n m c d x y : Nat) (a b : List Nat) (w : World) (hn : n ≤ 400000000000) (hm : m ≤ 400000000000) (hcn : n ≤ c) (hdm : m ≤ d) (ha : Row w 0 A n a) (hb : Row w 0 B m b) (hx : val a = x) (hy : val b = y) (h0 : 0 < y) :
  Calls Try.prog 89 #[.slice A n c, .slice B m d] w fun e w' => ∃ X2 c2 Y2 d2, e = .returned (.tuple #[.slice X2 (lim (x / y)).length c2, .slice Y2 (lim (x % y)).length d2, .bool true]) ∧ Own w' w.heap.size X2 c2 (lim (x / y)).length (lim (x / y)) ∧ Own w' w.heap.size Y2 d2 (lim (x % y)).length (lim (x % y)) ∧ Below w.heap.size w w' := by
 by_cases hlt : x < y
 · exact DivMod_less A B n m c d x y a b w hn hm hcn hdm ha hb hx hy hlt
 ·
  by_cases h1 : (lim y).length = 1
  · exact DivMod_one A B n m c d x y a b w hn hm hcn hdm ha hb hx hy (by omega) h1
  ·
   refine DivMod_long A B n m c d x y a b w hn hm hcn hdm ha hb hx hy (by omega) ?_
   rcases Nat.eq_zero_or_pos (lim y).length with h2 | h2
   ·
    have := val_lim y
    rw [List.eq_nil_of_length_eq_zero h2] at this
    simp [val] at this
    omega
   · omega
end Go.Proofs.Ytjbhhccklfddaaa
namespace Go.Proofs.Ytjbhhccklfddaaa
set_option maxRecDepth 20000
open Go.RowKit
theorem gcd_step (x y : Nat) : Nat.gcd y (x % y) = Nat.gcd x y := by
 rw [Nat.gcd_comm y, ← Nat.gcd_rec, Nat.gcd_comm]
set_option maxHeartbeats 800000 in
theorem gcdWord_any (x y : Nat) (w : World) (hx : x < 18446744073709551616) (hy : y < 18446744073709551616) :
  Calls Try.prog 92 #[.int .u64 (x : Int), .int .u64 (y : Int)] w fun e w' => e = .returned (.int .u64 (Nat.gcd x y : Nat)) ∧ ∃ q, w' = w.drewN q := by
 go_enter Try.func92, Try.ntmps92
 go_wp2
 go_loopw [0, 1] (fun xv yv wr => ∃ u v q : Nat, u < 18446744073709551616 ∧ v < 18446744073709551616 ∧ xv = .int .u64 u ∧ yv = .int .u64 v ∧ wr = w.drewN q ∧ Hid (Nat.gcd u v = Nat.gcd x y)) (fun _ yv _ => (intOf yv).toNat)
 case atStart => exact ⟨x, y, 0, hx, hy, rfl, rfl, rfl, rfl⟩
 case round =>
  obtain ⟨u, v, q, hu, hv, rfl, rfl, rfl, HG⟩ := hrel
  by_cases h0 : v = 0
  ·
   subst h0
   have E : Hid (u = Nat.gcd x y) := by show _ = _; rw [← HG.out, Nat.gcd_zero_right]
   clear HG
   go_wp2
   go_ret
   exact ⟨by rw [← E.out]; rfl, q, rfl⟩
  ·
   have hb : ((v : Int) != 0) = true := by rw [bne_iff_ne]; omega
   have hvn : ¬ (v : Int) = 0 := by omega
   have HG2 : Hid (Nat.gcd v (u % v) = Nat.gcd x y) := (gcd_step u v).trans HG.out
   have hlt : u % v < v := Nat.mod_lt _ (by omega)
   have HC : Hid ((u : Int) % (v : Int) = ((u % v : Nat) : Int)) := rfl
   have hlt2 : u % v < 18446744073709551616 := by omega
   have HL := Lib.hid hlt
   clear HG h0 hlt
   go_wp2
   go_quiet (fail)
   go_wp2
   go_roundw
   case rel => exact ⟨v, u % v, _, hv, hlt2, rfl, rfl, by simp only [World.drewN_drewN]; rfl, HG2⟩
   case measure =>
    have := HL.out
    simp [intOf]
    omega
structure GcdAt (w wr : World) (x y u v : Nat) (X Y : Option Addr) (cx cy : Nat) : Prop where
 row1 : Row wr 0 X (lim u).length (lim u)
 row2 : Row wr 0 Y (lim v).length (lim v)
 gcd : Nat.gcd u v = Nat.gcd x y
 le : v ≤ u
 below : Below w.heap.size w wr
set_option maxHeartbeats 1000000 in
theorem Gcd_any (A B : Option Addr) (n m c d x y : Nat) (a b : List Nat) (w : World) (hn : n ≤ 100000000000) (hm : m ≤ 100000000000) (hcn : n ≤ c) (hdm : m ≤ d) (ha : Row w 0 A n a) (hb : Row w 0 B m b) (hx : val a = x) (hy : val b = y) :
  Calls Try.prog 71 #[.slice A n c, .slice B m d] w fun e w' => ∃ X2 c2, e = .returned (.slice X2 (lim (Nat.gcd x y)).length c2) ∧ (lim (Nat.gcd x y)).length ≤ c2 ∧ Row w' 0 X2 (lim (Nat.gcd x y)).length (lim (Nat.gcd x y)) ∧ Below w.heap.size w w' := by
 have hlx : (lim x).length ≤ 100000000000 := by rw [← hx]; have := lim_len_le ha.l32; have := ha.len; omega
 have hly : (lim y).length ≤ 100000000000 := by rw [← hy]; have := lim_len_le hb.l32; have := hb.len; omega
 have HX := Lib.hid hx
 have HY := Lib.hid hy
 clear hx hy
 go_enter Try.func71, Try.ntmps71
 go_wp2_with fail
 refine (Trim_v x A n c a _ HX.out (by omega) hcn ha).mono ?_
 rintro e w1 ⟨g1, rfl, ho, hb1⟩
 have hr1 := ho.row.lower (Nat.zero_le _)
 replace hb := hb.below hb1
 clear ho ha
 go_wp2_with fail
 refine (Trim_v y B m d b _ HY.out (by omega) hdm hb).mono ?_
 rintro e w2 ⟨g2, rfl, ho, hb2⟩
 have hr2 := ho.row.lower (Nat.zero_le _)
 replace hr1 := hr1.below hb2
 have HB2 := Lib.hid (hb1.trans (hb2.mono hb1.size))
 clear ho hb hb1 hb2
 have hc0 : ∃ s : Int, (s = -1 ∧ x < y ∨ 0 ≤ s ∧ s ≤ 1 ∧ y ≤ x) ∧ Calls Try.prog 70 #[.slice (some ⟨g1, 0, none⟩) (lim x).length (lim x).length, .slice (some ⟨g2, 0, none⟩) (lim y).length (lim y).length] w2 fun e w' => e = .returned (.int .i64 s) ∧ ∃ q, w' = w2.drewN q := by
  have h := Cmp_any _ _ (lim x).length (lim y).length (lim x).length (lim y).length (lim x) (lim y) w2 (by omega) (by omega) (Nat.le_refl _) (Nat.le_refl _) hr1 hr2
  rw [val_lim, val_lim] at h
  refine ⟨_, ?_, h⟩
  by_cases hlt : x < y
  · exact .inl ⟨cmpI_lt hlt, hlt⟩
  ·
   refine .inr ?_
   unfold cmpI
   rw [if_neg hlt]
   split <;> omega
 obtain ⟨s, hs, hc⟩ := hc0
 have HC := Lib.hid hc
 clear hc
 go_wp2_with fail
 refine HC.out.mono ?_
 rintro e w3 ⟨rfl, q3, hw3⟩
 have HW3 := Lib.hid hw3
 clear hw3
 go_upto_if 19 with (fail)
 go_cut [0, 1] (fun v0 v1 wx => ∃ (X Y : Option Addr) (u v : Nat) (cx cy : Nat), v0 = .slice X (lim u).length cx ∧ v1 = .slice Y (lim v).length cy ∧ (lim u).length ≤ cx ∧ (lim v).length ≤ cy ∧ (lim u).length ≤ 100000000000 ∧ (lim v).length ≤ 100000000000 ∧ Hid (GcdAt w wx x y u v X Y cx cy))
 case first =>
  have hb3 : Below w2.heap.size w2 w3 := by rw [HW3.out]; exact below_drewN' _ _ _
  have r1 := hr1.below hb3
  have r2 := hr2.below hb3
  have HB3 := Lib.hid (HB2.out.trans (hb3.mono HB2.out.size))
  clear hb3 hr1 hr2
  rcases hs with ⟨rfl, hlt⟩ | ⟨hs0, hs1, hle⟩
  ·
   have HG : Hid (GcdAt w w3 x y y x (some ⟨g2, 0, none⟩) (some ⟨g1, 0, none⟩) (lim y).length (lim x).length) := ⟨r2, r1, Nat.gcd_comm _ _, Nat.le_of_lt hlt, HB3.out⟩
   clear hlt r1 r2
   go_wp2
   go_meet
   exact ⟨_, _, y, x, _, _, rfl, rfl, Nat.le_refl _, Nat.le_refl _, hly, hlx, HG⟩
  ·
   have HG : Hid (GcdAt w w3 x y x y (some ⟨g1, 0, none⟩) (some ⟨g2, 0, none⟩) (lim x).length (lim y).length) := ⟨r1, r2, rfl, hle, HB3.out⟩
   clear hle r1 r2
   go_wp2
   go_meet
   exact ⟨_, _, x, y, _, _, rfl, rfl, Nat.le_refl _, Nat.le_refl _, hlx, hly, HG⟩
 case rest =>
  clear hs HC hr1 hr2 HB2
  obtain ⟨X, Y, u, v, cx, cy, rfl, rfl, hcx, hcy, hlu, hlv, HG⟩ := hcut
  go_wp2
  go_loopg [0, 1, 5, 6, 7] v (fun g s0 s1 _ _ _ wx => ∃ (X Y : Option Addr) (u v cx cy : Nat), v = g ∧ s0 = .slice X (lim u).length cx ∧ s1 = .slice Y (lim v).length cy ∧ (lim u).length ≤ cx ∧ (lim v).length ≤ cy ∧ (lim u).length ≤ 100000000000 ∧ (lim v).length ≤ 100000000000 ∧ Hid (GcdAt w wx x y u v X Y cx cy))
  case atStart => exact ⟨X, Y, u, v, cx, cy, rfl, rfl, rfl, hcx, hcy, hlu, hlv, HG⟩
  case round =>
   obtain ⟨X, Y, u, v, cx, cy, rfl, rfl, rfl, hcx, hcy, hlu, hlv, HG⟩ := hrel
   have r1 := HG.out.row1
   have r2 := HG.out.row2
   have hbw := HG.out.below
   by_cases hv0 : (lim v).length = 0
   ·
    have hvz : v = 0 := by
     have := val_lim v
     rw [List.eq_nil_of_length_eq_zero hv0] at this
     simpa [val] using this.symm
    have E : Hid (u = Nat.gcd x y) := by show _ = _; rw [← HG.out.gcd, hvz, Nat.gcd_zero_right]
    have hvb : (((lim v).length : Int) == 0) = true := by rw [beq_iff_eq]; omega
    have hv1 : (lim v).length ≤ 0 := by omega
    clear HG hv0 hvz r2
    by_cases hu2 : 2 < (lim u).length
    all_goals
     go_wp2
     go_ret
     have r1' := r1
     rw [E.out] at r1' hcx
     exact ⟨X, cx, by rw [← E.out]; rfl, hcx, r1', hbw⟩
   ·
    have hvp : 0 < v := by
     rcases Nat.eq_zero_or_pos v with h0 | h0
     · subst h0; rw [lim_zero] at hv0; simp at hv0
     · exact h0
    have hvb : (((lim v).length : Int) == 0) = false := by rw [beq_eq_false_iff_ne]; omega
    have hv1 : 0 < (lim v).length := by omega
    by_cases hu2 : 2 < (lim u).length
    ·
     have HD := Lib.hid (DivMod_pos X Y (lim u).length (lim v).length cx cy u v (lim u) (lim v) wr (by omega) (by omega) hcx hcy r1 r2 (val_lim _) (val_lim _) hvp)
     have hrl : (lim (u % v)).length ≤ 100000000000 := by
      have := lim_len_mono (show u % v ≤ v from Nat.le_of_lt (Nat.mod_lt _ hvp))
      omega
     have hml : u % v < v := Nat.mod_lt _ hvp
     have HM := Lib.hid hml
     have STEP : Hid (∀ (w4 : World) (Z : Option Addr) (cz : Nat), Row w4 0 Z (lim (u % v)).length (lim (u % v)) → Below wr.heap.size wr w4 → GcdAt w w4 x y v (u % v) Y Z cy cz) :=
      fun w4 Z cz hz hb => ⟨r2.below hb, hz, (gcd_step u v).trans HG.out.gcd, Nat.le_of_lt hml, hbw.trans (hb.mono hbw.size)⟩
     clear HG hv0 hvp r1 r2 hml
     go_wp2_with fail
     refine HD.out.mono ?_
     rintro e w4 ⟨X2, c2, Z, cz, rfl, hq, hrr, hb4⟩
     have hcz := hrr.capLe
     have HS := Lib.hid (STEP.out w4 Z cz (hrr.row.lower (Nat.zero_le _)) hb4)
     clear hq hrr hb4 HD STEP
     go_wp2
     go_roundg (u % v)
     case measure => exact HM.out
     case rel => exact ⟨Y, Z, v, u % v, cy, cz, rfl, rfl, rfl, hcy, hcz, hlv, hrl, HS⟩
    ·
     have hlv2 : (lim v).length ≤ 2 := by have := lim_len_mono HG.out.le; omega
     have hT1 := Lib.hid (fun (w : World) (h : Row w 0 X (lim u).length (lim u)) => To_yes X (lim u).length cx (lim u) w (by omega) hcx h (by rw [val_lim]; omega))
     have hT2 := Lib.hid (fun (w : World) (h : Row w 0 Y (lim v).length (lim v)) => To_yes Y (lim v).length cy (lim v) w (by omega) hcy h (by rw [val_lim]; omega))
     have hub := val_of_len2 (a := lim u) (by rw [val_lim]; omega)
     have hvb2 := val_of_len2 (a := lim v) (by rw [val_lim]; omega)
     rw [val_lim] at hub hvb2
     have E : Hid (Nat.gcd u v = Nat.gcd x y) := HG.out.gcd
     have hgb : Nat.gcd u v < 18446744073709551616 := Nat.lt_of_le_of_lt (Nat.gcd_le_right _ hvp) hvb2
     have HW := Lib.hid (fun (w : World) => gcdWord_any u v w hub hvb2)
     have HO := Lib.hid (fun (w : World) => Of_any (Nat.gcd u v) w hgb)
     have R1 := Lib.hid r1
     have R2 := Lib.hid r2
     have HBW := Lib.hid hbw
     clear HG hv0 hvp hub hvb2 hgb r1 r2 hbw
     go_wp2_with fail
     refine (hT1.out _ R1.out).mono ?_
     rintro e w' ⟨rfl, rfl⟩
     rw [val_lim]
     go_wp2_with fail
     refine (hT2.out _ R2.out).mono ?_
     rintro e w' ⟨rfl, rfl⟩
     rw [val_lim]
     go_wp2_with fail
     refine (HW.out _).mono ?_
     rintro e w4 ⟨rfl, q4, hw4⟩
     have HB4 : Hid (Below w.heap.size w w4) := HBW.out.trans (by rw [hw4]; exact below_drewN' _ _ _)
     clear hw4
     go_wp2_with fail
     refine (HO.out _).mono ?_
     rintro e w5 ⟨Z, cz, rfl, ho5, hb5⟩
     have hz5 := ho5.row.lower (Nat.zero_le _)
     have hc5 := ho5.capLe
     have HZ := Lib.hid hz5
     have HB5 := Lib.hid (HB4.out.trans (hb5.mono HB4.out.size))
     clear ho5 hb5 hz5
     go_wp2
     go_ret
     have hz6 := HZ.out
     rw [E.out] at hz6 hc5
     exact ⟨Z, cz, by rw [← E.out]; rfl, hc5, hz6, HB5.out⟩
end Go.Proofs.Ytjbhhccklfddaaa
