/-
  The document's DivMod, bit by bit: the long way.
-/
import Derived.Test.YtojgpoochclnfaaRDiv
import Derived.Test.YtojgpoochclnfaaBitNum
import Derived.Test.YtojgpoochclnfaaNatBack
namespace Go.Proofs.Ytojgpoochclnfaa
open Go.RowKit

/-- What the loop of the bits keeps: k bits are still to come. -/
structure BitAt (w wr : World) (g n x y k : Nat) (Q : List Nat) (X : Option Addr) (p : Nat) : Prop where
  quo : Own wr w.heap.size (some ⟨g, 0, none⟩) n n Q
  sum : val Q = 2 ^ k * (x / 2 ^ k / y)
  row : Row wr 0 X p (lim (x / 2 ^ k % y))
  below : Below w.heap.size w wr

theorem rSub_v (x y : Nat) (A B : Option Addr) (n m c d : Nat) (a b : List Nat) (w : World) (hx : val a = x) (hy : val b = y) (hn : n ≤ 100000) (hm : m ≤ 100000) (hcn : n ≤ c) (hdm : m ≤ d) (ha : Row w 0 A n a) (hb : Row w 0 B m b) (hle : y ≤ x) :
    Calls Try.prog 12 #[.slice A n c, .slice B m d] w fun e w' => ∃ A2 c2, e = .returned (.tuple #[.slice A2 (lim (x - y)).length c2, .bool true]) ∧ Own w' w.heap.size A2 c2 (lim (x - y)).length (lim (x - y)) ∧ Below w.heap.size w w' := by
  subst hx hy; exact rSub_yes A B n m c d a b w hn hm hcn hdm ha hb hle
theorem own_block {w : World} {lo n c : Nat} {A : Option Addr} {l : List Nat} (h : Own w lo A c n l) : ∀ ad, A = some ad → lo ≤ ad.block ∧ ad.block < w.heap.size := by
  intro ad e
  subst e
  exact h.own.lt ad.block rfl
theorem len_pos' {x : Nat} (h : 0 < x) : 0 < (lim x).length := by
  rcases Nat.eq_zero_or_pos (lim x).length with h0 | h0
  · have := val_lim x
    rw [List.eq_nil_of_length_eq_zero h0] at this
    simp [val] at this
    omega
  · exact h0
theorem sh_one (x : Nat) : sh x 1 = 2 * x := by
  have := sh_up0 x (k := 1) (by omega)
  rw [Nat.pow_one, Nat.mul_comm] at this
  exact this
theorem rShift_one (x : Nat) (A : Option Addr) (n c : Nat) (a : List Nat) (w : World) (hx : val a = x) (hn : n ≤ 100000) (hcn : n ≤ c) (ha : Row w 0 A n a) :
    Calls Try.prog 35 #[.slice A n c, .int .i64 1] w fun e w' => ∃ A2 c2, e = .returned (.slice A2 (lim (2 * x)).length c2) ∧ Own w' w.heap.size A2 c2 (lim (2 * x)).length (lim (2 * x)) ∧ Below w.heap.size w w' := by
  subst hx
  have h := rShift_any A n c a 1 w hn hcn ha (by omega)
  rw [sh_one] at h
  exact h
theorem and_one {u : Nat} (hu : u < 4294967296) : bits BinOp.and IntKind.u32 (u : Int) 1 = ((u % 2 : Nat) : Int) := by
  have := u32_and_nat u 1 hu (by omega)
  rw [Nat.and_one_is_mod] at this
  exact this

set_option maxHeartbeats 2000000 in
theorem rDivMod_long (A B : Option Addr) (n m c d x y xv yv : Nat) (ob tb : Bool) (a b : List Nat) (w : World) (hn : n ≤ 8) (hm : m ≤ 8) (hdm : m ≤ d) (ha : Row w 0 A n a) (hb : Row w 0 B m b) (hx : val a = x) (hy : val b = y) (h0 : 0 < y)
    (hTa : Hid (∀ w', Row w' 0 A n a → Calls Try.prog 27 #[.slice A n c] w' fun e w2 => e = .returned (.tuple #[.int .u64 (xv : Int), .bool ob]) ∧ Below w'.heap.size w' w2))
    (hTb : Hid (∀ w', Row w' 0 B m b → Calls Try.prog 27 #[.slice B m d] w' fun e w2 => e = .returned (.tuple #[.int .u64 (yv : Int), .bool tb]) ∧ Below w'.heap.size w' w2))
    (hfl : (tb = false) ∨ (tb = true ∧ ob = false ∧ decide ((yv : Int) < 4294967296) = false)) :
    Calls Try.prog 22 #[.slice A n c, .slice B m d] w fun e w' => ∃ X2 c2 Y2 d2, e = .returned (.tuple #[.slice X2 (lim (x / y)).length c2, .slice Y2 (lim (x % y)).length d2, .bool true]) ∧ Own w' w.heap.size X2 c2 (lim (x / y)).length (lim (x / y)) ∧ Own w' w.heap.size Y2 d2 (lim (x % y)).length (lim (x % y)) ∧ Below w.heap.size w w' := by
  obtain ⟨i0, hi, hz0, hz1, hz2⟩ := info_parts Try.info41
  have HA0 := Lib.hid ha
  have HB0 := Lib.hid hb
  have HX := Lib.hid hx
  have HY := Lib.hid hy
  have hyl : (lim y).length ≤ 8 := by rw [← hy]; have := lim_len_le hb.l32; have := hb.len; omega
  have hbl : (((lim (val b)).length : Int) == 0) = false := by rw [beq_eq_false_iff_ne, hy]; have := len_pos' h0; omega
  have H0 := Lib.hid h0
  clear ha hx hy h0
  have hcase : (tb = false ∧ ob = false) ∨ (tb = false ∧ ob = true) ∨ (tb = true ∧ ob = false ∧ decide ((yv : Int) < 4294967296) = false) := by
    rcases hfl with h | h
    · cases ob
      · exact .inl ⟨h, rfl⟩
      · exact .inr (.inl ⟨h, rfl⟩)
    · exact .inr (.inr h)
  clear hfl
  go_enter Try.func22, Try.ntmps22
  go_wp2_with fail
  refine (rTrim_any B m d b _ (by omega) hdm hb).mono ?_
  rintro e w1 ⟨X, cx, rfl, ho, hb1⟩
  have HW1 := Lib.hid hb1
  clear ho hb hb1
  go_wp2_with fail
  refine (hTa.out _ (HA0.out.below HW1.out)).mono ?_
  rintro e w2 ⟨rfl, hb2⟩
  have HW2 := Lib.hid (HW1.out.trans (hb2.mono HW1.out.size))
  clear hb2 HW1
  go_wp2_with fail
  refine (hTb.out _ (HB0.out.below HW2.out)).mono ?_
  rintro e w3 ⟨rfl, hb3⟩
  have HW3 := Lib.hid (HW2.out.trans (hb3.mono HW2.out.size))
  clear hb3 HW2 hTa hTb
  rcases hcase with ⟨rfl, rfl⟩ | ⟨rfl, rfl⟩ | ⟨rfl, rfl, hd⟩
  all_goals
    go_wp2_with (at_make; refine wpList_make_full _ rfl _ _ _ rfl w.heap.size 41 i0 (.int .u32 0) 1 Try.underlying22 hi hz0 hz1 .i64 .i64 _ _ n rfl rfl ?c4 ?c5 ?c1 ?c2 ?c3 ?_)
    case c4 => omega
    case c5 => omega
    case c1 => rw [hz2]; omega
    case c2 => unfold maxLen; omega
    case c3 => exact HW3.out.size
    intro w4 ho hg
    have HST : Hid (BitAt w w4 w3.heap.size n x y (32 * n) (List.replicate n 0) none 0) := by
      have hxlt : x < 2 ^ (32 * n) := by
        have h := val_lt HA0.out.l32
        rw [HX.out, HA0.out.len] at h
        have e := pow_32 n 0
        rw [Nat.pow_zero, Nat.mul_one, Nat.add_zero] at e
        rwa [e] at h
      refine ⟨Own.made ho, ?_, ?_, HW3.out.trans ((below_of_grown hg).mono HW3.out.size)⟩
      · rw [val_replicate, Nat.div_eq_of_lt hxlt, Nat.zero_div, Nat.mul_zero]
      · rw [Nat.div_eq_of_lt hxlt, Nat.zero_mod, lim_zero]; exact Row.nil_ _ _ _
    clear ho hg
    go_wp2
    go_loopw [14, 15] (fun rv iv wr => ∃ (k : Nat) (Q : List Nat) (X : Option Addr) (p cx : Nat), k ≤ 32 * n ∧ iv = .int .i64 ((k : Int) - 1) ∧ rv = .slice X p cx ∧ p ≤ cx ∧ p ≤ 8 ∧ Hid (BitAt w wr w3.heap.size n x y k Q X p)) (fun _ iv _ => (intOf iv + 1).toNat)
    case atStart => exact ⟨32 * n, _, none, 0, 0, by omega, by first | rfl | (congr 1; omega), rfl, by omega, by omega, HST⟩
    case round =>
      obtain ⟨k, Q, X, p, cx, hk, rfl, rfl, hpc, hp8, HB⟩ := hrel
      have ha1 := HA0.out.below HB.out.below
      have hb1 := HB0.out.below HB.out.below
      have hyy := H0.out
      by_cases hk0 : k = 0
      · subst hk0
        have hsum := HB.out.sum
        have hrow := HB.out.row
        rw [Nat.pow_zero, Nat.one_mul, Nat.div_one] at hsum
        rw [Nat.pow_zero, Nat.div_one] at hrow
        have HS := Lib.hid hsum
        have hp := hrow.len
        have hqrow := HB.out.quo.row.lower (Nat.zero_le _)
        have HBL := Lib.hid HB.out.below
        clear HB HST hsum ha1 hb1
        go_wp2_with fail
        refine (rTrim_any _ n n Q _ (by omega) (Nat.le_refl _) hqrow).mono ?_
        rintro e w6 ⟨X2, c2, rfl, ho6, hb6⟩
        have hrow6 := hrow.below hb6
        have HQ := Lib.hid (ho6.lower HBL.out.size)
        have HB6 := Lib.hid (HBL.out.trans (hb6.mono HBL.out.size))
        clear ho6 hb6 hrow hqrow
        go_wp2_with fail
        refine (rTrim_any X p cx (lim (x % y)) _ (by omega) hpc hrow6).mono ?_
        rintro e w7 ⟨Y2, d2, rfl, ho7, hb7⟩
        have HQ7 := Lib.hid (HQ.out.below hb7)
        have HR7 := Lib.hid (ho7.lower HB6.out.size)
        have HB7 := Lib.hid (HB6.out.trans (hb7.mono HB6.out.size))
        clear ho7 hb7 hrow6 hp
        go_wp2
        go_ret3
        have HQ8 := HQ7.out
        have HR8 := HR7.out
        rw [HS.out] at HQ8
        rw [val_lim] at HR8
        exact ⟨X2, c2, Y2, d2, by rw [← HS.out]; first | rfl | (rw [val_lim]; rfl), HQ8, HR8, HB7.out⟩
      · obtain ⟨k, rfl⟩ : ∃ j, k = j + 1 := ⟨k - 1, by omega⟩
        have he1 : ((k + 1 : Nat) : Int) - 1 = (k : Int) := by omega
        simp only [he1]
        obtain ⟨s, t, hkst, ht, hsn⟩ : ∃ s t, k = 32 * s + t ∧ t < 32 ∧ s < n := ⟨k / 32, k % 32, by omega, by omega, by omega⟩
        have hq : (k : Int) / 32 = (s : Int) := by omega
        have hr : (k : Int) % 32 = (t : Int) := by omega
        have hal := ha1.len
        have hbit0 := bit_of ha1.l32 hkst ht (by omega)
        rw [HX.out] at hbit0
        obtain ⟨u1, u2⟩ := div_bit (x := x) (k := k) hyy
        obtain ⟨v1, v2⟩ := q_or HB.out.quo.l32 hkst ht (by rw [HB.out.quo.len]; exact hsn) HB.out.sum
        have hda := ha1.l32 s
        have hdq := HB.out.quo.l32 s
        have hor : bits BinOp.or IntKind.u32 ((dg Q s : Nat) : Int) ((2 : Int) ^ t % 4294967296) = ((dg Q s ||| 2 ^ t : Nat) : Int) := by
          have e : (2 : Int) ^ t = ((2 ^ t : Nat) : Int) := by rw [Int.natCast_pow]; rfl
          have e4 : ∀ u : Nat, u < 4294967296 → ((u : Nat) : Int) % 4294967296 = (u : Int) := by intro u hu; omega
          rw [e, e4 _ (pow_lt_32 ht)]
          exact u32_or_nat _ _ hdq (pow_lt_32 ht)
        have hand : bits BinOp.and IntKind.u32 (((dg a s : Nat) : Int) / (2 : Int) ^ t) 1 = ((dg a s / 2 ^ t % 2 : Nat) : Int) := by
          have e : (2 : Int) ^ t = ((2 ^ t : Nat) : Int) := by rw [Int.natCast_pow]; rfl
          rw [e]
          have e2 : ((dg a s : Nat) : Int) / ((2 ^ t : Nat) : Int) = ((dg a s / 2 ^ t : Nat) : Int) := rfl
          rw [e2]
          exact and_one (Nat.lt_of_le_of_lt (Nat.div_le_self _ _) hda)
        have hrl : (lim (x / 2 ^ (k + 1) % y)).length ≤ 8 := by
          have := lim_len_mono (Nat.le_of_lt (Nat.mod_lt (x / 2 ^ (k + 1)) hyy))
          omega
        have hrb : Bd (x / 2 ^ (k + 1) % y) 8 := by
          have h5 := val_lt (L32_lim (x / 2 ^ (k + 1) % y))
          rw [val_lim] at h5
          exact Nat.lt_of_lt_of_le h5 (Nat.pow_le_pow_right (by omega) hrl)
        obtain ⟨r, hrr⟩ : ∃ r, r = x / 2 ^ (k + 1) % y := ⟨_, rfl⟩
        rw [← hrr] at u1 u2 hrb
        have hrow := HB.out.row
        rw [← hrr] at hrow
        have hp := hrow.len
        have hvr : val (lim r) = r := val_lim r
        have hb2l : (lim (2 * r)).length ≤ 10 := by
          have h6 := (hrb.add hrb).more (show max 8 8 + 1 ≤ 10 by omega)
          rw [← Nat.two_mul] at h6
          exact h6.len
        have hb3l : (lim (2 * r + 1)).length ≤ 10 := by
          have h5 : Bd 1 1 := by show (1 : Nat) < 4294967296 ^ 1; omega
          have h6 := ((hrb.add hrb).add h5).more (show max (max 8 8 + 1) 1 + 1 ≤ 10 by omega)
          rw [← Nat.two_mul] at h6
          exact h6.len
        obtain ⟨b', off, rfl, h1, h2, hc⟩ := ha1.mem (by omega)
        have hca0 := hc s hsn
        have HBB := Lib.hid HB.out.below
        have HQO := Lib.hid HB.out.quo
        have HHX := Lib.hid (fun h => u1 h)
        have HHY := Lib.hid (fun h => u2 h)
        have HV1 := Lib.hid v1
        have HV2 := Lib.hid v2
        have HSM := Lib.hid HB.out.sum
        have HBIT := Lib.hid hbit0
        have HKS := Lib.hid hkst
        have HRR := Lib.hid hrr
        have hbt2 : dg a s / 2 ^ t % 2 = 0 ∨ dg a s / 2 ^ t % 2 = 1 := by omega
        have hpl : p = (lim r).length := hp.symm
        clear hbit0 u1 u2 v1 v2 HB HST ha1 hc hda hkst hrr hp hrb hyy he1 hal
        subst hpl
        rcases hbt2 with hbt | hbt
        · have hand1 : bits BinOp.and IntKind.u32 (((dg a s : Nat) : Int) / (2 : Int) ^ t) 1 = 0 := by rw [hand, hbt]; rfl
          have HT : Hid (2 * r + x / 2 ^ k % 2 = (2 * r)) := by show _ = _; have h9 := HBIT.out; omega
          clear hand hbt
          go_wp2_with fail
          refine (rShift_one r X _ cx (lim r) _ hvr (by omega) hpc hrow).mono ?_
          rintro e w5 ⟨X5, c5, rfl, ho5, hb5⟩
          have h5 := ho5.row.lower (Nat.zero_le _)
          have h5c := ho5.capLe
          have hca5 := (hb5.cell (p := ⟨b', off + s, none⟩) h2).trans hca0
          have HB5 := Lib.hid (HBB.out.trans (hb5.mono HBB.out.size))
          have HQ5 := Lib.hid (HQO.out.below hb5)
          clear ho5 hb5 hca0 hrow HBB HQO
          have hbw := HB0.out.below HB5.out
          by_cases hge : y ≤ (2 * r)
          · have hsg : ∃ sg : Int, 0 ≤ sg ∧ sg ≤ 1 ∧ cmpI (2 * r) y = sg := by
              refine ⟨_, ?_, ?_, rfl⟩
              · unfold cmpI; rw [if_neg (by omega)]; split <;> omega
              · unfold cmpI; rw [if_neg (by omega)]; split <;> omega
            obtain ⟨sg, hsg0, hsg1, hsg2⟩ := hsg
            have HSG := Lib.hid hsg2
            have HGE := Lib.hid hge
            clear hsg2 hge
            go_wp2_with fail
            refine (rCmp_v (2 * r) y sg X5 B (lim (2 * r)).length m c5 d (lim (2 * r)) b _ (val_lim _) HY.out HSG.out (by omega) (by omega) h5c hdm h5 hbw).mono ?_
            rintro e w7 ⟨rfl, hb7⟩
            have h7 := h5.below hb7
            have HB7 := Lib.hid (HB5.out.trans (hb7.mono HB5.out.size))
            have HQ7 := Lib.hid (HQ5.out.below hb7)
            have hbw7 := hbw.below hb7
            clear hb7 h5 hbw HB5 HQ5
            go_wp2_with fail
            refine (rSub_v (2 * r) y X5 B (lim (2 * r)).length m c5 d (lim (2 * r)) b _ (val_lim _) HY.out (by omega) (by omega) h5c hdm h7 hbw7 HGE.out).mono ?_
            rintro e w8 ⟨X8, c8, rfl, ho8, hb8⟩
            have h8 := ho8.row.lower (Nat.zero_le _)
            have h8c := ho8.capLe
            have hQ8 := HQ7.out.below hb8
            obtain ⟨e7, e8⟩ := HHY.out (by rw [HT.out]; exact HGE.out)
            rw [HT.out] at e8
            have hfin : Hid (BitAt w (w8.setCell ⟨w3.heap.size, s, none⟩ (.int .u32 ((dg Q s ||| 2 ^ t : Nat) : Int))) w3.heap.size n x y k (Q.set s (dg Q s ||| 2 ^ t)) X8 (lim ((2 * r) - y)).length) := by
              refine ⟨hQ8.set HV1.out, ?_, ?_, (HB7.out.trans (hb8.mono HB7.out.size)).setCell HW3.out.size _⟩
              · rw [HV2.out, e7]
              · rw [e8]
                refine h8.set _ (fun ad e => ?_)
                have := own_block ho8 ad e
                have hq9 := own_block HQ7.out _ rfl
                have : w3.heap.size < w7.heap.size := hq9.2
                show ad.block ≠ w3.heap.size
                omega
            have hl8 : (lim ((2 * r) - y)).length ≤ 8 := by
              have := lim_len_mono (Nat.le_of_lt (Nat.mod_lt (x / 2 ^ k) H0.out))
              rw [e8] at this
              omega
            obtain ⟨bq, oq, hAq, q1, q2, hcq⟩ := hQ8.row.mem (by omega)
            injection hAq with hAq
            injection hAq with eq1 eq2
            subst eq1 eq2
            have hcs := hcq s hsn
            rw [Nat.zero_add] at hcs
            have hfs := hQ8.own.frozenAt s
            clear hcq hQ8 h8 ho8 hb8 e7 e8 h7 hbw7 HB7 HQ7 hand1
            go_wp2
            go_roundw
            case rel => exact ⟨k, _, X8, _, c8, by omega, rfl, rfl, h8c, hl8, by first | exact hfin | (rw [hor]; exact hfin)⟩
            case measure => simp [intOf]
          · have hlt : (2 * r) < y := by omega
            obtain ⟨e7, e8⟩ := HHX.out (by rw [HT.out]; exact hlt)
            rw [HT.out] at e8
            have HSG := Lib.hid (cmpI_lt hlt)
            have hl8 : (lim (2 * r)).length ≤ 8 := by
              have := lim_len_mono (Nat.le_of_lt hlt)
              omega
            have E7 := Lib.hid e7
            have E8 := Lib.hid e8
            clear hge hlt e7 e8
            go_wp2_with fail
            refine (rCmp_v (2 * r) y (-1) X5 B (lim (2 * r)).length m c5 d (lim (2 * r)) b _ (val_lim _) HY.out HSG.out (by omega) (by omega) h5c hdm h5 hbw).mono ?_
            rintro e w7 ⟨rfl, hb7⟩
            have hfin : Hid (BitAt w w7 w3.heap.size n x y k Q X5 (lim (2 * r)).length) := by
              refine ⟨HQ5.out.below hb7, ?_, ?_, HB5.out.trans (hb7.mono HB5.out.size)⟩
              · rw [HSM.out, E7.out, Nat.pow_succ, Nat.mul_assoc]
              · rw [E8.out]; exact h5.below hb7
            clear hb7 h5 hbw HB5 HQ5 hand1
            go_wp2
            go_roundw
            case rel => exact ⟨k, Q, X5, _, c5, by omega, rfl, rfl, h5c, hl8, hfin⟩
            case measure => simp [intOf]
        · have hand1 : bits BinOp.and IntKind.u32 (((dg a s : Nat) : Int) / (2 : Int) ^ t) 1 = 1 := by rw [hand, hbt]; rfl
          have HT : Hid (2 * r + x / 2 ^ k % 2 = (2 * r + 1)) := by show _ = _; have h9 := HBIT.out; omega
          clear hand hbt
          go_wp2_with fail
          refine (rShift_one r X _ cx (lim r) _ hvr (by omega) hpc hrow).mono ?_
          rintro e w5 ⟨X5, c5, rfl, ho5, hb5⟩
          have h5 := ho5.row.lower (Nat.zero_le _)
          have h5c := ho5.capLe
          have hca5 := (hb5.cell (p := ⟨b', off + s, none⟩) h2).trans hca0
          have HB5 := Lib.hid (HBB.out.trans (hb5.mono HBB.out.size))
          have HQ5 := Lib.hid (HQO.out.below hb5)
          clear ho5 hb5 hca0 hrow HBB HQO
          have h1r : Row (w5.alloc (.cells #[.int .u32 1] 41)) 0 (some ⟨w5.heap.size, 0, none⟩) 1 [1] := Row.one (by rfl) (by omega) (Nat.zero_le _)
          go_wp2_with fail
          refine (rAdd_v (2 * r) 1 X5 _ (lim (2 * r)).length 1 c5 1 (lim (2 * r)) [1] _ (val_lim _) (by simp [val]) (by omega) (by omega) (h5.alloc _) h1r).mono ?_
          rintro e w6 ⟨X6, c6, rfl, ho6, hb6⟩
          have h6 := ho6.row.lower (Nat.zero_le _)
          have h6c := ho6.capLe
          have hb56 := (below_alloc w5 (.cells #[.int .u32 1] 41)).trans (hb6.mono (by simp))
          have HB6 := Lib.hid (HB5.out.trans (hb56.mono HB5.out.size))
          have HQ6 := Lib.hid (HQ5.out.below hb56)
          clear ho6 hb6 hb56 h5 h1r hca5 HB5 HQ5
          have hbw := HB0.out.below HB6.out
          by_cases hge : y ≤ (2 * r + 1)
          · have hsg : ∃ sg : Int, 0 ≤ sg ∧ sg ≤ 1 ∧ cmpI (2 * r + 1) y = sg := by
              refine ⟨_, ?_, ?_, rfl⟩
              · unfold cmpI; rw [if_neg (by omega)]; split <;> omega
              · unfold cmpI; rw [if_neg (by omega)]; split <;> omega
            obtain ⟨sg, hsg0, hsg1, hsg2⟩ := hsg
            have HSG := Lib.hid hsg2
            have HGE := Lib.hid hge
            clear hsg2 hge
            go_wp2_with fail
            refine (rCmp_v (2 * r + 1) y sg X6 B (lim (2 * r + 1)).length m c6 d (lim (2 * r + 1)) b _ (val_lim _) HY.out HSG.out (by omega) (by omega) h6c hdm h6 hbw).mono ?_
            rintro e w7 ⟨rfl, hb7⟩
            have h7 := h6.below hb7
            have HB7 := Lib.hid (HB6.out.trans (hb7.mono HB6.out.size))
            have HQ7 := Lib.hid (HQ6.out.below hb7)
            have hbw7 := hbw.below hb7
            clear hb7 h6 hbw HB6 HQ6
            go_wp2_with fail
            refine (rSub_v (2 * r + 1) y X6 B (lim (2 * r + 1)).length m c6 d (lim (2 * r + 1)) b _ (val_lim _) HY.out (by omega) (by omega) h6c hdm h7 hbw7 HGE.out).mono ?_
            rintro e w8 ⟨X8, c8, rfl, ho8, hb8⟩
            have h8 := ho8.row.lower (Nat.zero_le _)
            have h8c := ho8.capLe
            have hQ8 := HQ7.out.below hb8
            obtain ⟨e7, e8⟩ := HHY.out (by rw [HT.out]; exact HGE.out)
            rw [HT.out] at e8
            have hfin : Hid (BitAt w (w8.setCell ⟨w3.heap.size, s, none⟩ (.int .u32 ((dg Q s ||| 2 ^ t : Nat) : Int))) w3.heap.size n x y k (Q.set s (dg Q s ||| 2 ^ t)) X8 (lim ((2 * r + 1) - y)).length) := by
              refine ⟨hQ8.set HV1.out, ?_, ?_, (HB7.out.trans (hb8.mono HB7.out.size)).setCell HW3.out.size _⟩
              · rw [HV2.out, e7]
              · rw [e8]
                refine h8.set _ (fun ad e => ?_)
                have := own_block ho8 ad e
                have hq9 := own_block HQ7.out _ rfl
                have : w3.heap.size < w7.heap.size := hq9.2
                show ad.block ≠ w3.heap.size
                omega
            have hl8 : (lim ((2 * r + 1) - y)).length ≤ 8 := by
              have := lim_len_mono (Nat.le_of_lt (Nat.mod_lt (x / 2 ^ k) H0.out))
              rw [e8] at this
              omega
            obtain ⟨bq, oq, hAq, q1, q2, hcq⟩ := hQ8.row.mem (by omega)
            injection hAq with hAq
            injection hAq with eq1 eq2
            subst eq1 eq2
            have hcs := hcq s hsn
            rw [Nat.zero_add] at hcs
            have hfs := hQ8.own.frozenAt s
            clear hcq hQ8 h8 ho8 hb8 e7 e8 h7 hbw7 HB7 HQ7 hand1
            go_wp2
            go_roundw
            case rel => exact ⟨k, _, X8, _, c8, by omega, rfl, rfl, h8c, hl8, by first | exact hfin | (rw [hor]; exact hfin)⟩
            case measure => simp [intOf]
          · have hlt : (2 * r + 1) < y := by omega
            obtain ⟨e7, e8⟩ := HHX.out (by rw [HT.out]; exact hlt)
            rw [HT.out] at e8
            have HSG := Lib.hid (cmpI_lt hlt)
            have hl8 : (lim (2 * r + 1)).length ≤ 8 := by
              have := lim_len_mono (Nat.le_of_lt hlt)
              omega
            have E7 := Lib.hid e7
            have E8 := Lib.hid e8
            clear hge hlt e7 e8
            go_wp2_with fail
            refine (rCmp_v (2 * r + 1) y (-1) X6 B (lim (2 * r + 1)).length m c6 d (lim (2 * r + 1)) b _ (val_lim _) HY.out HSG.out (by omega) (by omega) h6c hdm h6 hbw).mono ?_
            rintro e w7 ⟨rfl, hb7⟩
            have hfin : Hid (BitAt w w7 w3.heap.size n x y k Q X6 (lim (2 * r + 1)).length) := by
              refine ⟨HQ6.out.below hb7, ?_, ?_, HB6.out.trans (hb7.mono HB6.out.size)⟩
              · rw [HSM.out, E7.out, Nat.pow_succ, Nat.mul_assoc]
              · rw [E8.out]; exact h6.below hb7
            clear hb7 h6 hbw HB6 HQ6 hand1
            go_wp2
            go_roundw
            case rel => exact ⟨k, Q, X6, _, c6, by omega, rfl, rfl, h6c, hl8, hfin⟩
            case measure => simp [intOf]
end Go.Proofs.Ytojgpoochclnfaa
