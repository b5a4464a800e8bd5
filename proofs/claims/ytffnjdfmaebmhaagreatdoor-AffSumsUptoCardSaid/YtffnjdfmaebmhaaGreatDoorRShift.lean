/-
  Shift: the document's way.
-/
import Derived.Test.YtffnjdfmaebmhaaGreatDoorShift
import Derived.Test.YtffnjdfmaebmhaaGreatDoorAdd
namespace Go.Proofs.YtffnjdfmaebmhaaGreatDoor
set_option maxRecDepth 20000
open Go.RowKit

/-- To the right: k digits are made. -/
structure RDnAt (w wr : World) (e : List Nat) (t k : Nat) (A : Option Addr) (cap : Nat) (r : List Nat) : Prop where
  own : Own wr w.heap.size A cap k r
  dig : ∀ j, j < k → dg r j = dn t (dg e j) (dg e (j + 1))
  below : Below w.heap.size w wr
theorem dg_snoc (r : List Nat) (x j : Nat) (hj : j < r.length) : dg (r ++ [x]) j = dg r j := by
  rw [dg_eq, dg_eq, List.getElem?_append_left hj]
theorem dg_snoc_last (r : List Nat) (x : Nat) : dg (r ++ [x]) r.length = x := by
  rw [dg_eq, List.getElem?_append_right (Nat.le_refl _), Nat.sub_self]; rfl
/-- A world that an append leaves, the row it was told of being the call's own. -/
theorem below_app {w wr w1 w3 : World} {A : Option Addr} {c n : Nat} {l : List Nat} (ho : Own wr w.heap.size A c n l) (hz : w.heap.size ≤ wr.heap.size) (hb : Below w.heap.size w wr) (h1 : Below wr.heap.size wr w1) (hg : w1.grownBy w3 (A.map (·.block))) : Below w.heap.size w w3 := by
  have hs := h1.size
  refine (hb.trans (h1.mono hz)).trans ⟨hg.os, hg.tape, hg.output, hg.size, fun q hq => hg.block q (by omega) ?_⟩
  cases A with
  | none => simp
  | some ad =>
    have := ho.own.lt ad.block rfl
    simp; omega
theorem RDnAt.step {w wr w1 w3 : World} {e : List Nat} {t k : Nat} {A A3 : Option Addr} {cap c3 : Nat} {r : List Nat} (h : RDnAt w wr e t k A cap r)
    (ho : Own w3 w.heap.size A3 c3 (k + 1) (r ++ [dn t (dg e k) (dg e (k + 1))])) (h1 : Below wr.heap.size wr w1) (hg : w1.grownBy w3 (A.map (·.block))) : RDnAt w w3 e t (k + 1) A3 c3 (r ++ [dn t (dg e k) (dg e (k + 1))]) := by
  have hl := h.own.len
  refine ⟨ho, fun j hj => ?_, below_app h.own h.below.size h.below h1 hg⟩
  by_cases hjk : j = k
  · subst hjk; rw [← hl, dg_snoc_last]
  · rw [dg_snoc _ _ _ (by omega)]; exact h.dig j (by omega)

/-- To the left: s noughts and k digits are made, low goes up. -/
structure RUpAt (w wr : World) (a : List Nat) (s t k low : Nat) (A : Option Addr) (cap : Nat) (r : List Nat) : Prop where
  own : Own wr w.heap.size A cap (s + k) r
  sum : val r + 4294967296 ^ (s + k) * low = 4294967296 ^ s * (S (fun j => dg a j) k * 2 ^ t)
  low : low < 2 ^ t
  below : Below w.heap.size w wr
theorem up_dig {x d t : Nat} (ht : t < 32) (hx : x % 2 ^ t = 0) (hd : d < 2 ^ t) : (x ||| d) = x + d ∧ (x + d) % 4294967296 + 4294967296 * (x / 4294967296) = x + d := by
  refine ⟨nat_join t x d hx hd, ?_⟩
  have h1 : (x % 4294967296) % 2 ^ t = 0 := by
    rw [← two_split ht, Nat.mod_mul_right_mod]; exact hx
  have h2 := mod_low h1 ht hd (Nat.mod_lt _ (by omega))
  omega
theorem RUpAt.step {w wr w1 w3 : World} {a : List Nat} {s t k low : Nat} {A A3 : Option Addr} {cap c3 : Nat} {r : List Nat} (h : RUpAt w wr a s t k low A cap r) (ht : t < 32) (hx : dg a k < 4294967296)
    (ho : Own w3 w.heap.size A3 c3 (s + k + 1) (r ++ [(dg a k * 2 ^ t ||| low) % 4294967296])) (h1 : Below wr.heap.size wr w1) (hg : w1.grownBy w3 (A.map (·.block))) :
    RUpAt w w3 a s t (k + 1) (dg a k * 2 ^ t / 4294967296) A3 c3 (r ++ [(dg a k * 2 ^ t ||| low) % 4294967296]) := by
  obtain ⟨e1, e2⟩ := up_dig ht (x := dg a k * 2 ^ t) (Nat.mul_mod_left _ _) h.low
  refine ⟨ho, ?_, (up_low hx ht).2.1, below_app h.own h.below.size h.below h1 hg⟩
  rw [e1, val_snoc, h.own.len, S, Nat.add_mul, Nat.mul_add, ← h.sum, ← Nat.add_assoc s k 1, Nat.pow_succ]
  have e3 : 4294967296 ^ s * (4294967296 ^ k * dg a k * 2 ^ t) = 4294967296 ^ (s + k) * (dg a k * 2 ^ t) := by
    rw [Nat.pow_add, Nat.mul_assoc, Nat.mul_assoc]
  rw [e3]
  have h5 := congrArg (4294967296 ^ (s + k) * ·) e2
  simp only [Nat.mul_add] at h5
  rw [← Nat.mul_assoc (4294967296 ^ (s + k)) 4294967296] at h5
  omega
theorem RUpAt.fin {w wr : World} {a : List Nat} {s t k low : Nat} {A : Option Addr} {cap : Nat} {r : List Nat} (h : RUpAt w wr a s t k low A cap r) (ht : t < 32) (ha : L32 a) (hk : a.length < k) : val r = val a * 2 ^ (32 * s + t) := by
  have h1 := h.sum
  rw [S_more a k (by omega)] at h1
  have h2 : val a * 2 ^ t < 4294967296 ^ k := by
    have h3 := val_lt ha
    have h4 := pow_lt_32 ht
    have h5 : val a * 2 ^ t < 4294967296 ^ a.length * 4294967296 := Nat.mul_lt_mul'' h3 h4
    rw [← Nat.pow_succ] at h5
    exact Nat.lt_of_lt_of_le h5 (Nat.pow_le_pow_right (by omega) hk)
  have h6 : 4294967296 ^ s * (val a * 2 ^ t) < 4294967296 ^ (s + k) := by
    rw [Nat.pow_add]; exact Nat.mul_lt_mul_of_pos_left h2 (Nat.pow_pos (by omega))
  have h7 : low = 0 := by
    rcases Nat.eq_zero_or_pos low with h0 | h0
    · exact h0
    · have : 4294967296 ^ (s + k) * 1 ≤ 4294967296 ^ (s + k) * low := Nat.mul_le_mul_left _ h0
      omega
  subst h7
  rw [Nat.mul_zero, Nat.add_zero] at h1
  rw [h1, ← pow_32, Nat.mul_left_comm]
theorem up_or64 {x d t : Nat} (hd : d < 4294967296) (h : x * 2 ^ t < 18446744073709551616) : bits BinOp.or IntKind.u64 (IntKind.u64.wrap ((x : Int) * 2 ^ t)) (d : Int) % 4294967296 = (((x * 2 ^ t ||| d) % 4294967296 : Nat) : Int) := by
  rw [shl_eq h, u64_or_nat _ d h (by omega)]
  rfl

set_option maxHeartbeats 800000 in
theorem rShift_pos (A : Option Addr) (n c : Nat) (a : List Nat) (i : Int) (w : World) (hn : n ≤ 100000) (hcn : n ≤ c) (ha : Row w 0 A n a) (h0 : 0 ≤ i) (hhi : i ≤ 9223372036854775807) :
    Calls Tryz.prog 97 #[.slice A n c, .int .i64 i] w fun e w' => ∃ A2 c2, e = .returned (.slice A2 (lim (sh (val a) i)).length c2) ∧ Own w' w.heap.size A2 c2 (lim (sh (val a) i)).length (lim (sh (val a) i)) ∧ Below w.heap.size w w' := by
  obtain ⟨i0, hi, hz0, hz1, hz2⟩ := info_parts Tryz.info74
  obtain ⟨h, hk, hk1⟩ := held_pos h0
  have E : Hid (sh (val a) i = val (lim (val a)) * 2 ^ h) := by
    show _ = _
    unfold sh
    rw [if_neg (by omega), hk, val_lim]
    congr 2
  have hna : (lim (val a)).length ≤ n := by have := lim_len_le ha.l32; have := ha.len; omega
  obtain ⟨s, t, hst⟩ : ∃ s t, h = 32 * s + t ∧ t < 32 := ⟨h / 32, h % 32, by omega, by omega⟩
  have ht := hst.2
  have hss : s ≤ 128 := by omega
  have HST := Lib.hid hst.1
  have hst1 := hst.1
  clear hst
  unfold held at hk
  have hq : (h : Int) / 32 = (s : Int) := by omega
  have hr : (h : Int) % 32 = (t : Int) := by omega
  clear hst1
  go_enter Tryz.func97, Tryz.ntmps97
  go_upto_region 1 with (fail)
  go_cut [1] (fun v wx => v = .int .i64 (h : Int) ∧ w = wx)
  case first =>
    clear hq hr
    by_cases hb : 4096 < i
    · have e : h = 4096 := by omega
      subst e
      go_wp2
      go_meet
      exact ⟨rfl, rfl⟩
    · have e : i = (h : Int) := by omega
      subst e
      go_wp2
      go_meet
      exact ⟨rfl, rfl⟩
  case rest =>
    obtain ⟨rfl, rfl⟩ := hcut
    clear hk
    have hd0 : decide ((h : Int) < 0) = false := by rw [decide_eq_false_iff_not]; omega
    go_wp2_with fail
    refine (rTrim_any A n c a _ (by omega) hcn ha).mono ?_
    rintro e w0 ⟨X, cx, rfl, ho, hb0⟩
    have hla := ho.row.lower (Nat.zero_le _)
    have hz00 := hb0.size
    clear ho ha
    go_wp2_with (at_make; refine wpList_make_full _ rfl _ _ _ rfl w0.heap.size 74 i0 (.int .u32 0) 1 Tryz.underlying23 hi hz0 hz1 .i64 .i64 _ _ s rfl rfl ?c4 ?c5 ?c1 ?c2 ?c3 ?_)
    case c4 => omega
    case c5 => omega
    case c1 => rw [hz2]; omega
    case c2 => unfold maxLen; omega
    case c3 => exact Nat.le_refl _
    intro w1 ho hg
    have hbg := below_of_grown hg
    have HS0 : Hid (RUpAt w0 w1 (lim (val a)) s t 0 0 (some ⟨w0.heap.size, 0, none⟩) s (List.replicate s 0)) :=
      ⟨Own.made ho, by rw [val_replicate]; simp [S], pow_pos2 t, hbg⟩
    clear ho hg hbg
    have HB0 := Lib.hid hb0
    clear hb0
    go_wp2
    simp only [hr]
    go_loopw [10, 12, 13, 14] (fun ov lv iv _ wr => ∃ (k low : Nat) (A2 : Option Addr) (c2 : Nat) (r : List Nat), k ≤ (lim (val a)).length + 1 ∧ low < 4294967296 ∧ ov = .slice A2 (s + k) c2 ∧ lv = .int .u64 low ∧ iv = .int .i64 k ∧ Hid (RUpAt w0 wr (lim (val a)) s t k low A2 c2 r)) (fun _ _ iv _ _ => (lim (val a)).length + 1 - (intOf iv).toNat)
    case atStart => exact ⟨0, 0, _, s, _, by omega, by omega, rfl, rfl, rfl, HS0⟩
    case round =>
      obtain ⟨k, low, A2, c2, r, hk, hlow, rfl, rfl, rfl, HA⟩ := hrel
      have OWN := Lib.hid HA.out.own
      have hrw := hla.below HA.out.below
      have hzr := HA.out.below.size
      by_cases hkn : k < (lim (val a)).length + 1
      · have hx := L32_lim (val a) k
        have hup := (up_low hx ht).1
        have hv := Lib.hid (up_or64 hlow hup)
        have STEP : Hid (∀ (A3 : Option Addr) (c3 : Nat) (w1 w3 : World), Own w3 w0.heap.size A3 c3 (s + k + 1) (r ++ [(dg (lim (val a)) k * 2 ^ t ||| low) % 4294967296]) → Below wr.heap.size wr w1 → w1.grownBy w3 (A2.map (·.block)) →
            RUpAt w0 w3 (lim (val a)) s t (k + 1) (dg (lim (val a)) k * 2 ^ t / 4294967296) A3 c3 (r ++ [(dg (lim (val a)) k * 2 ^ t ||| low) % 4294967296])) :=
          fun A3 c3 w1 w3 ho h1 hg => HA.out.step ht hx ho h1 hg
        have hup2 : dg (lim (val a)) k * 2 ^ t / 4294967296 < 4294967296 := by omega
        have hup3 : Hid (IntKind.u64.wrap ((dg (lim (val a)) k : Int) * 2 ^ t) / 4294967296 = ((dg (lim (val a)) k * 2 ^ t / 4294967296 : Nat) : Int)) := by
          show _ = _
          rw [shl_eq hup]; rfl
        clear HA HS0
        go_wp2_with fail
        refine (at_any X (lim (val a)).length cx (lim (val a)) k k _ (by omega) hrw rfl).mono ?_
        rintro e w' ⟨rfl, rfl⟩
        go_wp2_with (at_builtin; refine wpl_append rfl _ _ rfl rfl rfl (OWN.out.alloc _) (Row.one (x := (dg (lim (val a)) k * 2 ^ t ||| low) % 4294967296) (lo := 0) ?c1 ?c2 ?c3) ?c4 ?c5 ?_)
        case c1 => exact hv.out
        case c2 => omega
        case c3 => omega
        case c4 => omega
        case c5 => simp; omega
        intro A3 c3 w3 ho3 hg3
        have HA3 := Lib.hid (STEP.out A3 c3 _ w3 ho3 (below_alloc _ _) hg3)
        clear STEP ho3 hg3 hrw
        go_wp2
        go_roundw
        case rel => exact ⟨k + 1, _, A3, c3, _, by omega, hup2, rfl, by rw [hup3.out], by go_num, HA3⟩
        case measure => simp [intOf]; omega
      · have E1 : Hid (val r = sh (val a) i) := by
          show _ = _
          rw [HA.out.fin ht (L32_lim _) (by omega), E.out, HST.out]
        have hrow := OWN.out.row.lower (Nat.zero_le _)
        have hcap := OWN.out.capLe
        have hb3 := HA.out.below
        clear HA HS0 hrw
        go_wp2_with fail
        refine (rTrim_any A2 (s + k) c2 r _ (by omega) hcap hrow).mono ?_
        rintro e w3 ⟨A3, c3, rfl, ho3, hb4⟩
        have HO := Lib.hid ((ho3.lower hzr).lower hz00)
        have HB4 := Lib.hid (HB0.out.trans ((hb3.trans (hb4.mono hzr)).mono hz00))
        clear ho3 hb4 hb3
        go_wp2
        go_ret
        have HO2 := HO.out
        rw [E1.out] at HO2
        exact ⟨A3, c3, by rw [← E1.out]; rfl, HO2, HB4.out⟩
end Go.Proofs.YtffnjdfmaebmhaaGreatDoor
