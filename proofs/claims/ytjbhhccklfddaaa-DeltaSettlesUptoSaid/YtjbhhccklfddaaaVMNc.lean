/-
  Plain numbers: what a shift does to the limbs.
  A shift to the left.
  A shift to the right.
  Shift: n is held, then to the left or to the right.
  Shift: the document's way.
  Shift to the right: the document's way.
-/
import Derived.Test.YtjbhhccklfddaaaVMNb
import Derived.Test.YtjbhhccklfddaaaVMNa
namespace Go.Proofs.Ytjbhhccklfddaaa
set_option maxRecDepth 20000
theorem two_split {t : Nat} (ht : t < 32) : 2 ^ t * 2 ^ (32 - t) = 4294967296 := by
 rw [← Nat.pow_add, show t + (32 - t) = 32 by omega]
theorem pow_32 (s t : Nat) : 4294967296 ^ s * 2 ^ t = 2 ^ (32 * s + t) := by
 rw [Nat.pow_add, Nat.pow_mul]
theorem pow_lt_32 {t : Nat} (ht : t < 32) : 2 ^ t < 4294967296 := by
 have := Nat.pow_lt_pow_right (show 1 < 2 by omega) ht
 omega
theorem pow_pos2 (t : Nat) : 0 < 2 ^ t := Nat.pow_pos (by omega)
theorem up_low {x t : Nat} (hx : x < 4294967296) (ht : t < 32) : x * 2 ^ t < 18446744073709551616 ∧ x * 2 ^ t / 4294967296 < 2 ^ t ∧ (x * 2 ^ t % 4294967296) % 2 ^ t = 0 := by
 have h1 := two_split ht
 have h2 := pow_lt_32 ht
 have h3 := pow_pos2 t
 refine ⟨?_, ?_, ?_⟩
 ·
  calc x * 2 ^ t ≤ 4294967295 * 4294967295 := Nat.mul_le_mul (by omega) (by omega)
   _ < 18446744073709551616 := by decide
 ·
  rw [Nat.div_lt_iff_lt_mul (by omega), Nat.mul_comm]
  exact Nat.mul_lt_mul_of_pos_left hx h3
 · rw [← h1, Nat.mul_comm x, Nat.mul_mod_mul_left, Nat.mul_mod_right]
theorem or_low {d m t : Nat} (hd : d < 2 ^ t) (hm : m % 2 ^ t = 0) : d ||| m = d + m := by
 rw [Nat.or_comm, nat_join t m d hm hd, Nat.add_comm]
theorem mod_low {x d t : Nat} (hx : x % 2 ^ t = 0) (ht : t < 32) (hd : d < 2 ^ t) (hlt : x < 4294967296) : x + d < 4294967296 := by
 have h1 := two_split ht
 obtain ⟨q, rfl⟩ : ∃ q, x = 2 ^ t * q := ⟨x / 2 ^ t, by have := Nat.div_add_mod x (2 ^ t); omega⟩
 have h3 := pow_pos2 t
 have hq : q < 2 ^ (32 - t) := by
  rw [← h1] at hlt
  exact Nat.lt_of_mul_lt_mul_left hlt
 have h4 : 2 ^ t * (q + 1) ≤ 2 ^ t * 2 ^ (32 - t) := Nat.mul_le_mul_left _ hq
 rw [Nat.mul_add] at h4
 omega
structure UpAt (a : List Nat) (s t k : Nat) (L : List Nat) : Prop where
 sum : val L = 4294967296 ^ s * (S (fun j => dg a j) k * 2 ^ t)
 low : dg L (s + k) < 2 ^ t
 rest : ∀ j, s + k < j → dg L j = 0
theorem dg_set_eq (L : List Nat) (k x : Nat) (hk : k < L.length) : dg (L.set k x) k = x := by
 rw [dg_eq, List.getElem?_set_self hk]; rfl
theorem UpAt.step {a L : List Nat} {s t k : Nat} (h : UpAt a s t k L) (hlen : s + k + 1 < L.length) (hx : dg a k < 4294967296) (ht : t < 32) :
  UpAt a s t (k + 1) ((L.set (s + k) (dg L (s + k) ||| (dg a k * 2 ^ t % 4294967296))).set (s + k + 1) (dg a k * 2 ^ t / 4294967296)) ∧ dg L (s + k) ||| (dg a k * 2 ^ t % 4294967296) < 4294967296 ∧ dg a k * 2 ^ t / 4294967296 < 4294967296 := by
 obtain ⟨h1, h2, h3⟩ := up_low hx ht
 have h4 := pow_lt_32 ht
 have h5 := or_low h.low h3
 rw [h5]
 refine ⟨⟨?_, ?_, ?_⟩, ?_, by omega⟩
 ·
  have e1 := val_set L (s + k) (dg L (s + k) + dg a k * 2 ^ t % 4294967296) (by omega)
  have e2 := val_set (L.set (s + k) (dg L (s + k) + dg a k * 2 ^ t % 4294967296)) (s + k + 1) (dg a k * 2 ^ t / 4294967296) (by simp; omega)
  have hz : dg L (s + k + 1) = 0 := h.rest _ (by omega)
  rw [dg_set_ne _ _ _ _ (show s + k ≠ s + k + 1 by omega), hz, Nat.mul_zero, Nat.add_zero] at e2
  rw [e2]
  rw [Nat.mul_add] at e1
  rw [S, Nat.add_mul, Nat.mul_add, ← h.sum, Nat.pow_succ]
  have e3 : 4294967296 ^ s * (4294967296 ^ k * dg a k * 2 ^ t) = 4294967296 ^ (s + k) * (dg a k * 2 ^ t) := by
   rw [Nat.pow_add, Nat.mul_assoc, Nat.mul_assoc]
  rw [e3]
  have e4 : 4294967296 ^ (s + k) * (dg a k * 2 ^ t) = 4294967296 ^ (s + k) * (dg a k * 2 ^ t % 4294967296) + 4294967296 ^ (s + k) * 4294967296 * (dg a k * 2 ^ t / 4294967296) := by
   rw [Nat.mul_assoc, ← Nat.mul_add, Nat.mod_add_div]
  omega
 · rw [show s + (k + 1) = s + k + 1 by omega, dg_set_eq _ _ _ (by simp; omega)]; exact h2
 ·
  intro j hj
  rw [dg_set_ne _ _ _ _ (by omega), dg_set_ne _ _ _ _ (by omega)]
  exact h.rest j (by omega)
 ·
  have := mod_low h3 ht h.low (by omega)
  omega
theorem shl_eq {x t : Nat} (h : x * 2 ^ t < 18446744073709551616) : IntKind.u64.wrap ((x : Int) * 2 ^ t) = ((x * 2 ^ t : Nat) : Int) := by
 have e : (x : Int) * 2 ^ t = ((x * 2 ^ t : Nat) : Int) := by rw [Int.natCast_mul, Int.natCast_pow]; rfl
 rw [e]
 exact IntWalk.u64_in _ (by omega)
theorem up_or {x d t : Nat} (hd : d < 4294967296) (h : x * 2 ^ t < 18446744073709551616) : bits BinOp.or IntKind.u32 (d : Int) (IntKind.u64.wrap ((x : Int) * 2 ^ t) % 4294967296) = ((d ||| (x * 2 ^ t % 4294967296) : Nat) : Int) := by
 rw [shl_eq h]
 exact u32_or_nat d (x * 2 ^ t % 4294967296) hd (Nat.mod_lt _ (by omega))
theorem up_hi {x t : Nat} (h : x * 2 ^ t < 18446744073709551616) : IntKind.u64.wrap ((x : Int) * 2 ^ t) / 4294967296 % 4294967296 = ((x * 2 ^ t / 4294967296 : Nat) : Int) := by
 rw [shl_eq h]; omega
def dn (t x y : Nat) : Nat := (y * 4294967296 + x) / 2 ^ t % 4294967296
theorem dn_eq {t x y : Nat} (ht : t < 32) (hx : x < 4294967296) : 2 ^ t * dn t x y + x % 2 ^ t = x + 4294967296 * (y % 2 ^ t) := by
 have h1 := two_split ht
 have h3 := pow_pos2 t
 have e1 : (y * 4294967296 + x) / 2 ^ t = y * 2 ^ (32 - t) + x / 2 ^ t := by
  rw [← h1, show y * (2 ^ t * 2 ^ (32 - t)) = 2 ^ t * (y * 2 ^ (32 - t)) by rw [Nat.mul_left_comm], Nat.mul_add_div h3]
 have e2 : x / 2 ^ t < 2 ^ (32 - t) := by
  rw [Nat.div_lt_iff_lt_mul h3, Nat.mul_comm, h1]; exact hx
 have hy := Nat.div_add_mod y (2 ^ t)
 have e3 : y * 2 ^ (32 - t) = 4294967296 * (y / 2 ^ t) + (y % 2 ^ t) * 2 ^ (32 - t) := by
  have : y * 2 ^ (32 - t) = (2 ^ t * (y / 2 ^ t) + y % 2 ^ t) * 2 ^ (32 - t) := by rw [hy]
  rw [this, Nat.add_mul, Nat.mul_right_comm, h1]
 have e4 : y % 2 ^ t < 2 ^ t := Nat.mod_lt _ h3
 have e5 : (y % 2 ^ t) * 2 ^ (32 - t) + x / 2 ^ t < 4294967296 := by
  have : (y % 2 ^ t + 1) * 2 ^ (32 - t) ≤ 2 ^ t * 2 ^ (32 - t) := Nat.mul_le_mul_right _ e4
  rw [Nat.add_mul, h1] at this
  omega
 have e6 : dn t x y = (y % 2 ^ t) * 2 ^ (32 - t) + x / 2 ^ t := by
  unfold dn
  rw [e1, e3, Nat.add_assoc, Nat.mul_add_mod, Nat.mod_eq_of_lt e5]
 rw [e6, Nat.mul_add]
 have e7 : 2 ^ t * ((y % 2 ^ t) * 2 ^ (32 - t)) = 4294967296 * (y % 2 ^ t) := by
  rw [Nat.mul_left_comm, h1, Nat.mul_comm]
 rw [e7]
 have := Nat.div_add_mod x (2 ^ t)
 omega
theorem dn_lt (t x y : Nat) : dn t x y < 4294967296 := Nat.mod_lt _ (by omega)
theorem down_sum {e : List Nat} {t : Nat} (ht : t < 32) (he : L32 e) : ∀ k, 2 ^ t * S (fun j => dn t (dg e j) (dg e (j + 1))) k + dg e 0 % 2 ^ t = S (fun j => dg e j) k + 4294967296 ^ k * (dg e k % 2 ^ t) := by
 intro k
 induction k with
 | zero => simp [S]
 |
  succ k ih =>
  rw [S, S, Nat.mul_add, Nat.pow_succ]
  have h := congrArg (4294967296 ^ k * ·) (dn_eq (y := dg e (k + 1)) ht (he k))
  simp only [Nat.mul_add] at h
  rw [Nat.mul_left_comm, ← Nat.mul_assoc (4294967296 ^ k) 4294967296] at h
  omega
theorem down_end {e r : List Nat} {t : Nat} (ht : t < 32) (he : L32 e) (hlen : r.length = e.length) (hr : ∀ j, j < r.length → dg r j = dn t (dg e j) (dg e (j + 1))) : val r = val e / 2 ^ t := by
 have h := down_sum ht he e.length
 rw [S_val e, dg_out (Nat.le_refl _), Nat.zero_mod, Nat.mul_zero, Nat.add_zero] at h
 have e1 : S (fun j => dn t (dg e j) (dg e (j + 1))) e.length = val r := by
  rw [← S_val r, hlen]
  exact S_congr fun i hi => (hr i (by omega)).symm
 rw [e1] at h
 have h2 : dg e 0 % 2 ^ t < 2 ^ t := Nat.mod_lt _ (pow_pos2 t)
 rw [← h, Nat.mul_add_div (pow_pos2 t), Nat.div_eq_of_lt h2]; rfl
theorem val_drop (l : List Nat) (s : Nat) (hl : L32 l) (hs : s ≤ l.length) : val (l.drop s) = val l / 4294967296 ^ s := by
 have h := val_take_drop l s hs
 have h2 := val_lt (hl.take s)
 rw [List.length_take, Nat.min_eq_left hs] at h2
 rw [h, Nat.add_comm, Nat.mul_add_div (Nat.pow_pos (by omega)), Nat.div_eq_of_lt h2]; rfl
theorem dg_drop (l : List Nat) (s j : Nat) : dg (l.drop s) j = dg l (s + j) := by
 rw [dg_eq, dg_eq, List.getElem?_drop]
def held (i : Int) : Int := min (max i (-4096)) 4096
def sh (x : Nat) (i : Int) : Nat := if held i < 0 then x / 2 ^ (-held i).toNat else x * 2 ^ (held i).toNat
end Go.Proofs.Ytjbhhccklfddaaa
namespace Go.Proofs.Ytjbhhccklfddaaa
set_option maxRecDepth 20000
open Go.RowKit
structure ShUpAt (w wr : World) (g N : Nat) (a : List Nat) (s t k : Nat) (L : List Nat) : Prop where
 own : Own wr w.heap.size (some ⟨g, 0, none⟩) N N L
 up : UpAt a s t k L
 below : Below w.heap.size w wr
set_option maxHeartbeats 800000 in
theorem shiftUp_any (A : Option Addr) (n c : Nat) (a : List Nat) (h : Nat) (w : World) (hn : n ≤ 1000000000000) (hh : h ≤ 4096) (ha : Row w 0 A n a) :
  Calls Try.prog 105 #[.slice A n c, .int .i64 (h : Int)] w fun e w' => ∃ A2 c2, e = .returned (.slice A2 (lim (val a * 2 ^ h)).length c2) ∧ Own w' w.heap.size A2 c2 (lim (val a * 2 ^ h)).length (lim (val a * 2 ^ h)) ∧ Below w.heap.size w w' := by
 obtain ⟨i0, hi, hz0, hz1, hz2⟩ := info_parts Try.info66
 obtain ⟨s, t, hst⟩ : ∃ s t, h = 32 * s + t ∧ t < 32 := ⟨h / 32, h % 32, by omega, by omega⟩
 have ht := hst.2
 have hq : (h : Int) / 32 = (s : Int) := by omega
 have hr : (h : Int) % 32 = (t : Int) := by omega
 have HST := Lib.hid hst.1
 clear hst
 go_enter Try.func105, Try.ntmps105
 go_wp2_with (at_make; refine wpList_make_full _ rfl _ _ _ rfl w.heap.size 66 i0 (.int .u32 0) 1 Try.underlying35 hi hz0 hz1 .i64 .i64 _ _ (s + n + 1) rfl rfl ?c4 ?c5 ?c1 ?c2 ?c3 ?_)
 case c4 => omega
 case c5 => omega
 case c1 => rw [hz2]; omega
 case c2 => unfold maxLen; omega
 case c3 => exact Nat.le_refl _
 intro w1 ho hg
 have HS0 : Hid (ShUpAt w w1 w.heap.size (s + n + 1) a s t 0 (List.replicate (s + n + 1) 0)) :=
  ⟨Own.made ho, ⟨by rw [val_replicate]; simp [S], by rw [dg_replicate]; exact pow_pos2 t, fun j _ => dg_replicate _ j⟩, below_of_grown hg⟩
 clear ho hg
 go_wp2
 go_loopw [8, 9, 10, 23] (fun _ _ _ iv wr => ∃ (k : Nat) (L : List Nat), k ≤ n ∧ iv = .int .i64 k ∧ Hid (ShUpAt w wr w.heap.size (s + n + 1) a s t k L)) (fun _ _ _ iv _ => n - (intOf iv).toNat)
 case atStart => exact ⟨0, _, by omega, rfl, HS0⟩
 case round =>
  obtain ⟨k, L, hk, rfl, HA⟩ := hrel
  by_cases h0 : k < n
  ·
   have ha1 := ha.below HA.out.below
   have hx := ha.l32 k
   obtain ⟨u1, u2, u3⟩ := HA.out.up.step (by rw [HA.out.own.len]; omega) hx ht
   have hlow := HA.out.own.l32 (s + k)
   have HO1 := HA.out.own.set (j := s + k) u2
   have hb1 := HA.out.below.setCell (p := ⟨w.heap.size, s + k, none⟩) (Nat.le_refl _) (.int .u32 ((dg L (s + k) ||| (dg a k * 2 ^ t % 4294967296) : Nat) : Int))
   have HN : Hid (ShUpAt w ((wr.setCell ⟨w.heap.size, s + k, none⟩ (.int .u32 ((dg L (s + k) ||| (dg a k * 2 ^ t % 4294967296) : Nat) : Int))).setCell ⟨w.heap.size, s + k + 1, none⟩ (.int .u32 ((dg a k * 2 ^ t / 4294967296 : Nat) : Int))) w.heap.size (s + n + 1) a s t (k + 1)
     ((L.set (s + k) (dg L (s + k) ||| (dg a k * 2 ^ t % 4294967296))).set (s + k + 1) (dg a k * 2 ^ t / 4294967296))) :=
    ⟨HO1.set u3, u1, hb1.setCell (Nat.le_refl _) _⟩
   obtain ⟨b', off, rfl, h1, h2, hc⟩ := ha1.mem (by omega)
   have hcb := hc k h0
   obtain ⟨b2, off2, hA, h3, h4, hc2⟩ := HA.out.own.row.mem (by omega)
   injection hA with hA
   injection hA with e1 e2
   subst e1 e2
   have hcs := hc2 (s + k) (by omega)
   have hcs2 := hc2 (s + k + 1) (by omega)
   rw [Nat.zero_add] at hcs hcs2
   have hfs := HA.out.own.own.frozenAt (s + k)
   have hfs2 := HA.out.own.own.frozenAt (s + k + 1)
   have hup := (up_low hx ht).1
   clear hc hc2 HA HS0 ha1 HO1 hb1 u1
   go_wp2
   go_roundw
   case rel => exact ⟨k + 1, _, by omega, by go_num, by rw [up_or hlow hup, up_hi hup]; exact HN⟩
   case measure => simp [intOf]; omega
  ·
   have E1 : Hid (val L = val a * 2 ^ h) := by
    show _ = _
    rw [HA.out.up.sum, S_more a k (by rw [ha.len]; omega), HST.out, ← pow_32, Nat.mul_left_comm]
   have hrow := HA.out.own.row.lower (Nat.zero_le _)
   have HO := Lib.hid HA.out.own.lim
   have hb3 := HA.out.below
   clear HA HS0
   go_wp2_with fail
   refine (head_any _ _ _ L _ (by omega) (Nat.le_refl _) hrow).mono ?_
   rintro e w' ⟨rfl, rfl⟩
   go_wp2
   go_ret
   have HO2 := HO.out
   rw [E1.out] at HO2
   exact ⟨_, _, by rw [← E1.out]; rfl, HO2, hb3⟩
end Go.Proofs.Ytjbhhccklfddaaa
namespace Go.Proofs.Ytjbhhccklfddaaa
set_option maxRecDepth 20000
open Go.RowKit
structure ShDnAt (w wr : World) (g N : Nat) (e : List Nat) (t k : Nat) (L : List Nat) : Prop where
 own : Own wr w.heap.size (some ⟨g, 0, none⟩) N N L
 dig : ∀ j, j < k → dg L j = dn t (dg e j) (dg e (j + 1))
 below : Below w.heap.size w wr
theorem ShDnAt.step {w wr : World} {g N : Nat} {e : List Nat} {t k : Nat} {L : List Nat} (h : ShDnAt w wr g N e t k L) (hk : k < N) (hg : w.heap.size ≤ g) :
  ShDnAt w (wr.setCell ⟨g, k, none⟩ (.int .u32 ((dn t (dg e k) (dg e (k + 1)) : Nat) : Int))) g N e t (k + 1) (L.set k (dn t (dg e k) (dg e (k + 1)))) := by
 refine ⟨h.own.set (dn_lt _ _ _), fun j hj => ?_, h.below.setCell hg _⟩
 by_cases hjk : j = k
 · subst hjk; rw [dg_set_eq _ _ _ (by rw [h.own.len]; exact hk)]
 · rw [dg_set_ne _ _ _ _ (by omega)]; exact h.dig j (by omega)
theorem down_zero {a : List Nat} {s t : Nat} (ha : L32 a) (hs : a.length ≤ s) : val a / 2 ^ (32 * s + t) = 0 := by
 refine Nat.div_eq_of_lt ?_
 rw [← pow_32]
 have h1 := val_lt ha
 have h2 : 4294967296 ^ a.length ≤ 4294967296 ^ s := Nat.pow_le_pow_right (by omega) hs
 have h3 : 4294967296 ^ s * 1 ≤ 4294967296 ^ s * 2 ^ t := Nat.mul_le_mul_left _ (pow_pos2 t)
 omega
theorem down_val {a r : List Nat} {s t : Nat} (ha : L32 a) (ht : t < 32) (hs : s ≤ a.length) (hlen : r.length = a.length - s) (hr : ∀ j, j < r.length → dg r j = dn t (dg (a.drop s) j) (dg (a.drop s) (j + 1))) : val r = val a / 2 ^ (32 * s + t) := by
 rw [down_end ht (ha.drop s) (by simp; omega) hr, val_drop a s ha hs, Nat.div_div_eq_div_mul, pow_32]
theorem dn_int {x y t : Nat} (hx : x < 4294967296) (hy : y < 4294967296) : bits BinOp.or IntKind.u64 ((y : Int) * 4294967296) (x : Int) / 2 ^ t % 4294967296 = ((dn t x y : Nat) : Int) := by
 have e : (y : Int) * 4294967296 = ((y * 4294967296 : Nat) : Int) := by omega
 rw [e, u64_or_nat _ _ (by omega) (by omega), nat_join 32 _ x (by show y * 4294967296 % 4294967296 = 0; omega) hx]
 rfl
set_option maxHeartbeats 400000 in
theorem shiftDown_none (A : Option Addr) (n c : Nat) (a : List Nat) (h : Nat) (w : World) (hn : n ≤ 1000000000000) (hh : h ≤ 4096) (ha : Row w 0 A n a) (hs : n ≤ h / 32) :
  Calls Try.prog 104 #[.slice A n c, .int .i64 (h : Int)] w fun e w' => ∃ A2 c2, e = .returned (.slice A2 (lim (val a / 2 ^ h)).length c2) ∧ Own w' w.heap.size A2 c2 (lim (val a / 2 ^ h)).length (lim (val a / 2 ^ h)) ∧ Below w.heap.size w w' := by
 have hz : Hid (lim (val a / 2 ^ h) = []) := by
  show _ = _
  have := down_zero (t := h % 32) ha.l32 (s := h / 32) (by rw [ha.len]; exact hs)
  rw [show 32 * (h / 32) + h % 32 = h by omega] at this
  rw [this, lim_zero]
 clear ha
 go_enter Try.func104, Try.ntmps104
 go_wp2
 go_ret
 rw [hz.out]
 exact ⟨none, 0, rfl, Own.nil_ _ _, Below.refl _ _⟩
set_option maxHeartbeats 800000 in
theorem shiftDown_some (A : Option Addr) (n c : Nat) (a : List Nat) (h : Nat) (w : World) (hn : n ≤ 1000000000000) (hh : h ≤ 4096) (ha : Row w 0 A n a) (hs : h / 32 < n) :
  Calls Try.prog 104 #[.slice A n c, .int .i64 (h : Int)] w fun e w' => ∃ A2 c2, e = .returned (.slice A2 (lim (val a / 2 ^ h)).length c2) ∧ Own w' w.heap.size A2 c2 (lim (val a / 2 ^ h)).length (lim (val a / 2 ^ h)) ∧ Below w.heap.size w w' := by
 obtain ⟨i0, hi, hz0, hz1, hz2⟩ := info_parts Try.info66
 obtain ⟨s, t, hst⟩ : ∃ s t, h = 32 * s + t ∧ t < 32 := ⟨h / 32, h % 32, by omega, by omega⟩
 have ht := hst.2
 have hq : (h : Int) / 32 = (s : Int) := by omega
 have hr : (h : Int) % 32 = (t : Int) := by omega
 have hsn : s < n := by omega
 obtain ⟨N, hN⟩ : ∃ N, n = s + N := ⟨n - s, by omega⟩
 have HST := Lib.hid hst.1
 have HNS := Lib.hid hN
 have hN1 : n ≤ s + N := by omega
 have hN2 : s + N ≤ n := by omega
 have hsub : (n : Int) - (s : Int) = (N : Int) := by omega
 clear hst hs hN
 go_enter Try.func104, Try.ntmps104
 go_wp2_with (at_make; refine wpList_make_full _ rfl _ _ _ rfl w.heap.size 66 i0 (.int .u32 0) 1 Try.underlying35 hi hz0 hz1 .i64 .i64 _ _ N rfl rfl ?c4 ?c5 ?c1 ?c2 ?c3 ?_)
 case c4 => omega
 case c5 => omega
 case c1 => rw [hz2]; omega
 case c2 => unfold maxLen; omega
 case c3 => exact Nat.le_refl _
 intro w1 ho hg
 have HS0 : Hid (ShDnAt w w1 w.heap.size N (a.drop s) t 0 (List.replicate N 0)) :=
  ⟨Own.made ho, fun j hj => absurd hj (by omega), below_of_grown hg⟩
 clear ho hg
 go_wp2
 go_loopw [8, 9, 25] (fun _ _ iv wr => ∃ (k : Nat) (L : List Nat), k ≤ N ∧ iv = .int .i64 k ∧ Hid (ShDnAt w wr w.heap.size N (a.drop s) t k L)) (fun _ _ iv _ => N - (intOf iv).toNat)
 case atStart => exact ⟨0, _, by omega, rfl, HS0⟩
 case round =>
  obtain ⟨k, L, hk, rfl, HA⟩ := hrel
  by_cases h0 : k < N
  ·
   have ha1 := ha.below HA.out.below
   have hx := ha.l32 (s + k)
   have hy := ha.l32 (s + k + 1)
   have HN : Hid (∀ (q : Nat) (v : Int), v = ((dn t (dg a (s + k)) (dg a (s + k + 1)) : Nat) : Int) → ShDnAt w ((wr.drewN q).setCell ⟨w.heap.size, k, none⟩ (.int .u32 v)) w.heap.size N (a.drop s) t (k + 1) (L.set k (dn t (dg a (s + k)) (dg a (s + k + 1))))) := by
    intro q v hv
    have h1 : ShDnAt w (wr.drewN q) w.heap.size N (a.drop s) t k L := ⟨HA.out.own.drewN q, HA.out.dig, HA.out.below.trans (below_drewN' _ _ _)⟩
    have h2 := h1.step h0 (Nat.le_refl _)
    rw [dg_drop, dg_drop, ← Nat.add_assoc] at h2
    rw [hv]; exact h2
   obtain ⟨b', off, rfl, h1, h2, hc⟩ := ha1.mem (by omega)
   have hcb := hc (s + k) (by omega)
   obtain ⟨b2, off2, hA, h3, h4, hc2⟩ := HA.out.own.row.mem (by omega)
   injection hA with hA
   injection hA with e1 e2
   subst e1 e2
   have hcs := hc2 k (by omega)
   rw [Nat.zero_add] at hcs
   have hfs := HA.out.own.own.frozenAt k
   have hb5 : s + k < n := by omega
   clear hc hc2 HA HS0 ha
   go_wp2
   go_quiet ((go_at_call 109; exact qleft (limbAt_any _ n c a _ (s + k + 1) _ (by omega) (ha1.drewN _) (by omega))))
   go_wp2
   go_roundw
   case rel => exact ⟨k + 1, _, by omega, by go_num, HN.out _ _ (dn_int hx hy)⟩
   case measure => simp [intOf]; omega
  ·
   have E1 : Hid (val L = val a / 2 ^ h) := by
    show _ = _
    have := down_val ha.l32 ht (s := s) (r := L) (by rw [ha.len]; omega) (by rw [HA.out.own.len, ha.len]; omega) (fun j hj => HA.out.dig j (by have := HA.out.own.len; omega))
    rw [this, HST.out]
   have hrow := HA.out.own.row.lower (Nat.zero_le _)
   have HO := Lib.hid HA.out.own.lim
   have hb3 := HA.out.below
   clear HA HS0
   go_wp2_with fail
   refine (head_any _ _ _ L _ (by omega) (Nat.le_refl _) hrow).mono ?_
   rintro e w' ⟨rfl, rfl⟩
   go_wp2
   go_ret
   have HO2 := HO.out
   rw [E1.out] at HO2
   exact ⟨_, _, by rw [← E1.out]; rfl, HO2, hb3⟩
theorem shiftDown_any (A : Option Addr) (n c : Nat) (a : List Nat) (h : Nat) (i : Int) (w : World) (hi : i = (h : Int)) (hn : n ≤ 1000000000000) (hh : h ≤ 4096) (ha : Row w 0 A n a) :
  Calls Try.prog 104 #[.slice A n c, .int .i64 i] w fun e w' => ∃ A2 c2, e = .returned (.slice A2 (lim (val a / 2 ^ h)).length c2) ∧ Own w' w.heap.size A2 c2 (lim (val a / 2 ^ h)).length (lim (val a / 2 ^ h)) ∧ Below w.heap.size w w' := by
 subst hi
 by_cases hs : h / 32 < n
 · exact shiftDown_some A n c a h w hn hh ha hs
 · exact shiftDown_none A n c a h w hn hh ha (by omega)
end Go.Proofs.Ytjbhhccklfddaaa
namespace Go.Proofs.Ytjbhhccklfddaaa
set_option maxRecDepth 20000
open Go.RowKit
theorem held_neg {i : Int} (h : i < 0) : ∃ k : Nat, held i = -(k : Int) ∧ 0 < k ∧ k ≤ 4096 := by
 refine ⟨(-held i).toNat, ?_, ?_, ?_⟩ <;> unfold held <;> omega
theorem held_pos {i : Int} (h : 0 ≤ i) : ∃ k : Nat, held i = (k : Int) ∧ k ≤ 4096 := by
 refine ⟨(held i).toNat, ?_, ?_⟩ <;> unfold held <;> omega
theorem shiftUp_i (A : Option Addr) (n c : Nat) (a : List Nat) (h : Nat) (i : Int) (w : World) (hi : i = (h : Int)) (hn : n ≤ 1000000000000) (hh : h ≤ 4096) (ha : Row w 0 A n a) :
  Calls Try.prog 105 #[.slice A n c, .int .i64 i] w fun e w' => ∃ A2 c2, e = .returned (.slice A2 (lim (val a * 2 ^ h)).length c2) ∧ Own w' w.heap.size A2 c2 (lim (val a * 2 ^ h)).length (lim (val a * 2 ^ h)) ∧ Below w.heap.size w w' := by
 subst hi; exact shiftUp_any A n c a h w hn hh ha
set_option maxHeartbeats 400000 in
theorem Shift_neg (A : Option Addr) (n c : Nat) (a : List Nat) (i : Int) (w : World) (hn : n ≤ 1000000000000) (hcn : n ≤ c) (ha : Row w 0 A n a) (h0 : i < 0) (hlo : -9223372036854775808 ≤ i) :
  Calls Try.prog 102 #[.slice A n c, .int .i64 i] w fun e w' => ∃ A2 c2, e = .returned (.slice A2 (lim (sh (val a) i)).length c2) ∧ Own w' w.heap.size A2 c2 (lim (sh (val a) i)).length (lim (sh (val a) i)) ∧ Below w.heap.size w w' := by
 obtain ⟨k, hk, hk0, hk1⟩ := held_neg h0
 have E : Hid (sh (val a) i = val (lim (val a)) / 2 ^ k) := by
  show _ = _
  unfold sh
  rw [if_pos (by omega), hk, val_lim]
  congr 2
  omega
 have hla := ha.lim
 have hna : (lim (val a)).length ≤ n := by have := lim_len_le ha.l32; have := ha.len; omega
 unfold held at hk
 by_cases hb : i < -4096
 all_goals
  go_enter Try.func102, Try.ntmps102
  go_wp2_with fail
  refine (head_any A n c a _ (by omega) hcn ha).mono ?_
  rintro e w' ⟨rfl, rfl⟩
  go_wp2_with fail
  refine (shiftDown_any A (lim (val a)).length c (lim (val a)) k _ _ (by omega) (by omega) hk1 hla).mono ?_
  rintro e w1 ⟨A2, c2, rfl, ho, hb1⟩
  have HO := Lib.hid ho
  clear ho
  go_wp2
  go_ret
  rw [E.out]
  exact ⟨A2, c2, rfl, HO.out, hb1⟩
set_option maxHeartbeats 400000 in
theorem Shift_pos (A : Option Addr) (n c : Nat) (a : List Nat) (i : Int) (w : World) (hn : n ≤ 1000000000000) (hcn : n ≤ c) (ha : Row w 0 A n a) (h0 : 0 ≤ i) (hhi : i ≤ 9223372036854775807) :
  Calls Try.prog 102 #[.slice A n c, .int .i64 i] w fun e w' => ∃ A2 c2, e = .returned (.slice A2 (lim (sh (val a) i)).length c2) ∧ Own w' w.heap.size A2 c2 (lim (sh (val a) i)).length (lim (sh (val a) i)) ∧ Below w.heap.size w w' := by
 obtain ⟨k, hk, hk1⟩ := held_pos h0
 have E : Hid (sh (val a) i = val (lim (val a)) * 2 ^ k) := by
  show _ = _
  unfold sh
  rw [if_neg (by omega), hk, val_lim]
  congr 2
 have hla := ha.lim
 have hna : (lim (val a)).length ≤ n := by have := lim_len_le ha.l32; have := ha.len; omega
 unfold held at hk
 by_cases hb : 4096 < i
 all_goals
  go_enter Try.func102, Try.ntmps102
  go_wp2_with fail
  refine (head_any A n c a _ (by omega) hcn ha).mono ?_
  rintro e w' ⟨rfl, rfl⟩
  go_wp2_with fail
  refine (shiftUp_i A (lim (val a)).length c (lim (val a)) k _ _ (by omega) (by omega) hk1 hla).mono ?_
  rintro e w1 ⟨A2, c2, rfl, ho, hb1⟩
  have HO := Lib.hid ho
  clear ho
  go_wp2
  go_ret
  rw [E.out]
  exact ⟨A2, c2, rfl, HO.out, hb1⟩
theorem Shift_any (A : Option Addr) (n c : Nat) (a : List Nat) (i : Int) (w : World) (hn : n ≤ 1000000000000) (hcn : n ≤ c) (ha : Row w 0 A n a) (hi : -9223372036854775808 ≤ i ∧ i ≤ 9223372036854775807) :
  Calls Try.prog 102 #[.slice A n c, .int .i64 i] w fun e w' => ∃ A2 c2, e = .returned (.slice A2 (lim (sh (val a) i)).length c2) ∧ Own w' w.heap.size A2 c2 (lim (sh (val a) i)).length (lim (sh (val a) i)) ∧ Below w.heap.size w w' := by
 by_cases h0 : i < 0
 · exact Shift_neg A n c a i w hn hcn ha h0 hi.1
 · exact Shift_pos A n c a i w hn hcn ha (by omega) hi.2
end Go.Proofs.Ytjbhhccklfddaaa
namespace Go.Proofs.Ytjbhhccklfddaaa
set_option maxRecDepth 20000
open Go.RowKit
structure RDnAt (w wr : World) (e : List Nat) (t k : Nat) (A : Option Addr) (cap : Nat) (r : List Nat) : Prop where
 own : Own wr w.heap.size A cap k r
 dig : ∀ j, j < k → dg r j = dn t (dg e j) (dg e (j + 1))
 below : Below w.heap.size w wr
theorem dg_snoc (r : List Nat) (x j : Nat) (hj : j < r.length) : dg (r ++ [x]) j = dg r j := by
 rw [dg_eq, dg_eq, List.getElem?_append_left hj]
theorem dg_snoc_last (r : List Nat) (x : Nat) : dg (r ++ [x]) r.length = x := by
 rw [dg_eq, List.getElem?_append_right (Nat.le_refl _), Nat.sub_self]; rfl
theorem below_app {w wr w1 w3 : World} {A : Option Addr} {c n : Nat} {l : List Nat} (ho : Own wr w.heap.size A c n l) (hz : w.heap.size ≤ wr.heap.size) (hb : Below w.heap.size w wr) (h1 : Below wr.heap.size wr w1) (hg : w1.grownBy w3 (A.map (·.block))) : Below w.heap.size w w3 := by
 have hs := h1.size
 refine (hb.trans (h1.mono hz)).trans ⟨hg.os, hg.tape, hg.output, hg.size, fun q hq => hg.block q (by omega) ?_⟩
 cases A with
 | none => simp
 |
  some ad =>
  have := ho.own.lt ad.block rfl
  simp; omega
theorem RDnAt.step {w wr w1 w3 : World} {e : List Nat} {t k : Nat} {A A3 : Option Addr} {cap c3 : Nat} {r : List Nat} (h : RDnAt w wr e t k A cap r)
  (ho : Own w3 w.heap.size A3 c3 (k + 1) (r ++ [dn t (dg e k) (dg e (k + 1))])) (h1 : Below wr.heap.size wr w1) (hg : w1.grownBy w3 (A.map (·.block))) : RDnAt w w3 e t (k + 1) A3 c3 (r ++ [dn t (dg e k) (dg e (k + 1))]) := by
 have hl := h.own.len
 refine ⟨ho, fun j hj => ?_, below_app h.own h.below.size h.below h1 hg⟩
 by_cases hjk : j = k
 · subst hjk; rw [← hl, dg_snoc_last]
 · rw [dg_snoc _ _ _ (by omega)]; exact h.dig j (by omega)
structure RUpAt (w wr : World) (a : List Nat) (s t k low : Nat) (A : Option Addr) (cap : Nat) (r : List Nat) : Prop where
 own : Own wr w.heap.size A cap (s + k) r
 sum : val r + 4294967296 ^ (s + k) * low = 4294967296 ^ s * (S (fun j => dg a j) k * 2 ^ t)
 low : low < 2 ^ t
 below : Below w.heap.size w wr
theorem up_dig {x d t : Nat} (ht : t < 32) (hx : x % 2 ^ t = 0) (hd : d < 2 ^ t) : (x ||| d) = x + d ∧ (x + d) % 4294967296 + 4294967296 * (x / 4294967296) = x + d := by
 refine ⟨nat_join t x d hx hd, ?_⟩
 have h1 : (x % 4294967296) % 2 ^ t = 0 := by
  rw [← two_split ht, Nat.mod_mul_right_mod]; exact hx
 have h2 := mod_low h1 ht hd (Nat.mod_lt _ (by omega))
 omega
theorem RUpAt.step {w wr w1 w3 : World} {a : List Nat} {s t k low : Nat} {A A3 : Option Addr} {cap c3 : Nat} {r : List Nat} (h : RUpAt w wr a s t k low A cap r) (ht : t < 32) (hx : dg a k < 4294967296)
  (ho : Own w3 w.heap.size A3 c3 (s + k + 1) (r ++ [(dg a k * 2 ^ t ||| low) % 4294967296])) (h1 : Below wr.heap.size wr w1) (hg : w1.grownBy w3 (A.map (·.block))) :
  RUpAt w w3 a s t (k + 1) (dg a k * 2 ^ t / 4294967296) A3 c3 (r ++ [(dg a k * 2 ^ t ||| low) % 4294967296]) := by
 obtain ⟨e1, e2⟩ := up_dig ht (x := dg a k * 2 ^ t) (Nat.mul_mod_left _ _) h.low
 refine ⟨ho, ?_, (up_low hx ht).2.1, below_app h.own h.below.size h.below h1 hg⟩
 rw [e1, val_snoc, h.own.len, S, Nat.add_mul, Nat.mul_add, ← h.sum, ← Nat.add_assoc s k 1, Nat.pow_succ]
 have e3 : 4294967296 ^ s * (4294967296 ^ k * dg a k * 2 ^ t) = 4294967296 ^ (s + k) * (dg a k * 2 ^ t) := by
  rw [Nat.pow_add, Nat.mul_assoc, Nat.mul_assoc]
 rw [e3]
 have h5 := congrArg (4294967296 ^ (s + k) * ·) e2
 simp only [Nat.mul_add] at h5
 rw [← Nat.mul_assoc (4294967296 ^ (s + k)) 4294967296] at h5
 omega
theorem RUpAt.fin {w wr : World} {a : List Nat} {s t k low : Nat} {A : Option Addr} {cap : Nat} {r : List Nat} (h : RUpAt w wr a s t k low A cap r) (ht : t < 32) (ha : L32 a) (hk : a.length < k) : val r = val a * 2 ^ (32 * s + t) := by
 have h1 := h.sum
 rw [S_more a k (by omega)] at h1
 have h2 : val a * 2 ^ t < 4294967296 ^ k := by
  have h3 := val_lt ha
  have h4 := pow_lt_32 ht
  have h5 : val a * 2 ^ t < 4294967296 ^ a.length * 4294967296 := Nat.mul_lt_mul'' h3 h4
  rw [← Nat.pow_succ] at h5
  exact Nat.lt_of_lt_of_le h5 (Nat.pow_le_pow_right (by omega) hk)
 have h6 : 4294967296 ^ s * (val a * 2 ^ t) < 4294967296 ^ (s + k) := by
  rw [Nat.pow_add]; exact Nat.mul_lt_mul_of_pos_left h2 (Nat.pow_pos (by omega))
 have h7 : low = 0 := by
  rcases Nat.eq_zero_or_pos low with h0 | h0
  · exact h0
  ·
   have : 4294967296 ^ (s + k) * 1 ≤ 4294967296 ^ (s + k) * low := Nat.mul_le_mul_left _ h0
   omega
 subst h7
 rw [Nat.mul_zero, Nat.add_zero] at h1
 rw [h1, ← pow_32, Nat.mul_left_comm]
theorem up_or64 {x d t : Nat} (hd : d < 4294967296) (h : x * 2 ^ t < 18446744073709551616) : bits BinOp.or IntKind.u64 (IntKind.u64.wrap ((x : Int) * 2 ^ t)) (d : Int) % 4294967296 = (((x * 2 ^ t ||| d) % 4294967296 : Nat) : Int) := by
 rw [shl_eq h, u64_or_nat _ d h (by omega)]
 rfl
set_option maxHeartbeats 800000 in
theorem rShift_pos (A : Option Addr) (n c : Nat) (a : List Nat) (i : Int) (w : World) (hn : n ≤ 1000000000000) (hcn : n ≤ c) (ha : Row w 0 A n a) (h0 : 0 ≤ i) (hhi : i ≤ 9223372036854775807) :
  Calls Try.prog 81 #[.slice A n c, .int .i64 i] w fun e w' => ∃ A2 c2, e = .returned (.slice A2 (lim (sh (val a) i)).length c2) ∧ Own w' w.heap.size A2 c2 (lim (sh (val a) i)).length (lim (sh (val a) i)) ∧ Below w.heap.size w w' := by
 obtain ⟨i0, hi, hz0, hz1, hz2⟩ := info_parts Try.info66
 obtain ⟨h, hk, hk1⟩ := held_pos h0
 have E : Hid (sh (val a) i = val (lim (val a)) * 2 ^ h) := by
  show _ = _
  unfold sh
  rw [if_neg (by omega), hk, val_lim]
  congr 2
 have hna : (lim (val a)).length ≤ n := by have := lim_len_le ha.l32; have := ha.len; omega
 obtain ⟨s, t, hst⟩ : ∃ s t, h = 32 * s + t ∧ t < 32 := ⟨h / 32, h % 32, by omega, by omega⟩
 have ht := hst.2
 have hss : s ≤ 128 := by omega
 have HST := Lib.hid hst.1
 have hst1 := hst.1
 clear hst
 unfold held at hk
 have hq : (h : Int) / 32 = (s : Int) := by omega
 have hr : (h : Int) % 32 = (t : Int) := by omega
 clear hst1
 go_enter Try.func81, Try.ntmps81
 go_upto_region 1 with (fail)
 go_cut [1] (fun v wx => v = .int .i64 (h : Int) ∧ w = wx)
 case first =>
  clear hq hr
  by_cases hb : 4096 < i
  ·
   have e : h = 4096 := by omega
   subst e
   go_wp2
   go_meet
   exact ⟨rfl, rfl⟩
  ·
   have e : i = (h : Int) := by omega
   subst e
   go_wp2
   go_meet
   exact ⟨rfl, rfl⟩
 case rest =>
  obtain ⟨rfl, rfl⟩ := hcut
  clear hk
  have hd0 : decide ((h : Int) < 0) = false := by rw [decide_eq_false_iff_not]; omega
  go_wp2_with fail
  refine (rTrim_any A n c a _ (by omega) hcn ha).mono ?_
  rintro e w0 ⟨X, cx, rfl, ho, hb0⟩
  have hla := ho.row.lower (Nat.zero_le _)
  have hz00 := hb0.size
  clear ho ha
  go_wp2_with (at_make; refine wpList_make_full _ rfl _ _ _ rfl w0.heap.size 66 i0 (.int .u32 0) 1 Try.underlying35 hi hz0 hz1 .i64 .i64 _ _ s rfl rfl ?c4 ?c5 ?c1 ?c2 ?c3 ?_)
  case c4 => omega
  case c5 => omega
  case c1 => rw [hz2]; omega
  case c2 => unfold maxLen; omega
  case c3 => exact Nat.le_refl _
  intro w1 ho hg
  have hbg := below_of_grown hg
  have HS0 : Hid (RUpAt w0 w1 (lim (val a)) s t 0 0 (some ⟨w0.heap.size, 0, none⟩) s (List.replicate s 0)) :=
   ⟨Own.made ho, by rw [val_replicate]; simp [S], pow_pos2 t, hbg⟩
  clear ho hg hbg
  have HB0 := Lib.hid hb0
  clear hb0
  go_wp2
  simp only [hr]
  go_loopw [10, 12, 13, 14] (fun ov lv iv _ wr => ∃ (k low : Nat) (A2 : Option Addr) (c2 : Nat) (r : List Nat), k ≤ (lim (val a)).length + 1 ∧ low < 4294967296 ∧ ov = .slice A2 (s + k) c2 ∧ lv = .int .u64 low ∧ iv = .int .i64 k ∧ Hid (RUpAt w0 wr (lim (val a)) s t k low A2 c2 r)) (fun _ _ iv _ _ => (lim (val a)).length + 1 - (intOf iv).toNat)
  case atStart => exact ⟨0, 0, _, s, _, by omega, by omega, rfl, rfl, rfl, HS0⟩
  case round =>
   obtain ⟨k, low, A2, c2, r, hk, hlow, rfl, rfl, rfl, HA⟩ := hrel
   have OWN := Lib.hid HA.out.own
   have hrw := hla.below HA.out.below
   have hzr := HA.out.below.size
   by_cases hkn : k < (lim (val a)).length + 1
   ·
    have hx := L32_lim (val a) k
    have hup := (up_low hx ht).1
    have hv := Lib.hid (up_or64 hlow hup)
    have STEP : Hid (∀ (A3 : Option Addr) (c3 : Nat) (w1 w3 : World), Own w3 w0.heap.size A3 c3 (s + k + 1) (r ++ [(dg (lim (val a)) k * 2 ^ t ||| low) % 4294967296]) → Below wr.heap.size wr w1 → w1.grownBy w3 (A2.map (·.block)) →
      RUpAt w0 w3 (lim (val a)) s t (k + 1) (dg (lim (val a)) k * 2 ^ t / 4294967296) A3 c3 (r ++ [(dg (lim (val a)) k * 2 ^ t ||| low) % 4294967296])) :=
     fun A3 c3 w1 w3 ho h1 hg => HA.out.step ht hx ho h1 hg
    have hup2 : dg (lim (val a)) k * 2 ^ t / 4294967296 < 4294967296 := by omega
    have hup3 : Hid (IntKind.u64.wrap ((dg (lim (val a)) k : Int) * 2 ^ t) / 4294967296 = ((dg (lim (val a)) k * 2 ^ t / 4294967296 : Nat) : Int)) := by
     show _ = _
     rw [shl_eq hup]; rfl
    clear HA HS0
    go_wp2_with fail
    refine (at_any X (lim (val a)).length cx (lim (val a)) k k _ (by omega) hrw rfl).mono ?_
    rintro e w' ⟨rfl, rfl⟩
    go_wp2_with (at_builtin; refine wpl_append rfl _ _ rfl rfl rfl (OWN.out.alloc _) (Row.one (x := (dg (lim (val a)) k * 2 ^ t ||| low) % 4294967296) (lo := 0) ?c1 ?c2 ?c3) ?c4 ?c5 ?_)
    case c1 => exact hv.out
    case c2 => omega
    case c3 => omega
    case c4 => omega
    case c5 => simp; omega
    intro A3 c3 w3 ho3 hg3
    have HA3 := Lib.hid (STEP.out A3 c3 _ w3 ho3 (below_alloc _ _) hg3)
    clear STEP ho3 hg3 hrw
    go_wp2
    go_roundw
    case rel => exact ⟨k + 1, _, A3, c3, _, by omega, hup2, rfl, by rw [hup3.out], by go_num, HA3⟩
    case measure => simp [intOf]; omega
   ·
    have E1 : Hid (val r = sh (val a) i) := by
     show _ = _
     rw [HA.out.fin ht (L32_lim _) (by omega), E.out, HST.out]
    have hrow := OWN.out.row.lower (Nat.zero_le _)
    have hcap := OWN.out.capLe
    have hb3 := HA.out.below
    clear HA HS0 hrw
    go_wp2_with fail
    refine (rTrim_any A2 (s + k) c2 r _ (by omega) hcap hrow).mono ?_
    rintro e w3 ⟨A3, c3, rfl, ho3, hb4⟩
    have HO := Lib.hid ((ho3.lower hzr).lower hz00)
    have HB4 := Lib.hid (HB0.out.trans ((hb3.trans (hb4.mono hzr)).mono hz00))
    clear ho3 hb4 hb3
    go_wp2
    go_ret
    have HO2 := HO.out
    rw [E1.out] at HO2
    exact ⟨A3, c3, by rw [← E1.out]; rfl, HO2, HB4.out⟩
end Go.Proofs.Ytjbhhccklfddaaa
namespace Go.Proofs.Ytjbhhccklfddaaa
set_option maxRecDepth 20000
open Go.RowKit
theorem dn_int' {x y t : Nat} (hx : x < 4294967296) (hy : y < 4294967296) : bits BinOp.or IntKind.u64 (x : Int) ((y : Int) * 4294967296) / 2 ^ t % 4294967296 = ((dn t x y : Nat) : Int) := by
 have e : (y : Int) * 4294967296 = ((y * 4294967296 : Nat) : Int) := by omega
 rw [e, u64_or_nat _ _ (by omega) (by omega), Nat.or_comm, nat_join 32 _ x (by show y * 4294967296 % 4294967296 = 0; omega) hx]
 rfl
set_option maxHeartbeats 800000 in
theorem rShift_neg (A : Option Addr) (n c : Nat) (a : List Nat) (i : Int) (w : World) (hn : n ≤ 1000000000000) (hcn : n ≤ c) (ha : Row w 0 A n a) (h0 : i < 0) (hlo : -9223372036854775808 ≤ i) :
  Calls Try.prog 81 #[.slice A n c, .int .i64 i] w fun e w' => ∃ A2 c2, e = .returned (.slice A2 (lim (sh (val a) i)).length c2) ∧ Own w' w.heap.size A2 c2 (lim (sh (val a) i)).length (lim (sh (val a) i)) ∧ Below w.heap.size w w' := by
 obtain ⟨h, hk, hk0, hk1⟩ := held_neg h0
 have E : Hid (sh (val a) i = val (lim (val a)) / 2 ^ h) := by
  show _ = _
  unfold sh
  rw [if_pos (by omega), hk, val_lim]
  congr 2
  omega
 have hna : (lim (val a)).length ≤ n := by have := lim_len_le ha.l32; have := ha.len; omega
 obtain ⟨s, t, hst⟩ : ∃ s t, h = 32 * s + t ∧ t < 32 := ⟨h / 32, h % 32, by omega, by omega⟩
 have ht := hst.2
 have hss : s ≤ 128 := by omega
 have HST := Lib.hid hst.1
 have hst1 := hst.1
 clear hst
 unfold held at hk
 have hq : (h : Int) / 32 = (s : Int) := by omega
 have hr : (h : Int) % 32 = (t : Int) := by omega
 clear hst1
 go_enter Try.func81, Try.ntmps81
 go_upto_region 1 with (fail)
 go_cut [1] (fun v wx => v = .int .i64 (-(h : Int)) ∧ w = wx)
 case first =>
  clear hq hr
  by_cases hb : i < -4096
  ·
   have e : h = 4096 := by omega
   subst e
   go_wp2
   go_meet
   exact ⟨rfl, rfl⟩
  ·
   have e : i = -(h : Int) := by omega
   subst e
   go_wp2
   go_meet
   exact ⟨rfl, rfl⟩
 case rest =>
  obtain ⟨rfl, rfl⟩ := hcut
  clear hk
  have hd0 : decide (-(h : Int) < 0) = true := by rw [decide_eq_true_iff]; omega
  by_cases hsp : (lim (val a)).length ≤ s
  ·
   have hz : Hid (lim (sh (val a) i) = []) := by
    show _ = _
    have := down_zero (t := t) (L32_lim (val a)) hsp
    rw [E.out, HST.out, this, lim_zero]
   go_wp2_with fail
   refine (rTrim_any A n c a _ (by omega) hcn ha).mono ?_
   rintro e w0 ⟨X, cx, rfl, ho, hb0⟩
   clear ho ha
   go_wp2
   go_ret
   rw [hz.out]
   exact ⟨none, 0, rfl, Own.nil_ _ _, hb0⟩
  ·
   go_wp2_with fail
   refine (rTrim_any A n c a _ (by omega) hcn ha).mono ?_
   rintro e w0 ⟨X, cx, rfl, ho, hb0⟩
   obtain ⟨g, rfl, hg1, hg2⟩ := ho.form (by omega)
   have hcap := ho.capLe
   have hla := (ho.row.lower (Nat.zero_le _)).drop (k := s) (by omega)
   obtain ⟨N, hN⟩ : ∃ N, (lim (val a)).length = s + N := ⟨(lim (val a)).length - s, by omega⟩
   have hN1 : (lim (val a)).length - s = N := by omega
   rw [hN1, Nat.zero_add] at hla
   have HB0 := Lib.hid hb0
   have hz00 := hb0.size
   have hne : ¬ cx = s := by omega
   have HN := Lib.hid hN
   have hN2 : (lim (val a)).length ≤ s + N := by omega
   have hN3 : s + N ≤ (lim (val a)).length := by omega
   have HS0 : Hid (RDnAt w0 w0 ((lim (val a)).drop s) t 0 none 0 []) := ⟨Own.nil_ _ _, fun j hj => absurd hj (by omega), Below.refl _ _⟩
   clear ho hb0 ha hN
   go_wp2
   simp only [hr]
   go_loopw [8, 9] (fun ov iv wr => ∃ (k : Nat) (A2 : Option Addr) (c2 : Nat) (r : List Nat), k ≤ N ∧ ov = .slice A2 k c2 ∧ iv = .int .i64 k ∧ Hid (RDnAt w0 wr ((lim (val a)).drop s) t k A2 c2 r)) (fun _ iv _ => N - (intOf iv).toNat)
   case atStart => exact ⟨0, none, 0, [], by omega, rfl, rfl, HS0⟩
   case round =>
    obtain ⟨k, A2, c2, r, hk, rfl, rfl, HA⟩ := hrel
    have OWN := Lib.hid HA.out.own
    have hrw := hla.below HA.out.below
    have hzr := HA.out.below.size
    by_cases hkn : k < N
    ·
     have hx := hla.l32 k
     have hy := hla.l32 (k + 1)
     have hv := Lib.hid (dn_int' (t := t) hx hy)
     have hdl := dn_lt t (dg ((lim (val a)).drop s) k) (dg ((lim (val a)).drop s) (k + 1))
     have STEP : Hid (∀ (A3 : Option Addr) (c3 : Nat) (w1 w3 : World), Own w3 w0.heap.size A3 c3 (k + 1) (r ++ [dn t (dg ((lim (val a)).drop s) k) (dg ((lim (val a)).drop s) (k + 1))]) → Below wr.heap.size wr w1 → w1.grownBy w3 (A2.map (·.block)) →
       RDnAt w0 w3 ((lim (val a)).drop s) t (k + 1) A3 c3 (r ++ [dn t (dg ((lim (val a)).drop s) k) (dg ((lim (val a)).drop s) (k + 1))])) :=
      fun A3 c3 w1 w3 ho h1 hg => HA.out.step ho h1 hg
     clear HA HS0
     go_wp2_with fail
     refine (at_any _ N _ ((lim (val a)).drop s) _ k _ (by omega) hrw rfl).mono ?_
     rintro e w' ⟨rfl, rfl⟩
     go_wp2_with fail
     refine (at_any _ N _ ((lim (val a)).drop s) _ (k + 1) _ (by omega) hrw (by omega)).mono ?_
     rintro e w' ⟨rfl, rfl⟩
     generalize hdg : dg ((lim (val a)).drop s) k = x at *
     generalize hdg2 : dg ((lim (val a)).drop s) (k + 1) = y at *
     clear hdg hdg2
     go_wp2_with (at_builtin; refine wpl_append rfl _ _ rfl rfl rfl (OWN.out.alloc _) (Row.one (x := dn t x y) (lo := 0) ?c1 ?c2 ?c3) ?c4 ?c5 ?_)
     case c1 => exact hv.out
     case c2 => omega
     case c3 => omega
     case c4 => omega
     case c5 => simp; omega
     intro A3 c3 w3 ho3 hg3
     have HA3 := Lib.hid (STEP.out A3 c3 _ w3 ho3 (below_alloc _ _) hg3)
     clear STEP ho3 hg3 hrw
     go_wp2
     go_roundw
     case rel => exact ⟨k + 1, A3, c3, _, by omega, rfl, by go_num, HA3⟩
     case measure => simp [intOf]; omega
    ·
     have E1 : Hid (val r = sh (val a) i) := by
      show _ = _
      have hlr := OWN.out.len
      have := down_val (L32_lim (val a)) ht (s := s) (r := r) (by omega) (by omega) (fun j hj => HA.out.dig j (by omega))
      rw [this, E.out, HST.out]
     have hrow := OWN.out.row.lower (Nat.zero_le _)
     have hcap2 := OWN.out.capLe
     have hb3 := HA.out.below
     clear HA HS0 hrw
     go_wp2_with fail
     refine (rTrim_any A2 k c2 r _ (by omega) hcap2 hrow).mono ?_
     rintro e w3 ⟨A3, c3, rfl, ho3, hb4⟩
     have HO := Lib.hid ((ho3.lower hzr).lower hz00)
     have HB4 := Lib.hid (HB0.out.trans ((hb3.trans (hb4.mono hzr)).mono hz00))
     clear ho3 hb4 hb3
     go_wp2
     go_ret
     have HO2 := HO.out
     rw [E1.out] at HO2
     exact ⟨A3, c3, by rw [← E1.out]; rfl, HO2, HB4.out⟩
theorem rShift_any (A : Option Addr) (n c : Nat) (a : List Nat) (i : Int) (w : World) (hn : n ≤ 1000000000000) (hcn : n ≤ c) (ha : Row w 0 A n a) (hi : -9223372036854775808 ≤ i ∧ i ≤ 9223372036854775807) :
  Calls Try.prog 81 #[.slice A n c, .int .i64 i] w fun e w' => ∃ A2 c2, e = .returned (.slice A2 (lim (sh (val a) i)).length c2) ∧ Own w' w.heap.size A2 c2 (lim (sh (val a) i)).length (lim (sh (val a) i)) ∧ Below w.heap.size w w' := by
 by_cases h0 : i < 0
 · exact rShift_neg A n c a i w hn hcn ha h0 hi.1
 · exact rShift_pos A n c a i w hn hcn ha (by omega) hi.2
end Go.Proofs.Ytjbhhccklfddaaa
