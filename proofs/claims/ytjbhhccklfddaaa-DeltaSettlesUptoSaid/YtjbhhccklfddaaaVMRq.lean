/-
  The document's small: a number by one limb, and what is left.
  Plain numbers: a quotient bit by bit.
  How often, and what is left: the document's DivMod, bit by bit.
  The document's DivMod, bit by bit: the long way.
  The document's DivMod, by one limb.
  The document's DivMod, of two numbers of many bits.
  The document's DivMod by any number that is not 0, and its Gcd.
-/
import Derived.Test.YtjbhhccklfddaaaVMNd
import Derived.Test.YtjbhhccklfddaaaVMNc
import Derived.Test.YtjbhhccklfddaaaVMNb
import Derived.Sort.AtCall
import Derived.Deep.LoopGhost
namespace Go.Proofs.Ytjbhhccklfddaaa
set_option maxRecDepth 20000
open Go.RowKit
structure SmAt (w wr : World) (g n : Nat) (l : List Nat) (b k left : Nat) (L : List Nat) : Prop where
 own : Own wr w.heap.size (some ⟨g, 0, none⟩) n n L
 sum : val (L.drop k) * b + left = val (l.drop k)
 less : left < b
 below : Below w.heap.size w wr
theorem SmAt.step {w wr : World} {g n : Nat} {l : List Nat} {b k left : Nat} {L : List Nat} (h : SmAt w wr g n l b (k + 1) left L) (hk : k < n) (hl : l.length = n) (hb : 0 < b) (hg : w.heap.size ≤ g) (hq : (left * 4294967296 + dg l k) / b < 4294967296) (v : Int) (hv : v = (((left * 4294967296 + dg l k) / b : Nat) : Int)) (q : Nat) :
  SmAt w ((wr.drewN q).setCell ⟨g, k, none⟩ (.int .u32 v)) g n l b k ((left * 4294967296 + dg l k) % b) (L.set k ((left * 4294967296 + dg l k) / b)) := by
 subst hv
 refine ⟨(h.own.drewN q).set hq, ?_, Nat.mod_lt _ hb, (h.below.trans (below_drewN' _ _ _)).setCell hg _⟩
 have hL := h.own.len
 rw [val_cons_drop l k (by omega), ← h.sum, val_cons_drop _ k (by rw [List.length_set]; omega), dg_set_eq _ _ _ (by omega), List.drop_set_of_lt (by omega), Nat.add_mul]
 have := Nat.div_add_mod (left * 4294967296 + dg l k) b
 rw [Nat.mul_comm b] at this
 have e2 : 4294967296 * val (L.drop (k + 1)) * b = 4294967296 * (val (L.drop (k + 1)) * b) := Nat.mul_assoc _ _ _
 rw [e2]
 omega
set_option maxHeartbeats 1600000 in
theorem small_any (A : Option Addr) (n c b : Nat) (l : List Nat) (w : World) (hn : n ≤ 1000000000000) (hb : 0 < b) (hb2 : b < 4294967296) (ha : Row w 0 A n l) :
  Calls Try.prog 80 #[.slice A n c, .int .u64 (b : Int)] w fun e w' => ∃ A2 c2, e = .returned (.tuple #[.slice A2 (lim (val l / b)).length c2, .int .u64 ((val l % b : Nat) : Int)]) ∧ Own w' w.heap.size A2 c2 (lim (val l / b)).length (lim (val l / b)) ∧ Below w.heap.size w w' := by
 obtain ⟨i0, hi, hz0, hz1, hz2⟩ := info_parts Try.info66
 have hlen := Lib.hid ha.len
 go_enter Try.func80, Try.ntmps80
 go_wp2_with (at_make; refine wpList_make_full _ rfl _ _ _ rfl w.heap.size 66 i0 (.int .u32 0) 1 Try.underlying35 hi hz0 hz1 .i64 .i64 _ _ n rfl rfl ?c4 ?c5 ?c1 ?c2 ?c3 ?_)
 case c4 => omega
 case c5 => omega
 case c1 => rw [hz2]; omega
 case c2 => unfold maxLen; omega
 case c3 => exact Nat.le_refl _
 intro w1 ho hg
 have HST : Hid (SmAt w w1 w.heap.size n l b n 0 (List.replicate n 0)) := by
  refine ⟨Own.made ho, ?_, hb, below_of_grown hg⟩
  rw [List.drop_eq_nil_of_le (Nat.le_of_eq (by simp)), List.drop_eq_nil_of_le (Nat.le_of_eq hlen.out)]
  simp [val]
 clear ho hg
 go_wp2
 go_loopw [7, 8] (fun lv iv wr => ∃ (k left : Nat) (L : List Nat), k ≤ n ∧ left < b ∧ iv = .int .i64 ((k : Int) - 1) ∧ lv = .int .u64 left ∧ Hid (SmAt w wr w.heap.size n l b k left L)) (fun _ iv _ => (intOf iv + 1).toNat)
 case atStart => exact ⟨n, 0, _, by omega, hb, rfl, rfl, HST⟩
 case round =>
  obtain ⟨k, left, L, hk, hleft, rfl, rfl, HA⟩ := hrel
  by_cases h0 : k = 0
  ·
   subst h0
   have hs := HA.out.sum
   rw [List.drop_zero, List.drop_zero] at hs
   have E1 : Hid (val l % b = left) := by
    show _ = _
    rw [← hs, Nat.add_comm, Nat.add_mul_mod_self_right, Nat.mod_eq_of_lt hleft]
   have E2 : Hid (val L = val l / b) := by
    show _ = _
    rw [← hs, Nat.add_comm, Nat.add_mul_div_right _ _ hb, Nat.div_eq_of_lt hleft, Nat.zero_add]
   have hrow := HA.out.own.row.lower (Nat.zero_le _)
   have HBL := Lib.hid HA.out.below
   clear hs HA HST
   go_wp2_with fail
   refine (rTrim_any _ n n L _ (by omega) (Nat.le_refl _) hrow).mono ?_
   rintro e w3 ⟨A3, c3, rfl, ho3, hb3⟩
   have HO := Lib.hid (ho3.lower HBL.out.size)
   have HB3 := Lib.hid (HBL.out.trans (hb3.mono HBL.out.size))
   clear ho3 hb3 hrow
   go_wp2
   go_ret2
   have HO2 := HO.out
   rw [E2.out] at HO2
   exact ⟨A3, c3, by rw [← E2.out, E1.out]; rfl, HO2, HB3.out⟩
  ·
   obtain ⟨k, rfl⟩ : ∃ j, k = j + 1 := ⟨k - 1, by omega⟩
   have hx := ha.l32 k
   have hl32 : left < 4294967296 := by omega
   have hq : (left * 4294967296 + dg l k) / b < 4294967296 := by
    rw [Nat.div_lt_iff_lt_mul hb]
    have : (left + 1) * 4294967296 ≤ b * 4294967296 := Nat.mul_le_mul_right _ hleft
    rw [Nat.mul_comm]
    omega
   have hr : (left * 4294967296 + dg l k) % b < b := Nat.mod_lt _ hb
   have he1 : ((k + 1 : Nat) : Int) - 1 = (k : Int) := by omega
   simp only [he1]
   have hkn : k < n := by omega
   have hbn : ¬ (b : Int) = 0 := by omega
   have ha1 := ha.below HA.out.below
   obtain ⟨b', off, rfl, h1, h2, hc⟩ := ha1.mem (by omega)
   have hca := hc k hkn
   obtain ⟨b2, off2, hA2, h7, h8, hc2⟩ := HA.out.own.row.mem (by omega)
   injection hA2 with hA2
   injection hA2 with e1 e2
   subst e1 e2
   have hcs := hc2 k hkn
   rw [Nat.zero_add] at hcs
   have hfs := HA.out.own.own.frozenAt k
   have hor := or_step2 hx hl32
   have hT : left * 4294967296 + dg l k < 18446744073709551616 := by omega
   have ec : (left : Int) * 4294967296 + ((dg l k : Nat) : Int) = ((left * 4294967296 + dg l k : Nat) : Int) := by omega
   have STEP := Lib.hid (fun v hv q => HA.out.step hkn hlen.out hb (Nat.le_refl _) hq v hv q)
   have HDC := Lib.hid (div_cast hq)
   have EC := Lib.hid ec
   clear hc hc2 HA HST he1 ha ha1 ec
   go_wp2
   go_roundw
   case rel => exact ⟨k, (left * 4294967296 + dg l k) % b, _, by omega, hr, rfl, by rw [EC.out]; rfl, STEP.out _ (by rw [EC.out]; exact HDC.out) 0⟩
   case measure => simp [intOf]
end Go.Proofs.Ytjbhhccklfddaaa
namespace Go.Proofs.Ytjbhhccklfddaaa
set_option maxRecDepth 20000
theorem val_cons_drop' (L : List Nat) (i : Nat) (hi : i < L.length) : val (L.drop i) = dg L i + 4294967296 * val (L.drop (i + 1)) := by
 rw [List.drop_eq_getElem_cons hi, val]
 simp [dg_eq, hi]
theorem bit_of {a : List Nat} {k s t : Nat} (ha : L32 a) (hk : k = 32 * s + t) (ht : t < 32) (hs : s < a.length) : val a / 2 ^ k % 2 = dg a s / 2 ^ t % 2 := by
 have h1 : val a / 2 ^ k = val (a.drop s) / 2 ^ t := by
  rw [val_drop a s ha (Nat.le_of_lt hs), Nat.div_div_eq_div_mul, pow_32, ← hk]
 rw [h1, val_cons_drop' a s hs]
 obtain ⟨u, hu⟩ : ∃ u, 32 - t = u + 1 := ⟨31 - t, by omega⟩
 have h2 := two_split ht
 rw [hu, Nat.pow_succ] at h2
 have h3 : 4294967296 * val (a.drop (s + 1)) = 2 ^ t * (2 * (2 ^ u * val (a.drop (s + 1)))) := by
  rw [← h2]
  generalize 2 ^ t = T
  generalize 2 ^ u = U
  generalize val (a.drop (s + 1)) = V
  grind
 rw [h3, Nat.add_comm, Nat.mul_add_div (pow_pos2 t), Nat.mul_add_mod]
theorem div_bit {x y k : Nat} (hy : 0 < y) :
  let r := 2 * (x / 2 ^ (k + 1) % y) + x / 2 ^ k % 2
  (r < y → x / 2 ^ k / y = 2 * (x / 2 ^ (k + 1) / y) ∧ x / 2 ^ k % y = r) ∧ (y ≤ r → x / 2 ^ k / y = 2 * (x / 2 ^ (k + 1) / y) + 1 ∧ x / 2 ^ k % y = r - y) := by
 intro r
 have h1 : x / 2 ^ k = 2 * (x / 2 ^ (k + 1)) + x / 2 ^ k % 2 := by
  have : x / 2 ^ (k + 1) = x / 2 ^ k / 2 := by rw [Nat.pow_succ, Nat.div_div_eq_div_mul]
  rw [this]
  omega
 obtain ⟨u, hu⟩ : ∃ u, u = x / 2 ^ (k + 1) := ⟨_, rfl⟩
 obtain ⟨b, hb⟩ : ∃ b, b = x / 2 ^ k % 2 := ⟨_, rfl⟩
 have hr : r = 2 * (u % y) + b := by rw [hu, hb]
 rw [← hu, ← hb] at h1
 rw [h1, ← hu]
 have hb2 : b < 2 := by rw [hb]; exact Nat.mod_lt _ (by omega)
 have h2 := Nat.div_add_mod u y
 have h3 := Nat.mod_lt u hy
 have h4 : 2 * u + b = r + y * (2 * (u / y)) := by
  rw [hr]
  generalize u / y = q at *
  generalize u % y = m at *
  rw [← h2]
  grind
 constructor
 ·
  intro hlt
  rw [h4, Nat.add_mul_div_left _ _ hy, Nat.div_eq_of_lt hlt, Nat.add_mul_mod_self_left, Nat.mod_eq_of_lt hlt]
  omega
 ·
  intro hge
  have h5 : r - y < y := by omega
  have h6 : 2 * u + b = (r - y) + y * (2 * (u / y) + 1) := by rw [Nat.mul_add, Nat.mul_one]; omega
  rw [h6, Nat.add_mul_div_left _ _ hy, Nat.div_eq_of_lt h5, Nat.add_mul_mod_self_left, Nat.mod_eq_of_lt h5]
  omega
theorem q_limb {Q : List Nat} {k s t q : Nat} (hQ : L32 Q) (hk : k = 32 * s + t) (ht : t < 32) (hs : s < Q.length) (hv : val Q = 2 ^ (k + 1) * q) : dg Q s % 2 ^ (t + 1) = 0 := by
 have h1 := val_drop Q s hQ (Nat.le_of_lt hs)
 rw [hv, hk, Nat.add_assoc, ← pow_32, Nat.mul_assoc, Nat.mul_div_cancel_left _ (Nat.pow_pos (by omega)), val_cons_drop' Q s hs] at h1
 obtain ⟨u, hu⟩ : ∃ u, 32 = (t + 1) + u := ⟨31 - t, by omega⟩
 have h2 : 4294967296 = 2 ^ (t + 1) * 2 ^ u := by rw [← Nat.pow_add, ← hu]
 have h3 : dg Q s + 2 ^ (t + 1) * (2 ^ u * val (Q.drop (s + 1))) = 2 ^ (t + 1) * q := by
  rw [← Nat.mul_assoc, ← h2]; exact h1
 have h4 := congrArg (· % 2 ^ (t + 1)) h3
 simpa using h4
theorem q_or {Q : List Nat} {k s t q : Nat} (hQ : L32 Q) (hk : k = 32 * s + t) (ht : t < 32) (hs : s < Q.length) (hv : val Q = 2 ^ (k + 1) * q) :
  dg Q s ||| 2 ^ t < 4294967296 ∧ val (Q.set s (dg Q s ||| 2 ^ t)) = 2 ^ k * (2 * q + 1) := by
 have h1 := q_limb hQ hk ht hs hv
 have h2 : 2 ^ t < 2 ^ (t + 1) := Nat.pow_lt_pow_right (by omega) (by omega)
 have h3 : dg Q s ||| 2 ^ t = dg Q s + 2 ^ t := nat_join (t + 1) _ _ h1 h2
 have e : (4294967296 : Nat) = 2 ^ 32 := rfl
 refine ⟨?_, ?_⟩
 · rw [e]; exact Nat.or_lt_two_pow (by rw [← e]; exact hQ s) (Nat.pow_lt_pow_right (by omega) ht)
 ·
  have h4 := val_set Q s (dg Q s ||| 2 ^ t) hs
  rw [h3] at h4 ⊢
  rw [Nat.mul_add, pow_32, ← hk, hv] at h4
  have h5 : 2 ^ (k + 1) * q = 2 ^ k * (2 * q) := by rw [Nat.pow_succ, Nat.mul_assoc]
  rw [h5] at h4
  rw [Nat.mul_add, Nat.mul_one]
  omega
end Go.Proofs.Ytjbhhccklfddaaa
namespace Go.Proofs.Ytjbhhccklfddaaa
set_option maxRecDepth 20000
open Go.RowKit
end Go.Proofs.Ytjbhhccklfddaaa
namespace Go.Proofs.Ytjbhhccklfddaaa
set_option maxRecDepth 20000
open Go.RowKit
structure BitAt (w wr : World) (g n x y k : Nat) (Q : List Nat) (X : Option Addr) (p : Nat) : Prop where
 quo : Own wr w.heap.size (some ⟨g, 0, none⟩) n n Q
 sum : val Q = 2 ^ k * (x / 2 ^ k / y)
 row : Row wr 0 X p (lim (x / 2 ^ k % y))
 below : Below w.heap.size w wr
theorem rSub_v (x y : Nat) (A B : Option Addr) (n m c d : Nat) (a b : List Nat) (w : World) (hx : val a = x) (hy : val b = y) (hn : n ≤ 1000000000000) (hm : m ≤ 1000000000000) (hcn : n ≤ c) (hdm : m ≤ d) (ha : Row w 0 A n a) (hb : Row w 0 B m b) (hle : y ≤ x) :
  Calls Try.prog 84 #[.slice A n c, .slice B m d] w fun e w' => ∃ A2 c2, e = .returned (.tuple #[.slice A2 (lim (x - y)).length c2, .bool true]) ∧ Own w' w.heap.size A2 c2 (lim (x - y)).length (lim (x - y)) ∧ Below w.heap.size w w' := by
 subst hx hy; exact rSub_yes A B n m c d a b w hn hm hcn hdm ha hb hle
theorem own_block {w : World} {lo n c : Nat} {A : Option Addr} {l : List Nat} (h : Own w lo A c n l) : ∀ ad, A = some ad → lo ≤ ad.block ∧ ad.block < w.heap.size := by
 intro ad e
 subst e
 exact h.own.lt ad.block rfl
theorem len_pos' {x : Nat} (h : 0 < x) : 0 < (lim x).length := by
 rcases Nat.eq_zero_or_pos (lim x).length with h0 | h0
 ·
  have := val_lim x
  rw [List.eq_nil_of_length_eq_zero h0] at this
  simp [val] at this
  omega
 · exact h0
theorem sh_one (x : Nat) : sh x 1 = 2 * x := by
 have := sh_up0 x (k := 1) (by omega)
 rw [Nat.pow_one, Nat.mul_comm] at this
 exact this
theorem rShift_one (x : Nat) (A : Option Addr) (n c : Nat) (a : List Nat) (w : World) (hx : val a = x) (hn : n ≤ 1000000000000) (hcn : n ≤ c) (ha : Row w 0 A n a) :
  Calls Try.prog 81 #[.slice A n c, .int .i64 1] w fun e w' => ∃ A2 c2, e = .returned (.slice A2 (lim (2 * x)).length c2) ∧ Own w' w.heap.size A2 c2 (lim (2 * x)).length (lim (2 * x)) ∧ Below w.heap.size w w' := by
 subst hx
 have h := rShift_any A n c a 1 w hn hcn ha (by omega)
 rw [sh_one] at h
 exact h
theorem and_one {u : Nat} (hu : u < 4294967296) : bits BinOp.and IntKind.u32 (u : Int) 1 = ((u % 2 : Nat) : Int) := by
 have := u32_and_nat u 1 hu (by omega)
 rw [Nat.and_one_is_mod] at this
 exact this
set_option maxHeartbeats 2000000 in
theorem rDivMod_long (A B : Option Addr) (n m c d x y xv yv : Nat) (ob tb : Bool) (a b : List Nat) (w : World) (hn : n ≤ 40000000000) (hm : m ≤ 40000000000) (hdm : m ≤ d) (ha : Row w 0 A n a) (hb : Row w 0 B m b) (hx : val a = x) (hy : val b = y) (h0 : 0 < y)
  (hTa : Hid (∀ w', Row w' 0 A n a → Calls Try.prog 79 #[.slice A n c] w' fun e w2 => e = .returned (.tuple #[.int .u64 (xv : Int), .bool ob]) ∧ Below w'.heap.size w' w2))
  (hTb : Hid (∀ w', Row w' 0 B m b → Calls Try.prog 79 #[.slice B m d] w' fun e w2 => e = .returned (.tuple #[.int .u64 (yv : Int), .bool tb]) ∧ Below w'.heap.size w' w2))
  (hfl : (tb = false) ∨ (tb = true ∧ ob = false ∧ decide ((yv : Int) < 4294967296) = false)) :
  Calls Try.prog 65 #[.slice A n c, .slice B m d] w fun e w' => ∃ X2 c2 Y2 d2, e = .returned (.tuple #[.slice X2 (lim (x / y)).length c2, .slice Y2 (lim (x % y)).length d2, .bool true]) ∧ Own w' w.heap.size X2 c2 (lim (x / y)).length (lim (x / y)) ∧ Own w' w.heap.size Y2 d2 (lim (x % y)).length (lim (x % y)) ∧ Below w.heap.size w w' := by
 obtain ⟨i0, hi, hz0, hz1, hz2⟩ := info_parts Try.info66
 have HA0 := Lib.hid ha
 have HB0 := Lib.hid hb
 have HX := Lib.hid hx
 have HY := Lib.hid hy
 have hyl : (lim y).length ≤ 40000000000 := by rw [← hy]; have := lim_len_le hb.l32; have := hb.len; omega
 have hbl : (((lim (val b)).length : Int) == 0) = false := by rw [beq_eq_false_iff_ne, hy]; have := len_pos' h0; omega
 have H0 := Lib.hid h0
 clear ha hx hy h0
 have hcase : (tb = false ∧ ob = false) ∨ (tb = false ∧ ob = true) ∨ (tb = true ∧ ob = false ∧ decide ((yv : Int) < 4294967296) = false) := by
  rcases hfl with h | h
  ·
   cases ob
   · exact .inl ⟨h, rfl⟩
   · exact .inr (.inl ⟨h, rfl⟩)
  · exact .inr (.inr h)
 clear hfl
 go_enter Try.func65, Try.ntmps65
 go_wp2_with fail
 refine (rTrim_any B m d b _ (by omega) hdm hb).mono ?_
 rintro e w1 ⟨X, cx, rfl, ho, hb1⟩
 have HW1 := Lib.hid hb1
 clear ho hb hb1
 go_wp2_with fail
 refine (hTa.out _ (HA0.out.below HW1.out)).mono ?_
 rintro e w2 ⟨rfl, hb2⟩
 have HW2 := Lib.hid (HW1.out.trans (hb2.mono HW1.out.size))
 clear hb2 HW1
 go_wp2_with fail
 refine (hTb.out _ (HB0.out.below HW2.out)).mono ?_
 rintro e w3 ⟨rfl, hb3⟩
 have HW3 := Lib.hid (HW2.out.trans (hb3.mono HW2.out.size))
 clear hb3 HW2 hTa hTb
 rcases hcase with ⟨rfl, rfl⟩ | ⟨rfl, rfl⟩ | ⟨rfl, rfl, hd⟩
 all_goals
  go_wp2_with (at_make; refine wpList_make_full _ rfl _ _ _ rfl w.heap.size 66 i0 (.int .u32 0) 1 Try.underlying35 hi hz0 hz1 .i64 .i64 _ _ n rfl rfl ?c4 ?c5 ?c1 ?c2 ?c3 ?_)
  case c4 => omega
  case c5 => omega
  case c1 => rw [hz2]; omega
  case c2 => unfold maxLen; omega
  case c3 => exact HW3.out.size
  intro w4 ho hg
  have HST : Hid (BitAt w w4 w3.heap.size n x y (32 * n) (List.replicate n 0) none 0) := by
   have hxlt : x < 2 ^ (32 * n) := by
    have h := val_lt HA0.out.l32
    rw [HX.out, HA0.out.len] at h
    have e := pow_32 n 0
    rw [Nat.pow_zero, Nat.mul_one, Nat.add_zero] at e
    rwa [e] at h
   refine ⟨Own.made ho, ?_, ?_, HW3.out.trans ((below_of_grown hg).mono HW3.out.size)⟩
   · rw [val_replicate, Nat.div_eq_of_lt hxlt, Nat.zero_div, Nat.mul_zero]
   · rw [Nat.div_eq_of_lt hxlt, Nat.zero_mod, lim_zero]; exact Row.nil_ _ _ _
  clear ho hg
  go_wp2
  go_loopw [14, 15] (fun rv iv wr => ∃ (k : Nat) (Q : List Nat) (X : Option Addr) (p cx : Nat), k ≤ 32 * n ∧ iv = .int .i64 ((k : Int) - 1) ∧ rv = .slice X p cx ∧ p ≤ cx ∧ p ≤ 40000000000 ∧ Hid (BitAt w wr w3.heap.size n x y k Q X p)) (fun _ iv _ => (intOf iv + 1).toNat)
  case atStart => exact ⟨32 * n, _, none, 0, 0, by omega, by first | rfl | (congr 1; omega), rfl, by omega, by omega, HST⟩
  case round =>
   obtain ⟨k, Q, X, p, cx, hk, rfl, rfl, hpc, hp8, HB⟩ := hrel
   have ha1 := HA0.out.below HB.out.below
   have hb1 := HB0.out.below HB.out.below
   have hyy := H0.out
   by_cases hk0 : k = 0
   ·
    subst hk0
    have hsum := HB.out.sum
    have hrow := HB.out.row
    rw [Nat.pow_zero, Nat.one_mul, Nat.div_one] at hsum
    rw [Nat.pow_zero, Nat.div_one] at hrow
    have HS := Lib.hid hsum
    have hp := hrow.len
    have hqrow := HB.out.quo.row.lower (Nat.zero_le _)
    have HBL := Lib.hid HB.out.below
    clear HB HST hsum ha1 hb1
    go_wp2_with fail
    refine (rTrim_any _ n n Q _ (by omega) (Nat.le_refl _) hqrow).mono ?_
    rintro e w6 ⟨X2, c2, rfl, ho6, hb6⟩
    have hrow6 := hrow.below hb6
    have HQ := Lib.hid (ho6.lower HBL.out.size)
    have HB6 := Lib.hid (HBL.out.trans (hb6.mono HBL.out.size))
    clear ho6 hb6 hrow hqrow
    go_wp2_with fail
    refine (rTrim_any X p cx (lim (x % y)) _ (by omega) hpc hrow6).mono ?_
    rintro e w7 ⟨Y2, d2, rfl, ho7, hb7⟩
    have HQ7 := Lib.hid (HQ.out.below hb7)
    have HR7 := Lib.hid (ho7.lower HB6.out.size)
    have HB7 := Lib.hid (HB6.out.trans (hb7.mono HB6.out.size))
    clear ho7 hb7 hrow6 hp
    go_wp2
    go_ret3
    have HQ8 := HQ7.out
    have HR8 := HR7.out
    rw [HS.out] at HQ8
    rw [val_lim] at HR8
    exact ⟨X2, c2, Y2, d2, by rw [← HS.out]; first | rfl | (rw [val_lim]; rfl), HQ8, HR8, HB7.out⟩
   ·
    obtain ⟨k, rfl⟩ : ∃ j, k = j + 1 := ⟨k - 1, by omega⟩
    have he1 : ((k + 1 : Nat) : Int) - 1 = (k : Int) := by omega
    simp only [he1]
    obtain ⟨s, t, hkst, ht, hsn⟩ : ∃ s t, k = 32 * s + t ∧ t < 32 ∧ s < n := ⟨k / 32, k % 32, by omega, by omega, by omega⟩
    have hq : (k : Int) / 32 = (s : Int) := by omega
    have hr : (k : Int) % 32 = (t : Int) := by omega
    have hal := ha1.len
    have hbit0 := bit_of ha1.l32 hkst ht (by omega)
    rw [HX.out] at hbit0
    obtain ⟨u1, u2⟩ := div_bit (x := x) (k := k) hyy
    obtain ⟨v1, v2⟩ := q_or HB.out.quo.l32 hkst ht (by rw [HB.out.quo.len]; exact hsn) HB.out.sum
    have hda := ha1.l32 s
    have hdq := HB.out.quo.l32 s
    have hor : bits BinOp.or IntKind.u32 ((dg Q s : Nat) : Int) ((2 : Int) ^ t % 4294967296) = ((dg Q s ||| 2 ^ t : Nat) : Int) := by
     have e : (2 : Int) ^ t = ((2 ^ t : Nat) : Int) := by rw [Int.natCast_pow]; rfl
     have e4 : ∀ u : Nat, u < 4294967296 → ((u : Nat) : Int) % 4294967296 = (u : Int) := by intro u hu; omega
     rw [e, e4 _ (pow_lt_32 ht)]
     exact u32_or_nat _ _ hdq (pow_lt_32 ht)
    have hand : bits BinOp.and IntKind.u32 (((dg a s : Nat) : Int) / (2 : Int) ^ t) 1 = ((dg a s / 2 ^ t % 2 : Nat) : Int) := by
     have e : (2 : Int) ^ t = ((2 ^ t : Nat) : Int) := by rw [Int.natCast_pow]; rfl
     rw [e]
     have e2 : ((dg a s : Nat) : Int) / ((2 ^ t : Nat) : Int) = ((dg a s / 2 ^ t : Nat) : Int) := rfl
     rw [e2]
     exact and_one (Nat.lt_of_le_of_lt (Nat.div_le_self _ _) hda)
    have hrl : (lim (x / 2 ^ (k + 1) % y)).length ≤ 40000000000 := by
     have := lim_len_mono (Nat.le_of_lt (Nat.mod_lt (x / 2 ^ (k + 1)) hyy))
     omega
    obtain ⟨pl, hpl⟩ : ∃ pl, pl = (lim (x / 2 ^ (k + 1) % y)).length := ⟨_, rfl⟩
    have hpl2 : pl ≤ 40000000000 := by rw [hpl]; exact hrl
    have hrb : Bd (x / 2 ^ (k + 1) % y) pl := by
     have h5 := val_lt (L32_lim (x / 2 ^ (k + 1) % y))
     rw [val_lim, ← hpl] at h5
     exact h5
    clear hpl
    obtain ⟨r, hrr⟩ : ∃ r, r = x / 2 ^ (k + 1) % y := ⟨_, rfl⟩
    rw [← hrr] at u1 u2 hrb
    have hrow := HB.out.row
    rw [← hrr] at hrow
    have hp := hrow.len
    have hvr : val (lim r) = r := val_lim r
    have hb2l : (lim (2 * r)).length ≤ 40000000002 := by
     have h6 := (hrb.add hrb).more (show max pl pl + 1 ≤ 40000000002 by omega)
     rw [← Nat.two_mul] at h6
     exact h6.len
    have hb3l : (lim (2 * r + 1)).length ≤ 40000000003 := by
     have h5 : Bd 1 1 := by show (1 : Nat) < 4294967296 ^ 1; omega
     have h6 := ((hrb.add hrb).add h5).more (show max (max pl pl + 1) 1 + 1 ≤ 40000000003 by omega)
     rw [← Nat.two_mul] at h6
     exact h6.len
    obtain ⟨b', off, rfl, h1, h2, hc⟩ := ha1.mem (by omega)
    have hca0 := hc s hsn
    have HBB := Lib.hid HB.out.below
    have HQO := Lib.hid HB.out.quo
    have HHX := Lib.hid (fun h => u1 h)
    have HHY := Lib.hid (fun h => u2 h)
    have HV1 := Lib.hid v1
    have HV2 := Lib.hid v2
    have HSM := Lib.hid HB.out.sum
    have HBIT := Lib.hid hbit0
    have HKS := Lib.hid hkst
    have HRR := Lib.hid hrr
    have hbt2 : dg a s / 2 ^ t % 2 = 0 ∨ dg a s / 2 ^ t % 2 = 1 := by omega
    have hpl : p = (lim r).length := hp.symm
    clear hbit0 u1 u2 v1 v2 HB HST ha1 hc hda hkst hrr hp hrb hyy he1 hal
    subst hpl
    rcases hbt2 with hbt | hbt
    ·
     have hand1 : bits BinOp.and IntKind.u32 (((dg a s : Nat) : Int) / (2 : Int) ^ t) 1 = 0 := by rw [hand, hbt]; rfl
     have HT : Hid (2 * r + x / 2 ^ k % 2 = (2 * r)) := by show _ = _; have h9 := HBIT.out; omega
     clear hand hbt
     go_wp2_with fail
     refine (rShift_one r X _ cx (lim r) _ hvr (by omega) hpc hrow).mono ?_
     rintro e w5 ⟨X5, c5, rfl, ho5, hb5⟩
     have h5 := ho5.row.lower (Nat.zero_le _)
     have h5c := ho5.capLe
     have hca5 := (hb5.cell (p := ⟨b', off + s, none⟩) h2).trans hca0
     have HB5 := Lib.hid (HBB.out.trans (hb5.mono HBB.out.size))
     have HQ5 := Lib.hid (HQO.out.below hb5)
     clear ho5 hb5 hca0 hrow HBB HQO
     have hbw := HB0.out.below HB5.out
     by_cases hge : y ≤ (2 * r)
     ·
      have hsg : ∃ sg : Int, 0 ≤ sg ∧ sg ≤ 1 ∧ cmpI (2 * r) y = sg := by
       refine ⟨_, ?_, ?_, rfl⟩
       · unfold cmpI; rw [if_neg (by omega)]; split <;> omega
       · unfold cmpI; rw [if_neg (by omega)]; split <;> omega
      obtain ⟨sg, hsg0, hsg1, hsg2⟩ := hsg
      have HSG := Lib.hid hsg2
      have HGE := Lib.hid hge
      clear hsg2 hge
      go_wp2_with fail
      refine (rCmp_v (2 * r) y sg X5 B (lim (2 * r)).length m c5 d (lim (2 * r)) b _ (val_lim _) HY.out HSG.out (by omega) (by omega) h5c hdm h5 hbw).mono ?_
      rintro e w7 ⟨rfl, hb7⟩
      have h7 := h5.below hb7
      have HB7 := Lib.hid (HB5.out.trans (hb7.mono HB5.out.size))
      have HQ7 := Lib.hid (HQ5.out.below hb7)
      have hbw7 := hbw.below hb7
      clear hb7 h5 hbw HB5 HQ5
      go_wp2_with fail
      refine (rSub_v (2 * r) y X5 B (lim (2 * r)).length m c5 d (lim (2 * r)) b _ (val_lim _) HY.out (by omega) (by omega) h5c hdm h7 hbw7 HGE.out).mono ?_
      rintro e w8 ⟨X8, c8, rfl, ho8, hb8⟩
      have h8 := ho8.row.lower (Nat.zero_le _)
      have h8c := ho8.capLe
      have hQ8 := HQ7.out.below hb8
      obtain ⟨e7, e8⟩ := HHY.out (by rw [HT.out]; exact HGE.out)
      rw [HT.out] at e8
      have hfin : Hid (BitAt w (w8.setCell ⟨w3.heap.size, s, none⟩ (.int .u32 ((dg Q s ||| 2 ^ t : Nat) : Int))) w3.heap.size n x y k (Q.set s (dg Q s ||| 2 ^ t)) X8 (lim ((2 * r) - y)).length) := by
       refine ⟨hQ8.set HV1.out, ?_, ?_, (HB7.out.trans (hb8.mono HB7.out.size)).setCell HW3.out.size _⟩
       · rw [HV2.out, e7]
       ·
        rw [e8]
        refine h8.set _ (fun ad e => ?_)
        have := own_block ho8 ad e
        have hq9 := own_block HQ7.out _ rfl
        have : w3.heap.size < w7.heap.size := hq9.2
        show ad.block ≠ w3.heap.size
        omega
      have hl8 : (lim ((2 * r) - y)).length ≤ 40000000000 := by
       have := lim_len_mono (Nat.le_of_lt (Nat.mod_lt (x / 2 ^ k) H0.out))
       rw [e8] at this
       omega
      obtain ⟨bq, oq, hAq, q1, q2, hcq⟩ := hQ8.row.mem (by omega)
      injection hAq with hAq
      injection hAq with eq1 eq2
      subst eq1 eq2
      have hcs := hcq s hsn
      rw [Nat.zero_add] at hcs
      have hfs := hQ8.own.frozenAt s
      clear hcq hQ8 h8 ho8 hb8 e7 e8 h7 hbw7 HB7 HQ7 hand1
      go_wp2
      go_roundw
      case rel => exact ⟨k, _, X8, _, c8, by omega, rfl, rfl, h8c, hl8, by first | exact hfin | (rw [hor]; exact hfin)⟩
      case measure => simp [intOf]
     ·
      have hlt : (2 * r) < y := by omega
      obtain ⟨e7, e8⟩ := HHX.out (by rw [HT.out]; exact hlt)
      rw [HT.out] at e8
      have HSG := Lib.hid (cmpI_lt hlt)
      have hl8 : (lim (2 * r)).length ≤ 40000000000 := by
       have := lim_len_mono (Nat.le_of_lt hlt)
       omega
      have E7 := Lib.hid e7
      have E8 := Lib.hid e8
      clear hge hlt e7 e8
      go_wp2_with fail
      refine (rCmp_v (2 * r) y (-1) X5 B (lim (2 * r)).length m c5 d (lim (2 * r)) b _ (val_lim _) HY.out HSG.out (by omega) (by omega) h5c hdm h5 hbw).mono ?_
      rintro e w7 ⟨rfl, hb7⟩
      have hfin : Hid (BitAt w w7 w3.heap.size n x y k Q X5 (lim (2 * r)).length) := by
       refine ⟨HQ5.out.below hb7, ?_, ?_, HB5.out.trans (hb7.mono HB5.out.size)⟩
       · rw [HSM.out, E7.out, Nat.pow_succ, Nat.mul_assoc]
       · rw [E8.out]; exact h5.below hb7
      clear hb7 h5 hbw HB5 HQ5 hand1
      go_wp2
      go_roundw
      case rel => exact ⟨k, Q, X5, _, c5, by omega, rfl, rfl, h5c, hl8, hfin⟩
      case measure => simp [intOf]
    ·
     have hand1 : bits BinOp.and IntKind.u32 (((dg a s : Nat) : Int) / (2 : Int) ^ t) 1 = 1 := by rw [hand, hbt]; rfl
     have HT : Hid (2 * r + x / 2 ^ k % 2 = (2 * r + 1)) := by show _ = _; have h9 := HBIT.out; omega
     clear hand hbt
     go_wp2_with fail
     refine (rShift_one r X _ cx (lim r) _ hvr (by omega) hpc hrow).mono ?_
     rintro e w5 ⟨X5, c5, rfl, ho5, hb5⟩
     have h5 := ho5.row.lower (Nat.zero_le _)
     have h5c := ho5.capLe
     have hca5 := (hb5.cell (p := ⟨b', off + s, none⟩) h2).trans hca0
     have HB5 := Lib.hid (HBB.out.trans (hb5.mono HBB.out.size))
     have HQ5 := Lib.hid (HQO.out.below hb5)
     clear ho5 hb5 hca0 hrow HBB HQO
     have h1r : Row (w5.alloc (.cells #[.int .u32 1] 66)) 0 (some ⟨w5.heap.size, 0, none⟩) 1 [1] := Row.one (by rfl) (by omega) (Nat.zero_le _)
     go_wp2_with fail
     refine (rAdd_v (2 * r) 1 X5 _ (lim (2 * r)).length 1 c5 1 (lim (2 * r)) [1] _ (val_lim _) (by simp [val]) (by omega) (by omega) (h5.alloc _) h1r).mono ?_
     rintro e w6 ⟨X6, c6, rfl, ho6, hb6⟩
     have h6 := ho6.row.lower (Nat.zero_le _)
     have h6c := ho6.capLe
     have hb56 := (below_alloc w5 (.cells #[.int .u32 1] 66)).trans (hb6.mono (by simp))
     have HB6 := Lib.hid (HB5.out.trans (hb56.mono HB5.out.size))
     have HQ6 := Lib.hid (HQ5.out.below hb56)
     clear ho6 hb6 hb56 h5 h1r hca5 HB5 HQ5
     have hbw := HB0.out.below HB6.out
     by_cases hge : y ≤ (2 * r + 1)
     ·
      have hsg : ∃ sg : Int, 0 ≤ sg ∧ sg ≤ 1 ∧ cmpI (2 * r + 1) y = sg := by
       refine ⟨_, ?_, ?_, rfl⟩
       · unfold cmpI; rw [if_neg (by omega)]; split <;> omega
       · unfold cmpI; rw [if_neg (by omega)]; split <;> omega
      obtain ⟨sg, hsg0, hsg1, hsg2⟩ := hsg
      have HSG := Lib.hid hsg2
      have HGE := Lib.hid hge
      clear hsg2 hge
      go_wp2_with fail
      refine (rCmp_v (2 * r + 1) y sg X6 B (lim (2 * r + 1)).length m c6 d (lim (2 * r + 1)) b _ (val_lim _) HY.out HSG.out (by omega) (by omega) h6c hdm h6 hbw).mono ?_
      rintro e w7 ⟨rfl, hb7⟩
      have h7 := h6.below hb7
      have HB7 := Lib.hid (HB6.out.trans (hb7.mono HB6.out.size))
      have HQ7 := Lib.hid (HQ6.out.below hb7)
      have hbw7 := hbw.below hb7
      clear hb7 h6 hbw HB6 HQ6
      go_wp2_with fail
      refine (rSub_v (2 * r + 1) y X6 B (lim (2 * r + 1)).length m c6 d (lim (2 * r + 1)) b _ (val_lim _) HY.out (by omega) (by omega) h6c hdm h7 hbw7 HGE.out).mono ?_
      rintro e w8 ⟨X8, c8, rfl, ho8, hb8⟩
      have h8 := ho8.row.lower (Nat.zero_le _)
      have h8c := ho8.capLe
      have hQ8 := HQ7.out.below hb8
      obtain ⟨e7, e8⟩ := HHY.out (by rw [HT.out]; exact HGE.out)
      rw [HT.out] at e8
      have hfin : Hid (BitAt w (w8.setCell ⟨w3.heap.size, s, none⟩ (.int .u32 ((dg Q s ||| 2 ^ t : Nat) : Int))) w3.heap.size n x y k (Q.set s (dg Q s ||| 2 ^ t)) X8 (lim ((2 * r + 1) - y)).length) := by
       refine ⟨hQ8.set HV1.out, ?_, ?_, (HB7.out.trans (hb8.mono HB7.out.size)).setCell HW3.out.size _⟩
       · rw [HV2.out, e7]
       ·
        rw [e8]
        refine h8.set _ (fun ad e => ?_)
        have := own_block ho8 ad e
        have hq9 := own_block HQ7.out _ rfl
        have : w3.heap.size < w7.heap.size := hq9.2
        show ad.block ≠ w3.heap.size
        omega
      have hl8 : (lim ((2 * r + 1) - y)).length ≤ 40000000000 := by
       have := lim_len_mono (Nat.le_of_lt (Nat.mod_lt (x / 2 ^ k) H0.out))
       rw [e8] at this
       omega
      obtain ⟨bq, oq, hAq, q1, q2, hcq⟩ := hQ8.row.mem (by omega)
      injection hAq with hAq
      injection hAq with eq1 eq2
      subst eq1 eq2
      have hcs := hcq s hsn
      rw [Nat.zero_add] at hcs
      have hfs := hQ8.own.frozenAt s
      clear hcq hQ8 h8 ho8 hb8 e7 e8 h7 hbw7 HB7 HQ7 hand1
      go_wp2
      go_roundw
      case rel => exact ⟨k, _, X8, _, c8, by omega, rfl, rfl, h8c, hl8, by first | exact hfin | (rw [hor]; exact hfin)⟩
      case measure => simp [intOf]
     ·
      have hlt : (2 * r + 1) < y := by omega
      obtain ⟨e7, e8⟩ := HHX.out (by rw [HT.out]; exact hlt)
      rw [HT.out] at e8
      have HSG := Lib.hid (cmpI_lt hlt)
      have hl8 : (lim (2 * r + 1)).length ≤ 40000000000 := by
       have := lim_len_mono (Nat.le_of_lt hlt)
       omega
      have E7 := Lib.hid e7
      have E8 := Lib.hid e8
      clear hge hlt e7 e8
      go_wp2_with fail
      refine (rCmp_v (2 * r + 1) y (-1) X6 B (lim (2 * r + 1)).length m c6 d (lim (2 * r + 1)) b _ (val_lim _) HY.out HSG.out (by omega) (by omega) h6c hdm h6 hbw).mono ?_
      rintro e w7 ⟨rfl, hb7⟩
      have hfin : Hid (BitAt w w7 w3.heap.size n x y k Q X6 (lim (2 * r + 1)).length) := by
       refine ⟨HQ6.out.below hb7, ?_, ?_, HB6.out.trans (hb7.mono HB6.out.size)⟩
       · rw [HSM.out, E7.out, Nat.pow_succ, Nat.mul_assoc]
       · rw [E8.out]; exact h6.below hb7
      clear hb7 h6 hbw HB6 HQ6 hand1
      go_wp2
      go_roundw
      case rel => exact ⟨k, Q, X6, _, c6, by omega, rfl, rfl, h6c, hl8, hfin⟩
      case measure => simp [intOf]
end Go.Proofs.Ytjbhhccklfddaaa
namespace Go.Proofs.Ytjbhhccklfddaaa
set_option maxRecDepth 20000
open Go.RowKit
set_option maxHeartbeats 800000 in
theorem rDivMod_small (A B : Option Addr) (n m c d x y : Nat) (a b : List Nat) (w : World) (hn : n ≤ 40000000000) (hm : m ≤ 40000000000) (hcn : n ≤ c) (hdm : m ≤ d) (ha : Row w 0 A n a) (hb : Row w 0 B m b) (hx : val a = x) (hy : val b = y) (h0 : 0 < y) (hxl : 2 < (lim x).length) (hyb : y < 4294967296) :
  Calls Try.prog 65 #[.slice A n c, .slice B m d] w fun e w' => ∃ X2 c2 Y2 d2, e = .returned (.tuple #[.slice X2 (lim (x / y)).length c2, .slice Y2 (lim (x % y)).length d2, .bool true]) ∧ Own w' w.heap.size X2 c2 (lim (x / y)).length (lim (x / y)) ∧ Own w' w.heap.size Y2 d2 (lim (x % y)).length (lim (x % y)) ∧ Below w.heap.size w w' := by
 subst hx hy
 have hyl : (lim (val b)).length ≤ 2 := lim_len_lt (k := 2) (Nat.lt_of_lt_of_le hyb (by decide))
 have hbl : (((lim (val b)).length : Int) == 0) = false := by rw [beq_eq_false_iff_ne]; have := len_pos' h0; omega
 have HA0 := Lib.hid ha
 have hrem : val a % val b < 4294967296 := Nat.lt_trans (Nat.mod_lt _ h0) hyb
 have hrem2 : val a % val b < 18446744073709551616 := by omega
 have HTA := Lib.hid (fun (w' : World) (h : Row w' 0 A n a) => rTo_no A n c a w' (by omega) hcn h hxl)
 have HTB := Lib.hid (fun (w' : World) (h : Row w' 0 B m b) => rTo_yes B m d b w' (by omega) hdm h hyl)
 have HSM := Lib.hid (fun (w' : World) (h : Row w' 0 A n a) => small_any A n c (val b) a w' (by omega) h0 hyb h)
 have hd : decide (((val b : Nat) : Int) < 4294967296) = true := by rw [decide_eq_true_iff]; omega
 have HR2 := Lib.hid hrem2
 clear hrem hxl h0 hyb hrem2
 go_enter Try.func65, Try.ntmps65
 go_wp2_with fail
 refine (rTrim_any B m d b _ (by omega) hdm hb).mono ?_
 rintro e w1 ⟨X, cx, rfl, ho, hb1⟩
 replace ha := ha.below hb1
 replace hb := hb.below hb1
 have HW1 := Lib.hid hb1
 clear ho hb1
 go_wp2_with fail
 refine (HTA.out _ ha).mono ?_
 rintro e w2 ⟨rfl, hb2⟩
 replace hb := hb.below hb2
 replace ha := ha.below hb2
 have HW2 := Lib.hid (HW1.out.trans (hb2.mono HW1.out.size))
 clear hb2 HW1
 go_wp2_with fail
 refine (HTB.out _ hb).mono ?_
 rintro e w3 ⟨rfl, hb3⟩
 replace ha := ha.below hb3
 have HW3 := Lib.hid (HW2.out.trans (hb3.mono HW2.out.size))
 clear hb3 HW2 hb HTA HTB
 go_wp2_with fail
 refine (HSM.out _ ha).mono ?_
 rintro e w4 ⟨X4, c4, rfl, ho4, hb4⟩
 have HQ4 := Lib.hid (ho4.lower HW3.out.size)
 have HW4 := Lib.hid (HW3.out.trans (hb4.mono HW3.out.size))
 clear ho4 hb4 ha HW3 HSM
 go_wp2_with fail
 refine (rOf_any (val a % val b) _ HR2.out).mono ?_
 rintro e w5 ⟨X5, c5, rfl, ho5, hb5⟩
 have HQ5 := Lib.hid (HQ4.out.below hb5)
 have HR5 := Lib.hid (ho5.lower HW4.out.size)
 have HW5 := Lib.hid (HW4.out.trans (hb5.mono HW4.out.size))
 clear ho5 hb5
 go_wp2
 go_ret3
 exact ⟨X4, c4, X5, c5, rfl, HQ5.out, HR5.out, HW5.out⟩
end Go.Proofs.Ytjbhhccklfddaaa
namespace Go.Proofs.Ytjbhhccklfddaaa
set_option maxRecDepth 20000
open Go.RowKit
theorem rOf_i (i : Int) (z : Nat) (w : World) (hi : i = (z : Int)) (hz : z < 18446744073709551616) :
  Calls Try.prog 39 #[.int .u64 i] w fun e w' => ∃ A2 c2, e = .returned (.slice A2 (lim z).length c2) ∧ Own w' w.heap.size A2 c2 (lim z).length (lim z) ∧ Below w.heap.size w w' := by
 subst hi
 exact rOf_any z w hz
set_option maxHeartbeats 1600000 in
theorem rDivMod_word (A B : Option Addr) (n m c d x y : Nat) (a b : List Nat) (w : World) (hn : n ≤ 1000000000000) (hm : m ≤ 1000000000000) (hcn : n ≤ c) (hdm : m ≤ d) (ha : Row w 0 A n a) (hb : Row w 0 B m b) (hx : val a = x) (hy : val b = y) (h0 : 0 < y) (hxl : (lim x).length ≤ 2) (hyl : (lim y).length ≤ 2) :
  Calls Try.prog 65 #[.slice A n c, .slice B m d] w fun e w' => ∃ X2 c2 Y2 d2, e = .returned (.tuple #[.slice X2 (lim (x / y)).length c2, .slice Y2 (lim (x % y)).length d2, .bool true]) ∧ Own w' w.heap.size X2 c2 (lim (x / y)).length (lim (x / y)) ∧ Own w' w.heap.size Y2 d2 (lim (x % y)).length (lim (x % y)) ∧ Below w.heap.size w w' := by
 subst hx hy
 have hxw := val_of_len2 hxl
 have hyw := val_of_len2 hyl
 have hbl : (((lim (val b)).length : Int) == 0) = false := by rw [beq_eq_false_iff_ne]; have := len_pos' h0; omega
 have HTA := Lib.hid (fun (w' : World) (h : Row w' 0 A n a) => rTo_yes A n c a w' (by omega) hcn h hxl)
 have HTB := Lib.hid (fun (w' : World) (h : Row w' 0 B m b) => rTo_yes B m d b w' (by omega) hdm h hyl)
 have hq : val a / val b < 18446744073709551616 := Nat.lt_of_le_of_lt (Nat.div_le_self _ _) hxw
 have hr : val a % val b < 18446744073709551616 := Nat.lt_of_le_of_lt (Nat.mod_le _ _) hxw
 have HQ := Lib.hid hq
 have HR := Lib.hid hr
 have hbn : ¬ (val b : Int) = 0 := by omega
 have EQ : Hid (IntKind.u64.wrap ((val a : Int) / (val b : Int)) = ((val a / val b : Nat) : Int)) := by
  show _ = _
  exact IntWalk.u64_in _ ⟨Int.natCast_nonneg (val a / val b), by have e : (val a : Int) / (val b : Int) = ((val a / val b : Nat) : Int) := rfl; omega⟩
 have EQ2 : Hid ((val a : Int) / (val b : Int) = ((val a / val b : Nat) : Int)) := rfl
 have ER2 : Hid ((val a : Int) % (val b : Int) = ((val a % val b : Nat) : Int)) := rfl
 have ER : Hid ((val a : Int).tmod (val b : Int) = ((val a % val b : Nat) : Int)) := by
  show _ = _
  rw [Int.tmod_eq_emod_of_nonneg (by omega), ← Int.natCast_emod]
 clear hxl hyl hq hr h0 hxw hyw
 go_enter Try.func65, Try.ntmps65
 go_wp2_with fail
 refine (rTrim_any B m d b _ (by omega) hdm hb).mono ?_
 rintro e w1 ⟨X, cx, rfl, ho, hb1⟩
 replace ha := ha.below hb1
 replace hb := hb.below hb1
 have HW1 := Lib.hid hb1
 clear ho hb1
 go_wp2_with fail
 refine (HTA.out _ ha).mono ?_
 rintro e w2 ⟨rfl, hb2⟩
 replace hb := hb.below hb2
 replace ha := ha.below hb2
 have HW2 := Lib.hid (HW1.out.trans (hb2.mono HW1.out.size))
 clear hb2 HW1
 go_wp2_with fail
 refine (HTB.out _ hb).mono ?_
 rintro e w3 ⟨rfl, hb3⟩
 have HW3 := Lib.hid (HW2.out.trans (hb3.mono HW2.out.size))
 clear hb3 HW2 hb ha HTA HTB
 go_upto_region 6 with fail
 have HW4 := Lib.hid (HW3.out.trans (below_drewN' _ _ 1))
 clear HW3
 go_region_with (first
  | (
    go_at_call_has 39 (Value.int .u64 (IntKind.u64.wrap ((val a : Int) / (val b : Int))))
    refine (rOf_i _ (val a / val b) _ EQ.out HQ.out).mono ?_
    rintro e w5 ⟨X5, c5, rfl, ho5, hb5⟩)
  | (
    go_at_call_has 39 (Value.int .u64 ((val a : Int) / (val b : Int)))
    refine (rOf_i _ (val a / val b) _ EQ2.out HQ.out).mono ?_
    rintro e w5 ⟨X5, c5, rfl, ho5, hb5⟩)
  | (
    go_at_call_has 39 (Value.int .u64 ((val a : Int) % (val b : Int)))
    refine (rOf_i _ (val a % val b) _ ER2.out HR.out).mono ?_
    rintro e w6 ⟨X6, c6, rfl, ho6, hb6⟩)
  | (
    go_at_call_has 39 (Value.int .u64 ((val a : Int).tmod (val b : Int)))
    refine (rOf_i _ (val a % val b) _ ER.out HR.out).mono ?_
    rintro e w6 ⟨X6, c6, rfl, ho6, hb6⟩))
 all_goals (go_wp2; go_ret3)
 all_goals first
  | (
    have HW5 := HW4.out.trans (hb5.mono HW4.out.size)
    exact ⟨X5, c5, X6, c6, rfl, (ho5.lower HW4.out.size).below hb6, ho6.lower HW5.size, HW5.trans (hb6.mono HW5.size)⟩)
  | (
    have HW6 := HW4.out.trans (hb6.mono HW4.out.size)
    exact ⟨X5, c5, X6, c6, rfl, ho5.lower HW6.size, (ho6.lower HW4.out.size).below hb5, HW6.trans (hb5.mono HW6.size)⟩)
end Go.Proofs.Ytjbhhccklfddaaa
namespace Go.Proofs.Ytjbhhccklfddaaa
set_option maxRecDepth 20000
open Go.RowKit
theorem rDivMod_pos (A B : Option Addr) (n m c d x y : Nat) (a b : List Nat) (w : World) (hn : n ≤ 40000000000) (hm : m ≤ 40000000000) (hcn : n ≤ c) (hdm : m ≤ d) (ha : Row w 0 A n a) (hb : Row w 0 B m b) (hx : val a = x) (hy : val b = y) (h0 : 0 < y) :
  Calls Try.prog 65 #[.slice A n c, .slice B m d] w fun e w' => ∃ X2 c2 Y2 d2, e = .returned (.tuple #[.slice X2 (lim (x / y)).length c2, .slice Y2 (lim (x % y)).length d2, .bool true]) ∧ Own w' w.heap.size X2 c2 (lim (x / y)).length (lim (x / y)) ∧ Own w' w.heap.size Y2 d2 (lim (x % y)).length (lim (x % y)) ∧ Below w.heap.size w w' := by
 by_cases hxl : (lim x).length ≤ 2
 ·
  by_cases hyl : (lim y).length ≤ 2
  · exact rDivMod_word A B n m c d x y a b w (by omega) (by omega) hcn hdm ha hb hx hy h0 hxl hyl
  ·
   exact rDivMod_long A B n m c d x y x 0 true false a b w hn hm hdm ha hb hx hy h0
    (fun w' h => by subst hx; exact rTo_yes A n c a w' (by omega) hcn h hxl)
    (fun w' h => rTo_no B m d b w' (by omega) hdm h (by rw [hy]; omega)) (.inl rfl)
 ·
  by_cases hyl : (lim y).length ≤ 2
  ·
   by_cases hyb : y < 4294967296
   · exact rDivMod_small A B n m c d x y a b w hn hm hcn hdm ha hb hx hy h0 (by omega) hyb
   ·
    exact rDivMod_long A B n m c d x y 0 y false true a b w hn hm hdm ha hb hx hy h0
     (fun w' h => rTo_no A n c a w' (by omega) hcn h (by rw [hx]; omega))
     (fun w' h => by subst hy; exact rTo_yes B m d b w' (by omega) hdm h hyl)
     (.inr ⟨rfl, rfl, by rw [decide_eq_false_iff_not]; omega⟩)
  ·
   exact rDivMod_long A B n m c d x y 0 0 false false a b w hn hm hdm ha hb hx hy h0
    (fun w' h => rTo_no A n c a w' (by omega) hcn h (by rw [hx]; omega))
    (fun w' h => rTo_no B m d b w' (by omega) hdm h (by rw [hy]; omega)) (.inl rfl)
theorem rTrim_v (x : Nat) (A : Option Addr) (n c : Nat) (l : List Nat) (w : World) (hx : val l = x) (hn : n ≤ 10000000000000) (hcap : n ≤ c) (hr : Row w 0 A n l) :
  Calls Try.prog 54 #[.slice A n c] w fun e w' => ∃ A2 c2, e = .returned (.slice A2 (lim x).length c2) ∧ Own w' w.heap.size A2 c2 (lim x).length (lim x) ∧ Below w.heap.size w w' := by
 subst hx; exact rTrim_any A n c l w hn hcap hr
structure RGcdAt (w wr : World) (x y u v : Nat) (X Y : Option Addr) (cx cy : Nat) : Prop where
 row1 : Own wr w.heap.size X cx (lim u).length (lim u)
 row2 : Own wr w.heap.size Y cy (lim v).length (lim v)
 gcd : Nat.gcd u v = Nat.gcd x y
 below : Below w.heap.size w wr
set_option maxHeartbeats 1000000 in
theorem rGcd_any (A B : Option Addr) (n m c d x y : Nat) (a b : List Nat) (w : World) (hn : n ≤ 40000000000) (hm : m ≤ 40000000000) (hcn : n ≤ c) (hdm : m ≤ d) (ha : Row w 0 A n a) (hb : Row w 0 B m b) (hx : val a = x) (hy : val b = y) :
  Calls Try.prog 64 #[.slice A n c, .slice B m d] w fun e w' => ∃ X2 c2, e = .returned (.slice X2 (lim (Nat.gcd x y)).length c2) ∧ Own w' w.heap.size X2 c2 (lim (Nat.gcd x y)).length (lim (Nat.gcd x y)) ∧ Below w.heap.size w w' := by
 have hlx : (lim x).length ≤ 40000000000 := by rw [← hx]; have := lim_len_le ha.l32; have := ha.len; omega
 have hly : (lim y).length ≤ 40000000000 := by rw [← hy]; have := lim_len_le hb.l32; have := hb.len; omega
 have HX := Lib.hid hx
 have HY := Lib.hid hy
 clear hx hy
 go_enter Try.func64, Try.ntmps64
 go_wp2_with fail
 refine (rTrim_v x A n c a _ HX.out (by omega) hcn ha).mono ?_
 rintro e w1 ⟨X, cx, rfl, ho1, hb1⟩
 replace hb := hb.below hb1
 clear ha
 go_wp2_with fail
 refine (rTrim_v y B m d b _ HY.out (by omega) hdm hb).mono ?_
 rintro e w2 ⟨Y, cy, rfl, ho2, hb2⟩
 have HG : Hid (RGcdAt w w2 x y x y X Y cx cy) := ⟨ho1.below hb2, ho2.lower hb1.size, rfl, hb1.trans (hb2.mono hb1.size)⟩
 clear ho1 ho2 hb hb1 hb2
 go_wp2
 go_loopg [5, 6, 7, 8, 9] y (fun g s0 s1 _ _ _ wx => ∃ (X Y : Option Addr) (u v cx cy : Nat), v = g ∧ s0 = .slice X (lim u).length cx ∧ s1 = .slice Y (lim v).length cy ∧ (lim u).length ≤ 40000000000 ∧ (lim v).length ≤ 40000000000 ∧ Hid (RGcdAt w wx x y u v X Y cx cy))
 case atStart => exact ⟨X, Y, x, y, cx, cy, rfl, rfl, rfl, hlx, hly, HG⟩
 case round =>
  obtain ⟨X, Y, u, v, cx, cy, rfl, rfl, rfl, hlu, hlv, HG⟩ := hrel
  by_cases hv0 : (lim v).length = 0
  ·
   have hvz : v = 0 := by
    have := val_lim v
    rw [List.eq_nil_of_length_eq_zero hv0] at this
    simpa [val] using this.symm
   have E : Hid (u = Nat.gcd x y) := by show _ = _; rw [← HG.out.gcd, hvz, Nat.gcd_zero_right]
   have hv1 : (lim v).length ≤ 0 := by omega
   have HO := Lib.hid HG.out.row1
   have HB := Lib.hid HG.out.below
   clear HG hv0 hvz
   go_wp2
   go_ret
   have HO2 := HO.out
   rw [E.out] at HO2
   exact ⟨X, cx, by rw [← E.out]; rfl, HO2, HB.out⟩
  ·
   have hvp : 0 < v := by
    rcases Nat.eq_zero_or_pos v with h0 | h0
    · subst h0; rw [lim_zero] at hv0; simp at hv0
    · exact h0
   have hv1 : 0 < (lim v).length := by omega
   have hbw := HG.out.below
   have HD := Lib.hid (rDivMod_pos X Y (lim u).length (lim v).length cx cy u v (lim u) (lim v) wr hlu hlv HG.out.row1.capLe HG.out.row2.capLe (HG.out.row1.row.lower (Nat.zero_le _)) (HG.out.row2.row.lower (Nat.zero_le _)) (val_lim _) (val_lim _) hvp)
   have hml : u % v < v := Nat.mod_lt _ hvp
   have hrl : (lim (u % v)).length ≤ 40000000000 := by
    have := lim_len_mono (show u % v ≤ v from Nat.le_of_lt hml)
    omega
   have HM := Lib.hid hml
   have STEP : Hid (∀ (w4 : World) (Z : Option Addr) (cz : Nat), Own w4 wr.heap.size Z cz (lim (u % v)).length (lim (u % v)) → Below wr.heap.size wr w4 → RGcdAt w w4 x y v (u % v) Y Z cy cz) :=
    fun w4 Z cz hz hb => ⟨HG.out.row2.below hb, hz.lower hbw.size, (gcd_step u v).trans HG.out.gcd, hbw.trans (hb.mono hbw.size)⟩
   clear HG hv0 hvp hml hbw
   go_wp2_with fail
   refine HD.out.mono ?_
   rintro e w4 ⟨X2, c2, Z, cz, rfl, hq, hrr, hb4⟩
   have HS := Lib.hid (STEP.out w4 Z cz hrr hb4)
   clear hq hrr hb4 HD STEP
   go_wp2
   go_roundg (u % v)
   case measure => exact HM.out
   case rel => exact ⟨Y, Z, v, u % v, cy, cz, rfl, rfl, rfl, hlv, hrl, HS⟩
end Go.Proofs.Ytjbhhccklfddaaa
