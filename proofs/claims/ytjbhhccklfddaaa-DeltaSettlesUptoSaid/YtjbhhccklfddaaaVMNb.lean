/-
  The program's Mul: a row so often added into a row.
  The program's Mul, and the known carry.
  The known carry, as every law asks it.
  Plain numbers: which of two rows is the greater.
  Which of two rows is the greater: the program's Cmp.
  Which of two rows is the greater: the document's Cmp.
  One less the other: the document's way.
  A product: the document's way.
  What a law's walk keeps: bounds on numbers, contracts said of numbers.
-/
import Derived.Test.YtjbhhccklfddaaaVMNa
namespace Go.Proofs.Ytjbhhccklfddaaa
set_option maxRecDepth 20000
open Go.RowKit
theorem val_set (L : List Nat) (k x : Nat) (hk : k < L.length) : val (L.set k x) + 4294967296 ^ k * dg L k = val L + 4294967296 ^ k * x := by
 induction L generalizing k with
 | nil => simp at hk
 |
  cons y L ih =>
  cases k with
  | zero => simp [val]; omega
  |
   succ k =>
   have h := ih k (by simpa using hk)
   simp only [List.set_cons_succ, val, dg_succ, Nat.pow_succ]
   have h2 := congrArg (4294967296 * ·) h
   simp only [Nat.mul_add] at h2
   rw [← Nat.mul_assoc, ← Nat.mul_assoc, Nat.mul_comm 4294967296 (4294967296 ^ k)] at h2
   omega
theorem dg_set_ne (L : List Nat) (k x j : Nat) (h : k ≠ j) : dg (L.set k x) j = dg L j := by
 rw [dg_eq, dg_eq, List.getElem?_set_ne h]
theorem mul_step {P Q R V0 V V' c f u s x c' T : Nat} (h : V + P * c = V0 + Q * (f * T)) (hs : V' + P * s = V + P * x) (ht : x + 4294967296 * c' = c + (u * f + s)) (hP : P = Q * R) :
  V' + (P * 4294967296) * c' = V0 + Q * (f * (T + R * u)) := by
 have e := congrArg (P * ·) ht
 simp only [Nat.mul_add] at e
 rw [← Nat.mul_assoc P 4294967296 c'] at e
 have e2 : Q * (f * (T + R * u)) = Q * (f * T) + P * (u * f) := by
  rw [hP, Nat.mul_add, Nat.mul_add, Nat.mul_assoc Q R]
  congr 2
  rw [Nat.mul_comm u f, Nat.mul_left_comm]
 rw [e2]
 omega
structure TimesAt (w0 wr : World) (g N i f : Nat) (b L : List Nat) (k c : Nat) (L' : List Nat) : Prop where
 own : Own wr w0.heap.size (some ⟨g, 0, none⟩) N N L'
 sum : val L' + 4294967296 ^ (i + k) * c = val L + 4294967296 ^ i * (f * S (fun j => dg b j) k)
 rest : ∀ j, i + k ≤ j → dg L' j = dg L j
 below : Below w0.heap.size w0 wr
theorem TimesAt.step {w0 wr : World} {g N i f : Nat} {b L : List Nat} {k c : Nat} {L' : List Nat} (h : TimesAt w0 wr g N i f b L k c L') (hk : i + k < N) (hg : w0.heap.size ≤ g) :
  TimesAt w0 (wr.setCell ⟨g, i + k, none⟩ (.int .u32 (((c + (dg b k * f + dg L' (i + k))) % 4294967296 : Nat) : Int))) g N i f b L (k + 1) ((c + (dg b k * f + dg L' (i + k))) / 4294967296) (L'.set (i + k) ((c + (dg b k * f + dg L' (i + k))) % 4294967296)) := by
 refine ⟨h.own.set (by omega), ?_, ?_, h.below.setCell hg _⟩
 ·
  have h1 := val_set L' (i + k) ((c + (dg b k * f + dg L' (i + k))) % 4294967296) (by rw [h.own.len]; exact hk)
  rw [S, show i + (k + 1) = (i + k) + 1 by omega, Nat.pow_succ]
  exact mul_step h.sum h1 (Nat.mod_add_div _ _) (Nat.pow_add _ _ _)
 ·
  intro j hj
  rw [dg_set_ne _ _ _ _ (by omega)]
  exact h.rest j (by omega)
end Go.Proofs.Ytjbhhccklfddaaa
namespace Go.Proofs.Ytjbhhccklfddaaa
set_option maxRecDepth 20000
open Go.RowKit
theorem dg_replicate (n j : Nat) : dg (List.replicate n 0) j = 0 := by
 rw [dg_eq, List.getElem?_replicate]; split <;> rfl
theorem val_replicate (n : Nat) : val (List.replicate n 0) = 0 := by
 induction n with
 | zero => rfl
 | succ n ih => rw [List.replicate_succ, val, ih]
structure MulAt (w wr : World) (g N m : Nat) (a b : List Nat) (i : Nat) (L : List Nat) : Prop where
 own : Own wr w.heap.size (some ⟨g, 0, none⟩) N N L
 sum : val L = S (fun j => dg a j) i * val b
 rest : ∀ j, i + m ≤ j → dg L j = 0
 below : Below w.heap.size w wr
theorem MulAt.step {w wr w1 : World} {g N m : Nat} {a b : List Nat} {i : Nat} {L L' : List Nat} {cr : Nat} (h : MulAt w wr g N m a b i L) (hb : b.length = m) (hi : i + m < N) (hg : w.heap.size ≤ g) (hcr : cr < 4294967296)
  (ht : TimesAt w w1 g N i (dg a i) b L m cr L') :
  MulAt w (w1.setCell ⟨g, i + m, none⟩ (.int .u32 (cr : Int))) g N m a b (i + 1) (L'.set (i + m) cr) := by
 have hz : dg L' (i + m) = 0 := (ht.rest _ (Nat.le_refl _)).trans (h.rest _ (Nat.le_refl _))
 refine ⟨ht.own.set hcr, ?_, ?_, ht.below.setCell hg _⟩
 ·
  have h1 := val_set L' (i + m) cr (by rw [ht.own.len]; exact hi)
  rw [hz, Nat.mul_zero, Nat.add_zero] at h1
  have h2 := ht.sum
  rw [S_more b m (by omega)] at h2
  rw [h1, h2, h.sum, S, Nat.add_mul, Nat.mul_assoc]
 ·
  intro j hj
  rw [dg_set_ne _ _ _ _ (by omega), ht.rest _ (by omega)]
  exact h.rest _ (by omega)
end Go.Proofs.Ytjbhhccklfddaaa
namespace Go.Proofs.Ytjbhhccklfddaaa
set_option maxRecDepth 20000
open Go.RowKit
theorem Row.two {w : World} {x y : Nat} {u v : Int} {lo : Nat} (hu : u = (x : Int)) (hv : v = (y : Int)) (hx : x < 4294967296) (hy : y < 4294967296) (hlo : lo ≤ w.heap.size) : Row (w.alloc (.cells #[.int .u32 u, .int .u32 v] 66)) lo (some ⟨w.heap.size, 0, none⟩) 2 [x, y] := by
 subst hu hv
 refine ⟨rfl, L32.cons hx (L32.cons hy L32.nil), fun _ => ⟨w.heap.size, 0, rfl, hlo, by simp, fun j hj => ?_⟩⟩
 have : j = 0 ∨ j = 1 := by omega
 rcases this with rfl | rfl
 · rw [World.cell?_alloc_at _ _ _ _ rfl]; rfl
 · rw [World.cell?_alloc_at _ _ _ _ rfl]; rfl
end Go.Proofs.Ytjbhhccklfddaaa
namespace Go.Proofs.Ytjbhhccklfddaaa
set_option maxRecDepth 20000
def cmpI (x y : Nat) : Int := if x < y then -1 else if x = y then 0 else 1
theorem cmpI_lt {x y : Nat} (h : x < y) : cmpI x y = -1 := by unfold cmpI; rw [if_pos h]
theorem cmpI_gt {x y : Nat} (h : y < x) : cmpI x y = 1 := by unfold cmpI; rw [if_neg (by omega), if_neg (by omega)]
theorem cmpI_eq {x y : Nat} (h : x = y) : cmpI x y = 0 := by unfold cmpI; rw [if_neg (by omega), if_pos h]
theorem lim_len_mono {x y : Nat} (h : y ≤ x) : (lim y).length ≤ (lim x).length := by
 refine lim_len_lt ?_
 have := val_lt (L32_lim x)
 rw [val_lim] at this
 omega
theorem lt_of_len {x y : Nat} (h : (lim x).length < (lim y).length) : x < y := by
 rcases Nat.lt_or_ge x y with h1 | h1
 · exact h1
 · have := lim_len_mono h1; omega
theorem S_lt_of {f g : Nat → Nat} {i : Nat} (hf : ∀ j, f j < 4294967296) (h : f i < g i) : ∀ k, i < k → (∀ j, i < j → j < k → f j = g j) → S f k < S g k := by
 intro k
 induction k with
 | zero => intro h0; omega
 |
  succ k ih =>
  intro hk he
  by_cases h0 : i = k
  ·
   subst h0
   rw [S, S]
   have h1 := S_lt (f := f) (k := i) fun j _ => hf j
   have h2 : 4294967296 ^ i * (f i + 1) ≤ 4294967296 ^ i * g i := Nat.mul_le_mul_left _ h
   rw [Nat.mul_add] at h2
   omega
  ·
   have h1 := ih (by omega) (fun j hj hk' => he j hj (by omega))
   rw [S, S, he k (by omega) (by omega)]
   omega
theorem val_lt_of {l m : List Nat} {i : Nat} (hl : L32 l) (hlen : l.length = m.length) (hi : i < l.length) (h : dg l i < dg m i) (he : ∀ j, i < j → dg l j = dg m j) : val l < val m := by
 rw [← S_val l, ← S_val m, ← hlen]
 exact S_lt_of (f := fun j => dg l j) (g := fun j => dg m j) (fun j => hl j) h _ hi (fun j hj _ => he j hj)
theorem val_eq_of {l m : List Nat} (hlen : l.length = m.length) (he : ∀ j, dg l j = dg m j) : val l = val m := by
 rw [← S_val l, ← S_val m, ← hlen]
 exact S_congr fun i _ => he i
end Go.Proofs.Ytjbhhccklfddaaa
namespace Go.Proofs.Ytjbhhccklfddaaa
set_option maxRecDepth 20000
open Go.RowKit
theorem qcall {P : Program} {f : FuncId} {args : Array Value} {w : World} {a k : Nat} {v : Value}
  (h : Calls P f args (w.drewN (a + k)) fun e w' => e = .returned v ∧ w' = w.drewN (a + k)) : Calls P f args (w.drewN (a + k)) fun e w' => e = .returned v ∧ ∃ m, w' = w.drewN (a + m) :=
 h.mono fun _ _ h => ⟨h.1, k, h.2⟩
set_option maxHeartbeats 400000 in
theorem order_yes (w : World) : Calls Try.prog 87 #[.bool true] w fun e w' => e = .returned (.int .i64 (-1)) ∧ w' = w := by
 go_enter Try.func87, Try.ntmps87
 go_wp2
 go_ret
 exact ⟨rfl, rfl⟩
set_option maxHeartbeats 400000 in
theorem order_no (w : World) : Calls Try.prog 87 #[.bool false] w fun e w' => e = .returned (.int .i64 1) ∧ w' = w := by
 go_enter Try.func87, Try.ntmps87
 go_wp2
 go_ret
 exact ⟨rfl, rfl⟩
set_option maxHeartbeats 800000 in
theorem Cmp_any (A B : Option Addr) (n m c d : Nat) (a b : List Nat) (w : World) (hn : n ≤ 10000000000000) (hm : m ≤ 10000000000000) (hcn : n ≤ c) (hdm : m ≤ d) (ha : Row w 0 A n a) (hb : Row w 0 B m b) :
  Calls Try.prog 70 #[.slice A n c, .slice B m d] w fun e w' => e = .returned (.int .i64 (cmpI (val a) (val b))) ∧ ∃ q, w' = w.drewN q := by
 have hla := ha.lim
 have hlb := hb.lim
 have hna : (lim (val a)).length ≤ n := by have := lim_len_le ha.l32; have := ha.len; omega
 have hnb : (lim (val b)).length ≤ m := by have := lim_len_le hb.l32; have := hb.len; omega
 go_enter Try.func70, Try.ntmps70
 go_wp2_with fail
 refine (head_any A n c a _ (by omega) hcn ha).mono ?_
 rintro e w' ⟨rfl, rfl⟩
 go_wp2_with fail
 refine (head_any B m d b _ (by omega) hdm hb).mono ?_
 rintro e w' ⟨rfl, rfl⟩
 clear ha hb
 by_cases hlen : (lim (val a)).length = (lim (val b)).length
 ·
  have HL := Lib.hid hlen
  have hne : (((lim (val a)).length : Int) != ((lim (val b)).length : Int)) = false := by simp [hlen]
  have hlb' : Row w 0 B (lim (val a)).length (lim (val b)) := by rw [hlen]; exact hlb
  clear hlb hlen
  go_wp2
  go_loopw [5] (fun v wr => ∃ k q : Nat, k ≤ (lim (val a)).length ∧ v = .int .i64 ((k : Int) - 1) ∧ Hid (∀ j, k ≤ j → dg (lim (val a)) j = dg (lim (val b)) j) ∧ wr = w.drewN q) (fun v _ => (intOf v + 1).toNat)
  case atStart => exact ⟨_, 0, Nat.le_refl _, rfl, fun j hj => by rw [dg_out hj, dg_out (by rw [← HL.out]; exact hj)], rfl⟩
  case round =>
   obtain ⟨k, q, hk, rfl, HE, rfl⟩ := hrel
   by_cases h0 : k = 0
   ·
    subst h0
    have hv : val a = val b := by
     have := val_eq_of HL.out (fun j => HE.out j (Nat.zero_le _))
     rwa [val_lim, val_lim] at this
    have HV := Lib.hid (cmpI_eq hv)
    clear hv hla hlb'
    go_wp2
    go_ret
    exact ⟨by rw [HV.out]; rfl, q, rfl⟩
   ·
    obtain ⟨k, rfl⟩ : ∃ j, k = j + 1 := ⟨k - 1, by omega⟩
    obtain ⟨b1, off1, rfl, h1, h2, hc1⟩ := hla.mem (by omega)
    obtain ⟨b2, off2, rfl, h3, h4, hc2⟩ := hlb'.mem (by omega)
    have hx := hc1 k (by omega)
    have hy := hc2 k (by omega)
    have HF : Hid ((dg (lim (val a)) k < dg (lim (val b)) k → val a < val b) ∧ (dg (lim (val b)) k < dg (lim (val a)) k → val b < val a)) := by
     constructor
     ·
      intro h
      have := val_lt_of (L32_lim (val a)) HL.out (by omega) h (fun j hj => HE.out j (by omega))
      rwa [val_lim, val_lim] at this
     ·
      intro h
      have := val_lt_of (L32_lim (val b)) HL.out.symm (by have := HL.out; omega) h (fun j hj => (HE.out j (by omega)).symm)
      rwa [val_lim, val_lim] at this
    have hk1 : k < (lim (val a)).length := by omega
    have hk2 : k < (lim (val b)).length := by have := HL.out; omega
    have he1 : ((k + 1 : Nat) : Int) - 1 = (k : Int) := by omega
    simp only [he1]
    clear hc1 hc2 hla hlb' he1
    by_cases heq : dg (lim (val a)) k = dg (lim (val b)) k
    ·
     have HE2 : Hid (∀ j, k ≤ j → dg (lim (val a)) j = dg (lim (val b)) j) := by
      intro j hj
      by_cases hjk : j = k
      · subst hjk; exact heq
      · exact HE.out j (by omega)
     rw [← heq] at hy
     clear heq HF HE
     go_wp2
     go_quiet (fail)
     go_wp2
     go_roundw
     case rel => exact ⟨k, _, by omega, by go_num, HE2, rfl⟩
     case measure => simp [intOf]
    ·
     have hb1 : (((dg (lim (val a)) k : Nat) : Int) != ((dg (lim (val b)) k : Nat) : Int)) = true := by rw [bne_iff_ne]; omega
     by_cases hlt : dg (lim (val a)) k < dg (lim (val b)) k
     ·
      have HV := Lib.hid (cmpI_lt (HF.out.1 hlt))
      have hd : decide (dg (lim (val a)) k < dg (lim (val b)) k) = true := by simp; omega
      clear heq HE HF
      go_wp2
      go_quiet (fail)
      go_wp2
      go_quiet ((go_at_call 87; exact qcall (order_yes _)))
      go_wp2
      go_ret
      exact ⟨by rw [HV.out]; rfl, _, by simp only [World.drewN_drewN]; rfl⟩
     ·
      have HV := Lib.hid (cmpI_gt (HF.out.2 (by omega)))
      have hd : decide (dg (lim (val a)) k < dg (lim (val b)) k) = false := by simp; omega
      clear heq HE HF
      go_wp2
      go_quiet (fail)
      go_wp2
      go_quiet ((go_at_call 87; exact qcall (order_no _)))
      go_wp2
      go_ret
      exact ⟨by rw [HV.out]; rfl, _, by simp only [World.drewN_drewN]; rfl⟩
 ·
  have hne : (((lim (val a)).length : Int) != ((lim (val b)).length : Int)) = true := by rw [bne_iff_ne]; omega
  by_cases hlt : (lim (val a)).length < (lim (val b)).length
  ·
   have HV := Lib.hid (cmpI_lt (lt_of_len hlt))
   clear hlen
   go_wp2_with fail
   refine (order_yes _).mono ?_
   rintro e w' ⟨rfl, rfl⟩
   go_wp2
   go_ret
   exact ⟨by rw [HV.out]; rfl, 0, rfl⟩
  ·
   have HV := Lib.hid (cmpI_gt (lt_of_len (show (lim (val b)).length < (lim (val a)).length by omega)))
   clear hlen
   go_wp2_with fail
   refine (order_no _).mono ?_
   rintro e w' ⟨rfl, rfl⟩
   go_wp2
   go_ret
   exact ⟨by rw [HV.out]; rfl, 0, rfl⟩
end Go.Proofs.Ytjbhhccklfddaaa
namespace Go.Proofs.Ytjbhhccklfddaaa
set_option maxRecDepth 20000
open Go.RowKit
theorem below_drewN (B : Nat) (w : World) (q : Nat) : Below B w (w.drewN q) := ⟨rfl, rfl, rfl, Nat.le_refl _, fun _ _ => rfl⟩
set_option maxHeartbeats 800000 in
theorem rCmp_any (A B : Option Addr) (n m c d : Nat) (a b : List Nat) (w : World) (hn : n ≤ 10000000000000) (hm : m ≤ 10000000000000) (hcn : n ≤ c) (hdm : m ≤ d) (ha : Row w 0 A n a) (hb : Row w 0 B m b) :
  Calls Try.prog 83 #[.slice A n c, .slice B m d] w fun e w' => e = .returned (.int .i64 (cmpI (val a) (val b))) ∧ Below w.heap.size w w' := by
 have hna : (lim (val a)).length ≤ n := by have := lim_len_le ha.l32; have := ha.len; omega
 have hnb : (lim (val b)).length ≤ m := by have := lim_len_le hb.l32; have := hb.len; omega
 go_enter Try.func83, Try.ntmps83
 go_wp2_with fail
 refine (rTrim_any A n c a _ (by omega) hcn ha).mono ?_
 rintro e w1 ⟨X, cx, rfl, ho, hb1⟩
 have hla := ho.row.lower (Nat.zero_le _)
 replace hb := hb.below hb1
 clear ho ha
 go_wp2_with fail
 refine (rTrim_any B m d b _ (by omega) hdm hb).mono ?_
 rintro e w2 ⟨Y, cy, rfl, ho, hb2⟩
 have hlb := ho.row.lower (Nat.zero_le _)
 replace hla := hla.below hb2
 have HB := Lib.hid (hb1.trans (hb2.mono hb1.size))
 clear ho hb hb1 hb2
 by_cases hlen : (lim (val a)).length = (lim (val b)).length
 ·
  have HL := Lib.hid hlen
  have hne : (((lim (val a)).length : Int) != ((lim (val b)).length : Int)) = false := by simp [hlen]
  have hlb' : Row w2 0 Y (lim (val a)).length (lim (val b)) := by rw [hlen]; exact hlb
  clear hlb hlen
  go_wp2
  go_loopw [7] (fun v wr => ∃ k q : Nat, k ≤ (lim (val a)).length ∧ v = .int .i64 ((k : Int) - 1) ∧ Hid (∀ j, k ≤ j → dg (lim (val a)) j = dg (lim (val b)) j) ∧ wr = w2.drewN q) (fun v _ => (intOf v + 1).toNat)
  case atStart => exact ⟨_, 0, Nat.le_refl _, rfl, fun j hj => by rw [dg_out hj, dg_out (by rw [← HL.out]; exact hj)], rfl⟩
  case round =>
   obtain ⟨k, q, hk, rfl, HE, rfl⟩ := hrel
   by_cases h0 : k = 0
   ·
    subst h0
    have hv : val a = val b := by
     have := val_eq_of HL.out (fun j => HE.out j (Nat.zero_le _))
     rwa [val_lim, val_lim] at this
    have HV := Lib.hid (cmpI_eq hv)
    clear hv hla hlb'
    go_wp2
    go_ret
    exact ⟨by rw [HV.out]; rfl, HB.out.trans (below_drewN _ _ _)⟩
   ·
    obtain ⟨k, rfl⟩ : ∃ j, k = j + 1 := ⟨k - 1, by omega⟩
    obtain ⟨b1, off1, rfl, h1, h2, hc1⟩ := hla.mem (by omega)
    obtain ⟨b2, off2, rfl, h3, h4, hc2⟩ := hlb'.mem (by omega)
    have hx := hc1 k (by omega)
    have hy := hc2 k (by omega)
    have HF : Hid ((dg (lim (val a)) k < dg (lim (val b)) k → val a < val b) ∧ (dg (lim (val b)) k < dg (lim (val a)) k → val b < val a)) := by
     constructor
     ·
      intro h
      have := val_lt_of (L32_lim (val a)) HL.out (by omega) h (fun j hj => HE.out j (by omega))
      rwa [val_lim, val_lim] at this
     ·
      intro h
      have := val_lt_of (L32_lim (val b)) HL.out.symm (by have := HL.out; omega) h (fun j hj => (HE.out j (by omega)).symm)
      rwa [val_lim, val_lim] at this
    have hk1 : k < (lim (val a)).length := by omega
    have hk2 : k < (lim (val b)).length := by have := HL.out; omega
    have he1 : ((k + 1 : Nat) : Int) - 1 = (k : Int) := by omega
    simp only [he1]
    clear hc1 hc2 hla hlb' he1
    by_cases heq : dg (lim (val a)) k = dg (lim (val b)) k
    ·
     have HE2 : Hid (∀ j, k ≤ j → dg (lim (val a)) j = dg (lim (val b)) j) := by
      intro j hj
      by_cases hjk : j = k
      · subst hjk; exact heq
      · exact HE.out j (by omega)
     rw [← heq] at hy
     clear heq HF HE
     go_wp2
     go_quiet (fail)
     go_wp2
     go_quiet (fail)
     go_wp2
     go_roundw
     case rel => exact ⟨k, _, by omega, by go_num, HE2, by first | rfl | (simp only [World.drewN_drewN]; rfl)⟩
     case measure => simp [intOf]
    ·
     by_cases hlt : dg (lim (val a)) k < dg (lim (val b)) k
     ·
      have HV := Lib.hid (cmpI_lt (HF.out.1 hlt))
      have hd : decide (dg (lim (val a)) k < dg (lim (val b)) k) = true := by simp; omega
      clear heq HE HF
      go_wp2
      go_quiet (fail)
      go_wp2
      go_ret
      exact ⟨by rw [HV.out]; rfl, HB.out.trans ((below_drewN _ _ _).trans (below_drewN _ _ _))⟩
     ·
      have HV := Lib.hid (cmpI_gt (HF.out.2 (by omega)))
      have hgt : dg (lim (val b)) k < dg (lim (val a)) k := by omega
      have hd : decide (dg (lim (val a)) k < dg (lim (val b)) k) = false := by simp; omega
      have hd2 : decide (dg (lim (val b)) k < dg (lim (val a)) k) = true := by simp; omega
      clear heq HE HF
      go_wp2
      go_quiet (fail)
      go_wp2
      go_quiet (fail)
      go_wp2
      go_ret
      exact ⟨by rw [HV.out]; rfl, HB.out.trans ((below_drewN _ _ _).trans ((below_drewN _ _ _).trans (below_drewN _ _ _)))⟩
 ·
  have hne : (((lim (val a)).length : Int) != ((lim (val b)).length : Int)) = true := by rw [bne_iff_ne]; omega
  by_cases hlt : (lim (val a)).length < (lim (val b)).length
  ·
   have HV := Lib.hid (cmpI_lt (lt_of_len hlt))
   clear hlen
   go_wp2
   go_ret
   exact ⟨by rw [HV.out]; rfl, HB.out⟩
  ·
   have HV := Lib.hid (cmpI_gt (lt_of_len (show (lim (val b)).length < (lim (val a)).length by omega)))
   clear hlen
   go_wp2
   go_ret
   exact ⟨by rw [HV.out]; rfl, HB.out⟩
end Go.Proofs.Ytjbhhccklfddaaa
namespace Go.Proofs.Ytjbhhccklfddaaa
set_option maxRecDepth 20000
open Go.RowKit
structure SubAt (w wr : World) (a b : List Nat) (k c : Nat) (A : Option Addr) (cap : Nat) (r : List Nat) : Prop where
 own : Own wr w.heap.size A cap k r
 sum : val r + S (fun i => dg b i) k = S (fun i => dg a i) k + 4294967296 ^ k * c
 below : Below w.heap.size w wr
theorem SubAt.step {w wr wr' : World} {a b : List Nat} {k c c' : Nat} {A A' : Option Addr} {cap cap' : Nat} {r : List Nat} (h : SubAt w wr a b k c A cap r) {x : Nat}
  (hx : x + dg b k + c = dg a k + 4294967296 * c')
  (ho : Own wr' w.heap.size A' cap' (k + 1) (r ++ [x])) (hb : Below w.heap.size wr wr') : SubAt w wr' a b (k + 1) c' A' cap' (r ++ [x]) := by
 refine ⟨ho, ?_, h.below.trans hb⟩
 rw [val_snoc, h.own.len, S, S, Nat.pow_succ]
 exact sub_step h.sum hx
theorem S_le_val (l : List Nat) (k : Nat) : S (fun i => dg l i) k ≤ val l := by
 by_cases h : k ≤ l.length
 · rw [S_take, val_take_drop l k h]; omega
 · rw [S_more _ _ (by omega)]; exact Nat.le_refl _
theorem S_all {l : List Nat} {k : Nat} (h : val l < 4294967296 ^ k) : S (fun i => dg l i) k = val l := by
 by_cases hk : k ≤ l.length
 ·
  have h1 := val_take_drop l k hk
  rw [S_take]
  rcases Nat.eq_zero_or_pos (val (l.drop k)) with h0 | h0
  · rw [h0] at h1; omega
  ·
   have : 4294967296 ^ k * 1 ≤ 4294967296 ^ k * val (l.drop k) := Nat.mul_le_mul_left _ h0
   omega
 · exact S_more _ _ (by omega)
theorem sub_end {a b r : List Nat} {k c : Nat} (ha : L32 a) (hr : L32 r) (hk : a.length ≤ k) (hrk : r.length = k) (hle : val b ≤ val a)
  (hs : val r + S (fun i => dg b i) k = S (fun i => dg a i) k + 4294967296 ^ k * c) : val r = val a - val b := by
 have h1 := val_lt ha
 have h2 := val_lt hr
 rw [hrk] at h2
 have h3 : 4294967296 ^ a.length ≤ 4294967296 ^ k := Nat.pow_le_pow_right (by omega) hk
 rw [S_all (l := b) (by omega), S_more a k hk] at hs
 rcases Nat.eq_zero_or_pos c with h0 | h0
 · subst h0; omega
 ·
  have : 4294967296 ^ k * 1 ≤ 4294967296 ^ k * c := Nat.mul_le_mul_left _ h0
  omega
set_option maxHeartbeats 800000 in
theorem rSub_yes (A B : Option Addr) (n m c d : Nat) (a b : List Nat) (w : World) (hn : n ≤ 1000000000000) (hm : m ≤ 1000000000000) (hcn : n ≤ c) (hdm : m ≤ d) (ha : Row w 0 A n a) (hb : Row w 0 B m b) (hle : val b ≤ val a) :
  Calls Try.prog 84 #[.slice A n c, .slice B m d] w fun e w' => ∃ A2 c2, e = .returned (.tuple #[.slice A2 (lim (val a - val b)).length c2, .bool true]) ∧ Own w' w.heap.size A2 c2 (lim (val a - val b)).length (lim (val a - val b)) ∧ Below w.heap.size w w' := by
 have hc : ∃ s : Int, 0 ≤ s ∧ s ≤ 1 ∧ Calls Try.prog 83 #[.slice A n c, .slice B m d] w fun e w' => e = .returned (.int .i64 s) ∧ Below w.heap.size w w' := by
  refine ⟨_, ?_, ?_, rCmp_any A B n m c d a b w (by omega) (by omega) hcn hdm ha hb⟩
  · unfold cmpI; rw [if_neg (by omega)]; split <;> omega
  · unfold cmpI; rw [if_neg (by omega)]; split <;> omega
 obtain ⟨s, hs0, hs1, hc⟩ := hc
 have HC := Lib.hid hc
 have HLE := Lib.hid hle
 clear hc hle
 go_enter Try.func84, Try.ntmps84
 go_wp2_with fail
 refine HC.out.mono ?_
 rintro e w0 ⟨rfl, hb0⟩
 have HST : Hid (SubAt w w0 a b 0 0 none 0 []) := ⟨Own.nil_ w0 _, by simp [val, S], hb0⟩
 clear hb0 HC
 go_wp2
 go_loopw [6, 7, 8, 9, 10] (fun o c i _ _ wr => ∃ (k cy : Nat) (A2 : Option Addr) (c2 : Nat) (r : List Nat), k ≤ n ∧ cy ≤ 1 ∧ i = .int .i64 k ∧ c = .int .u64 cy ∧ o = .slice A2 k c2 ∧ Hid (SubAt w wr a b k cy A2 c2 r)) (fun _ _ i _ _ _ => n - (intOf i).toNat)
 case atStart => exact ⟨0, 0, none, 0, [], by omega, by omega, rfl, rfl, rfl, HST⟩
 case round =>
  obtain ⟨k, cy, A2, c2, r, hk, hcy, rfl, rfl, rfl, HA⟩ := hrel
  have ha1 := ha.below HA.out.below
  have hb1 := hb.below HA.out.below
  have OWN := Lib.hid HA.out.own
  have hz := HA.out.below.size
  by_cases h0 : k < n
  ·
   have hxa := ha.l32 k
   have hxb := hb.l32 k
   have FIN : Hid (∀ (A3 : Option Addr) (c3 c' x : Nat) (w1 w3 : World), x + dg b k + cy = dg a k + 4294967296 * c' → Own w3 w.heap.size A3 c3 (k + 1) (r ++ [x]) → Below w.heap.size wr w1 → w.heap.size ≤ w1.heap.size → w1.grownBy w3 (A2.map (·.block)) →
     SubAt w w3 a b (k + 1) c' A3 c3 (r ++ [x])) := by
    intro A3 c3 c' x w1 w3 hx ho hb1 hs1 hg
    refine HA.out.step hx ho ?_
    refine hb1.trans ⟨hg.os, hg.tape, hg.output, hg.size, fun q hq => hg.block q (by omega) ?_⟩
    cases A2 with
    | none => simp
    |
     some ad =>
     have := OWN.out.own.lt ad.block rfl
     simp; omega
   by_cases hlt : dg a k < dg b k + cy
   ·
    go_wp2_with fail
    refine (at_any A n c a k k _ (by omega) ha1 rfl).mono ?_
    rintro e w' ⟨rfl, rfl⟩
    go_wp2_with fail
    refine (at_any B m d b k k _ (by omega) hb1 rfl).mono ?_
    rintro e w' ⟨rfl, rfl⟩
    generalize dg a k = x at *
    generalize dg b k = y at *
    go_wp2_with (at_builtin; refine wpl_append rfl _ _ rfl rfl rfl (OWN.out.alloc _) (Row.one (x := x + 4294967296 - (y + cy)) (lo := 0) ?c1 ?c2 ?c3) ?c4 ?c5 ?_)
    case c1 => omega
    case c2 => omega
    case c3 => omega
    case c4 => omega
    case c5 => simp; omega
    intro A3 c3 w3 ho3 hg3
    have HA3 := Lib.hid (FIN.out A3 c3 1 _ _ w3 (by omega) ho3 ((Below.refl _ _).alloc hz _) (by simp; omega) hg3)
    clear FIN ho3 hg3 ha1 hb1
    go_wp2
    go_roundw
    case rel => exact ⟨k + 1, 1, A3, c3, _, by omega, by omega, by go_num, by go_num, rfl, HA3⟩
    case measure => simp [intOf]; omega
   ·
    go_wp2_with fail
    refine (at_any A n c a k k _ (by omega) ha1 rfl).mono ?_
    rintro e w' ⟨rfl, rfl⟩
    go_wp2_with fail
    refine (at_any B m d b k k _ (by omega) hb1 rfl).mono ?_
    rintro e w' ⟨rfl, rfl⟩
    generalize dg a k = x at *
    generalize dg b k = y at *
    go_wp2_with (at_builtin; refine wpl_append rfl _ _ rfl rfl rfl (OWN.out.alloc _) (Row.one (x := x - (y + cy)) (lo := 0) ?c1 ?c2 ?c3) ?c4 ?c5 ?_)
    case c1 => omega
    case c2 => omega
    case c3 => omega
    case c4 => omega
    case c5 => simp; omega
    intro A3 c3 w3 ho3 hg3
    have HA3 := Lib.hid (FIN.out A3 c3 0 _ _ w3 (by omega) ho3 ((Below.refl _ _).alloc hz _) (by simp; omega) hg3)
    clear FIN ho3 hg3 ha1 hb1
    go_wp2
    go_roundw
    case rel => exact ⟨k + 1, 0, A3, c3, _, by omega, by omega, by go_num, by go_num, rfl, HA3⟩
    case measure => simp [intOf]; omega
  ·
   have hr := HA.out.own.row
   have hlow := hr.lower (Nat.zero_le _)
   have E1 : Hid (val r = val a - val b) := sub_end ha.l32 hr.l32 (by rw [ha.len]; omega) hr.len HLE.out HA.out.sum
   have hcap := HA.out.own.capLe
   have FIN : Hid (∀ (A3 : Option Addr) (c3 : Nat) (w3 : World), Own w3 wr.heap.size A3 c3 (lim (val r)).length (lim (val r)) → Below wr.heap.size wr w3 →
     Own w3 w.heap.size A3 c3 (lim (val a - val b)).length (lim (val a - val b)) ∧ Below w.heap.size w w3 ∧ (lim (val r)).length = (lim (val a - val b)).length) := by
    intro A3 c3 w3 ho hb
    rw [E1.out] at ho ⊢
    exact ⟨ho.lower hz, HA.out.below.trans (hb.mono hz), rfl⟩
   clear ha1 hb1
   go_wp2_with fail
   refine (rTrim_any A2 k c2 r _ (by omega) hcap hlow).mono ?_
   rintro e w3 ⟨A3, c3, rfl, ho3, hb3⟩
   obtain ⟨f1, f2, f3⟩ := FIN.out A3 c3 w3 ho3 hb3
   clear ho3 hb3
   have F3 := Lib.hid f3; clear f3
   go_wp2
   go_ret2
   exact ⟨A3, c3, by rw [← F3.out]; rfl, f1, f2⟩
end Go.Proofs.Ytjbhhccklfddaaa
namespace Go.Proofs.Ytjbhhccklfddaaa
set_option maxRecDepth 20000
open Go.RowKit
theorem qleft {P : Program} {f : FuncId} {args : Array Value} {w : World} {k : Nat} {v : Value}
  (h : Calls P f args (w.drewN k) fun e w' => e = .returned v ∧ w.drewN k = w') : Calls P f args (w.drewN k) fun e w' => e = .returned v ∧ ∃ m, w' = w.drewN m :=
 h.mono fun _ _ h => ⟨h.1, k, h.2.symm⟩
theorem below_drewN' (B : Nat) (w : World) (q : Nat) : Below B w (w.drewN q) := ⟨rfl, rfl, rfl, Nat.le_refl _, fun _ _ => rfl⟩
theorem Own.drewN {w : World} {lo n c : Nat} {A : Option Addr} {l : List Nat} (h : Own w lo A c n l) (q : Nat) : Own (w.drewN q) lo A c n l := h.below (below_drewN' _ _ _)
theorem TimesAt.drewN {w0 wr : World} {g N i f : Nat} {b L : List Nat} {k c : Nat} {L' : List Nat} (h : TimesAt w0 wr g N i f b L k c L') (q : Nat) : TimesAt w0 (wr.drewN q) g N i f b L k c L' :=
 ⟨h.own.drewN q, h.sum, h.rest, h.below.trans (below_drewN' _ _ _)⟩
structure RMulAt (w wr : World) (g N : Nat) (a b : List Nat) (i : Nat) (L : List Nat) : Prop where
 own : Own wr w.heap.size (some ⟨g, 0, none⟩) N N L
 sum : val L = S (fun j => dg a j) i * val b
 below : Below w.heap.size w wr
theorem pow_mul_lt {x y n m : Nat} (hx : x < 4294967296 ^ n) (hy : y < 4294967296 ^ m) : x * y < 4294967296 ^ (n + m) := by
 rw [Nat.pow_add]; exact Nat.mul_lt_mul'' hx hy
theorem RMulAt.next {w wr w1 : World} {g n m : Nat} {a b : List Nat} {i k c : Nat} {L L' : List Nat} (h : RMulAt w wr g (n + m) a b i L) (ha : L32 a) (hb : L32 b) (hla : a.length = n) (hlb : b.length = m) (hi : i < n)
  (ht : TimesAt w w1 g (n + m) i (dg a i) b L k c L') (hk : (m ≤ k ∧ c = 0) ∨ i + k = n + m) : RMulAt w w1 g (n + m) a b (i + 1) L' := by
 have hkm : m ≤ k := by omega
 have h1 := ht.sum
 rw [S_more b k (by omega), h.sum, ← Nat.mul_assoc, ← Nat.add_mul] at h1
 have h2 : S (fun j => dg a j) (i + 1) = S (fun j => dg a j) i + 4294967296 ^ i * dg a i := rfl
 rw [← h2] at h1
 refine ⟨ht.own, ?_, ht.below⟩
 rcases hk with ⟨_, rfl⟩ | hk
 · omega
 ·
  have h3 := pow_mul_lt (Nat.lt_of_le_of_lt (S_le_val a (i + 1)) (val_lt ha)) (val_lt hb)
  rw [hla, hlb] at h3
  rw [hk] at h1
  rcases Nat.eq_zero_or_pos c with h0 | h0
  · subst h0; omega
  ·
   have : 4294967296 ^ (n + m) * 1 ≤ 4294967296 ^ (n + m) * c := Nat.mul_le_mul_left _ h0
   omega
end Go.Proofs.Ytjbhhccklfddaaa
namespace Go.Proofs.Ytjbhhccklfddaaa
set_option maxRecDepth 20000
open Go.RowKit
def Bd (x p : Nat) : Prop := x < 4294967296 ^ p
theorem Bd.add {x y p q : Nat} (hx : Bd x p) (hy : Bd y q) : Bd (x + y) (max p q + 1) := by
 unfold Bd at *
 have h1 : 4294967296 ^ p ≤ 4294967296 ^ max p q := Nat.pow_le_pow_right (by omega) (by omega)
 have h2 : 4294967296 ^ q ≤ 4294967296 ^ max p q := Nat.pow_le_pow_right (by omega) (by omega)
 rw [Nat.pow_succ]
 omega
theorem Bd.mul {x y p q : Nat} (hx : Bd x p) (hy : Bd y q) : Bd (x * y) (p + q) := by
 unfold Bd at *
 rw [Nat.pow_add]
 exact Nat.mul_lt_mul'' hx hy
theorem Bd.more {x p q : Nat} (hx : Bd x p) (h : p ≤ q) : Bd x q := Nat.lt_of_lt_of_le hx (Nat.pow_le_pow_right (by omega) h)
theorem Bd.le {x y p : Nat} (hx : Bd x p) (h : y ≤ x) : Bd y p := Nat.lt_of_le_of_lt h hx
theorem Bd.len {x p : Nat} (hx : Bd x p) : (lim x).length ≤ p := lim_len_lt hx
theorem Row.bd {w : World} {lo n p : Nat} {A : Option Addr} {l : List Nat} (h : Row w lo A n l) (hp : n ≤ p) : Bd (val l) p := by
 have h1 := val_lt h.l32
 exact Nat.lt_of_lt_of_le h1 (Nat.pow_le_pow_right (by omega) (by rw [h.len]; exact hp))
theorem rCmp_v (x y : Nat) (s : Int) (A B : Option Addr) (n m c d : Nat) (a b : List Nat) (w : World) (hx : val a = x) (hy : val b = y) (hs : cmpI x y = s) (hn : n ≤ 10000000000000) (hm : m ≤ 10000000000000) (hcn : n ≤ c) (hdm : m ≤ d) (ha : Row w 0 A n a) (hb : Row w 0 B m b) :
  Calls Try.prog 83 #[.slice A n c, .slice B m d] w fun e w' => e = .returned (.int .i64 s) ∧ Below w.heap.size w w' := by
 subst hx hy hs; exact rCmp_any A B n m c d a b w hn hm hcn hdm ha hb
theorem rAdd_v (x y : Nat) (A B : Option Addr) (n m c d : Nat) (a b : List Nat) (w : World) (hx : val a = x) (hy : val b = y) (hn : n ≤ 1000000000000) (hm : m ≤ 1000000000000) (ha : Row w 0 A n a) (hb : Row w 0 B m b) :
  Calls Try.prog 82 #[.slice A n c, .slice B m d] w fun e w' => ∃ A2 c2, e = .returned (.slice A2 (lim (x + y)).length c2) ∧ Own w' w.heap.size A2 c2 (lim (x + y)).length (lim (x + y)) ∧ Below w.heap.size w w' := by
 subst hx hy; exact rAdd_any A B n m c d a b w hn hm ha hb
end Go.Proofs.Ytjbhhccklfddaaa
