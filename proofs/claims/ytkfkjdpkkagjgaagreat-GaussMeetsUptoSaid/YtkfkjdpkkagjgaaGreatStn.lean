/-
  Stairs as lists of terms, no program: what goes into all numbers of a sum, rows by their first variable, how far numbers grow when rows are taken.
-/
import Derived.Test.YtkfkjdpkkagjgaaGreatStm
import Derived.Test.YtkfkjdpkkagjgaaGreatLinS
namespace Go.Proofs.YtkfkjdpkkagjgaaGreat
set_option maxRecDepth 20000
def com (a b : Rat) : Rat := a / dd (b / a)
theorem com_fd {d E p : Nat} {a b : Rat} (hd : 0 < d) (ha : Fd d E a) (hb : Fd d E b) (h0 : a ≠ 0) (hp : Bd E p) (h1 : 1 ≤ E) :
  com a b ≠ 0 ∧ Fd d E (com a b) ∧ (∃ i : Int, a = com a b * ((i : Int) : Rat)) ∧ (∃ i : Int, b = com a b * ((i : Int) : Rat)) ∧ Sz (b / a) p ∧ Sz (dd (b / a)) p := by
 obtain ⟨za, ea, ba⟩ := ha
 obtain ⟨zb, eb, bb⟩ := hb
 have n0 := Fd.ne (E := E) hd ea h0
 obtain ⟨s, hs, es⟩ := abs_cast za
 have key : (b / a) * (((za.natAbs : Nat) : Int) : Rat) = ((zb * s : Int) : Rat) := by
  rw [es, Rat.intCast_mul, Rat.intCast_mul, ← ea, ← eb, ← Rat.mul_assoc, ← Rat.mul_assoc, Rat.div_mul_cancel h0]
 obtain ⟨m, hm, g1, g2⟩ := frac (by omega) key
 have hden : (b / a).den ≤ E := by
  refine Nat.le_trans ?_ ba
  rw [g2]; exact Nat.le_mul_of_pos_right _ (by omega)
 have hnum : (b / a).num.natAbs ≤ E := by
  have h3 : (b / a).num.natAbs ≤ (zb * s).natAbs := by
   rw [g1, Int.natAbs_mul, Int.natAbs_natCast]; exact Nat.le_mul_of_pos_right _ (by omega)
  have h4 : (zb * s).natAbs = zb.natAbs := by rcases hs with rfl | rfl <;> omega
  omega
 have hz : za = ((b / a).den : Int) * ((m : Int) * s) := by
  have h3 : za = (za.natAbs : Int) * s := by rw [es]; rcases hs with rfl | rfl <;> omega
  have h4 : ((za.natAbs : Nat) : Int) = ((b / a).den : Int) * (m : Int) := by rw [g2, Int.natCast_mul]
  rw [h4, Int.mul_assoc] at h3; exact h3
 have hdd := dd_ne (b / a)
 have hmn := mul_den (b / a)
 have hdc : dd (b / a) = (((b / a).den : Int) : Rat) := rfl
 have hba : b / a * a = b := Rat.div_mul_cancel h0
 have hsz : Sz (b / a) p := ⟨hp.le hnum, hp.le hden⟩
 have hsd : Sz (dd (b / a)) p := by
  refine ⟨?_, hp.le h1⟩
  show Bd (((((b / a).den : Int)) : Rat).num).natAbs p
  rw [Rat.num_intCast, Int.natAbs_natCast]; exact hp.le hden
 refine ⟨fun e => ?_, ⟨(m : Int) * s, ?_, ?_⟩, ⟨((b / a).den : Int), ?_⟩, ⟨(b / a).num, ?_⟩, hsz, hsd⟩
 ·
  have h3 : a = com a b * dd (b / a) := (Rat.div_mul_cancel hdd).symm
  rw [e, Rat.zero_mul] at h3
  exact h0 h3
 ·
  have h3 : com a b * dd (b / a) = a := Rat.div_mul_cancel hdd
  have h4 : com a b * ((d : Int) : Rat) * dd (b / a) = (((m : Int) * s : Int) : Rat) * dd (b / a) := by
   rw [Rat.mul_assoc, Rat.mul_comm _ (dd (b / a)), ← Rat.mul_assoc, h3, ea, hz, Rat.intCast_mul, hdc, Rat.mul_comm]
  have h5 := congrArg (fun x => x * (dd (b / a))⁻¹) h4
  simp only [Rat.mul_assoc, Rat.mul_inv_cancel _ hdd, Rat.mul_one] at h5
  exact h5
 ·
  have h3 : ((m : Int) * s).natAbs = m := by rcases hs with rfl | rfl <;> omega
  rw [h3]
  refine Nat.le_trans ?_ ba
  rw [g2]; exact Nat.le_mul_of_pos_left _ (b / a).den_pos
 · rw [← hdc]; exact (Rat.div_mul_cancel hdd).symm
 ·
  rw [← hmn]
  show b = a / dd (b / a) * (b / a * dd (b / a))
  rw [Rat.mul_comm (b / a), ← Rat.mul_assoc, Rat.div_mul_cancel hdd, Rat.mul_comm, hba]
structure UAt (d E : Nat) (L : List (Int × Rat)) (i : Nat) (u : Rat) : Prop where
 ne : u ≠ 0
 fd : Fd d E u
 dv : ∀ j y, j < i → L[j]? = some y → ∃ z : Int, y.2 = u * ((z : Int) : Rat)
theorem UAt.start {d E : Nat} {v : Int} {q : Rat} {l : List (Int × Rat)} (hq : q ≠ 0) (hf : Fd d E q) : UAt d E ((v, q) :: l) 1 q :=
 ⟨hq, hf, fun j y hj hy => by
  obtain rfl : j = 0 := by omega
  simp at hy
  subst hy
  exact ⟨1, by rw [show (((1 : Int)) : Rat) = 1 from rfl, Rat.mul_one]⟩⟩
theorem UAt.step {d E p i : Nat} {L : List (Int × Rat)} {u : Rat} {y : Int × Rat} (h : UAt d E L i u) (hd : 0 < d) (hy : L[i]? = some y) (hf : Fd d E y.2) (hp : Bd E p) (h1 : 1 ≤ E) : UAt d E L (i + 1) (com u y.2) := by
 obtain ⟨g1, g2, ⟨z1, g3⟩, ⟨z2, g4⟩, _⟩ := com_fd hd h.fd hf h.ne hp h1
 refine ⟨g1, g2, fun j x hj hx => ?_⟩
 by_cases e : j = i
 ·
  subst e
  rw [hy] at hx
  injection hx with hx
  subst hx
  exact ⟨z2, g4⟩
 ·
  obtain ⟨z, hz⟩ := h.dv j x (by omega) hx
  refine ⟨z1 * z, ?_⟩
  rw [hz, Rat.intCast_mul, ← Rat.mul_assoc, ← g3]
theorem UAt.last {d E p : Nat} {L : List (Int × Rat)} {u k : Rat} (h : UAt d E L L.length u) (hd : 0 < d) (hdE : d ≤ E) (hL : AllN (Fd d E) L) (hk : Fd d E k) (hp : Bd E p) :
  Sz (com u k) p ∧ com u k ≠ 0 ∧ Sz (1 / com u k) (p + 1) ∧ 1 / com u k ≠ 0 ∧ Wh E (scaleL (1 / com u k) L) (k * (1 / com u k)) := by
 obtain ⟨g1, g2, ⟨z1, g3⟩, ⟨z2, g4⟩, _⟩ := com_fd hd h.fd hk h.ne hp (by omega)
 have hall : ∀ y ∈ L, ∃ z : Int, y.2 = com u k * ((z : Int) : Rat) := fun y hy => by
  obtain ⟨j, hj, e⟩ := List.getElem_of_mem hy
  obtain ⟨z, hz⟩ := h.dv j y hj (by rw [List.getElem?_eq_getElem hj, e])
  exact ⟨z1 * z, by rw [hz, Rat.intCast_mul, ← Rat.mul_assoc, ← g3]⟩
 generalize com u k = c at *
 obtain ⟨zc, ec, bc⟩ := g2
 have hzc := Fd.ne (E := E) hd ec g1
 have hsz : Sz c p := Fd.sz ⟨zc, ec, bc⟩ hd hdE hp
 have hinv : c * (1 / c) = 1 := by rw [Rat.mul_comm]; exact Rat.div_mul_cancel g1
 have hwh : ∀ x, Fd d E x → (∃ z : Int, x = c * ((z : Int) : Rat)) → Fd 1 E (x * (1 / c)) := fun x hx ⟨z, hz⟩ => by
  obtain ⟨zx, ex, bx⟩ := hx
  have e1 : x * (1 / c) = ((z : Int) : Rat) := by rw [hz, Rat.mul_comm c, Rat.mul_assoc, hinv, Rat.mul_one]
  refine ⟨z, by rw [e1]; exact Rat.mul_one _, ?_⟩
  have e2 : ((zx : Int) : Rat) = ((zc * z : Int) : Rat) := by
   rw [← ex, hz, Rat.intCast_mul, ← ec, Rat.mul_assoc, Rat.mul_assoc, Rat.mul_comm ((z : Int) : Rat)]
  have e3 := Rat.intCast_inj.1 e2
  refine Nat.le_trans ?_ bx
  rw [e3, Int.natAbs_mul]
  exact Nat.le_mul_of_pos_left _ (by omega)
 refine ⟨hsz, g1, inv_sz hsz g1, fun e => ?_, fun y hy => ?_, hwh k hk ⟨z2, g4⟩⟩
 · rw [e, Rat.mul_zero] at hinv; exact absurd hinv (by decide)
 ·
  have hP : AllN (fun x => Fd d E x ∧ ∃ z : Int, x = c * ((z : Int) : Rat)) L := fun y hy => ⟨hL y hy, hall y hy⟩
  exact AllN.scale (Q := Fd 1 E) (fun x hx => hwh x hx.1 hx.2) hP y hy
structure Ro where
 v : Nat
 L : List (Int × Rat)
 k : Rat
 R : Nat
structure RoOk (n : Nat) (r : Ro) : Prop where
 hd : ∃ q l, r.L = ((r.v : Int), q) :: l
 asc : Asc (n : Int) 0 r.L
 wh : Wh r.R r.L r.k
 pos : 1 ≤ r.R
def pot : List Ro → Nat → Nat
 | [], _ => 1
 | r :: l, h => (if h ≤ r.v then 2 * r.R else 1) * pot l h
theorem pot_pos {n : Nat} : ∀ {l : List Ro} (h : Nat), (∀ r ∈ l, RoOk n r) → 1 ≤ pot l h
 | [], _, _ => Nat.le_refl _
 |
  r :: l, h, hl => by
  have h1 := (hl r List.mem_cons_self).pos
  have h2 := pot_pos (l := l) h fun s hs => hl s (List.mem_cons_of_mem _ hs)
  rw [pot]
  exact Nat.mul_pos (by split <;> omega) h2
theorem pot_mono {n : Nat} {h h' : Nat} (hh : h ≤ h') : ∀ {l : List Ro}, (∀ r ∈ l, RoOk n r) → pot l h' ≤ pot l h
 | [], _ => Nat.le_refl _
 |
  r :: l, hl => by
  have h1 := (hl r List.mem_cons_self).pos
  rw [pot, pot]
  refine Nat.mul_le_mul ?_ (pot_mono hh fun s hs => hl s (List.mem_cons_of_mem _ hs))
  split
  · rw [if_pos (by omega)]; exact Nat.le_refl _
  · split <;> omega
theorem pot_take {n : Nat} {r : Ro} : ∀ {l : List Ro}, (∀ r ∈ l, RoOk n r) → r ∈ l → 2 * r.R * pot l (r.v + 1) ≤ pot l r.v
 | [], _, hr => by cases hr
 |
  s :: l, hl, hr => by
  have hl' : ∀ r ∈ l, RoOk n r := fun s hs => hl s (List.mem_cons_of_mem _ hs)
  rcases List.mem_cons.1 hr with rfl | hr
  ·
   rw [pot, pot, if_neg (by omega), if_pos (Nat.le_refl _), Nat.one_mul]
   exact Nat.mul_le_mul (Nat.le_refl _) (pot_mono (by omega) hl')
  ·
   have ih := pot_take hl' hr
   have h1 := (hl s List.mem_cons_self).pos
   rw [pot, pot, ← Nat.mul_assoc, Nat.mul_comm (2 * r.R), Nat.mul_assoc]
   refine Nat.mul_le_mul ?_ ih
   split
   · rw [if_pos (by omega)]; exact Nat.le_refl _
   · split <;> omega
def rows (N : Nat) (l : List Ro) : List (Nat → Rat) := l.map fun r => fn N r.L r.k
structure RAt (n M : Nat) (rs : List Ro) (L0 : List (Int × Rat)) (k0 : Rat) (P0 : Nat) (L : List (Int × Rat)) (k : Rat) : Prop where
 sz : ∃ h E : Nat, Asc (M : Int) (h : Int) L ∧ Fr E L k ∧ E * pot rs h ≤ P0
 red : ∀ N, Red N (rows N rs) (fn N L0 k0) (fn N L k)
theorem RAt.start {n M E P0 : Nat} {rs : List Ro} {L0 : List (Int × Rat)} {k0 : Rat} (hA : Asc (M : Int) 0 L0) (hF : Fr E L0 k0) (hP : E * pot rs 0 ≤ P0) : RAt n M rs L0 k0 P0 L0 k0 :=
 ⟨⟨0, E, hA, hF, hP⟩, fun _ => Red.refl _ _ _⟩
theorem RAt.bd {n M P0 p : Nat} {rs : List Ro} {L0 L : List (Int × Rat)} {k0 k : Rat} (h : RAt n M rs L0 k0 P0 L k) (hrs : ∀ r ∈ rs, RoOk n r) (hp : Bd P0 p) : SzL p L ∧ Sz k p ∧ Asc (M : Int) 0 L := by
 obtain ⟨a, E, h1, h2, h3⟩ := h.sz
 have h4 := pot_pos a hrs
 have h5 : E ≤ P0 := Nat.le_trans (Nat.le_mul_of_pos_right _ h4) h3
 exact ⟨(h2.sz (hp.le h5)).1, (h2.sz (hp.le h5)).2, h1.mono (by omega)⟩
theorem RAt.step {n M P0 p : Nat} {rs : List Ro} {L0 l : List (Int × Rat)} {k0 k q : Rat} {v : Int} (h : RAt n M rs L0 k0 P0 ((v, q) :: l) k) (hnM : n ≤ M) (hrs : ∀ r ∈ rs, RoOk n r) (hp : Bd P0 p) {r : Ro} (hr : r ∈ rs) (hv : (r.v : Int) = v) {s : Rat} {m : List (Int × Rat)} (hm : r.L = (v, s) :: m) :
  RAt n M rs L0 k0 P0 (lsL (q / s) ((v, q) :: l) r.L) (lsK (q / s) k r.k) ∧ s ≠ 0 ∧ Sz (q / s) p ∧ Sz (dd (q / s)) p ∧ Sz (nn (q / s)) p ∧ SzL p (scaleL (dd (q / s)) ((v, q) :: l)) ∧ Sz (k * dd (q / s)) p ∧ SzL p (scaleL (nn (q / s)) r.L) ∧ Sz (r.k * nn (q / s)) p ∧ SzL p r.L ∧ Sz r.k p := by
 obtain ⟨a, E, h1, h2, h3⟩ := h.sz
 have ho := hrs r hr
 have hq := h1.2.2.1
 have hasc := ho.asc
 have hwh := ho.wh
 rw [hm] at hasc hwh
 have hs := hasc.2.2.1
 have hav : a ≤ r.v := by have := h1.1; omega
 have e1 : 2 * (E * r.R) * pot rs (r.v + 1) ≤ P0 := by
  refine Nat.le_trans ?_ h3
  rw [Nat.mul_left_comm 2 E, Nat.mul_assoc]
  exact Nat.mul_le_mul (Nat.le_refl _) (Nat.le_trans (pot_take hrs hr) (pot_mono hav hrs))
 have e2 : 2 * (E * r.R) ≤ P0 := Nat.le_trans (Nat.le_mul_of_pos_right _ (pot_pos _ hrs)) e1
 have hR0 : r.R ≤ P0 := by
  have h4 : 1 ≤ E := by obtain ⟨d, hd, hdE, _⟩ := h2; omega
  have h5 : r.R ≤ E * r.R := Nat.le_mul_of_pos_left _ h4
  omega
 have hwz := (hwh.fr ho.pos).sz (hp.le hR0)
 obtain ⟨g1, g2, g3, g4, g5, g6, g7, g8, _⟩ := ls_fr h2 hwh hq hs (hp.le e2)
 rw [hm]
 refine ⟨⟨⟨r.v + 1, _, ?_, g1, e1⟩, fun N => ?_⟩, hs, g2, g3, g4, g5, g6, g7, g8, hwz.1, hwz.2⟩
 ·
  have h6 := ls_asc h1 (hasc.more (N' := (M : Int)) (by omega))
  rw [← hv] at h6 ⊢
  exact h6
 ·
  refine (h.red N).step (r := fn N r.L r.k) (s := nn (q / s)) (List.mem_map.2 ⟨r, hr, rfl⟩) (dd_ne (q / s)) fun j _ => ?_
  rw [fn_ls, hm]
end Go.Proofs.YtkfkjdpkkagjgaaGreat
