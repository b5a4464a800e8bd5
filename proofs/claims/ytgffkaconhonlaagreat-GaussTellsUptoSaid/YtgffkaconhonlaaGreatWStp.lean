/-
  Sums taken in one by one, no program: what is kept, how great the numbers are at first and at last.
-/
import Derived.Test.YtgffkaconhonlaaGreatWGsG
import Derived.Test.YtgffkaconhonlaaGreatWIs
namespace Go.Proofs.YtgffkaconhonlaaGreat
set_option maxRecDepth 20000
open Go.RowKit
theorem rows_lead {n : Nat} {rs : List Ro} (hrs : ∀ r ∈ rs, RoOk n r) {f : Nat → Rat} (hf : f ∈ rows n rs) : ∃ r ∈ rs, f = fn n r.L r.k ∧ lead n f = r.v := by
 obtain ⟨r, hr, rfl⟩ := List.mem_map.1 hf
 obtain ⟨q, l, e⟩ := (hrs r hr).hd
 have ha := (hrs r hr).asc
 rw [e] at ha
 refine ⟨r, hr, rfl, ?_⟩
 have := fn_lead (k := r.k) ha
 rw [← e] at this
 omega
theorem AddRel.stair {n P0 : Nat} {rs rs' : List Ro} {ok ok' : Bool} {L : List (Int × Rat)} {k : Rat} {S : List (Nat → Rat)} (h : AddRel n P0 rs ok L k rs' ok') (hs : Stair n S (rows n rs) ok) (hrs : ∀ r ∈ rs, RoOk n r) : Stair n (S ++ [fn n L k]) (rows n rs') ok' := by
 rcases h with ⟨k', h1, rfl, rfl⟩ | ⟨v, q, l, k', t, r, h1, h2, h3, h4, rfl, h6, h7, h8, _, rfl⟩
 ·
  have := hs.none (h1 n) (fn_nil n k')
  rw [fn_k] at this
  exact this
 ·
  have hl := fn_lead (k := k') h2
  have hv := h2.2.1
  unfold rows
  rw [List.map_append]
  refine hs.some (h1 n) (by omega) (fun f hf e => ?_) h4 fun j hj => ?_
  ·
   obtain ⟨s, hs', _, e2⟩ := rows_lead hrs hf
   exact h3 s hs' (by omega)
  ·
   show fn n r.L r.k j = _
   rw [h7, h8]
   by_cases e : j = n
   · subst e; rw [fn_k, fn_k]
   · rw [fn_lt (by omega), fn_lt (by omega), co_scale]
theorem pot_snoc (r : Ro) (h : Nat) : ∀ l : List Ro, pot (l ++ [r]) h = pot l h * (if h ≤ r.v then 2 * r.R else 1)
 | [] => by show _ * 1 = 1 * _; rw [Nat.mul_one, Nat.one_mul]
 | s :: l => by rw [List.cons_append, pot, pot_snoc r h l, pot, Nat.mul_assoc]
def bigX (E : Nat) : Nat → Nat
 | 0 => 1
 | i + 1 => 2 * (E * bigX E i) * bigX E i
theorem bigX_pos {E : Nat} (hE : 1 ≤ E) : ∀ i, 1 ≤ bigX E i
 | 0 => Nat.le_refl _
 | i + 1 => Nat.mul_pos (Nat.mul_pos (by omega) (Nat.mul_pos hE (bigX_pos hE i))) (bigX_pos hE i)
theorem bigX_le {E : Nat} (hE : 1 ≤ E) {i j : Nat} (h : i ≤ j) : bigX E i ≤ bigX E j := by
 induction h with
 | refl => exact Nat.le_refl _
 |
  @step j _ ih =>
  refine Nat.le_trans ih ?_
  rw [bigX]
  exact Nat.le_mul_of_pos_left _ (Nat.mul_pos (by omega) (Nat.mul_pos hE (bigX_pos hE j)))
theorem bigX_two (E : Nat) : ∀ i, 2 * E * bigX E i ≤ (2 * E) ^ (2 ^ i)
 | 0 => by rw [bigX]; simp
 |
  i + 1 => by
  have ih := bigX_two E i
  have e : 2 * E * bigX E (i + 1) = (2 * E * bigX E i) * (2 * E * bigX E i) := by
   rw [bigX]
   simp only [Nat.mul_assoc, Nat.mul_left_comm]
  rw [e, Nat.pow_succ, Nat.pow_mul, Nat.pow_two]
  exact Nat.mul_le_mul ih ih
theorem bigX_bd {E e i : Nat} (hE : 1 ≤ E) (h : 2 * E ≤ 4294967296 ^ e) : Bd (E * bigX E i) (e * 2 ^ i) := by
 have h1 := bigX_two E i
 have h2 : (2 * E) ^ (2 ^ i) ≤ 4294967296 ^ (e * 2 ^ i) := by
  rw [Nat.pow_mul]; exact Nat.pow_le_pow_left h _
 have h3 : 1 ≤ E * bigX E i := Nat.mul_pos hE (bigX_pos hE i)
 unfold Bd
 rw [Nat.mul_assoc] at h1
 omega
theorem AddRel.pot {n E : Nat} {rs rs' : List Ro} {ok ok' : Bool} {L : List (Int × Rat)} {k : Rat} (h : AddRel n (E * bigX E rs.length) rs ok L k rs' ok') (hp : Go.Proofs.YtgffkaconhonlaaGreat.pot rs 0 ≤ bigX E rs.length) : Go.Proofs.YtgffkaconhonlaaGreat.pot rs' 0 ≤ bigX E rs'.length := by
 rcases h with ⟨k', _, rfl, rfl⟩ | ⟨v, q, l, k', t, r, _, _, _, _, rfl, _, _, _, h9, rfl⟩
 · exact hp
 ·
  rw [pot_snoc, if_pos (Nat.zero_le _), List.length_append]
  show _ ≤ 2 * (E * bigX E rs.length) * bigX E rs.length
  rw [Nat.mul_comm]
  exact Nat.mul_le_mul (Nat.mul_le_mul (Nat.le_refl _) h9) hp
theorem Fr.le {E F : Nat} {L : List (Int × Rat)} {k : Rat} (h : Fr E L k) (hF : E ≤ F) : Fr F L k := by
 obtain ⟨d, h1, h2, h3, h4⟩ := h
 exact ⟨d, h1, Nat.le_trans h2 hF, fun y hy => (h3 y hy).le hF, h4.le hF⟩
theorem fd_mul {d E s : Nat} {x : Rat} {m : Nat} (h : Fd d E x) (hm : m ≤ s) : Fd (d * m) (E * s) x := by
 obtain ⟨z, h1, h2⟩ := h
 refine ⟨z * (m : Int), ?_, ?_⟩
 · rw [Int.natCast_mul, Rat.intCast_mul, ← Rat.mul_assoc, h1, Rat.intCast_mul]
 · rw [Int.natAbs_mul, Int.natAbs_natCast]; exact Nat.mul_le_mul h2 hm
theorem fr_init (s : Nat) (k : Rat) (hk : Sz k s) : ∀ L : List (Int × Rat), SzL s L → Fr (4294967296 ^ (s * (L.length + 1))) L k
 |
  [], _ => by
  refine ⟨k.den, k.den_pos, ?_, (fun y hy => by cases hy), k.num, mul_den k, ?_⟩
  · rw [List.length_nil, Nat.zero_add, Nat.mul_one]; exact Nat.le_of_lt hk.den
  · rw [List.length_nil, Nat.zero_add, Nat.mul_one]; exact Nat.le_of_lt hk.num
 |
  (v, q) :: L, h => by
  obtain ⟨d, h1, h2, h3, h4⟩ := fr_init s k hk L fun y hy => h y (List.mem_cons_of_mem _ hy)
  have hq := h (v, q) List.mem_cons_self
  have e : 4294967296 ^ (s * (((v, q) :: L).length + 1)) = 4294967296 ^ (s * (L.length + 1)) * 4294967296 ^ s := by
   rw [List.length_cons, Nat.mul_succ s (L.length + 1), Nat.pow_add]
  rw [e]
  have hden := Nat.le_of_lt hq.den
  refine ⟨d * q.den, Nat.mul_pos h1 q.den_pos, Nat.mul_le_mul h2 hden, fun y hy => ?_, fd_mul h4 hden⟩
  rcases List.mem_cons.1 hy with rfl | hy
  ·
   refine ⟨q.num * (d : Int), ?_, ?_⟩
   ·
    rw [Int.natCast_mul, Rat.intCast_mul, Rat.mul_comm ((d : Int) : Rat), ← Rat.mul_assoc]
    show q * dd q * _ = _
    rw [mul_den, Rat.intCast_mul]
   · rw [Int.natAbs_mul, Int.natAbs_natCast, Nat.mul_comm]; exact Nat.mul_le_mul h2 (Nat.le_of_lt hq.num)
  · exact fd_mul (h3 y hy) hden
theorem tok_asc {w : World} {N : Int} {p : Nat} : ∀ (la : List Tv) (L : List (Int × Rat)) (lo : Int), Rds w p la L → (∀ (j : Nat) (x : Tv), la[j]? = some x → x.v < N ∧ Nrm w x.r ∧ x.r.n ≠ 0) → (∀ (j : Nat) (x y : Tv), la[j]? = some x → la[j + 1]? = some y → x.v < y.v) → (∀ x : Tv, la[0]? = some x → lo ≤ x.v) → Asc N lo L
 | [], [], _, _, _, _, _ => trivial
 | [], _ :: _, _, h, _, _, _ => h.elim
 | _ :: _, [], _, h, _, _, _ => h.elim
 |
  x :: la, (v, q) :: L, lo, h, h1, h2, h3 => by
  have hx := h1 0 x rfl
  have ev : x.v = v := h.1.1
  refine ⟨by rw [← ev]; exact h3 x rfl, by rw [← ev]; exact hx.1, fun e => hx.2.2 ((zero_nrm hx.2.1 h.1.2).1 e), ?_⟩
  refine tok_asc la L (v + 1) h.2 (fun j y hy => h1 (j + 1) y hy) (fun j y z hy hz => h2 (j + 1) y z hy hz) fun y hy => ?_
  have := h2 0 x y rfl hy
  omega
theorem IsS.asc {w : World} {v : Cv} {la : List Tv} {N : Int} {p : Nat} {L : List (Int × Rat)} (h : IsS w v la N) (hr : Rds w p la L) : Asc N 0 L := by
 refine tok_asc la L 0 hr (fun j x hx => ?_) (fun j x y hx hy => ?_) fun x hx => ?_
 ·
  have := h.2.2 j x (List.getElem?_eq_some_iff.1 hx).1 hx
  exact ⟨this.2.1, this.2.2.2.1, this.2.2.2.2⟩
 ·
  have := h.2.2 (j + 1) y (List.getElem?_eq_some_iff.1 hy).1 hy
  exact this.2.2.1 x (Nat.succ_pos _) (by rw [Nat.add_sub_cancel]; exact hx)
 · exact (h.2.2 0 x (List.getElem?_eq_some_iff.1 hx).1 hx).1
structure Kin where
 v : Cv
 L : List (Int × Rat)
 k : Rat
 ok : Bool
structure Kns (n s : Nat) (w : World) (A : Option Addr) (m : Nat) (vs : List Kin) : Prop where
 kons : Kons w A m (vs.map (·.v))
 rd : ∀ x ∈ vs, x.v.n ≤ x.v.c ∧ x.v.n ≤ 1000 ∧ Rw w x.v.K x.k s ∧ ∃ la, Tms w 0 x.v.A x.v.n la ∧ Rds w s la x.L ∧ (x.ok = true ↔ IsS w x.v la (n : Int))
theorem IsS.turn {w w' : World} {v : Cv} {l : List Tv} {N : Int} {L : List (Int × Rat)} {k : Rat} {p : Nat} (hl : Rds w p l L) (hk : Rw w v.K k p) (hb : Below w.heap.size w w') : IsS w v l N ↔ IsS w' v l N := by
 have hT : ∀ i, TOk w N l i ↔ TOk w' N l i := fun i => by
  have hn : ∀ x ∈ l, (Nrm w x.r ↔ Nrm w' x.r) := fun x hx => by
   obtain ⟨j, hj, e⟩ := List.getElem_of_mem hx
   obtain ⟨y, Y, h1, _, _, h4⟩ := hl.get j hj
   rw [List.getElem?_eq_getElem hj, e] at h1
   injection h1 with h1
   subst h1
   exact Nrm.iff h4 hb
  constructor
  ·
   intro h j x hj hx
   obtain ⟨g1, g2, g3, g4, g5⟩ := h j x hj hx
   exact ⟨g1, g2, g3, (hn x (List.mem_of_getElem? hx)).1 g4, g5⟩
  ·
   intro h j x hj hx
   obtain ⟨g1, g2, g3, g4, g5⟩ := h j x hj hx
   exact ⟨g1, g2, g3, (hn x (List.mem_of_getElem? hx)).2 g4, g5⟩
 unfold IsS
 rw [Nrm.iff hk hb, hT]
theorem Kns.below {n s : Nat} {w w' : World} {A : Option Addr} {m : Nat} {vs : List Kin} (h : Kns n s w A m vs) (hb : Below w.heap.size w w') : Kns n s w' A m vs :=
 ⟨h.kons.below hb, fun x hx => by
  obtain ⟨h1, h2, h3, la, h4, h5, h6⟩ := h.rd x hx
  exact ⟨h1, h2, h3.below hb, la, h4.below hb, h5.below hb, h6.trans (IsS.turn h5 h3 hb)⟩⟩
def sums (n : Nat) (vs : List Kin) : List (Nat → Rat) := (vs.filter (·.ok)).map fun x => fn n x.L x.k
theorem sums_yes {n : Nat} {vs : List Kin} {x : Kin} (h : x.ok = true) : sums n (vs ++ [x]) = sums n vs ++ [fn n x.L x.k] := by
 unfold sums
 rw [List.filter_append, List.map_append, List.filter_cons_of_pos h]; rfl
theorem sums_no {n : Nat} {vs : List Kin} {x : Kin} (h : x.ok = false) : sums n (vs ++ [x]) = sums n vs := by
 unfold sums
 rw [List.filter_append, List.filter_cons_of_neg (by rw [h]; simp)]; simp
structure StAt (n E hi : Nat) (wr : World) (sb mb : Nat) (us : List Kin) (rs : List Ro) (ok : Bool) : Prop where
 st : StM n hi wr sb mb rs ok
 stair : Stair n (sums n us) (rows n rs) ok
 pot : Go.Proofs.YtgffkaconhonlaaGreat.pot rs 0 ≤ bigX E rs.length
theorem StAt.len {n E hi : Nat} {wr : World} {sb mb : Nat} {us : List Kin} {rs : List Ro} {ok : Bool} (h : StAt n E hi wr sb mb us rs ok) : rs.length ≤ n := by
 have := h.stair.ech.len
 unfold rows at this
 rw [List.length_map] at this
 exact this
end Go.Proofs.YtgffkaconhonlaaGreat
