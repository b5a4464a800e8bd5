/-
  The number that a variable must have.
-/
import Derived.Test.YtgffkaconhonlaaGreatWGsI
import Derived.Deep.Cut
import Derived.Test.YtgffkaconhonlaaGreatWRgn
namespace Go.Proofs.YtgffkaconhonlaaGreat
set_option maxRecDepth 20000
open Go.RowKit
theorem Rt.turn {w w' : World} {lo Y : Nat} {v : Rv} {r : Rat} (h : Rt w lo v r) (hY : Y < lo) (hg : w.grownBy w' (some Y)) : Rt w' lo v r :=
 h.but hY hg.size fun g h1 h2 => hg.block g h1 (fun e => h2 (by injection e))
theorem sz_small (i : Int) (h : i = 1 ∨ i = -1 ∨ i = 0) : Sz ((i : Int) : Rat) 10000000 := by
 rcases h with rfl | rfl | rfl
 · exact one_sz.more (by omega)
 · exact (⟨show (1 : Nat) < 4294967296 ^ 1 by omega, show (1 : Nat) < 4294967296 ^ 1 by omega⟩ : Sz ((-1 : Int) : Rat) 1).more (by omega)
 · exact Sz.zero (by omega)
theorem two_cw {w : World} {G : Nat} {v n : Int} {z1 z2 z3 : Rv} {l1 l2 l3 : Nat} (hG : w.heap[G]? = some (.cells #[.int .i64 v, .bool z1.s, .slice z1.A z1.n z1.c, .slice z1.B z1.m z1.d, .int .i64 n, .bool z2.s, .slice z2.A z2.n z2.c, .slice z2.B z2.m z2.d] 47 (0, 0)))
  (h1 : Rt w l1 z1 ((1 : Int) : Rat)) (h2 : Rt w l2 z2 ((-1 : Int) : Rat)) (h3 : Rt w l3 z3 ((0 : Int) : Rat)) : Cw w ⟨0, some ⟨G, 0, none⟩, 2, 2, z3⟩ [(v, ((1 : Int) : Rat)), (n, ((-1 : Int) : Rat))] ((0 : Int) : Rat) 10000000 := by
 refine ⟨Nat.le_refl _, ⟨[⟨v, z1⟩, ⟨n, z2⟩], ⟨rfl, fun _ => ⟨G, 0, rfl, Nat.zero_le _, (Array.getElem?_eq_some_iff.1 hG).1, fun i x hx => ?_⟩⟩, ⟨rfl, h1.rw (sz_small 1 (.inl rfl))⟩, ⟨rfl, h2.rw (sz_small (-1) (.inr (.inl rfl)))⟩, trivial⟩, h3.rw (sz_small 0 (.inr (.inr rfl)))⟩
 have hi : i < 2 := (List.getElem?_eq_some_iff.1 hx).1
 have : i = 0 ∨ i = 1 := by omega
 rcases this with rfl | rfl
 ·
  injection hx with hx; subst hx
  constructor <;> simp [World.cell?, hG]
 ·
  injection hx with hx; subst hx
  constructor <;> simp [World.cell?, hG]
def FixPost (N : Nat) (vs : List Kin) (v : Int) (w : World) (e : Ending) (w' : World) : Prop :=
 ∃
  (z : Rv) (b : Bool) (q : Rat), e = .returned (.tuple #[.agg #[.bool z.s, .slice z.A z.n z.c, .slice z.B z.m z.d], .bool b]) ∧ Rw w' z q 1000000000 ∧ Below w.heap.size w w' ∧
  (b = true → (∃ x, Sat N (sums N vs) x) ∧ 0 ≤ v ∧ v < (N : Int) ∧ ∀ x, Sat N (sums N vs) x → x v.toNat = q) ∧ (b = false → q = 0 ∧ ¬ ((∃ x, Sat N (sums N vs) x) ∧ 0 ≤ v ∧ v < (N : Int) ∧ ∃ t, ∀ x, Sat N (sums N vs) x → x v.toNat = t))
def FixPostE (P N : Nat) (vs : List Kin) (v : Int) (w : World) (e : Ending) (w' : World) : Prop :=
 ∃
  (z : Rv) (b : Bool) (q : Rat), e = .returned (.tuple #[.agg #[.bool z.s, .slice z.A z.n z.c, .slice z.B z.m z.d], .bool b]) ∧ Rw w' z q 1000000000 ∧ Below w.heap.size w w' ∧
  (b = true → (∃ x, Sat N (sums N vs) x) ∧ 0 ≤ v ∧ v < (N : Int) ∧ ∀ x, Sat N (sums N vs) x → x v.toNat = q) ∧ (b = false → q = 0 ∧ ¬ ((∃ x, Sat N (sums N vs) x) ∧ 0 ≤ v ∧ v < (N : Int) ∧ ∃ t, ∀ x, Sat N (sums N vs) x → x v.toNat = t)) ∧ q.num.natAbs ≤ P ∧ q.den ≤ P
theorem FixPostE.c {P N : Nat} {vs : List Kin} {v : Int} {w w' : World} {e : Ending} (h : FixPostE P N vs v w e w') : FixPost N vs v w e w' := by
 obtain ⟨z, b, q, h1, h2, h3, h4, h5, _⟩ := h
 exact ⟨z, b, q, h1, h2, h3, h4, h5⟩
theorem fr_quo {P : Nat} {u : Int} {k q : Rat} (h : Fr P [(u, q)] k) (hq : q ≠ 0) : (-k / q).num.natAbs ≤ P ∧ (-k / q).den ≤ P := by
 obtain ⟨d, hd, _, h1, zk, ek, bk⟩ := h
 obtain ⟨zq, eq, bq⟩ := h1 (u, q) List.mem_cons_self
 have n0 := Fd.ne (E := P) hd eq hq
 have hd0 : ((d : Int) : Rat) ≠ 0 := fun e => by
  rw [e, Rat.mul_zero] at eq
  exact n0 (by exact_mod_cast eq.symm)
 obtain ⟨s, hs, es⟩ := abs_cast zq
 have key : (-k / q) * (((zq.natAbs : Nat) : Int) : Rat) = ((-zk * s : Int) : Rat) := by
  have h1 : ((zq : Int) : Rat) * (-k / q) = -((zk : Int) : Rat) := by
   have h2 : -k / q * q = -k := Rat.div_mul_cancel hq
   rw [← eq, ← ek]
   show q * ((d : Int) : Rat) * (-k / q) = -(k * ((d : Int) : Rat))
   grind
  rw [es, Rat.intCast_mul, Rat.intCast_mul, Rat.intCast_neg, ← h1]
  grind
 obtain ⟨m, hm, g1, g2⟩ := frac (by omega) key
 constructor
 ·
  have h3 : (-k / q).num.natAbs ≤ (-zk * s).natAbs := by
   rw [g1, Int.natAbs_mul, Int.natAbs_natCast]; exact Nat.le_mul_of_pos_right _ (by omega)
  have h4 : (-zk * s).natAbs = zk.natAbs := by rcases hs with rfl | rfl <;> omega
  omega
 ·
  refine Nat.le_trans ?_ bq
  rw [g2]; exact Nat.le_mul_of_pos_right _ (by omega)
theorem RAt.fr {n M P0 : Nat} {rs : List Ro} {L0 L : List (Int × Rat)} {k0 k : Rat} (h : RAt n M rs L0 k0 P0 L k) (hrs : ∀ r ∈ rs, RoOk n r) : Fr P0 L k := by
 obtain ⟨a, E, h1, h2, h3⟩ := h.sz
 exact h2.le (Nat.le_trans (Nat.le_mul_of_pos_right _ (pot_pos a hrs)) h3)
theorem zero_rw (w : World) : Rw w ⟨false, none, 0, 0, none, 0, 0⟩ 0 1000000000 :=
 ⟨Nat.le_refl _, Nat.le_refl _, Nat.zero_le _, Nat.zero_le _, [], [], Row.nil_ _ _ _, Row.nil_ _ _ _, rn_zero (.inl rfl)⟩
theorem FixPostE.no {P N : Nat} {vs : List Kin} {v : Int} {w w' : World} (hP : 1 ≤ P) (hb : Below w.heap.size w w') (h : ¬ ((∃ x, Sat N (sums N vs) x) ∧ 0 ≤ v ∧ v < (N : Int) ∧ ∃ t, ∀ x, Sat N (sums N vs) x → x v.toNat = t)) :
  FixPostE P N vs v w (.returned (.tuple #[.agg #[.bool false, .slice none 0 0, .slice none 0 0], .bool false])) w' :=
 ⟨⟨false, none, 0, 0, none, 0, 0⟩, false, 0, rfl, zero_rw w', hb, fun e => (by cases e), fun _ => ⟨rfl, h⟩, Nat.zero_le _, hP⟩
theorem fix_math {N P0 v : Nat} {rs : List Ro} {ok : Bool} {S : List (Nat → Rat)} {L' : List (Int × Rat)} {k' : Rat} (hs : Stair N S (rows N rs) ok) (hok : ok = true) (hv : v < N) (hrs : ∀ r ∈ rs, RoOk N r)
  (hr : RAt N (N + 1) rs [((v : Int), ((1 : Int) : Rat)), ((N : Int), ((-1 : Int) : Rat))] ((0 : Int) : Rat) P0 L' k') (hno : ∀ u q l, L' = (u, q) :: l → ∀ r ∈ rs, (r.v : Int) ≠ u) (hbd : Bd P0 10000000) :
  ∃ (u : Nat) (q : Rat) (l : List (Int × Rat)), L' = ((u : Int), q) :: l ∧ u ≤ N ∧ q ≠ 0 ∧ (u = N → l = [] ∧ ∀ x, Sat N S x → x v = -k' / q) ∧ (u ≠ N → ¬ ∃ t, ∀ x, Sat N S x → x v = t) := by
 have hasc := (hr.bd hrs hbd).2.2
 have hred : Red (N + 1) ((rows N rs).map (lift N)) (fn (N + 1) [((v : Int), ((1 : Int) : Rat)), ((N : Int), ((-1 : Int) : Rat))] ((0 : Int) : Rat)) (fn (N + 1) L' k') := by
  obtain ⟨p, hp, u, hu, he⟩ := hr.red (N + 1)
  refine ⟨p, hp, u, hu.trans fun f hf => ?_, he⟩
  obtain ⟨r, hr', rfl⟩ := List.mem_map.1 hf
  exact (Sp.mem (List.mem_map.2 ⟨fn N r.L r.k, List.mem_map.2 ⟨r, hr', rfl⟩, rfl⟩)).congr fun j hj => fn_lift (hrs r hr').asc j (by omega)
 have hcv : ∀ x : Nat → Rat, dot (N + 1) (fn (N + 1) [((v : Int), ((1 : Int) : Rat)), ((N : Int), ((-1 : Int) : Rat))] ((0 : Int) : Rat)) x = x v - x N := fun x => by
  unfold dot
  rw [fn_k, show (((0 : Int)) : Rat) = 0 from rfl, Rat.add_zero, sm]
  have e1 : sm (fun i => fn (N + 1) [((v : Int), ((1 : Int) : Rat)), ((N : Int), ((-1 : Int) : Rat))] 0 i * x i) N = x v := by
   rw [sm_single (k := v) (fun i hi hne => ?_) hv]
   ·
    rw [fn_lt (by omega), co, co, co, if_pos rfl, if_neg (by omega), Rat.add_zero, Rat.add_zero]
    exact Rat.one_mul _
   · rw [fn_lt (by omega), co, co, co, if_neg (by omega), if_neg (by omega), Rat.add_zero, Rat.add_zero, Rat.zero_mul]
  rw [e1, fn_lt (by omega), co, co, co, if_neg (by omega), if_pos rfl, Rat.add_zero, Rat.zero_add, Rat.sub_eq_add_neg]
  congr 1
  rw [Rat.intCast_neg, show (((1 : Int)) : Rat) = 1 from rfl, Rat.neg_mul, Rat.one_mul]
 have hcn : fn (N + 1) [((v : Int), ((1 : Int) : Rat)), ((N : Int), ((-1 : Int) : Rat))] ((0 : Int) : Rat) N ≠ 0 := by
  rw [fn_lt (by omega), co, co, co, if_neg (by omega), if_pos rfl, Rat.add_zero, Rat.zero_add]; decide
 match L', hasc, hred, hno with
 |
  [], _, hred, _ =>
  exfalso
  have h1 := (hs.fixed hok hv hcv hcn hred (fun r hr e => by
   have := hs.ech.lt r hr
   rw [fn_nil] at e; omega)).1
  rw [fn_nil] at h1; omega
 |
  (u, q) :: l, hasc, hred, hno =>
  have hl := fn_lead (n := N + 1) (k := k') (show Asc ((N + 1 : Nat) : Int) 0 ((u, q) :: l) from hasc)
  obtain ⟨u, rfl⟩ := Int.eq_ofNat_of_zero_le hasc.1
  have hlu : lead (N + 1) (fn (N + 1) (((u : Int), q) :: l) k') = u := by omega
  obtain ⟨g1, g2, g3⟩ := hs.fixed hok hv hcv hcn hred (fun r hr e => by
   obtain ⟨r', hr', _, e2⟩ := rows_lead hrs hr
   rw [hlu, e2] at e
   exact hno (u : Int) q l rfl r' hr' (by rw [e]))
  rw [hlu] at g1 g2 g3
  refine ⟨u, q, l, rfl, g1, hasc.2.2.1, fun e => ?_, fun e => g3 (by omega)⟩
  subst e
  have hnil : l = [] := by
   cases l with
   | nil => rfl
   | cons y l => obtain ⟨y1, y2⟩ := y; have h1 := hasc.2.2.2.1; have h2 := hasc.2.2.2.2.1; omega
  subst hnil
  refine ⟨rfl, fun x hx => ?_⟩
  rw [g2 rfl x hx, fn_k, fn_lt (by omega), co, co, if_pos rfl, Rat.add_zero]
set_option maxHeartbeats 25600000 in
theorem Fixed_e (n v : Int) (N s E e0 : Nat) (A : Option Addr) (m c : Nat) (vs : List Kin) (w : World) (hN : heldN n = N) (h : Kns N s w A m vs) (hm : m ≤ 1000) (hr : RoomE s E e0 N) (hd : ∀ x ∈ vs, x.ok = true → Fr E x.L x.k) :
  Calls Tryz.prog 13 #[.slice A m c, .int .i64 v, .int .i64 n] w (FixPostE (bigX E N) N vs v w) := by
 have HD := Lib.hid hd
 have HPP : Hid (1 ≤ bigX E N) := bigX_pos hr.2.2.1 N
 have HH := Lib.hid h
 have HR := Lib.hid hr
 have HN := Lib.hid hN
 have kz := C3.new w (.bool false) (.slice none 0 0) (.slice none 0 0)
 have hB : Below w.heap.size w (w.alloc (.cells #[.bool false, .slice none 0 0, .slice none 0 0] 26)) := (Below.refl _ _).alloc (Nat.le_refl _) _
 clear h hr hN hd
 go_enter Tryz.func13, Tryz.ntmps13
 go_wp2_with fail
 generalize w.alloc (.cells #[.bool false, .slice none 0 0, .slice none 0 0] 26) = W0 at *
 have HZ0 := Lib.hid (And.intro kz hB)
 clear kz hB
 refine (held_c n _).mono ?_
 rintro e w1 ⟨rfl, rfl⟩
 rw [HN.out]
 go_wp2_with fail
 refine (stairsOf_e N s E e0 A m c vs _ (HH.out.below HZ0.out.2) HR.out.1 hm HR.out.2.1 HR.out.2.2.1 HR.out.2.2.2.1 HR.out.2.2.2.2 HD.out).mono ?_
 rintro e W ⟨sb, mb, hi, us, rs, ok, rfl, hp, hs, hhi, hb⟩
 have HS := Lib.hid (And.intro hp (And.intro hs (And.intro hhi hb)))
 have HZW : Hid (C3 W w.heap.size (.bool false) (.slice none 0 0) (.slice none 0 0) ∧ Below w.heap.size w W) := ⟨HZ0.out.1.below hb, HZ0.out.2.trans (hb.mono HZ0.out.2.size)⟩
 clear hp hs hhi hb HZ0
 obtain ⟨s0, s1, _⟩ := HS.out.2.1.st.facts
 obtain ⟨z0, z1, z2, t0, t1, t2⟩ := HZW.out.1.facts
 have N9 : (N : Int) ≤ 64 := by have := HR.out.1; omega
 have N0 : (0 : Int) ≤ (N : Int) := by omega
 have HRET : Hid (∀ w', W.grownBy w' (some w.heap.size) → ¬ ((∃ x, Sat N (sums N vs) x) ∧ 0 ≤ v ∧ v < (N : Int) ∧ ∃ t, ∀ x, Sat N (sums N vs) x → x v.toNat = t) → FixPostE (bigX E N) N vs v w (.returned (.tuple #[.agg #[.bool false, .slice none 0 0, .slice none 0 0], .bool false])) w') := fun w' hg hno => FixPostE.no HPP.out (below_gr HZW.out.2 (Nat.le_refl _) hg) hno
 cases ok with
 |
  false =>
  go_wp2
  refine ret3t (fn := Tryz.f13) Tryz.results13 rfl rfl rfl (HZW.out.1.put _ _ _) ?_
  refine HRET.out _ (put3_grown _ _ _ _ _) (fun h => ?_)
  obtain ⟨⟨x, hx⟩, _⟩ := h
  exact HS.out.2.1.stair.bad rfl x ((sat_perm HS.out.1 x).2 hx)
 |
  true =>
  by_cases hv0 : v < 0
  ·
   go_wp2
   refine ret3t (fn := Tryz.f13) Tryz.results13 rfl rfl rfl (HZW.out.1.put _ _ _) ?_
   exact HRET.out _ (put3_grown _ _ _ _ _) (fun h => by have := h.2.1; omega)
  by_cases hvN : (N : Int) ≤ v
  ·
   go_wp2
   refine ret3t (fn := Tryz.f13) Tryz.results13 rfl rfl rfl (HZW.out.1.put _ _ _) ?_
   exact HRET.out _ (put3_grown _ _ _ _ _) (fun h => by have := h.2.2.1; omega)
  obtain ⟨v, rfl⟩ := Int.eq_ofNat_of_zero_le (show 0 ≤ v by omega)
  have HST : Hid (StM N hi W sb mb rs true) := HS.out.2.1.st
  have HSB : Hid (sb < W.heap.size ∧ hi ≤ W.heap.size) := ⟨HS.out.2.1.st.lt, HS.out.2.2.1⟩
  obtain ⟨P0, hP0⟩ : ∃ P0, P0 = bigX E rs.length := ⟨_, rfl⟩
  have HPR : Hid (N ≤ 64 ∧ Asc ((N + 1 : Nat) : Int) 0 [((v : Int), ((1 : Int) : Rat)), ((N : Int), ((-1 : Int) : Rat))] ∧ Fr 1 [((v : Int), ((1 : Int) : Rat)), ((N : Int), ((-1 : Int) : Rat))] ((0 : Int) : Rat) ∧ 1 * pot rs 0 ≤ P0 ∧ Bd P0 10000000) := by
   have hE : 1 ≤ E := HR.out.2.2.1
   refine ⟨HR.out.1, ⟨by omega, by omega, by decide, by omega, by omega, by decide, trivial⟩, ⟨1, Nat.one_pos, Nat.le_refl _, fun y hy => ?_, ⟨0, Rat.zero_mul _, Nat.zero_le _⟩⟩, ?_, ?_⟩
   ·
    rcases List.mem_cons.1 hy with rfl | hy
    · exact ⟨1, Rat.mul_one _, Nat.le_refl _⟩
    · rw [List.mem_singleton.1 hy]; exact ⟨-1, Rat.mul_one _, Nat.le_refl _⟩
   · rw [Nat.one_mul, hP0]; exact HS.out.2.1.pot
   ·
    have h1 := (bigX_bd (i := rs.length) hE HR.out.2.2.2.1).more (Nat.le_trans (Nat.mul_le_mul (Nat.le_refl _) (Nat.pow_le_pow_right (by omega) HS.out.2.1.len)) HR.out.2.2.2.2)
    rw [hP0]
    exact h1.le (Nat.le_mul_of_pos_left _ hE)
  have HV : Hid (v < N) := by show _ < _; omega
  have HPL : Hid (P0 ≤ bigX E N) := by rw [hP0]; exact bigX_le HR.out.2.2.1 HS.out.2.1.len
  clear hP0
  go_wp2_with fail
  refine (Int_any 1 _ (by omega)).mono ?_
  rintro e w1 ⟨y1, rfl, hy1, hb1⟩
  have H1 := Lib.hid (And.intro hy1 hb1)
  clear hy1 hb1 s0 s1 z0 z1 z2 t0 t1 t2
  go_wp2_with fail
  refine (Int_any (-1) _ (by omega)).mono ?_
  rintro e w2 ⟨y2, rfl, hy2, hb2⟩
  have H2 := Lib.hid (And.intro hy2 hb2)
  clear hy2 hb2
  go_wp2_with fail
  have H3 : Hid (Below w2.heap.size w2 (w2.alloc (.cells #[.int .i64 (v : Int), .bool y1.s, .slice y1.A y1.n y1.c, .slice y1.B y1.m y1.d, .int .i64 (N : Int), .bool y2.s, .slice y2.A y2.n y2.c, .slice y2.B y2.m y2.d] 47)) ∧ (w2.alloc (.cells #[.int .i64 (v : Int), .bool y1.s, .slice y1.A y1.n y1.c, .slice y1.B y1.m y1.d, .int .i64 (N : Int), .bool y2.s, .slice y2.A y2.n y2.c, .slice y2.B y2.m y2.d] 47)).heap[w2.heap.size]? = some (.cells #[.int .i64 (v : Int), .bool y1.s, .slice y1.A y1.n y1.c, .slice y1.B y1.m y1.d, .int .i64 (N : Int), .bool y2.s, .slice y2.A y2.n y2.c, .slice y2.B y2.m y2.d] 47 (0, 0))) := ⟨(Below.refl _ _).alloc (Nat.le_refl _) _, heap_alloc_new w2 _⟩
  generalize w2.alloc (.cells #[.int .i64 (v : Int), .bool y1.s, .slice y1.A y1.n y1.c, .slice y1.B y1.m y1.d, .int .i64 (N : Int), .bool y2.s, .slice y2.A y2.n y2.c, .slice y2.B y2.m y2.d] 47) = w3 at *
  refine (Int_any 0 _ (by omega)).mono ?_
  rintro e w4 ⟨y3, rfl, hy3, hb4⟩
  have H4 := Lib.hid (And.intro hy3 hb4)
  clear hy3 hb4
  have HB4 : Hid (Below W.heap.size W w4 ∧ Below w1.heap.size w1 w4 ∧ Below w2.heap.size w2 w4 ∧ w4.heap[w2.heap.size]? = some (.cells #[.int .i64 (v : Int), .bool y1.s, .slice y1.A y1.n y1.c, .slice y1.B y1.m y1.d, .int .i64 (N : Int), .bool y2.s, .slice y2.A y2.n y2.c, .slice y2.B y2.m y2.d] 47 (0, 0))) := by
   have b1 := H1.out.2
   have b2 := H2.out.2
   have b3 := H3.out.1
   have b4 := H4.out.2
   have b34 : Below w2.heap.size w2 w4 := b3.trans (b4.mono b3.size)
   have b24 : Below w1.heap.size w1 w4 := b2.trans (b34.mono b2.size)
   exact ⟨b1.trans (b24.mono b1.size), b24, b34, (b4.block _ (Array.getElem?_eq_some_iff.1 H3.out.2).1).trans H3.out.2⟩
  have hv : ∀ w', w4.grownBy w' (some sb) → Cw w' ⟨0, some ⟨w2.heap.size, 0, none⟩, 2, 2, y3⟩ [((v : Int), ((1 : Int) : Rat)), ((N : Int), ((-1 : Int) : Rat))] ((0 : Int) : Rat) 10000000 := fun w' hg => by
   have h1 := HSB.out.1
   have h2 := H1.out.2.size
   have h3 := H2.out.2.size
   have h4 := H3.out.1.size
   exact two_cw ((hg.block _ (Array.getElem?_eq_some_iff.1 HB4.out.2.2.2).1 (fun e => by injection e with e; omega)).trans HB4.out.2.2.2) (((H1.out.1.below HB4.out.2.1)).turn h1 hg) ((H2.out.1.below HB4.out.2.2.1).turn (by omega) hg) (H4.out.1.turn (by omega) hg)
  have HVV := Lib.hid hv
  clear hv
  go_wp2_with fail
  refine (rest_c N (N + 1) hi sb mb 1 P0 sb rs true ⟨0, some ⟨w2.heap.size, 0, none⟩, 2, 2, y3⟩ [((v : Int), ((1 : Int) : Rat)), ((N : Int), ((-1 : Int) : Rat))] ((0 : Int) : Rat) _ (HST.out.below HB4.out.1) (Nat.le_succ _) (by have := HPR.out.1; omega) HPR.out.2.1 HPR.out.2.2.1 HPR.out.2.2.2.1 HPR.out.2.2.2.2 (by have := HSB.out.1; have := HB4.out.1.size; omega) HVV.out).mono ?_
  rintro e w5 ⟨zr, L', k', rfl, _, hr1, hr2, hr3, hb5⟩
  obtain ⟨u, q, l, rfl, huN, hq0, hyes, hno⟩ := fix_math HS.out.2.1.stair rfl HV.out HST.out.okr hr2 hr3 HPR.out.2.2.2.2
  have HB5 : Hid (Below W.heap.size W w5 ∧ Cw w5 zr (((u : Int), q) :: l) k' 10000000) := ⟨HB4.out.1.trans (hb5.mono HB4.out.1.size), hr1 _ (grown_refl _ _)⟩
  have HM := Lib.hid (And.intro hyes (And.intro hno hq0))
  have HQ : Hid (u = N → (-k' / q).num.natAbs ≤ bigX E N ∧ (-k' / q).den ≤ bigX E N) := fun e => by
   have h1 := hr2.fr HST.out.okr
   rw [(hyes e).1] at h1
   have h2 := fr_quo h1 hq0
   exact ⟨Nat.le_trans h2.1 HPL.out, Nat.le_trans h2.2 HPL.out⟩
  have HSZ0 := Lib.hid (hr2.bd HST.out.okr HPR.out.2.2.2.2)
  obtain ⟨hzp, ba, oa, x, eA, hba, hxa, hxv, hxr⟩ := HB5.out.2.first
  have EA := Lib.hid eA
  have hzp' : (0 : Int) < (zr.n : Int) := by omega
  clear hr1 hr2 hr3 hb5 H1 H2 H3 H4 HVV hyes hno hq0 eA
  have HXA := Lib.hid (And.intro hxa (And.intro hba (And.intro hxv hxr)))
  clear hxa hba hxv hxr
  go_upto_region 6 with fail
  have HY : Hid (C5 (w5.alloc (.cells #[.int .i64 0, .slice zr.A zr.n zr.c, .bool zr.K.s, .slice zr.K.A zr.K.n zr.K.c, .slice zr.K.B zr.K.m zr.K.d] 28)) w5.heap.size (.int .i64 0) (.slice zr.A zr.n zr.c) (.bool zr.K.s) (.slice zr.K.A zr.K.n zr.K.c) (.slice zr.K.B zr.K.m zr.K.d) ∧ Below w5.heap.size w5 (w5.alloc (.cells #[.int .i64 0, .slice zr.A zr.n zr.c, .bool zr.K.s, .slice zr.K.A zr.K.n zr.K.c, .slice zr.K.B zr.K.m zr.K.d] 28))) := ⟨C5.new w5 _ _ _ _ _, (Below.refl _ _).alloc (Nat.le_refl _) _⟩
  generalize w5.alloc (.cells #[.int .i64 0, .slice zr.A zr.n zr.c, .bool zr.K.s, .slice zr.K.A zr.K.n zr.K.c, .slice zr.K.B zr.K.m zr.K.d] 28) = w6 at *
  have h6 : At4 w6 ba oa x := HXA.out.1.keep (HY.out.2.block ba HXA.out.2.1)
  obtain ⟨y0, y1', y2', y3', y4'⟩ := HY.out.1.facts
  obtain ⟨x0, x1, x2, x3⟩ := h6
  rw [EA.out] at y1'
  rw [HXA.out.2.2.1] at x0
  have HX2 : Hid (At4 w6 ba oa x) := HXA.out.1.keep (HY.out.2.block ba HXA.out.2.1)
  go_upto_region 7 with fail
  generalize hWq : w6.alloc (.cells #[.int .i64 (u : Int), .bool x.r.s, .slice x.r.A x.r.n x.r.c, .slice x.r.B x.r.m x.r.d] 47) = wq
  have HBQ : Hid (Below W.heap.size W wq ∧ w6.heap.size < wq.heap.size) := by
   have h1 := HB5.out.1
   have h2 := HY.out.2
   rw [← hWq]
   exact ⟨(h1.trans (h2.mono h1.size)).alloc (by have := h1.size; have := h2.size; omega) _, by simp⟩
  have HAL : Hid (∀ w', Below wq.heap.size wq w' → (w'.cell? ⟨w5.heap.size, 2, none⟩ = some (.bool zr.K.s) ∧ w'.cell? ⟨w5.heap.size, 3, none⟩ = some (.slice zr.K.A zr.K.n zr.K.c) ∧ w'.cell? ⟨w5.heap.size, 4, none⟩ = some (.slice zr.K.B zr.K.m zr.K.d)) ∧ (w'.cell? ⟨w6.heap.size, 0, none⟩ = some (.int .i64 (u : Int)) ∧ w'.cell? ⟨w6.heap.size, 1, none⟩ = some (.bool x.r.s) ∧ w'.cell? ⟨w6.heap.size, 2, none⟩ = some (.slice x.r.A x.r.n x.r.c) ∧ w'.cell? ⟨w6.heap.size, 3, none⟩ = some (.slice x.r.B x.r.m x.r.d))) := fun w' h => by
   have k1 : Below w6.heap.size w6 wq := hWq ▸ (Below.refl _ _).alloc (Nat.le_refl _) _
   obtain ⟨_, _, g2, g3, g4⟩ := ((HY.out.1.below k1).below h).facts
   have k2 : At4 wq w6.heap.size 0 ⟨(u : Int), x.r⟩ := hWq ▸ At4.new w6 ⟨(u : Int), x.r⟩
   obtain ⟨t0, t1, t2, t3⟩ := k2.keep (h.block _ HBQ.out.2)
   rw [Nat.zero_add] at t1 t2 t3
   exact ⟨⟨g2, g3, g4⟩, t0, t1, t2, t3⟩
  have HNM : Hid (∀ w', Below wq.heap.size wq w' → Rw w' zr.K k' 10000000 ∧ Rw w' x.r q 10000000) := fun w' h => by
   have k0 : Below w5.heap.size w5 wq := hWq ▸ (HY.out.2.alloc HY.out.2.size _)
   exact ⟨(HB5.out.2.num.below k0).below h, (HXA.out.2.2.2.below k0).below h⟩
  have HKN : Hid (∀ w', Below wq.heap.size wq w' → Rw w' zr.K k' 10000000) := fun w' h => (HNM.out w' h).1
  have HXN : Hid (∀ w', Below wq.heap.size wq w' → Rw w' x.r q 10000000) := fun w' h => (HNM.out w' h).2
  have HSZ : Hid (Sz (-k') 10000000 ∧ q ≠ 0 ∧ Sz q 10000000) := ⟨HSZ0.out.2.1.neg, HM.out.2.2, HSZ0.out.1 _ (List.mem_cons_self ..)⟩
  have HLT : Hid (w5.heap.size < wq.heap.size ∧ w6.heap.size < wq.heap.size) := ⟨Nat.lt_of_le_of_lt HY.out.2.size HBQ.out.2, HBQ.out.2⟩
  have HZQ : Hid (C3 wq w.heap.size (.bool false) (.slice none 0 0) (.slice none 0 0) ∧ Below w.heap.size w wq ∧ w.heap.size < wq.heap.size) := ⟨HZW.out.1.below HBQ.out.1, HZW.out.2.trans (HBQ.out.1.mono HZW.out.2.size), (HZW.out.1.below HBQ.out.1).lt⟩
  clear hWq HNM HXA HX2 HY y0 y1' y2' y3' y4' x0 x1 x2 x3 HSZ0
  have hQ := HAL.out _ (Below.refl _ _)
  generalize w5.heap.size = Y at *
  generalize w6.heap.size = T at *
  obtain ⟨⟨b2, b3, b4⟩, ⟨x0, x1, x2, x3⟩⟩ := hQ
  by_cases huN' : u = N
  ·
   subst huN'
   obtain ⟨z0, z1, z2, t0, t1, t2⟩ := HZQ.out.1.facts
   go_upto_region 9 with fail
   clear z0 z1 z2 t0 t1 t2 x0
   go_cut [11] from 52 (fun xv wx => ∃ (X : Nat) (t : Rv), xv = .pointer (some ⟨X, 0, none⟩) ∧ Hid (OneAt wq wx X t (-k' / q)))
   case first =>
    refine wp_region_held_drew (S := fun w' => w'.cell? ⟨Y, 2, none⟩ = some (.bool zr.K.s) ∧ w'.cell? ⟨Y, 3, none⟩ = some (.slice zr.K.A zr.K.n zr.K.c) ∧ w'.cell? ⟨Y, 4, none⟩ = some (.slice zr.K.B zr.K.m zr.K.d) ∧ w'.cell? ⟨T, 1, none⟩ = some (.bool x.r.s) ∧ w'.cell? ⟨T, 2, none⟩ = some (.slice x.r.A x.r.n x.r.c) ∧ w'.cell? ⟨T, 3, none⟩ = some (.slice x.r.B x.r.m x.r.d)) (by kernel_rfl) ?_ (fun hHeld => ?_)
    ·
     (try dsimp only)
     go_keep
    refine tk (i := 0) (h := ?_)
    try simp only [zR]
    refine tk (i := 1) (h := ?_)
    try simp only [zR]
    refine tk (i := 3) (h := ?_)
    try simp only [zR]
    refine tk (i := 4) (h := ?_)
    try simp only [zR]
    refine tr [2, 9] ?_
    refine tc (h := fun K hK => ?_) (hs := tc (h := fun K hK => ?_) (hs := tn))
    ·
     skip
     try go_simp
     go_at_call 43
     refine (Neg_c zr.K k' _ ((HKN.out _ (bel1 wq)).more (by omega))).mono ?_
     rintro e w8 ⟨g8, rfl, hg8, hb⟩
     have HG8 := Lib.hid (hg8.rw HSZ.out.1)
     clear hg8
     have Hw8 := Lib.hid ((bel1 wq).trans hb)
     clear hb
     clear b2 b3 b4 x1 x2 x3
     obtain ⟨⟨b2, b3, b4⟩, ⟨_, x1, x2, x3⟩⟩ := HAL.out _ Hw8.out
     try go_wp2_with fail
     refine hK.out _ _ ?_ (fun hHeld => ?_)
     · (try dsimp only); go_keep
     clear hK K
     try simp only [zR]
     refine tr [5, 9] ?_
     refine tc (h := fun K hK => ?_) (hs := tc (h := fun K hK => ?_) (hs := tn))
     ·
      skip
      try go_simp
      go_at_call 42
      refine (Div_c g8 x.r (-k') q _ (Rw.more (HG8.out) (by omega)) ((HXN.out _ Hw8.out).more (by omega)) HSZ.out.2.1).mono ?_
      rintro e w9 ⟨t, rfl, ht, hb⟩
      have Ht := Lib.hid ht
      have HLw9 := Lib.hid (Hw8.out.size)
      clear ht
      have Hw9 := Lib.hid (Hw8.out.trans (hb.mono Hw8.out.size))
      clear hb
      clear b2 b3 b4 x1 x2 x3
      obtain ⟨⟨b2, b3, b4⟩, ⟨_, x1, x2, x3⟩⟩ := HAL.out _ Hw9.out
      have m0a : ¬ Y = w9.heap.size := by have := HLT.out.1; have := Hw9.out.size; omega
      have m0b : ¬ w9.heap.size = Y := fun e => m0a e.symm
      have m1a : ¬ T = w9.heap.size := by have := HLT.out.2; have := Hw9.out.size; omega
      have m1b : ¬ w9.heap.size = T := fun e => m1a e.symm
      try go_wp2_with fail
      refine hK.out _ _ ?_ (fun hHeld => ?_)
      · (try dsimp only); go_keep
      clear hK K
      try simp only [zR]
      refine tk (i := 6) (h := ?_)
      try simp only [zR]
      refine tk (i := 7) (h := ?_)
      try simp only [zR]
      refine tk (i := 8) (h := ?_)
      try simp only [zR]
      refine tr [9] ?_
      refine tc (h := fun K hK => ?_) (hs := tn)
      try go_simp
      try go_wp2_with fail
      refine hK.out _ _ ?_ (fun hHeld => ?_)
      · (try dsimp only); go_keep
      clear hK K
      try simp only [zR]
      refine tr [10] ?_
      refine tc (h := fun K hK => ?_) (hs := tn)
      try go_simp
      try go_wp2_with fail
      refine hK.out _ _ ?_ (fun hHeld => ?_)
      · (try dsimp only); go_keep
      clear hK K
      try simp only [zR]
      refine tk (i := 11) (h := ?_)
      try simp only [zR]
      refine wpAnyH_done (by kernel_rfl) ?_ _
      go_wp2_with fail
      go_meet
      exact ⟨_, t, rfl, Lib.hid (OneAt.new Hw9.out Ht.out HLw9.out)⟩
     ·
      skip
      try go_simp
      try go_wp2_with fail
      refine hK.out _ _ ?_ (fun hHeld => ?_)
      · (try dsimp only); go_keep
      clear hK K
      try simp only [zR]
      refine tr [5] ?_
      refine tc (h := fun K hK => ?_) (hs := tn)
      try go_simp
      go_at_call 42
      refine (Div_c g8 x.r (-k') q _ (Rw.more (HG8.out.alloc (.cells #[.bool false, .slice none 0 0, .slice none 0 0] 26)) (by omega)) ((HXN.out _ (Hw8.out.alloc Hw8.out.size (.cells #[.bool false, .slice none 0 0, .slice none 0 0] 26))).more (by omega)) HSZ.out.2.1).mono ?_
      rintro e w9 ⟨t, rfl, ht, hb⟩
      have Ht := Lib.hid ht
      have HLw9 := Lib.hid ((by simp : w8.heap.size < (w8.alloc (.cells #[.bool false, .slice none 0 0, .slice none 0 0] 26)).heap.size))
      clear ht
      have Hw9 := Lib.hid (one_al3 Hw8.out hb)
      have HXw9 := Lib.hid (And.intro Hw8.out.size hb.size)
      clear hb
      clear b2 b3 b4 x1 x2 x3
      obtain ⟨⟨b2, b3, b4⟩, ⟨_, x1, x2, x3⟩⟩ := HAL.out _ Hw9.out.1
      obtain ⟨q0, q1, q2, t0, t1, t2⟩ := Hw9.out.2.facts
      have m0a : ¬ Y = w8.heap.size := by have := HLT.out.1; have := HXw9.out.1; omega
      have m0b : ¬ w8.heap.size = Y := fun e => m0a e.symm
      have m1a : ¬ T = w8.heap.size := by have := HLT.out.2; have := HXw9.out.1; omega
      have m1b : ¬ w8.heap.size = T := fun e => m1a e.symm
      try go_wp2_with fail
      refine hK.out _ _ ?_ (fun hHeld => ?_)
      · (try dsimp only); go_keep
      clear hK K
      try simp only [zR]
      refine tk (i := 6) (h := ?_)
      try simp only [zR]
      refine tk (i := 7) (h := ?_)
      try simp only [zR]
      refine tk (i := 8) (h := ?_)
      try simp only [zR]
      refine tr [10] ?_
      refine tc (h := fun K hK => ?_) (hs := tn)
      try go_simp
      try go_wp2_with fail
      refine hK.out _ _ ?_ (fun hHeld => ?_)
      · (try dsimp only); go_keep
      clear hK K
      try simp only [zR]
      refine tk (i := 11) (h := ?_)
      try simp only [zR]
      refine wpAnyH_done (by kernel_rfl) ?_ _
      go_wp2_with fail
      go_meet
      exact ⟨_, t, rfl, Lib.hid (OneAt.put Hw9.out.2 HXw9.out.1 HLw9.out Hw9.out.1 Ht.out)⟩
    ·
     skip
     try go_simp
     try go_wp2_with fail
     refine hK.out _ _ ?_ (fun hHeld => ?_)
     · (try dsimp only); go_keep
     clear hK K
     try simp only [zR]
     refine tr [2] ?_
     refine tc (h := fun K hK => ?_) (hs := tn)
     try go_simp
     go_at_call 43
     refine (Neg_c zr.K k' _ ((HKN.out _ (((Below.refl _ _).alloc (Nat.le_refl _) _).drew)).more (by omega))).mono ?_
     rintro e w8 ⟨g8, rfl, hg8, hb⟩
     have HG8 := Lib.hid (hg8.rw HSZ.out.1)
     clear hg8
     have Hw8 := Lib.hid (one_al hb)
     clear hb
     clear b2 b3 b4 x1 x2 x3
     obtain ⟨⟨b2, b3, b4⟩, ⟨_, x1, x2, x3⟩⟩ := HAL.out _ Hw8.out.1
     try go_wp2_with fail
     refine hK.out _ _ ?_ (fun hHeld => ?_)
     · (try dsimp only); go_keep
     clear hK K
     try simp only [zR]
     refine tr [5] ?_
     refine tc (h := fun K hK => ?_) (hs := tn)
     try go_simp
     go_at_call 42
     refine (Div_c g8 x.r (-k') q _ (Rw.more (HG8.out) (by omega)) ((HXN.out _ Hw8.out.1).more (by omega)) HSZ.out.2.1).mono ?_
     rintro e w9 ⟨t, rfl, ht, hb⟩
     have Ht := Lib.hid ht
     have HLw9 := Lib.hid (Hw8.out.2.1.lt)
     clear ht
     have Hw9 := Lib.hid (one_al2 Hw8.out hb)
     clear hb
     clear b2 b3 b4 x1 x2 x3
     obtain ⟨⟨b2, b3, b4⟩, ⟨_, x1, x2, x3⟩⟩ := HAL.out _ Hw9.out.1
     obtain ⟨q0, q1, q2, t0, t1, t2⟩ := Hw9.out.2.facts
     have m0a : ¬ Y = wq.heap.size := by have := HLT.out.1; omega
     have m0b : ¬ wq.heap.size = Y := fun e => m0a e.symm
     have m1a : ¬ T = wq.heap.size := by have := HLT.out.2; omega
     have m1b : ¬ wq.heap.size = T := fun e => m1a e.symm
     try go_wp2_with fail
     refine hK.out _ _ ?_ (fun hHeld => ?_)
     · (try dsimp only); go_keep
     clear hK K
     try simp only [zR]
     refine tk (i := 6) (h := ?_)
     try simp only [zR]
     refine tk (i := 7) (h := ?_)
     try simp only [zR]
     refine tk (i := 8) (h := ?_)
     try simp only [zR]
     refine tr [10] ?_
     refine tc (h := fun K hK => ?_) (hs := tn)
     try go_simp
     try go_wp2_with fail
     refine hK.out _ _ ?_ (fun hHeld => ?_)
     · (try dsimp only); go_keep
     clear hK K
     try simp only [zR]
     refine tk (i := 11) (h := ?_)
     try simp only [zR]
     refine wpAnyH_done (by kernel_rfl) ?_ _
     go_wp2_with fail
     go_meet
     exact ⟨_, t, rfl, Lib.hid (OneAt.put (Hw9.out.2) (Nat.le_refl _) HLw9.out Hw9.out.1 Ht.out)⟩
   case rest =>
    obtain ⟨X, t, rfl, HU⟩ := hcut
    clear b2 b3 b4 x1 x2 x3
    have hne : ¬ X = w.heap.size := by have := HU.out.lo; have := HZQ.out.2.2; omega
    have hne' : ¬ w.heap.size = X := fun e => hne e.symm
    have kz2 := HZQ.out.1.below HU.out.below
    obtain ⟨u0, u1, u2, _, _, _⟩ := HU.out.cell.facts
    obtain ⟨z0, z1, z2, t0, t1, t2⟩ := kz2.facts
    go_wp2
    refine ret3t (fn := Tryz.f13) Tryz.results13 rfl rfl rfl (kz2.put _ _ _) ?_
    refine ⟨t, true, -k' / q, rfl, ?_, ?_, fun _ => ⟨?_, by omega, by have := HV.out; omega, fun y hy => ?_⟩, fun e => (by cases e), HQ.out (by trivial)⟩
    · exact (HU.out.num.put HZQ.out.2.2 _ _ _).rw ((HSZ.out.1.div HSZ.out.2.2 HSZ.out.2.1).more (by omega))
    · exact (HZQ.out.2.1.trans (HU.out.below.mono HZQ.out.2.1.size)).trans (put3_below (Nat.le_refl _) _ _ _)
    ·
     obtain ⟨y, hy⟩ := HS.out.2.1.stair.cons.1 rfl
     exact ⟨y, (sat_perm HS.out.1 y).1 hy⟩
    · exact (HM.out.1 (by trivial)).2 y ((sat_perm HS.out.1 y).2 hy)
  ·
   have huN2 : ¬ (u : Int) = (N : Int) := by omega
   obtain ⟨z0, z1, z2, t0, t1, t2⟩ := HZQ.out.1.facts
   go_wp2
   refine ret3t (fn := Tryz.f13) Tryz.results13 rfl rfl rfl (HZQ.out.1.put _ _ _) ?_
   refine FixPostE.no HPP.out (HZQ.out.2.1.trans (put3_below (Nat.le_refl _) _ _ _)) (fun h => HM.out.2.1 huN' ?_)
   obtain ⟨_, _, _, r, hr⟩ := h
   exact ⟨r, fun y hy => hr y ((sat_perm HS.out.1 y).1 hy)⟩
theorem Fixed_c (n v : Int) (N s : Nat) (A : Option Addr) (m c : Nat) (vs : List Kin) (w : World) (hN : heldN n = N) (h : Kns N s w A m vs) (hm : m ≤ 1000) (hr : Room s N) :
  Calls Tryz.prog 13 #[.slice A m c, .int .i64 v, .int .i64 n] w (FixPost N vs v w) :=
 (Fixed_e n v N s _ _ A m c vs w hN h hm hr.d.e (h.fr hr.2.1 h.lens)).mono fun _ _ h => h.c
end Go.Proofs.YtgffkaconhonlaaGreat
