/-
  What the document's Consistent, Rank and Implies answer.
  What the document's Fixed answers.
  Sums that come in, as the document's solve reads them.
  Sums that come in, of at most 8 variables: the document's answers about them, told by the sums' rows.
-/
import Derived.Test.YtgffkaconhonlaaGreatQGSol
import Derived.Test.YtgffkaconhonlaaGreatQStp
import Derived.Test.YtgffkaconhonlaaGreatQRIgz
namespace Go.Proofs.YtgffkaconhonlaaGreat
set_option maxRecDepth 20000
open Go.RowKit
structure SolIn (w : World) (A : Option Addr) (m n t : Nat) (vs : List Cin) : Prop where
 cns : Cns w A m n t vs
 n6 : n ≤ 60
 m9 : m ≤ 900
 bd : bdS t n ≤ 5000000000
 t9 : t ≤ 1000000000
 nt : n * (t + bdS t n + 1) ≤ 22500000000
theorem SolIn.inv {w : World} {A : Option Addr} {m n t : Nat} {vs : List Cin} (h : SolIn w A m n t vs) : Inv n (rowsOf n vs) (solTo n vs m).1 (solTo n vs m).2 := by
 have := solTo_inv n vs m
 rwa [List.take_of_length_le (Nat.le_of_eq h.cns.len)] at this
theorem Cns.below {w w' : World} {A : Option Addr} {m n t : Nat} {vs : List Cin} (h : Cns w A m n t vs) (hb : Below w.heap.size w w') : Cns w' A m n t vs :=
 ⟨h.len, fun hm => by
  obtain ⟨b, o, e, h1, hc⟩ := h.mem hm
  exact ⟨b, o, e, Nat.lt_of_lt_of_le h1 hb.size, fun i x hx => (hc i x hx).keep (hb.block b h1)⟩, fun x hx => ⟨(h.rd x hx).1.below hb, (h.rd x hx).2⟩, h.fit, fun x hx w9 h9 => h.is_ x hx w9 (hb.trans (h9.mono hb.size))⟩
theorem SolIn.below {w w' : World} {A : Option Addr} {m n t : Nat} {vs : List Cin} (h : SolIn w A m n t vs) (hb : Below w.heap.size w w') : SolIn w' A m n t vs :=
 ⟨h.cns.below hb, h.n6, h.m9, h.bd, h.t9, h.nt⟩
structure CinIn (w : World) (n t : Nat) (x : Cin) : Prop where
 rd : Cw w x.v x.L x.k 28500000000 ∧ x.v.n ≤ 1000
 fit : x.ok = true → (∀ y ∈ x.L, 0 ≤ y.1 ∧ y.1 < (n : Int)) ∧ SzR n t (rowF n x.L x.k)
 is_ : ∀ w', Below w.heap.size w w' → Calls Tryz.prog 26 #[.agg #[.int .i64 x.v.s, .slice x.v.A x.v.n x.v.c, .bool x.v.K.s, .slice x.v.K.A x.v.K.n x.v.K.c, .slice x.v.K.B x.v.K.m x.v.K.d], .int .i64 (n : Int)] w' fun e w2 => e = .returned (.bool x.ok) ∧ Below w'.heap.size w' w2
set_option maxHeartbeats 1600000 in
theorem rHold_c (n : Int) (N : Nat) (w : World) (hN : min (max n 0) 64 = (N : Int)) : Calls Tryz.prog 44 #[.int .i64 n] w fun e w' => e = .returned (.int .i64 (N : Int)) ∧ w = w' := by
 have HN := Lib.hid hN
 clear hN
 go_enter Tryz.func44, Tryz.ntmps44
 go_wp2
 go_ret
 first
  | exact ⟨by rw [← HN.out]; rfl, rfl⟩
  | exact ⟨by rw [HN.out], rfl⟩
  | exact ⟨by simp [HN.out], rfl⟩
def RConsPost (n : Nat) (vs : List Cin) (w : World) (e : Ending) (w' : World) : Prop := ∃ b : Bool, e = .returned (.bool b) ∧ (b = true ↔ ∃ x, Sat n (rowsOf n vs) x) ∧ Below w.heap.size w w'
set_option maxHeartbeats 3200000 in
theorem rConsistent_c (n0 : Int) (n t : Nat) (A : Option Addr) (m c : Nat) (vs : List Cin) (w : World) (hN : min (max n0 0) 64 = (n : Int)) (h : SolIn w A m n t vs) :
  Calls Tryz.prog 18 #[.slice A m c, .int .i64 n0] w (RConsPost n vs w) := by
 have HH := Lib.hid h
 have HN := Lib.hid hN
 clear h hN
 go_enter Tryz.func18, Tryz.ntmps18
 go_wp2_with fail
 refine (rHold_c n0 n _ HN.out).mono ?_
 rintro e w1 ⟨rfl, rfl⟩
 go_wp2_with fail
 refine (rSolve_c A m c n (n + 1) t vs _ HH.out.cns rfl HH.out.n6 HH.out.m9 HH.out.bd HH.out.t9 HH.out.nt).mono ?_
 rintro e w2 ⟨B, d, p, R, rfl, hs⟩
 have HS := Lib.hid hs
 clear hs
 go_wp2
 go_ret
 exact ⟨_, rfl, HH.out.inv.cons, HS.out.below⟩
end Go.Proofs.YtgffkaconhonlaaGreat

namespace Go.Proofs.YtgffkaconhonlaaGreat
set_option maxRecDepth 20000
open Go.RowKit
def RFixPost (n : Nat) (vs : List Cin) (v : Int) (w : World) (e : Ending) (w' : World) : Prop :=
 ∃
  (z : Rv) (b : Bool) (q : Rat), e = .returned (.tuple #[.agg #[.bool z.s, .slice z.A z.n z.c, .slice z.B z.m z.d], .bool b]) ∧ Rw w' z q 28500000000 ∧ Below w.heap.size w w' ∧
  (b = true → (∃ x, Sat n (rowsOf n vs) x) ∧ 0 ≤ v ∧ v < (n : Int) ∧ ∀ x, Sat n (rowsOf n vs) x → x v.toNat = q) ∧ (b = false → q = 0 ∧ ¬ ((∃ x, Sat n (rowsOf n vs) x) ∧ 0 ≤ v ∧ v < (n : Int) ∧ ∃ t, ∀ x, Sat n (rowsOf n vs) x → x v.toNat = t))
theorem nil_sz : Sz ((0 : Int) : Rat) 1 := by
 have := Sz.lit (x := 0) (y := 1) (s := false) (by omega) (by omega)
 rw [rn_zero (.inl rfl)] at this
 exact this
theorem RFixPost.no {n lo : Nat} {vs : List Cin} {v : Int} {w w5 : World} {z : Rv} (hz : Rt w5 lo z ((0 : Int) : Rat)) (hlo : w.heap.size < lo) (hb : Below w.heap.size w w5) (h : ¬ ((∃ x, Sat n (rowsOf n vs) x) ∧ 0 ≤ v ∧ v < (n : Int) ∧ ∃ t, ∀ x, Sat n (rowsOf n vs) x → x v.toNat = t)) :
  RFixPost n vs v w (.returned (.tuple #[.agg #[.bool z.s, .slice z.A z.n z.c, .slice z.B z.m z.d], .bool false])) (put3 w5 w.heap.size (.bool z.s) (.slice z.A z.n z.c) (.slice z.B z.m z.d)) :=
 ⟨z, false, ((0 : Int) : Rat), rfl, ((hz.put hlo _ _ _).rw nil_sz).more (by omega), hb.trans (put3_below (Nat.le_refl _) _ _ _), fun e => (by cases e), fun _ => ⟨rfl, h⟩⟩
end Go.Proofs.YtgffkaconhonlaaGreat

namespace Go.Proofs.YtgffkaconhonlaaGreat
set_option maxRecDepth 20000
open Go.RowKit
theorem rowT_co {N : Int} : ∀ (L : List (Int × Rat)) (lo : Int) (f : Nat → Rat), Asc N lo L → 0 ≤ lo → (∀ i : Nat, lo ≤ (i : Int) → f i = 0) → ∀ j : Nat, (L.foldl (fun f x => upd f x.1.toNat x.2) f) j = f j + co L (j : Int)
 |
  [], _, f, _, _, _, j => by
  show f j = f j + 0
  rw [Rat.add_zero]
 |
  (v, q) :: l, lo, f, h, h0, hf, j => by
  have h1 := h.1
  have ih := rowT_co l (v + 1) (upd f v.toNat q) h.2.2.2 (by omega) (fun i hi => by
   unfold upd
   rw [if_neg (by omega)]
   exact hf i (by omega)) j
  show (l.foldl (fun f x => upd f x.1.toNat x.2) (upd f v.toNat q)) j = _
  rw [ih, co]
  unfold upd
  by_cases e : j = v.toNat
  · rw [if_pos e, if_pos (by omega), hf j (by omega), Rat.zero_add]
  · rw [if_neg e, if_neg (by omega), Rat.zero_add]
theorem rowF_fn {n : Nat} {L : List (Int × Rat)} {k : Rat} (h : Asc (n : Int) 0 L) : rowF n L k = fn n L k := by
 funext j
 unfold rowF upd fn
 by_cases e : j = n
 · rw [if_pos e, if_pos e]
 ·
  rw [if_neg e, if_neg e]
  have := rowT_co L 0 (fun _ => 0) h (Int.le_refl _) (fun _ _ => rfl) j
  rw [Rat.zero_add] at this
  exact this
def cinOf (x : Kin) : Cin := ⟨x.v, x.L, x.k, x.ok⟩
theorem rows_sums {n : Nat} {vs : List Kin} (h : ∀ x ∈ vs, x.ok = true → Asc (n : Int) 0 x.L) : rowsOf n (vs.map cinOf) = sums n vs := by
 unfold rowsOf sums
 rw [List.filter_map, List.map_map]
 refine List.map_congr_left fun x hx => ?_
 have hm := List.mem_filter.1 hx
 exact rowF_fn (h x hm.1 hm.2)
theorem co_sz {N : Int} {s : Nat} (hs : 1 ≤ s) : ∀ {L : List (Int × Rat)} {lo : Int}, Asc N lo L → (∀ y ∈ L, Sz y.2 s) → ∀ j, Sz (co L j) s
 | [], _, _, _, j => nil_sz.more hs
 |
  (v, q) :: l, lo, h, hz, j => by
  rw [co]
  by_cases e : v = j
  ·
   rw [if_pos e, h.2.2.2.zero (by omega), Rat.add_zero]
   exact hz _ List.mem_cons_self
  ·
   rw [if_neg e, Rat.zero_add]
   exact co_sz hs h.2.2.2 (fun y hy => hz y (List.mem_cons_of_mem _ hy)) j
theorem Kns.asc {n s : Nat} {w : World} {A : Option Addr} {m : Nat} {vs : List Kin} (h : Kns n s w A m vs) : ∀ x ∈ vs, x.ok = true → Asc (n : Int) 0 x.L := fun x hx hk => by
 obtain ⟨_, _, _, la, _, h5, h6⟩ := h.rd x hx
 exact (h6.1 hk).asc h5
theorem Kns.rows {n s : Nat} {w : World} {A : Option Addr} {m : Nat} {vs : List Kin} (h : Kns n s w A m vs) : rowsOf n (vs.map cinOf) = sums n vs := rows_sums h.asc
theorem cin_in {n s : Nat} {w : World} {x : Kin} (hs : 1 ≤ s) (hs9 : s ≤ 1000) (h1 : x.v.n ≤ x.v.c) (h2 : x.v.n ≤ 1000) (h3 : Rw w x.v.K x.k s) {la : List Tv} (h4 : Tms w 0 x.v.A x.v.n la) (h5 : Rds w s la x.L) (h6 : x.ok = true ↔ IsS w x.v la (n : Int)) (hn : n ≤ 1000) : CinIn w n s (cinOf x) := by
 refine ⟨⟨⟨h1, ⟨la, h4, h5.more (by omega)⟩, h3.more (by omega)⟩, h2⟩, fun hk => ?_, fun w' hb => ?_⟩
 ·
  have ha := (h6.1 hk).asc h5
  refine ⟨fun y hy => ⟨(ha.nz y hy).1, (ha.nz y hy).2.1⟩, ?_⟩
  show SzR n s (rowF n x.L x.k)
  rw [rowF_fn ha]
  intro j _
  unfold fn
  split
  · exact h3.sz (by omega)
  · exact co_sz hs ha (h5.sz (by omega)) _
 · exact rIsK_c x.v (n : Int) la x.L x.k w' (.inl ⟨by omega, by omega⟩) h1 (h4.below hb) ((h5.below hb).more (by omega)) ((h3.below hb).more (by omega)) h2 x.ok (h6.trans (IsS.turn h5 h3 hb))
theorem Kns.cns {n s : Nat} {w : World} {A : Option Addr} {m : Nat} {vs : List Kin} (h : Kns n s w A m vs) (hs : 1 ≤ s) (hs9 : s ≤ 1000) (hn : n ≤ 1000) : Cns w A m n s (vs.map cinOf) := by
 have hc : ∀ x ∈ vs.map cinOf, CinIn w n s x := fun x hx => by
  obtain ⟨y, hy, rfl⟩ := List.mem_map.1 hx
  obtain ⟨h1, h2, h3, la, h4, h5, h6⟩ := h.rd y hy
  exact cin_in hs hs9 h1 h2 h3 h4 h5 h6 hn
 refine ⟨?_, fun hm => ?_, fun x hx => (hc x hx).rd, fun x hx => (hc x hx).fit, fun x hx => (hc x hx).is_⟩
 ·
  have := h.kons.len
  rw [List.length_map] at this
  rw [List.length_map, this]
 ·
  obtain ⟨b, off, e, h1, h2⟩ := h.kons.mem hm
  refine ⟨b, off, e, h1, fun i x hx => ?_⟩
  rw [List.getElem?_map] at hx
  obtain ⟨y, hy, rfl⟩ := Option.map_eq_some_iff.1 hx
  exact h2 i y.v (by rw [List.getElem?_map, hy]; rfl)
end Go.Proofs.YtgffkaconhonlaaGreat

namespace Go.Proofs.YtgffkaconhonlaaGreat
set_option maxRecDepth 20000
open Go.RowKit
theorem bdS_8n : 8 * (150 + bdS 150 8 + 1) ≤ 22500000000 := by decide +kernel
theorem Kns.sol {n : Nat} {w : World} {A : Option Addr} {m : Nat} {vs : List Kin} (h : Kns n 150 w A m vs) (hn : n ≤ 8) (hm : m ≤ 900) : SolIn w A m n 150 (vs.map cinOf) := by
 have h1 : bdS 150 n ≤ bdS 150 8 := bdS_mono hn
 have h2 := bdS_8
 have h3 := Nat.mul_le_mul hn (show 150 + bdS 150 n + 1 ≤ 150 + bdS 150 8 + 1 by omega)
 exact ⟨h.cns (by omega) (by omega) (by omega), by omega, hm, by omega, by omega, Nat.le_trans h3 bdS_8n⟩
def DConsPost (n : Nat) (vs : List Kin) (w : World) (e : Ending) (w' : World) : Prop := ∃ b : Bool, e = .returned (.bool b) ∧ (b = true ↔ ∃ x, Sat n (sums n vs) x) ∧ Below w.heap.size w w'
theorem dConsistent_c (n0 : Int) (n : Nat) (A : Option Addr) (m c : Nat) (vs : List Kin) (w : World) (hN : min (max n0 0) 64 = (n : Int)) (h : Kns n 150 w A m vs) (hn : n ≤ 8) (hm : m ≤ 900) :
  Calls Tryz.prog 18 #[.slice A m c, .int .i64 n0] w (DConsPost n vs w) := by
 have := rConsistent_c n0 n 150 A m c (vs.map cinOf) w hN (h.sol hn hm)
 unfold RConsPost at this
 rw [h.rows] at this
 exact this
end Go.Proofs.YtgffkaconhonlaaGreat
