/-
  The stairs of sums.
  Whether sums can hold, how many are independent.
-/
import Derived.Test.YtgffkaconhonlaaGreatWStp
import Derived.Test.YtgffkaconhonlaaGreatWSrtF
import Derived.Test.YtgffkaconhonlaaGreatWClo
namespace Go.Proofs.YtgffkaconhonlaaGreat
set_option maxRecDepth 20000
open Go.RowKit
theorem StM.nil_ (n : Nat) (w W : World) (h : (w.alloc (.map #[] 0)).alloc (.cells #[.map (some w.heap.size), .bool false] 63) = W) :
  StM n (w.heap.size + 2) W (w.heap.size + 1) w.heap.size [] true ∧ Below w.heap.size w W ∧ W.heap.size = w.heap.size + 2 := by
 subst h
 have e1 : (w.alloc (.map #[] 0)).heap.size = w.heap.size + 1 := by simp
 refine ⟨⟨?_, ⟨.map [], ((World.ownsMap_made w Tryz.prog 3 conR).alloc _), fun j _ => rfl, rfl, fun r hr => by cases hr⟩, by omega, by omega, by omega, fun r hr => (by cases hr), List.Pairwise.nil⟩, ((Below.refl w.heap.size w).alloc (Nat.le_refl _) _).alloc (by simp) _, by simp⟩
 have := heap_alloc_new (w.alloc (.map #[] 0)) (.cells #[.map (some w.heap.size), .bool false] 63)
 rw [e1] at this
 exact this
def StPost (n E : Nat) (vs : List Kin) (w : World) (e : Ending) (w' : World) : Prop :=
 ∃ (sb mb hi : Nat) (us : List Kin) (rs : List Ro) (ok : Bool), e = .returned (.pointer (some ⟨sb, 0, none⟩)) ∧ us.Perm vs ∧ StAt n E hi w' sb mb us rs ok ∧ hi ≤ w'.heap.size ∧ Below w.heap.size w w'
structure StW (n s E : Nat) (w W0 wr : World) (A2 : Option Addr) (c2 m i : Nat) (us : List Kin) (rs : List Ro) (ok : Bool) : Prop where
 at_ : StAt n E (w.heap.size + 2) wr (w.heap.size + 1) w.heap.size (us.take i) rs ok
 row : OwnC wr (w.heap.size + 2) A2 c2 m (us.map (·.v))
 below : Below w.heap.size w wr
 size : w.heap.size + 2 ≤ wr.heap.size
theorem perm_map {l : List Cv} : ∀ {vs : List Kin}, l.Perm (vs.map (·.v)) → ∃ us : List Kin, us.Perm vs ∧ us.map (·.v) = l := by
 intro vs h
 generalize hb : vs.map (·.v) = b at h
 induction h generalizing vs with
 | nil => exact ⟨vs, .refl _, hb⟩
 |
  cons x _ ih =>
  cases vs with
  | nil => cases hb
  |
   cons y vs =>
   injection hb with h1 h2
   obtain ⟨us, h3, h4⟩ := ih h2
   have h1' : y.v = x := h1
   exact ⟨y :: us, h3.cons y, by rw [List.map_cons, h4, h1']⟩
 |
  swap x y l =>
  cases vs with
  | nil => cases hb
  |
   cons a vs =>
   cases vs with
   | nil => injection hb with _ h; cases h
   |
    cons b vs =>
    injection hb with h1 h2
    injection h2 with h2 h3
    have h1' : a.v = _ := h1
    have h2' : b.v = _ := h2
    exact ⟨b :: a :: vs, .swap a b vs, by rw [List.map_cons, List.map_cons, h1', h2', h3]⟩
 |
  trans _ _ ih1 ih2 =>
  obtain ⟨us, h1, h2⟩ := ih2 hb
  obtain ⟨ts, h3, h4⟩ := ih1 h2
  exact ⟨ts, h3.trans h1, h4⟩
theorem StM.off {n hi : Nat} {w w' : World} {sb mb : Nat} {ok : Bool} (h : StM n hi w sb mb [] ok) {row : Option Nat} (hg : w.grownBy w' row) (h1 : some sb ≠ row) (h2 : some mb ≠ row) : StM n hi w' sb mb [] ok := by
 have hlt := h.lt
 obtain ⟨g1, ⟨D, d1, d2, d3, d4⟩, g3, g4, g5, g6, g7⟩ := h
 exact ⟨(hg.block sb hlt h1).trans g1, ⟨D, d1.kept hg h2, d2, d3, fun r hr => (by cases hr)⟩, g3, g4, g5, g6, g7⟩
theorem OwnC.two {w w' : World} {lo n c a b : Nat} {A : Option Addr} {l : List Cv} (h : OwnC w lo A c n l) (hg : Two w w' a b) (ha : a < lo) (hb : b < lo) : OwnC w' lo A c n l := by
 refine ⟨h.len, h.own.1, ?_⟩
 rcases h.own.2 with hn | ⟨g, cap, cur, hv, hl, hh, rest⟩
 · exact .inl hn
 ·
  refine .inr ⟨g, cap, cur, hv, hl, ?_, rest⟩
  have hlt : g < w.heap.size := (Array.getElem?_eq_some_iff.1 hh).1
  rw [hg.block g hlt (by omega) (by omega)]
  exact hh
theorem Two.far {w0 w w' : World} {a b : Nat} (hb0 : Below w0.heap.size w0 w) (h : Two w w' a b) (ha : w0.heap.size ≤ a) (hb : w0.heap.size ≤ b) : Below w0.heap.size w0 w' :=
 hb0.trans ⟨h.os, h.tape, h.output, h.size, fun q hq => h.block q (by have := hb0.size; omega) (by omega) (by omega)⟩
theorem two_pow (s n : Nat) : 2 * 4294967296 ^ (s * (n + 1)) ≤ 4294967296 ^ (s * (n + 1) + 1) := by
 rw [Nat.pow_succ, Nat.mul_comm]
 exact Nat.mul_le_mul (Nat.le_refl _) (by omega)
theorem StW.bd {n s E e : Nat} {w wr : World} {A2 : Option Addr} {c2 m i : Nat} {us : List Kin} {rs : List Ro} {ok : Bool} (h : StW n s E w w wr A2 c2 m i us rs ok) (hE : 1 ≤ E) (h2 : 2 * E ≤ 4294967296 ^ e) (hbig : e * 2 ^ n ≤ 10000000) : Bd (E * bigX E rs.length) 10000000 :=
 (bigX_bd hE h2).more (Nat.le_trans (Nat.mul_le_mul (Nat.le_refl _) (Nat.pow_le_pow_right (by omega) h.at_.len)) hbig)
theorem StW.no {n s E : Nat} {w W0 wr w2 : World} {A2 : Option Addr} {c2 m i : Nat} {us : List Kin} {rs : List Ro} {ok : Bool} (h : StW n s E w W0 wr A2 c2 m i us rs ok) {x : Kin} (hx : us[i]? = some x) (hk : x.ok = false) (hb : Below wr.heap.size wr w2) : StW n s E w W0 w2 A2 c2 m (i + 1) us rs ok := by
 refine ⟨⟨h.at_.st.below hb, ?_, h.at_.pot⟩, h.row.below hb, h.below.trans (hb.mono h.below.size), Nat.le_trans h.size hb.size⟩
 rw [List.take_add_one, hx]
 show Stair n (sums n (us.take i ++ [x])) _ _
 rw [sums_no hk]
 exact h.at_.stair
theorem StW.yes {n s E P0 : Nat} {w W0 wr wa w2 : World} {A2 : Option Addr} {c2 m i : Nat} {us : List Kin} {rs rs' : List Ro} {ok ok' : Bool} (h : StW n s E w W0 wr A2 c2 m i us rs ok) {x : Kin} (hx : us[i]? = some x) (hk : x.ok = true) (hb : Below wr.heap.size wr wa)
  (hs : StM n (w.heap.size + 2) w2 (w.heap.size + 1) w.heap.size rs' ok') (hP : P0 = E * bigX E rs.length) (ha : AddRel n P0 rs ok x.L x.k rs' ok') (ht : Two wa w2 (w.heap.size + 1) w.heap.size) : StW n s E w W0 w2 A2 c2 m (i + 1) us rs' ok' := by
 subst hP
 refine ⟨⟨hs, ?_, ha.pot h.at_.pot⟩, (h.row.below hb).two ht (by omega) (by omega), ht.far (h.below.trans (hb.mono h.below.size)) (by omega) (Nat.le_refl _), Nat.le_trans h.size (Nat.le_trans hb.size ht.size)⟩
 rw [List.take_add_one, hx]
 show Stair n (sums n (us.take i ++ [x])) _ _
 rw [sums_yes hk]
 exact ha.stair h.at_.stair h.at_.st.okr
set_option maxHeartbeats 12800000 in
theorem stairsOf_e (n s E e0 : Nat) (A : Option Addr) (m c : Nat) (vs : List Kin) (w : World) (h : Kns n s w A m vs) (hn : n ≤ 64) (hm : m ≤ 1000) (hs9 : s ≤ 10000000) (hE : 1 ≤ E) (h2 : 2 * E ≤ 4294967296 ^ e0) (hbig : e0 * 2 ^ n ≤ 10000000) (hF : ∀ x ∈ vs, x.ok = true → Fr E x.L x.k) :
  Calls Tryz.prog 39 #[.slice A m c, .int .i64 (n : Int)] w (StPost n E vs w) := by
 have HIN := Lib.hid h
 have HB : Hid (1 ≤ E ∧ 2 * E ≤ 4294967296 ^ e0 ∧ e0 * 2 ^ n ≤ 10000000) := ⟨hE, h2, hbig⟩
 have HD := Lib.hid hF
 have m9 : (m : Int) ≤ 1000 := by omega
 have hmm := @run_makeMap Tryz.prog
 clear h hbig hF hE h2
 go_enter Tryz.func39, Tryz.ntmps39
 go_upto_region 2 with fail
 generalize hW : (w.alloc (.map #[] 0)).alloc (.cells #[.map (some w.heap.size), .bool false] 63) = W
 obtain ⟨hst, HW, hsW⟩ := StM.nil_ n w W hW
 clear hW hmm
 have HST := Lib.hid (And.intro hst (And.intro HW hsW))
 clear hst HW hsW
 go_wp2_with fail
 refine (CloneC_c A m c (vs.map (·.v)) _ (HIN.out.below HST.out.2.1).kons hm).mono ?_
 rintro e w1 ⟨A2, c2, rfl, ho, hb1⟩
 have H1 := Lib.hid (And.intro ho hb1)
 clear ho hb1
 go_wp2_with fail
 refine (SortStable_c _ c2 m A2 _ _ H1.out.1 hm).mono ?_
 rintro e w2 ⟨rfl, l2, hp, ho, hg⟩
 have H2 := Lib.hid (And.intro hp (And.intro ho hg))
 clear hp ho hg
 obtain ⟨us, hus, hul⟩ := perm_map H2.out.1
 have HUS := Lib.hid hus
 have HUL := Lib.hid hul
 have HS0 : Hid (StW n s E w w w2 A2 c2 m 0 us [] true) := by
  have h1 := HST.out
  have h2 := H1.out
  have h3 := H2.out
  have hg : w1.grownBy w2 (A2.map (·.block)) := h3.2.2
  have hne : ∀ b, b < W.heap.size → some b ≠ A2.map (·.block) := fun b hb e => by
   cases A2 with
   | none => cases e
   |
    some ad =>
    injection e with e
    have e2 : b = ad.block := e
    have := (h2.1.lt ad rfl).1
    omega
  refine ⟨⟨(h1.1.below h2.2).off hg (hne _ (by omega)) (hne _ (by omega)), Stair.nil n, Nat.le_refl _⟩, ?_, ?_, ?_⟩
  ·
   have := h3.2.1
   rw [← hul, h1.2.2] at this; exact this
  · exact below_grown (h1.2.1.trans (h2.2.mono h1.2.1.size)) hg (fun ad e => by have := (h2.1.lt ad e).1; omega) (Nat.le_trans h1.2.1.size h2.2.size)
  · have := hg.size; have := h2.2.size; omega
 clear hus hul H1 H2
 go_wp2
 go_loopw [17] (fun iv wr => ∃ (i : Nat) (rs : List Ro) (ok : Bool), i ≤ m ∧ iv = .int .i64 i ∧ Hid (StW n s E w w wr A2 c2 m i us rs ok)) (fun iv _ => m - (intOf iv).toNat)
 case atStart => exact ⟨0, [], true, by omega, rfl, HS0⟩
 case round =>
  clear HS0
  obtain ⟨i, rs, ok, hi, rfl, HS⟩ := hrel
  have i0 : (0 : Int) ≤ (i : Int) := by omega
  have HLEN : Hid (us.length = m) := by have := HS.out.row.len; rw [List.length_map] at this; exact this
  by_cases hlt : i < m
  ·
   have i1 : (i : Int) < (m : Int) := by omega
   obtain ⟨x, hx⟩ : ∃ x, us[i]? = some x := ⟨_, List.getElem?_eq_getElem (by rw [HLEN.out]; exact hlt)⟩
   obtain ⟨g, rfl, hgl, hgw, hc⟩ := HS.out.row.mem (by omega)
   have h5 := hc i x.v (by rw [List.getElem?_map, hx]; rfl)
   obtain ⟨x0, x1, x2, x3, x4⟩ := h5
   obtain ⟨r1, r2, r3, la, r4, r5, r6⟩ := HIN.out.rd x (HUS.out.mem_iff.1 (List.mem_of_getElem? hx))
   have HX := Lib.hid hx
   have HBA : Hid (Below wr.heap.size wr (wr.alloc (.cells #[.int .i64 x.v.s, .slice x.v.A x.v.n x.v.c, .bool x.v.K.s, .slice x.v.K.A x.v.K.n x.v.K.c, .slice x.v.K.B x.v.K.m x.v.K.d] 28)) ∧ C5 (wr.alloc (.cells #[.int .i64 x.v.s, .slice x.v.A x.v.n x.v.c, .bool x.v.K.s, .slice x.v.K.A x.v.K.n x.v.K.c, .slice x.v.K.B x.v.K.m x.v.K.d] 28)) wr.heap.size (.int .i64 x.v.s) (.slice x.v.A x.v.n x.v.c) (.bool x.v.K.s) (.slice x.v.K.A x.v.K.n x.v.K.c) (.slice x.v.K.B x.v.K.m x.v.K.d) ∧ Below w.heap.size w (wr.alloc (.cells #[.int .i64 x.v.s, .slice x.v.A x.v.n x.v.c, .bool x.v.K.s, .slice x.v.K.A x.v.K.n x.v.K.c, .slice x.v.K.B x.v.K.m x.v.K.d] 28))) := ⟨(Below.refl _ _).alloc (Nat.le_refl _) _, C5.new wr (.int .i64 x.v.s) (.slice x.v.A x.v.n x.v.c) (.bool x.v.K.s) (.slice x.v.K.A x.v.K.n x.v.K.c) (.slice x.v.K.B x.v.K.m x.v.K.d), HS.out.below.alloc HS.out.below.size _⟩
   have HR := Lib.hid (And.intro r1 (And.intro r2 (And.intro r3 (And.intro r4 (And.intro r5 r6)))))
   clear hx hc hgl hgw r1 r2 r3 r4 r5 r6
   go_upto_region 7 with fail
   clear x0 x1 x2 x3 x4
   generalize wr.alloc (.cells #[.int .i64 x.v.s, .slice x.v.A x.v.n x.v.c, .bool x.v.K.s, .slice x.v.K.A x.v.K.n x.v.K.c, .slice x.v.K.B x.v.K.m x.v.K.d] 28) = wa at *
   obtain ⟨a0, a1, a2, a3, a4⟩ := HBA.out.2.1.facts
   go_wp2_with fail
   refine (IsK_c x.v (n : Int) la x.L x.k _ (HR.out.2.2.2.1.below HBA.out.2.2) ((HR.out.2.2.2.2.1.below HBA.out.2.2).more (by omega)) ((HR.out.2.2.1.below HBA.out.2.2).more (by omega)) HR.out.2.1 x.ok (HR.out.2.2.2.2.2.trans (IsS.turn HR.out.2.2.2.2.1 HR.out.2.2.1 HBA.out.2.2))).mono ?_
   rintro ee w5 ⟨rfl, hb5⟩
   have H5 := Lib.hid (And.intro (HBA.out.1.trans (hb5.mono HBA.out.1.size)) (HBA.out.2.1.below hb5))
   clear a0 a1 a2 a3 a4 hb5
   obtain ⟨a0, a1, a2, a3, a4⟩ := H5.out.2.facts
   by_cases hok : x.ok = true
   ·
    rw [hok]
    have HOK := Lib.hid hok
    clear hok
    have hBW5 : Below w.heap.size w w5 := HS.out.below.trans (H5.out.1.mono HS.out.below.size)
    have hIs := HR.out.2.2.2.2.2.1 HOK.out
    have hAsc := hIs.asc HR.out.2.2.2.2.1
    have HPR : Hid (Asc (n : Int) 0 x.L ∧ Fr E x.L x.k ∧ Cw w5 x.v x.L x.k 10000000) := by
     refine ⟨hAsc, HD.out x (HUS.out.mem_iff.1 (List.mem_of_getElem? HX.out)) HOK.out, ?_⟩
     exact Cw.more (p := s) ⟨HR.out.1, ⟨la, HR.out.2.2.2.1.below hBW5, HR.out.2.2.2.2.1.below hBW5⟩, HR.out.2.2.1.below hBW5⟩ (by omega)
    clear hBW5 hIs hAsc
    go_wp2_with fail
    refine (add_c n (w.heap.size + 2) (w.heap.size + 1) w.heap.size E (E * bigX E rs.length) rs ok x.v x.L x.k _ (HS.out.at_.st.below H5.out.1) (Nat.le_trans HS.out.size H5.out.1.size) (by omega) HPR.out.1 HPR.out.2.1 (Nat.mul_le_mul (Nat.le_refl _) HS.out.at_.pot) (HS.out.bd HB.out.1 HB.out.2.1 HB.out.2.2) HPR.out.2.2 (by have := HS.out.at_.len; omega)).mono ?_
    rintro ee w6 ⟨rfl, rs', ok', hs6, ha6, ht6⟩
    have HN := Lib.hid (HS.out.yes HX.out HOK.out H5.out.1 hs6 rfl ha6 ht6)
    clear a0 a1 a2 a3 a4 hs6 ha6 ht6
    go_wp2
    go_roundw
    case rel => exact ⟨i + 1, rs', ok', by omega, by go_num, HN⟩
    case measure => simp [intOf]; omega
   ·
    have hok' : x.ok = false := by simpa using hok
    rw [hok']
    have HN := Lib.hid (HS.out.no HX.out hok' H5.out.1)
    clear a0 a1 a2 a3 a4 hok hok'
    go_wp2
    go_roundw
    case rel => exact ⟨i + 1, rs, ok, by omega, by go_num, HN⟩
    case measure => simp [intOf]; omega
  ·
   have i1 : ¬ (i : Int) < (m : Int) := by omega
   obtain rfl : i = m := by omega
   go_wp2
   go_ret
   refine ⟨w.heap.size + 1, w.heap.size, w.heap.size + 2, us, rs, ok, rfl, HUS.out, ?_, HS.out.size, HS.out.below⟩
   have h9 := HS.out.at_
   rw [List.take_of_length_le (by rw [HLEN.out]; exact Nat.le_refl _)] at h9
   exact h9
theorem Kns.fr {n s d : Nat} {w : World} {A : Option Addr} {m : Nat} {vs : List Kin} (h : Kns n s w A m vs) (hs : 1 ≤ s) (hd : ∀ x ∈ vs, x.ok = true → x.L.length ≤ d) : ∀ x ∈ vs, x.ok = true → Fr (4294967296 ^ (s * (d + 1))) x.L x.k := fun x hx ho => by
 obtain ⟨_, _, h3, la, _, h5, _⟩ := h.rd x hx
 exact (fr_init s x.k (h3.sz hs) x.L (h5.sz hs)).le (Nat.pow_le_pow_right (by omega) (Nat.mul_le_mul (Nat.le_refl _) (by have := hd x hx ho; omega)))
theorem stairsOf_d (n s d : Nat) (A : Option Addr) (m c : Nat) (vs : List Kin) (w : World) (h : Kns n s w A m vs) (hn : n ≤ 64) (hm : m ≤ 1000) (hs : 1 ≤ s) (hs9 : s ≤ 1000) (hbig : (s * (d + 1) + 1) * 2 ^ n ≤ 10000000) (hd : ∀ x ∈ vs, x.ok = true → x.L.length ≤ d) :
  Calls Tryz.prog 39 #[.slice A m c, .int .i64 (n : Int)] w (StPost n (4294967296 ^ (s * (d + 1))) vs w) :=
 stairsOf_e n s (4294967296 ^ (s * (d + 1))) (s * (d + 1) + 1) A m c vs w h hn hm (by omega) (Nat.one_le_pow _ _ (by omega)) (two_pow s d) hbig (h.fr hs hd)
theorem stairsOf_c (n s : Nat) (A : Option Addr) (m c : Nat) (vs : List Kin) (w : World) (h : Kns n s w A m vs) (hn : n ≤ 64) (hm : m ≤ 1000) (hs : 1 ≤ s) (hs9 : s ≤ 1000) (hbig : (s * (n + 1) + 1) * 2 ^ n ≤ 10000000) :
  Calls Tryz.prog 39 #[.slice A m c, .int .i64 (n : Int)] w (StPost n (4294967296 ^ (s * (n + 1))) vs w) :=
 stairsOf_d n s n A m c vs w h hn hm hs hs9 hbig fun x hx ho => by
  obtain ⟨_, _, _, la, _, h5, h6⟩ := h.rd x hx
  have := ((h6.1 ho).asc h5).len (by omega)
  omega
end Go.Proofs.YtgffkaconhonlaaGreat

namespace Go.Proofs.YtgffkaconhonlaaGreat
set_option maxRecDepth 20000
open Go.RowKit
theorem sums_mem {n : Nat} {us vs : List Kin} (h : us.Perm vs) (f : Nat → Rat) : f ∈ sums n us ↔ f ∈ sums n vs := ((h.filter _).map _).mem_iff
theorem sat_perm {n : Nat} {us vs : List Kin} (h : us.Perm vs) (x : Nat → Rat) : Sat n (sums n us) x ↔ Sat n (sums n vs) x :=
 ⟨fun g f hf => g f ((sums_mem h f).2 hf), fun g f hf => g f ((sums_mem h f).1 hf)⟩
theorem basis_perm {n : Nat} {us vs : List Kin} {R : List (Nat → Rat)} (h : us.Perm vs) (hb : Basis n (sums n us) R) : Basis n (sums n vs) R :=
 ⟨hb.ind, fun r hr => (hb.down r hr).more fun s hs => (sums_mem h s).1 hs, fun s hs => hb.up s ((sums_mem h s).2 hs)⟩
def heldN (n : Int) : Nat := (min (max n 0) 64).toNat
theorem heldN_int (n : Int) : ((heldN n : Nat) : Int) = min (max n 0) 64 := by unfold heldN; omega
set_option maxHeartbeats 1600000 in
theorem held_c (n : Int) (w : World) : Calls Tryz.prog 38 #[.int .i64 n] w fun e w' => e = .returned (.int .i64 ((heldN n : Nat) : Int)) ∧ w = w' := by
 by_cases h0 : n < 0
 ·
  have e : ((heldN n : Nat) : Int) = 0 := by rw [heldN_int]; omega
  have h1 : ¬ (0 : Int) < n := by omega
  rw [e]
  clear e
  go_enter Tryz.func38, Tryz.ntmps38
  go_wp2
  go_ret
  first
   | exact ⟨rfl, rfl⟩
   | exact ⟨by simp; omega, rfl⟩
 ·
  by_cases h2 : 64 < n
  ·
   have e : ((heldN n : Nat) : Int) = 64 := by rw [heldN_int]; omega
   have h1 : (0 : Int) < n := by omega
   have h3 : ¬ n < 64 := by omega
   rw [e]
   clear e
   go_enter Tryz.func38, Tryz.ntmps38
   go_wp2
   go_ret
   first
    | exact ⟨rfl, rfl⟩
    | exact ⟨by simp; omega, rfl⟩
  ·
   have e : ((heldN n : Nat) : Int) = n := by rw [heldN_int]; omega
   rw [e]
   clear e
   go_enter Tryz.func38, Tryz.ntmps38
   go_wp2
   go_ret
   first
    | exact ⟨rfl, rfl⟩
    | exact ⟨by simp; omega, rfl⟩
def Room (s N : Nat) : Prop := N ≤ 64 ∧ 1 ≤ s ∧ s ≤ 1000 ∧ (s * (N + 1) + 1) * 2 ^ N ≤ 10000000
def ConsPost (N : Nat) (vs : List Kin) (w : World) (e : Ending) (w' : World) : Prop := ∃ b : Bool, e = .returned (.bool b) ∧ (b = true ↔ ∃ x, Sat N (sums N vs) x) ∧ Below w.heap.size w w'
def RoomD (s d N : Nat) : Prop := N ≤ 64 ∧ 1 ≤ s ∧ s ≤ 1000 ∧ (s * (d + 1) + 1) * 2 ^ N ≤ 10000000
def RoomE (s E e0 N : Nat) : Prop := N ≤ 64 ∧ s ≤ 10000000 ∧ 1 ≤ E ∧ 2 * E ≤ 4294967296 ^ e0 ∧ e0 * 2 ^ N ≤ 10000000
theorem RoomD.e {s d N : Nat} (h : RoomD s d N) : RoomE s (4294967296 ^ (s * (d + 1))) (s * (d + 1) + 1) N := ⟨h.1, by have := h.2.2.1; omega, Nat.one_le_pow _ _ (by omega), two_pow s d, h.2.2.2⟩
theorem Room.d {s N : Nat} (h : Room s N) : RoomD s N N := h
theorem Kns.lens {N s : Nat} {w : World} {A : Option Addr} {m : Nat} {vs : List Kin} (h : Kns N s w A m vs) : ∀ x ∈ vs, x.ok = true → x.L.length ≤ N := fun x hx ho => by
 obtain ⟨_, _, _, la, _, h5, h6⟩ := h.rd x hx
 have := ((h6.1 ho).asc h5).len (by omega)
 omega
set_option maxHeartbeats 3200000 in
theorem Consistent_e (n : Int) (N s E e0 : Nat) (A : Option Addr) (m c : Nat) (vs : List Kin) (w : World) (hN : heldN n = N) (h : Kns N s w A m vs) (hm : m ≤ 1000) (hr : RoomE s E e0 N) (hd : ∀ x ∈ vs, x.ok = true → Fr E x.L x.k) :
  Calls Tryz.prog 17 #[.slice A m c, .int .i64 n] w (ConsPost N vs w) := by
 have HH := Lib.hid h
 have HR := Lib.hid hr
 have HN := Lib.hid hN
 have HD := Lib.hid hd
 clear h hr hN hd
 go_enter Tryz.func17, Tryz.ntmps17
 go_wp2_with fail
 refine (held_c n _).mono ?_
 rintro e w1 ⟨rfl, rfl⟩
 rw [HN.out]
 go_wp2_with fail
 refine (stairsOf_e N s E e0 A m c vs _ HH.out HR.out.1 hm HR.out.2.1 HR.out.2.2.1 HR.out.2.2.2.1 HR.out.2.2.2.2 HD.out).mono ?_
 rintro e w2 ⟨sb, mb, hi, us, rs, ok, rfl, hp, hs, _, hb⟩
 obtain ⟨s0, s1, _⟩ := hs.st.facts
 have HS := Lib.hid (And.intro hp (And.intro hs hb))
 clear hp hs hb
 go_wp2
 go_ret
 refine ⟨ok, by cases ok <;> rfl, ?_, HS.out.2.2⟩
 rw [HS.out.2.1.stair.cons]
 exact ⟨fun ⟨x, hx⟩ => ⟨x, (sat_perm HS.out.1 x).1 hx⟩, fun ⟨x, hx⟩ => ⟨x, (sat_perm HS.out.1 x).2 hx⟩⟩
theorem Consistent_d (n : Int) (N s d : Nat) (A : Option Addr) (m c : Nat) (vs : List Kin) (w : World) (hN : heldN n = N) (h : Kns N s w A m vs) (hm : m ≤ 1000) (hr : RoomD s d N) (hd : ∀ x ∈ vs, x.ok = true → x.L.length ≤ d) :
  Calls Tryz.prog 17 #[.slice A m c, .int .i64 n] w (ConsPost N vs w) :=
 Consistent_e n N s _ _ A m c vs w hN h hm hr.e (h.fr hr.2.1 hd)
theorem Consistent_c (n : Int) (N s : Nat) (A : Option Addr) (m c : Nat) (vs : List Kin) (w : World) (hN : heldN n = N) (h : Kns N s w A m vs) (hm : m ≤ 1000) (hr : Room s N) :
  Calls Tryz.prog 17 #[.slice A m c, .int .i64 n] w (ConsPost N vs w) :=
 Consistent_d n N s N A m c vs w hN h hm ⟨hr.1, hr.2.1, hr.2.2.1, hr.2.2.2⟩ fun x hx ho => by
  obtain ⟨_, _, _, la, _, h5, h6⟩ := h.rd x hx
  have := ((h6.1 ho).asc h5).len (by omega)
  omega
def RankPost (N : Nat) (vs : List Kin) (w : World) (e : Ending) (w' : World) : Prop := ∃ R : List (Nat → Rat), e = .returned (.int .i64 (R.length : Int)) ∧ Basis N (sums N vs) R ∧ Below w.heap.size w w'
set_option maxHeartbeats 3200000 in
theorem Rank_c (n : Int) (N s : Nat) (A : Option Addr) (m c : Nat) (vs : List Kin) (w : World) (hN : heldN n = N) (h : Kns N s w A m vs) (hm : m ≤ 1000) (hr : Room s N) :
  Calls Tryz.prog 19 #[.slice A m c, .int .i64 n] w (RankPost N vs w) := by
 have HH := Lib.hid h
 have HR := Lib.hid hr
 have HN := Lib.hid hN
 clear h hr hN
 go_enter Tryz.func19, Tryz.ntmps19
 go_wp2_with fail
 refine (held_c n _).mono ?_
 rintro e w1 ⟨rfl, rfl⟩
 rw [HN.out]
 go_wp2_with fail
 refine (stairsOf_c N s A m c vs _ HH.out HR.out.1 hm HR.out.2.1 HR.out.2.2.1 HR.out.2.2.2).mono ?_
 rintro e w2 ⟨sb, mb, hi, us, rs, ok, rfl, hp, hs, _, hb⟩
 obtain ⟨s0, s1, _⟩ := hs.st.facts
 obtain ⟨D, hD, _, hsz, _⟩ := hs.st.map
 have HS := Lib.hid (And.intro hp (And.intro hs hb))
 have HD := Lib.hid (And.intro hD hsz)
 clear hp hs hb hD hsz
 go_wp2_with (at_len; refine wpList_len_own _ rfl _ _ rfl _ _ map_type conR mb rs.length D rfl HD.out.1 ?_)
 go_wp2
 go_ret
 refine ⟨rows N rs, ?_, basis_perm HS.out.1 HS.out.2.1.stair.basis, HS.out.2.2⟩
 have e1 : (rows N rs).length = rs.length := by unfold rows; rw [List.length_map]
 rw [e1, ← HD.out.2]
 rfl
end Go.Proofs.YtgffkaconhonlaaGreat
