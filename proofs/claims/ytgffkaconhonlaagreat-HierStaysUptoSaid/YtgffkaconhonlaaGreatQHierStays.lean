/-
  HierStays: values that are what they were, where nothing is asked, are best; others are not.
-/
import Derived.Test.YtgffkaconhonlaaGreatQHrK
import Derived.Test.YtgffkaconhonlaaGreatQHrN
import Derived.Test.YtgffkaconhonlaaGreatQManL
import Derived.Test.YtgffkaconhonlaaGreatQMRr
import Derived.Test.YtgffkaconhonlaaGreatQGSet
import Derived.Test.YtgffkaconhonlaaGreatQOpenM
import Derived.Deep.Cut
import Derived.Test.YtgffkaconhonlaaGreatQRgn
namespace Go.Proofs.YtgffkaconhonlaaGreat
set_option maxRecDepth 20000
open Go.RowKit
theorem dot_stay {N v : Nat} (hv : v < N) (B : List Rat) (y : Nat → Rat) : dot N (stayS N B v).2.2 y = -(atV B (v : Int)) + y v := by
 show dot N (fn N [((v : Int), ((1 : Int) : Rat))] (-(atV B (v : Int)))) y = _
 rw [dot_one hv, i1_mul]
theorem stays_best (N : Nat) (B : List Rat) : BeatAns N (ptOf B) (allS N [] B) (-1) := by
 refine .inl ⟨rfl, fun c hc hco => ?_⟩
 rcases List.mem_append.1 hc with h | h
 · cases h
 ·
  obtain ⟨v, hv, rfl⟩ := List.mem_map.1 h
  refine hco.2.1 ?_
  rw [dot_stay (List.mem_range.1 hv)]
  exact Rat.neg_add_cancel _
theorem stays_first {N k : Nat} {B V : List Rat} (hk : k < N) (h1 : ∀ v, v < N → v ≠ k → ptOf V v = ptOf B v) (h2 : ptOf V k ≠ ptOf B k) : BeatAns N (ptOf V) (allS N [] B) (k : Int) := by
 have hat : ∀ v, v < N → (allS N [] B)[v]? = some (stayS N B v) := fun v hv => by
  show ((List.range N).map (stayS N B))[v]? = _
  rw [List.getElem?_map, List.getElem?_range hv]; rfl
 refine .inr ⟨k, stayS N B k, rfl, hat k hk, ⟨rfl, ?_, ptOf B, ?_, fun d hd _ _ _ => ?_⟩, fun j d hj hd hco => ?_⟩
 ·
  rw [dot_stay hk]
  intro e
  refine h2 ?_
  have h3 : ptOf B k = atV B (k : Int) := rfl
  rw [h3]
  grind
 · rw [dot_stay hk]; exact Rat.neg_add_cancel _
 ·
  rcases List.mem_append.1 hd with h | h
  · cases h
  ·
   obtain ⟨v, hv, rfl⟩ := List.mem_map.1 h
   rw [dot_stay (List.mem_range.1 hv)]; exact Rat.neg_add_cancel _
 ·
  rw [hat j (by omega)] at hd
  injection hd with hd
  subst hd
  refine hco.2.1 ?_
  rw [dot_stay (by omega), h1 j (by omega) (by omega)]
  exact Rat.neg_add_cancel _
theorem room20 {N : Nat} (h : N ≤ 20) : RoomD 4 1 N := by
 refine ⟨by omega, by omega, by omega, ?_⟩
 have h1 : 2 ^ N ≤ 2 ^ 20 := Nat.pow_le_pow_right (by omega) h
 have := Nat.mul_le_mul (Nat.le_refl (4 * (1 + 1) + 1)) h1
 omega
theorem RdV.set {w : World} {p : Nat} {z : Rv} {q : Rat} (hz : Rw w z q p) : ∀ {l : List Rv} {L : List Rat} (k : Nat), RdV w p l L → RdV w p (l.set k z) (L.set k q)
 | [], [], _, _ => trivial
 | _ :: _, _ :: _, 0, h => ⟨hz, h.2⟩
 | _ :: _, _ :: _, k + 1, h => ⟨h.1, RdV.set hz k h.2⟩
 | [], _ :: _, _, h => h.elim
 | _ :: _, [], _, h => h.elim
theorem ptOf_get (B : List Rat) (v : Nat) : ptOf B v = (B[v]?).getD 0 := by
 unfold ptOf atV
 rw [if_pos (by omega), Int.toNat_natCast]
theorem ptOf_set {B : List Rat} {k v : Nat} {q : Rat} (hk : k < B.length) : ptOf (B.set k q) v = if v = k then q else ptOf B v := by
 rw [ptOf_get, ptOf_get, List.getElem?_set]
 by_cases e : v = k
 ·
  subst e
  rw [if_pos rfl, if_pos hk, if_pos rfl]; rfl
 · rw [if_neg e, if_neg (fun e2 => e e2.symm)]
theorem hns_nil (N s : Nat) (w : World) : Hns N s w none 0 [] := ⟨⟨rfl, fun h => absurd h (Nat.lt_irrefl _)⟩, fun x hx => by cases hx⟩
theorem and_1023 (v : Int) : ∃ k0 : Nat, k0 ≤ 1023 ∧ bits .and .i64 v 1023 = (k0 : Int) := by
 have h2 : (BitVec.ofInt 64 v).toNat &&& 1023 ≤ 1023 := Nat.and_le_right
 refine ⟨(BitVec.ofInt 64 v).toNat &&& 1023, h2, ?_⟩
 show IntKind.i64.wrap ((BitVec.ofInt 64 v &&& BitVec.ofInt 64 1023).toNat : Int) = _
 rw [BitVec.toNat_and, show (BitVec.ofInt 64 (1023 : Int)).toNat = 1023 from rfl]
 generalize (BitVec.ofInt 64 v).toNat &&& 1023 = q at *
 rw [IntKind.wrap_i64]
 omega
set_option maxHeartbeats 12800000 in
theorem HierStays_any (A : Option Addr) (n c : Nat) (v : Int) (lb : List Rv) (w : World) (hnv : Nums w A n lb) (hrv : ∀ x ∈ lb, RdR w x ∧ x.n ≤ 1048576 ∧ x.m ≤ 1048576) (hn : n ≤ 1048576) (hv : 0 ≤ v ∧ v ≤ 9223372036854775807 ∨ v < 0 ∧ -9223372036854775808 ≤ v) :
  Calls Tryz.prog 8 #[.slice A n c, .int .i64 v] w fun e w' => e = .returned (.bool true) ∧ Below w.heap.size w w' := by
 have HNV := Lib.hid (And.intro hnv hrv)
 have n0 : (0 : Int) ≤ (n : Int) := by omega
 have n9 : (n : Int) ≤ 1048576 := by omega
 have HVI := Lib.hid hv
 clear hnv hrv hv
 go_enter Tryz.func8, Tryz.ntmps8
 go_wp2_with fail
 refine (many_c A n c lb w HNV.out.1 hn (fun x hx => ⟨(HNV.out.2 x hx).2.1, (HNV.out.2 x hx).2.2⟩)).mono ?_
 rintro e w1 ⟨r, rfl, hr, hb⟩
 have HR : Hid (r = false → n ≤ 100 ∧ ∀ x ∈ lb, x.n ≤ 3 ∧ x.m ≤ 3) := hr
 have H1 : Hid (Below w.heap.size w w1) := hb
 clear hr hb
 cases r with
 |
  true =>
  go_wp2
  go_ret
  exact ⟨rfl, H1.out⟩
 | false =>
 by_cases hn1 : (n : Int) < 1
 ·
  go_wp2
  go_ret
  exact ⟨rfl, H1.out⟩
 by_cases hn20 : (20 : Int) < (n : Int)
 ·
  go_wp2
  go_ret
  exact ⟨rfl, H1.out⟩
 obtain ⟨N, rfl⟩ : ∃ N, n = N := ⟨_, rfl⟩
 obtain ⟨k0, hk0, ek0⟩ := and_1023 v
 obtain ⟨k, hk⟩ : ∃ k : Nat, k = k0 % n := ⟨_, rfl⟩
 have hkn : k < n := by rw [hk]; exact Nat.mod_lt _ (by omega)
 have ekk : ((k0 : Int)).tmod (n : Int) = (k : Int) := by
  rw [hk, Int.natCast_emod]
  exact Int.tmod_eq_emod_of_nonneg (by omega)
 have HEK := Lib.hid (And.intro ek0 ekk)
 have HKN : Hid (k < n) := hkn
 have k00 : (0 : Int) ≤ (k : Int) := by omega
 have k01 : (k : Int) < (n : Int) := by omega
 clear hk0 ek0 hk ekk hkn
 go_upto_region 5 with fail
 rw [HEK.out.1, HEK.out.2]
 obtain ⟨b, off, hA, hbw, hcc⟩ := HNV.out.1.mem (by omega)
 subst hA
 have hn3 : n ≤ 20 := by omega
 clear HEK HVI hcc
 go_wp2_with (at_builtin; refine wpr_appends rfl _ _ rfl rfl rfl (l := []) (n := 0) (lo := w1.heap.size) ⟨rfl, World.ownsRow_made w1 #[] 0 (Nat.le_refl _) (Nat.zero_le _) rfl⟩ ((HNV.out.1.below H1.out).below ((Below.refl _ _).alloc (Nat.le_refl _) _)) (by omega) (by omega) (by simp) ?_)
 intro g c2 w2 hown hgrow
 have HO : Hid (OwnR w2 w1.heap.size (some ⟨g, 0, none⟩) c2 n lb ∧ Below w.heap.size w w2 ∧ Below w1.heap.size w1 w2) := by
  have hb : Below w1.heap.size w1 w2 := ((Below.refl _ w1).alloc (Nat.le_refl _) _).grown hgrow (by simp) (by intro k hk; simp at hk; omega)
  exact ⟨by simpa using hown, H1.out.trans (hb.mono H1.out.size), hb⟩
 clear hown hgrow
 try rw [Nat.zero_add]
 obtain ⟨B, hB⟩ := rdv_ex (p := 3) lb fun x hx => ⟨(HNV.out.2 x hx).1, (HR.out (by trivial)).2 x hx⟩
 have HBR : Hid (RdV w 3 lb B) := hB
 clear hB HR
 have HBL : Hid (B.length = n) := by show B.length = n; rw [← HBR.out.len, HNV.out.1.len]
 obtain ⟨x, q, hx, hq, hxq⟩ := HBR.out.get k (by rw [HNV.out.1.len]; exact HKN.out)
 have HXQ : Hid (lb[k]? = some x ∧ B[k]? = some q ∧ Rw w x q 3) := ⟨hx, hq, hxq⟩
 have HAL : Hid (∀ w', Below w2.heap.size w2 w' → (w'.cell? ⟨g, k * 3, none⟩ = some (.bool x.s) ∧ w'.cell? ⟨g, k * 3 + 1, none⟩ = some (.slice x.A x.n x.c) ∧ w'.cell? ⟨g, k * 3 + 2, none⟩ = some (.slice x.B x.m x.d)) ∧ ∀ j, w'.frozen? ⟨g, j, none⟩ = false) := fun w' h => by
  have ho := HO.out.1.below h
  obtain ⟨b', e, _, _, hc⟩ := ho.mem (by omega)
  injection e with e
  injection e with e _ _
  subst e
  have h3 := hc k x HXQ.out.1
  rw [Nat.zero_add] at h3
  exact ⟨⟨h3.h0, h3.h1, h3.h2⟩, fun j => ho.own.frozenAt _⟩
 clear hx hq hxq
 obtain ⟨⟨c0, c1, c2'⟩, _⟩ := HAL.out _ (Below.refl _ _)
 go_upto_region 6 with fail
 go_cut [] from 27 (fun wx => ∃ z : Rv, Hid (OwnR wx w1.heap.size (some ⟨g, 0, none⟩) c2 n (lb.set k z) ∧ Below w1.heap.size w1 wx ∧ Rw wx z (q + ((1 : Int) : Rat)) 4))
 case first =>
  refine wp_region_held_drew (S := fun _ => True) (by kernel_rfl) ?_ (fun hHeld => ?_)
  ·
   (try dsimp only)
   try go_keep
  refine tk (i := 0) (h := ?_)
  try simp only [zR]
  refine tk (i := 1) (h := ?_)
  try simp only [zR]
  refine tk (i := 2) (h := ?_)
  try simp only [zR]
  refine tk (i := 3) (h := ?_)
  try simp only [zR]
  refine tk (i := 4) (h := ?_)
  try simp only [zR]
  refine tr [5, 6] ?_
  refine tc (h := fun K hK => ?_) (hs := tc (h := fun K hK => ?_) (hs := tn))
  ·
   skip
   try go_simp
   try go_wp2_with fail
   refine hK.out _ _ ?_ (fun hHeld => ?_)
   · (try dsimp only); try go_keep
   clear hK K
   try simp only [zR]
   have P5 : Hid (Below w2.heap.size w2 w2.drew) := bel1 w2
   generalize w2.drew = y5 at *
   clear c0 c1 c2'
   obtain ⟨⟨c0, c1, c2'⟩, _⟩ := HAL.out _ P5.out
   refine tr [6] ?_
   refine tc (h := fun K hK => ?_) (hs := tn)
   try go_simp
   go_at_call 28
   refine (rInt_c 1 _ (by omega)).mono ?_
   rintro e y6 ⟨z1, rfl, hz, hb⟩
   have P6 : Hid (Below w2.heap.size w2 y6) := P5.out.trans (hb.mono P5.out.size)
   have Z6 : Hid (Rt y6 0 z1 ((1 : Int) : Rat)) := hz.lower (Nat.zero_le _)
   clear hz hb
   clear c0 c1 c2'
   obtain ⟨⟨c0, c1, c2'⟩, _⟩ := HAL.out _ P6.out
   try go_wp2_with fail
   refine hK.out _ _ ?_ (fun hHeld => ?_)
   · (try dsimp only); try go_keep
   clear hK K
   try simp only [zR]
   refine tr [7] ?_
   refine tc (h := fun K hK => ?_) (hs := tn)
   try go_simp
   go_at_call 30
   refine (rAdd_c x z1 q ((1 : Int) : Rat) _ ((HXQ.out.2.2.below (HO.out.2.1.trans (P6.out.mono HO.out.2.1.size))).more (by omega)) ((Z6.out.rw sz_one').more (by omega))).mono ?_
   rintro e y7 ⟨z, rfl, hz, hb⟩
   have P7 : Hid (Below w2.heap.size w2 y7) := P6.out.trans (hb.mono P6.out.size)
   have ZS : Hid (∃ lo, w2.heap.size ≤ lo ∧ Rt y7 lo z (q + ((1 : Int) : Rat))) := ⟨_, P6.out.size, hz⟩
   clear hz hb
   clear c0 c1 c2'
   obtain ⟨⟨c0, c1, c2'⟩, hfr⟩ := HAL.out _ P7.out
   have t0 := hfr (k * 3)
   have t1 := hfr (k * 3 + 1)
   have t2 := hfr (k * 3 + 2)
   clear hfr
   try go_wp2_with fail
   refine hK.out _ _ ?_ (fun hHeld => ?_)
   · (try dsimp only); try go_keep
   clear hK K
   try simp only [zR]
   refine tk (i := 8) (h := ?_)
   try simp only [zR]
   refine tr [9] ?_
   refine tc (h := fun K hK => ?_) (hs := tn)
   try go_simp
   try go_wp2_with fail
   refine hK.out _ _ ?_ (fun hHeld => ?_)
   · (try dsimp only); try go_keep
   clear hK K
   try simp only [zR]
   refine wpAnyH_done (by kernel_rfl) ?_ _
   clear c0 c1 c2' t0 t1 t2
   go_wp2_with fail
   go_meet
   obtain ⟨lo, hlo, hz⟩ := ZS.out
   have hg2 : g < w2.heap.size := (HO.out.1.lt _ rfl).2
   refine ⟨z, (HO.out.1.below P7.out).set, HO.out.2.2.trans ((P7.out.mono HO.out.2.2.size).trans (below_of_grown_row (putR_grown _ g (k * 3) z) (HO.out.1.lt _ rfl).1 (Nat.le_trans HO.out.2.2.size P7.out.size))), ?_⟩
   exact (hz.grownLo (putR_grown _ g (k * 3) z) (fun k' e => by injection e with e; omega)).rw (sz_plus1 (HXQ.out.2.2.sz (by omega)))
  ·
   skip
   try go_simp
   go_at_call 28
   refine (rInt_c 1 _ (by omega)).mono ?_
   rintro e y6 ⟨z1, rfl, hz, hb⟩
   have P6 : Hid (Below w2.heap.size w2 y6) := (bel1 w2).trans hb
   have Z6 : Hid (Rt y6 0 z1 ((1 : Int) : Rat)) := hz.lower (Nat.zero_le _)
   clear hz hb
   clear c0 c1 c2'
   obtain ⟨⟨c0, c1, c2'⟩, _⟩ := HAL.out _ P6.out
   try go_wp2_with fail
   refine hK.out _ _ ?_ (fun hHeld => ?_)
   · (try dsimp only); try go_keep
   clear hK K
   try simp only [zR]
   refine tr [5] ?_
   refine tc (h := fun K hK => ?_) (hs := tn)
   try go_simp
   try go_wp2_with fail
   refine hK.out _ _ ?_ (fun hHeld => ?_)
   · (try dsimp only); try go_keep
   clear hK K
   try simp only [zR]
   have P5 := P6
   refine tr [7] ?_
   refine tc (h := fun K hK => ?_) (hs := tn)
   try go_simp
   go_at_call 30
   refine (rAdd_c x z1 q ((1 : Int) : Rat) _ ((HXQ.out.2.2.below (HO.out.2.1.trans (P5.out.mono HO.out.2.1.size))).more (by omega)) ((Z6.out.rw sz_one').more (by omega))).mono ?_
   rintro e y7 ⟨z, rfl, hz, hb⟩
   have P7 : Hid (Below w2.heap.size w2 y7) := P5.out.trans (hb.mono P5.out.size)
   have ZS : Hid (∃ lo, w2.heap.size ≤ lo ∧ Rt y7 lo z (q + ((1 : Int) : Rat))) := ⟨_, P5.out.size, hz⟩
   clear hz hb
   clear c0 c1 c2'
   obtain ⟨⟨c0, c1, c2'⟩, hfr⟩ := HAL.out _ P7.out
   have t0 := hfr (k * 3)
   have t1 := hfr (k * 3 + 1)
   have t2 := hfr (k * 3 + 2)
   clear hfr
   try go_wp2_with fail
   refine hK.out _ _ ?_ (fun hHeld => ?_)
   · (try dsimp only); try go_keep
   clear hK K
   try simp only [zR]
   refine tk (i := 8) (h := ?_)
   try simp only [zR]
   refine tr [9] ?_
   refine tc (h := fun K hK => ?_) (hs := tn)
   try go_simp
   try go_wp2_with fail
   refine hK.out _ _ ?_ (fun hHeld => ?_)
   · (try dsimp only); try go_keep
   clear hK K
   try simp only [zR]
   refine wpAnyH_done (by kernel_rfl) ?_ _
   clear c0 c1 c2' t0 t1 t2
   go_wp2_with fail
   go_meet
   obtain ⟨lo, hlo, hz⟩ := ZS.out
   have hg2 : g < w2.heap.size := (HO.out.1.lt _ rfl).2
   refine ⟨z, (HO.out.1.below P7.out).set, HO.out.2.2.trans ((P7.out.mono HO.out.2.2.size).trans (below_of_grown_row (putR_grown _ g (k * 3) z) (HO.out.1.lt _ rfl).1 (Nat.le_trans HO.out.2.2.size P7.out.size))), ?_⟩
   exact (hz.grownLo (putR_grown _ g (k * 3) z) (fun k' e => by injection e with e; omega)).rw (sz_plus1 (HXQ.out.2.2.sz (by omega)))
 case rest =>
  obtain ⟨z, HC⟩ := hcut
  clear c0 c1 c2' HAL HO
  generalize wc = W at *
  have HBW : Hid (Below w.heap.size w W) := H1.out.trans (HC.out.2.1.mono H1.out.size)
  have HV1 : Hid (∀ w', Below W.heap.size W w' → Vin n w' (some ⟨b, off, none⟩) lb B) := fun w' h => by
   have hb := HBW.out.trans (h.mono HBW.out.size)
   exact ⟨HNV.out.1.below hb, RdV.more (by omega) (RdV.below hb HBR.out), by omega⟩
  have HV2 : Hid (∀ w', Below W.heap.size W w' → Vin n w' (some ⟨g, 0, none⟩) (lb.set k z) (B.set k (q + ((1 : Int) : Rat)))) := fun w' h => by
   have hb := HBW.out.trans (h.mono HBW.out.size)
   exact ⟨(HC.out.1.below h).nums, RdV.set (HC.out.2.2.below h) k (RdV.more (by omega) (RdV.below hb HBR.out)), by omega⟩
  have v1 := HV1.out _ (Below.refl _ _)
  go_wp2_with fail
  refine (Beaten_c 4 1 n none (some ⟨b, off, none⟩) (some ⟨b, off, none⟩) 0 0 n c c [] lb lb B B W (hns_nil n 4 W) (by omega) (by omega) (by omega) (by omega) v1.row v1.rd (by omega) v1 (room20 hn3) (fun y hy => by cases hy) (by omega)).mono ?_
  rintro e w5 ⟨r, rfl, hr, hb⟩
  obtain rfl : r = -1 := hr.same (stays_best n B)
  have H5 : Hid (Below W.heap.size W w5) := hb
  clear hr hb v1
  have v1 := HV1.out _ H5.out
  have v2 := HV2.out _ H5.out
  go_wp2_with fail
  refine (Beaten_c 4 1 n none (some ⟨b, off, none⟩) (some ⟨g, 0, none⟩) 0 0 n c c2 [] lb (lb.set k z) B (B.set k (q + ((1 : Int) : Rat))) w5 (hns_nil n 4 w5) (by omega) (by omega) (by omega) (by omega) v1.row v1.rd (by omega) v2 (room20 hn3) (fun y hy => by cases hy) (by omega)).mono ?_
  rintro e w6 ⟨r, rfl, hr, hb⟩
  have hpk : ptOf B k = q := by
   unfold ptOf atV
   rw [if_pos (by omega), Int.toNat_natCast, HXQ.out.2.1]; rfl
  obtain rfl : r = (k : Int) := hr.same (stays_first HKN.out (fun v hv hne => by rw [ptOf_set (by rw [HBL.out]; exact HKN.out), if_neg hne]) (by
   rw [ptOf_set (by rw [HBL.out]; exact HKN.out), if_pos rfl, hpk]
   intro e
   have e1 : ((1 : Int) : Rat) = 0 := by grind
   exact absurd e1 (by decide +kernel)))
  have H6 : Hid (Below W.heap.size W w6) := H5.out.trans (hb.mono H5.out.size)
  have ekk : ((k : Int) == (k : Int)) = true := by simp
  clear hr hb v1 v2 hpk
  go_wp2_with fail
  refine (known12_c w6).mono ?_
  rintro e w7 ⟨rfl, hb⟩
  have H7 : Hid (Below w.heap.size w w7) := HBW.out.trans ((H6.out.trans (hb.mono H6.out.size)).mono HBW.out.size)
  clear hb
  go_wp2
  go_ret
  exact ⟨rfl, H7.out⟩
end Go.Proofs.YtgffkaconhonlaaGreat
