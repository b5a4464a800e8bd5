/-
  The document's Beaten of chapter 12.
-/
import Derived.Test.YtgffkaconhonlaaGreatQHrP
import Derived.Test.YtgffkaconhonlaaGreatQGSolG
import Derived.Test.YtgffkaconhonlaaGreatQRgn
namespace Go.Proofs.YtgffkaconhonlaaGreat
set_option maxRecDepth 20000
open Go.RowKit
def besB (N : Nat) (p : Nat → Rat) (s : Int) (y : Kin) : Bool := decide (y.v.s ≤ s) && hlB N p y
theorem could_doc {N : Nat} {p : Nat → Rat} {D : List Kin} {x : Kin} (hD : ∀ y ∈ D, y.ok = true) (hx : x.ok = true) (hh : hlB N p x = false) : (∃ y, Sat N (sums N (x :: D.filter (besB N p x.v.s))) y) ↔ Could N p (D.map (smOf N)) (smOf N x) := by
 have hne : dot N (fn N x.L x.k) p ≠ 0 := of_decide_eq_false hh
 have hsat : ∀ y, Sat N (sums N (x :: D.filter (besB N p x.v.s))) y ↔ dot N (fn N x.L x.k) y = 0 ∧ ∀ d ∈ D.map (smOf N), d.2.1 = true → d.1 ≤ x.v.s → dot N d.2.2 p = 0 → dot N d.2.2 y = 0 := by
  intro y
  constructor
  ·
   intro h
   refine ⟨h _ (List.mem_map.2 ⟨x, List.mem_filter.2 ⟨List.mem_cons_self, hx⟩, rfl⟩), fun d hd _ hs hp => ?_⟩
   obtain ⟨z, hz, rfl⟩ := List.mem_map.1 hd
   refine h _ (List.mem_map.2 ⟨z, List.mem_filter.2 ⟨List.mem_cons_of_mem _ (List.mem_filter.2 ⟨hz, ?_⟩), hD z hz⟩, rfl⟩)
   unfold besB hlB
   rw [Bool.and_eq_true]
   exact ⟨decide_eq_true hs, decide_eq_true hp⟩
  ·
   rintro ⟨h1, h2⟩ f hf
   obtain ⟨z, hz, rfl⟩ := List.mem_map.1 hf
   rcases List.mem_cons.1 (List.mem_filter.1 hz).1 with rfl | h3
   · exact h1
   ·
    obtain ⟨h4, h5⟩ := List.mem_filter.1 h3
    unfold besB hlB at h5
    rw [Bool.and_eq_true] at h5
    exact h2 (smOf N z) (List.mem_map.2 ⟨z, h4, rfl⟩) (hD z h4) (of_decide_eq_true h5.1) (of_decide_eq_true h5.2)
 constructor
 ·
  rintro ⟨y, hy⟩
  exact ⟨hx, hne, y, ((hsat y).1 hy).1, ((hsat y).1 hy).2⟩
 ·
  rintro ⟨_, _, y, h1, h2⟩
  exact ⟨y, (hsat y).2 ⟨h1, h2⟩⟩
theorem DAll.first {N : Nat} {p : Nat → Rat} {all : List Sm} {D : List Kin} {at_ : List Nat} (h : DAll N all D at_) {i : Nat} {x : Kin} (hx : D[i]? = some x) (hc : Could N p all (smOf N x)) (hl : ∀ j y, j < i → D[j]? = some y → ¬ Could N p all (smOf N y)) : BeatAns N p all ((rt at_ i : Nat) : Int) := by
 obtain ⟨h1, q, h2, h3⟩ := h.get i x hx
 have e : rt at_ i = q := by rw [rt_eq, h2]; rfl
 rw [e]
 refine .inr ⟨q, smOf N x, rfl, h3, hc, fun j d hj hd hco => ?_⟩
 obtain ⟨j', hj'⟩ := h.cov j d hd hco.1
 have hjD : j' < D.length := by rw [← h.len]; exact (List.getElem?_eq_some_iff.1 hj').1
 obtain ⟨_, q', h4, h5⟩ := h.get j' _ (List.getElem?_eq_getElem hjD)
 rw [hj'] at h4
 injection h4 with h4
 subst h4
 rw [hd] at h5
 injection h5 with h5
 rcases Nat.lt_trichotomy j' i with g | g | g
 · exact hl j' _ g (List.getElem?_eq_getElem hjD) (h5 ▸ hco)
 ·
  subst g
  rw [h2] at hj'
  injection hj' with hj'
  omega
 ·
  have := h.inc i j' q j h2 hj' g
  omega
theorem DAll.none_ {N : Nat} {p : Nat → Rat} {all : List Sm} {D : List Kin} {at_ : List Nat} (h : DAll N all D at_) (hl : ∀ (j : Nat) y, D[j]? = some y → ¬ Could N p all (smOf N y)) : BeatAns N p all (-1) := by
 refine .inl ⟨rfl, fun c hc hco => ?_⟩
 obtain ⟨x, hx, e⟩ := List.mem_map.1 ((h.mem c).1 ⟨hc, hco.1⟩)
 obtain ⟨j, hj, e2⟩ := List.getElem_of_mem hx
 exact hl j x (by rw [List.getElem?_eq_getElem hj, e2]) (e ▸ hco)
theorem bes_yes {N : Nat} {p : Nat → Rat} {s : Int} {l : List Kin} {y : Kin} (h : besB N p s y = true) : (l ++ [y]).filter (besB N p s) = l.filter (besB N p s) ++ [y] := by
 rw [List.filter_append, List.filter_cons_of_pos h]; rfl
theorem bes_no {N : Nat} {p : Nat → Rat} {s : Int} {l : List Kin} {y : Kin} (h : besB N p s y = false) : (l ++ [y]).filter (besB N p s) = l.filter (besB N p s) := by
 rw [List.filter_append, List.filter_cons_of_neg (by rw [h]; simp)]; simp
theorem OwnC.lit1 (w : World) (v : Cv) : OwnC (w.alloc (.cells #[.int .i64 v.s, .slice v.A v.n v.c, .bool v.K.s, .slice v.K.A v.K.n v.K.c, .slice v.K.B v.K.m v.K.d] 28)) w.heap.size (some ⟨w.heap.size, 0, none⟩) 1 1 [v] :=
 ⟨rfl, rfl, .inr ⟨w.heap.size, 1, _, rfl, Nat.le_refl _, heap_alloc_new w _, Nat.le_refl _, by unfold maxLen; omega, rfl, rfl⟩⟩
theorem dall_len {N : Nat} {all : List Sm} {D : List Kin} {at_ : List Nat} (h : DAll N all D at_) : D.length ≤ all.length := by
 have h1 : ∀ k, k ≤ at_.length → ∀ i, at_[k - 1]? = some i → 0 < k → k ≤ i + 1 := by
  intro k
  induction k with
  | zero => intro _ _ _ h0; omega
  |
   succ k ih =>
   intro hk i hi _
   rcases Nat.eq_zero_or_pos k with rfl | hk0
   · omega
   ·
    have h2 := List.getElem?_eq_getElem (show k - 1 < at_.length by omega)
    have h3 := ih (by omega) _ h2 hk0
    have h4 := h.inc (k - 1) k _ i h2 (by simpa using hi) (by omega)
    omega
 rw [← h.len]
 rcases Nat.eq_zero_or_pos at_.length with h0 | h0
 · omega
 ·
  have h2 := List.getElem?_eq_getElem (show at_.length - 1 < at_.length by omega)
  have h3 := h1 at_.length (Nat.le_refl _) _ h2 h0
  have h4 := h.lt h2
  omega
set_option maxHeartbeats 25600000 in
theorem rBeaten_c (N : Nat) (A Ab Av : Option Addr) (m c nb cb cv : Nat) (vs : List Kin) (lb lv : List Rv) (B V : List Rat) (w : World) (h : Hns N 150 w A m vs) (hm : m ≤ 800) (hN : N ≤ 8) (hbr : Nums w Ab nb lb) (hbd : RdV w 4 lb B) (hnb : nb ≤ 1000) (hV : Vin N w Av lv V) :
  Calls Tryz.prog 36 #[.slice A m c, .slice Ab nb cb, .slice Av N cv] w (BeatPost N (ptOf V) (allS N vs B) w) := by
 have HH := Lib.hid (And.intro h hV)
 have HB := Lib.hid (And.intro hbr hbd)
 have N0 : (0 : Int) ≤ (N : Int) := by omega
 have N1 : (N : Int) ≤ 8 := by omega
 have NN : ¬ (64 : Int) < (N : Int) := by omega
 clear h hV hbr hbd
 go_enter Tryz.func36, Tryz.ntmps36
 go_wp2_with fail
 refine (rall_c 150 N (N : Int) A Ab m c nb cb vs lb B w rfl HH.out.1 (by omega) (by omega) (by omega) (by omega) HB.out.1 HB.out.2 hnb).mono ?_
 rintro e w1 ⟨A1, A2, c1, c2, n1, D, at_, rfl, hra, hda⟩
 have HD : Hid (Hns N 150 w1 A1 n1 D ∧ DAll N (allS N vs B) D at_ ∧ IRow w1 A2 n1 at_ ∧ Below w.heap.size w w1) := ⟨hra.hns, hda, hra.ats.row, hra.below⟩
 have HOK : Hid (∀ y ∈ D, y.ok = true) := fun y hy => by
  obtain ⟨j, hj, e⟩ := List.getElem_of_mem hy
  exact (hda.get j y (by rw [List.getElem?_eq_getElem hj, e])).1
 have HCO : Hid (∀ x : Kin, x.ok = true → hlB N (ptOf V) x = false → ((∃ y, Sat N (sums N (x :: D.filter (besB N (ptOf V) x.v.s))) y) ↔ Could N (ptOf V) (allS N vs B) (smOf N x))) := fun x hx hh => (could_doc HOK.out hx hh).trans (hda.could _)
 have HDL : Hid (D.length = n1) := hra.hns.len
 have HN1 : Hid (n1 ≤ 808) := by
  have h1 : D.length ≤ (allS N vs B).length := by
   refine dall_len hda
  have h2 : (allS N vs B).length = m + N := by
   unfold allS
   rw [List.length_append, List.length_map, List.length_map, List.length_range, HH.out.1.len]
  have h3 := HDL.out
  show n1 ≤ 808
  omega
 have HVV : Hid (∀ w', Below w1.heap.size w1 w' → Vin N w' Av lv V) := fun w' h => HH.out.2.below (hra.below.trans (h.mono hra.below.size))
 have n10 : (0 : Int) ≤ (n1 : Int) := by omega
 have n11 : (n1 : Int) ≤ 808 := by have := HN1.out; omega
 clear hra hda
 go_wp2
 go_loopw [10, 11, 12] (fun iv _ _ wr => ∃ i : Nat, i ≤ n1 ∧ iv = .int .i64 i ∧ Hid (Below w1.heap.size w1 wr ∧ ∀ j y, j < i → D[j]? = some y → ¬ Could N (ptOf V) (allS N vs B) (smOf N y))) (fun iv _ _ _ => n1 - (intOf iv).toNat)
 case atStart => exact ⟨0, Nat.zero_le _, rfl, Lib.hid ⟨Below.refl _ _, fun j y hj => absurd hj (Nat.not_lt_zero _)⟩⟩
 case round =>
  obtain ⟨i, hi, rfl, HR⟩ := hrel
  have i0 : (0 : Int) ≤ (i : Int) := by omega
  by_cases hlt : i < n1
  ·
   have i1 : (i : Int) < (n1 : Int) := by omega
   have hil : i < D.length := by rw [HDL.out]; exact hlt
   obtain ⟨b, off, hA, hbw, hcc⟩ := HD.out.1.kons.mem (by omega)
   have hx := List.getElem?_eq_getElem hil
   have HXI := Lib.hid (And.intro (HD.out.1.rd _ (List.getElem_mem hil)) (And.intro (HOK.out _ (List.getElem_mem hil)) (List.getElem_mem hil)))
   have h5 := hcc i _ (show (D.map (·.v))[i]? = some D[i].v by rw [List.getElem?_map, hx]; rfl)
   have HX := Lib.hid hx
   have HCC : Hid (∀ (k : Nat) y wz, D[k]? = some y → Below w1.heap.size w1 wz → At5 wz b (off + k * 5) y.v) := fun k y wz hy hz => (hcc k y.v (by rw [List.getElem?_map, hy]; rfl)).keep (hz.block b hbw)
   generalize D[i] = x at *
   obtain ⟨k0, k1, k2, k3, k4⟩ := HCC.out i x _ HX.out HR.out.1
   subst hA
   clear hx hcc hbw h5 hil
   go_wp2_with fail
   refine (rHoldsH_c 150 N x Av cv lv V wr (HXI.out.1.below HR.out.1) HXI.out.2.1 (by omega) (HVV.out _ HR.out.1)).mono ?_
   rintro e w4 ⟨rfl, hb⟩
   have H4 : Hid (Below w1.heap.size w1 w4) := HR.out.1.trans (hb.mono HR.out.1.size)
   have HNC : Hid (∀ j y, j < i → D[j]? = some y → ¬ Could N (ptOf V) (allS N vs B) (smOf N y)) := HR.out.2
   clear hb k0 k1 k2 k3 k4 HR
   cases hh : hlB N (ptOf V) x with
   |
    true =>
    have HN : Hid (Below w1.heap.size w1 w4 ∧ ∀ j y, j < i + 1 → D[j]? = some y → ¬ Could N (ptOf V) (allS N vs B) (smOf N y)) := ⟨H4.out, fun j y hj hy => by
     by_cases e : j = i
     ·
      subst e
      rw [HX.out] at hy
      injection hy with hy
      subst hy
      exact fun hc => hc.2.1 (of_decide_eq_true hh)
     · exact HNC.out j y (by omega) hy⟩
    clear hh HNC H4
    go_wp2
    go_roundw
    case rel => exact ⟨i + 1, by omega, by go_num, HN⟩
    case measure => simp [intOf]; omega
   |
    false =>
    have HHF := Lib.hid hh
    clear hh
    obtain ⟨k0, k1, k2, k3, k4⟩ := HCC.out i x _ HX.out H4.out
    have HO0 : Hid (OwnC (w4.alloc (.cells #[.int .i64 x.v.s, .slice x.v.A x.v.n x.v.c, .bool x.v.K.s, .slice x.v.K.A x.v.K.n x.v.K.c, .slice x.v.K.B x.v.K.m x.v.K.d] 28)) w4.heap.size (some ⟨w4.heap.size, 0, none⟩) 1 1 [x.v] ∧ Below w1.heap.size w1 (w4.alloc (.cells #[.int .i64 x.v.s, .slice x.v.A x.v.n x.v.c, .bool x.v.K.s, .slice x.v.K.A x.v.K.n x.v.K.c, .slice x.v.K.B x.v.K.m x.v.K.d] 28)) ∧ w1.heap.size ≤ w4.heap.size) := ⟨OwnC.lit1 w4 x.v, H4.out.alloc H4.out.size _, H4.out.size⟩
    go_upto_region 10 with fail
    clear k0 k1 k2 k3 k4
    generalize w4.alloc (.cells #[.int .i64 x.v.s, .slice x.v.A x.v.n x.v.c, .bool x.v.K.s, .slice x.v.K.A x.v.K.n x.v.K.c, .slice x.v.K.B x.v.K.m x.v.K.d] 28) = W5 at *
    obtain ⟨L, hL⟩ : ∃ L, L = w4.heap.size := ⟨_, rfl⟩
    rw [← hL] at HO0
    rw [← hL]
    clear hL
    have HO1 : Hid (OwnC W5 w1.heap.size (some ⟨L, 0, none⟩) 1 1 [x.v] ∧ Below w1.heap.size w1 W5) := ⟨HO0.out.1.lower HO0.out.2.2, HO0.out.2.1⟩
    clear HO0
    go_wp2
    go_loopw [11, 12] (fun bv kv wx => ∃ (k : Nat) (A3 : Option Addr) (c3 q : Nat), k ≤ n1 ∧ q ≤ k + 1 ∧ kv = .int .i64 k ∧ bv = .slice A3 q c3 ∧ Hid (OwnC wx w1.heap.size A3 c3 q ((x :: (D.take k).filter (besB N (ptOf V) x.v.s)).map (·.v)) ∧ Below w1.heap.size w1 wx)) (fun _ kv _ => n1 - (intOf kv).toNat)
    case atStart => exact ⟨0, some ⟨L, 0, none⟩, 1, 1, Nat.zero_le _, by omega, rfl, rfl, HO1⟩
    case round =>
     clear HO1
     obtain ⟨k, A3, c3, q, hk, hqk, rfl, rfl, HO⟩ := hrel
     have g0 : (0 : Int) ≤ (k : Int) := by omega
     by_cases hlk : k < n1
     ·
      have g1 : (k : Int) < (n1 : Int) := by omega
      have hkl : k < D.length := by rw [HDL.out]; exact hlk
      have hy := List.getElem?_eq_getElem hkl
      have HYI := Lib.hid (And.intro (HD.out.1.rd _ (List.getElem_mem hkl)) (HOK.out _ (List.getElem_mem hkl)))
      have HTK : Hid (D.take (k + 1) = D.take k ++ [D[k]]) := by show _ = _; rw [List.take_add_one, hy]; rfl
      have HY := Lib.hid hy
      generalize D[k] = y at *
      have HAL : Hid (∀ w', Below wr.heap.size wr w' → (w'.cell? ⟨b, off + k * 5, none⟩ = some (.int .i64 y.v.s) ∧ w'.cell? ⟨b, off + k * 5 + 1, none⟩ = some (.slice y.v.A y.v.n y.v.c) ∧ w'.cell? ⟨b, off + k * 5 + 2, none⟩ = some (.bool y.v.K.s) ∧ w'.cell? ⟨b, off + k * 5 + 3, none⟩ = some (.slice y.v.K.A y.v.K.n y.v.K.c) ∧ w'.cell? ⟨b, off + k * 5 + 4, none⟩ = some (.slice y.v.K.B y.v.K.m y.v.K.d)) ∧ w'.cell? ⟨b, off + i * 5, none⟩ = some (.int .i64 x.v.s)) := fun w' h => by
       have hz := HO.out.2.trans (h.mono HO.out.2.size)
       obtain ⟨a0, a1, a2, a3, a4⟩ := HCC.out k y _ HY.out hz
       exact ⟨⟨a0, a1, a2, a3, a4⟩, (HCC.out i x _ HX.out hz).h0⟩
      clear hy hkl
      obtain ⟨⟨k0, k1, k2, k3, k4⟩, l0⟩ := HAL.out _ (Below.refl _ _)
      by_cases hle : y.v.s ≤ x.v.s
      ·
       have HLE : Hid (y.v.s ≤ x.v.s) := hle
       go_upto_region 13 with fail
       refine wp_region_held_drew (S := fun w' => (w'.cell? ⟨b, off + k * 5, none⟩ = some (.int .i64 y.v.s) ∧ w'.cell? ⟨b, off + k * 5 + 1, none⟩ = some (.slice y.v.A y.v.n y.v.c) ∧ w'.cell? ⟨b, off + k * 5 + 2, none⟩ = some (.bool y.v.K.s) ∧ w'.cell? ⟨b, off + k * 5 + 3, none⟩ = some (.slice y.v.K.A y.v.K.n y.v.K.c) ∧ w'.cell? ⟨b, off + k * 5 + 4, none⟩ = some (.slice y.v.K.B y.v.K.m y.v.K.d)) ∧ w'.cell? ⟨b, off + i * 5, none⟩ = some (.int .i64 x.v.s)) (by kernel_rfl) ?_ (fun hHeld => ?_)
       ·
        (try dsimp only)
        go_keep
       refine tk (i := 0) (h := ?_)
       try simp only [zR]
       refine tk (i := 1) (h := ?_)
       try simp only [zR]
       refine tk (i := 2) (h := ?_)
       try simp only [zR]
       refine tk (i := 3) (h := ?_)
       try simp only [zR]
       refine tk (i := 4) (h := ?_)
       try simp only [zR]
       refine tk (i := 5) (h := ?_)
       try simp only [zR]
       refine tk (i := 6) (h := ?_)
       try simp only [zR]
       refine tk (i := 7) (h := ?_)
       try simp only [zR]
       refine tk (i := 8) (h := ?_)
       try simp only [zR]
       refine tk (i := 9) (h := ?_)
       try simp only [zR]
       refine tk (i := 10) (h := ?_)
       try simp only [zR]
       refine tk (i := 11) (h := ?_)
       try simp only [zR]
       refine tk (i := 12) (h := ?_)
       try simp only [zR]
       refine tk (i := 13) (h := ?_)
       try simp only [zR]
       refine tk (i := 14) (h := ?_)
       try simp only [zR]
       refine tk (i := 15) (h := ?_)
       try simp only [zR]
       refine tk (i := 16) (h := ?_)
       try simp only [zR]
       refine tr [17] ?_
       refine tc (h := fun K hK => ?_) (hs := tn)
       try go_simp
       go_at_call 16
       refine (rHoldsH_c 150 N y Av cv lv V _ ((HYI.out.1.below HO.out.2).below (bel1 wr)) HYI.out.2 (by omega) (HVV.out _ (HO.out.2.trans ((bel1 wr).mono HO.out.2.size)))).mono ?_
       rintro e z7 ⟨rfl, hb⟩
       have P7 : Hid (Below wr.heap.size wr z7) := (bel1 wr).trans hb
       clear hb k0 k1 k2 k3 k4 l0
       obtain ⟨⟨k0, k1, k2, k3, k4⟩, l0⟩ := HAL.out _ P7.out
       try go_wp2_with fail
       refine hK.out _ _ ?_ (fun hHeld => ?_)
       · (try dsimp only); go_keep
       clear hK K
       try simp only [zR]
       refine tk (i := 18) (h := ?_)
       try simp only [zR]
       refine wpAnyH_done (by kernel_rfl) ?_ _
       have HB7 : Hid (Below w1.heap.size w1 z7) := HO.out.2.trans (P7.out.mono HO.out.2.size)
       cases hh2 : hlB N (ptOf V) y with
       |
        false =>
        have HNN : Hid (OwnC z7 w1.heap.size A3 c3 q ((x :: (D.take (k + 1)).filter (besB N (ptOf V) x.v.s)).map (·.v)) ∧ Below w1.heap.size w1 z7) := by
         rw [HTK.out, bes_no (by unfold besB; rw [hh2, Bool.and_false])]
         exact ⟨HO.out.1.below P7.out, HB7.out⟩
        clear hh2 k0 k1 k2 k3 k4 l0 HAL HO
        go_wp2
        go_roundw
        case rel => exact ⟨k + 1, A3, c3, q, by omega, by omega, by go_num, rfl, HNN⟩
        case measure => simp [intOf]; omega
       |
        true =>
        have HBY : Hid (besB N (ptOf V) x.v.s y = true) := by show besB N (ptOf V) x.v.s y = true; unfold besB; rw [hh2, decide_eq_true HLE.out]; rfl
        clear hh2
        have ho7 := (HO.out.1.below P7.out).below ((Below.refl _ z7).alloc (Nat.le_refl _) (.cells #[.int .i64 y.v.s, .slice y.v.A y.v.n y.v.c, .bool y.v.K.s, .slice y.v.K.A y.v.K.n y.v.K.c, .slice y.v.K.B y.v.K.m y.v.K.d] 28))
        have HO7 := Lib.hid ho7
        clear ho7
        go_wp2_with (at_builtin; refine wpc_appends rfl _ _ rfl rfl rfl (lo := w1.heap.size) (l := (x :: (D.take k).filter (besB N (ptOf V) x.v.s)).map (·.v)) (k := [y.v]) HO7.out (kons_new _ y.v) (by omega) (by have := HB7.out.size; simp; omega) ?_)
        intro A6 c6 w6 hown hgrow
        have HNN : Hid (OwnC w6 w1.heap.size A6 c6 (q + 1) ((x :: (D.take (k + 1)).filter (besB N (ptOf V) x.v.s)).map (·.v)) ∧ Below w1.heap.size w1 w6) := by
         have hb1 : Below w1.heap.size w1 (z7.alloc (.cells #[.int .i64 y.v.s, .slice y.v.A y.v.n y.v.c, .bool y.v.K.s, .slice y.v.K.A y.v.K.n y.v.K.c, .slice y.v.K.B y.v.K.m y.v.K.d] 28)) := HB7.out.alloc HB7.out.size _
         refine ⟨?_, hb1.grown hgrow hb1.size fun k hk => ?_⟩
         ·
          rw [HTK.out, bes_yes HBY.out, ← List.cons_append, List.map_append]
          exact hown
         ·
          cases A3 with
          | none => simp at hk
          | some ad => simp at hk; subst hk; exact (HO7.out.lt ad rfl).1
        clear hown hgrow k0 k1 k2 k3 k4 l0 HAL HO HO7
        go_wp2
        go_roundw
        case rel => exact ⟨k + 1, A6, c6, q + 1, by omega, by omega, by go_num, rfl, HNN⟩
        case measure => simp [intOf]; omega
      ·
       have HNN : Hid (OwnC wr.drew w1.heap.size A3 c3 q ((x :: (D.take (k + 1)).filter (besB N (ptOf V) x.v.s)).map (·.v)) ∧ Below w1.heap.size w1 wr.drew) := by
        rw [HTK.out, bes_no (by unfold besB; rw [decide_eq_false hle]; rfl)]
        exact ⟨HO.out.1.below (bel1 wr), HO.out.2.trans ((bel1 wr).mono HO.out.2.size)⟩
       go_upto_region 13 with fail
       refine wp_region_held_drew (S := fun w' => (w'.cell? ⟨b, off + k * 5, none⟩ = some (.int .i64 y.v.s) ∧ w'.cell? ⟨b, off + k * 5 + 1, none⟩ = some (.slice y.v.A y.v.n y.v.c) ∧ w'.cell? ⟨b, off + k * 5 + 2, none⟩ = some (.bool y.v.K.s) ∧ w'.cell? ⟨b, off + k * 5 + 3, none⟩ = some (.slice y.v.K.A y.v.K.n y.v.K.c) ∧ w'.cell? ⟨b, off + k * 5 + 4, none⟩ = some (.slice y.v.K.B y.v.K.m y.v.K.d)) ∧ w'.cell? ⟨b, off + i * 5, none⟩ = some (.int .i64 x.v.s)) (by kernel_rfl) ?_ (fun hHeld => ?_)
       ·
        (try dsimp only)
        go_keep
       refine tk (i := 0) (h := ?_)
       try simp only [zR]
       refine tk (i := 1) (h := ?_)
       try simp only [zR]
       refine tk (i := 2) (h := ?_)
       try simp only [zR]
       refine tk (i := 3) (h := ?_)
       try simp only [zR]
       refine tk (i := 4) (h := ?_)
       try simp only [zR]
       refine tk (i := 5) (h := ?_)
       try simp only [zR]
       refine tk (i := 6) (h := ?_)
       try simp only [zR]
       refine tk (i := 7) (h := ?_)
       try simp only [zR]
       refine tk (i := 8) (h := ?_)
       try simp only [zR]
       refine tk (i := 9) (h := ?_)
       try simp only [zR]
       refine tk (i := 10) (h := ?_)
       try simp only [zR]
       refine tk (i := 11) (h := ?_)
       try simp only [zR]
       refine ts (i := 12) (h := ?_)
       try simp only [zR]
       refine ts (i := 13) (h := ?_)
       try simp only [zR]
       refine ts (i := 14) (h := ?_)
       try simp only [zR]
       refine ts (i := 15) (h := ?_)
       try simp only [zR]
       refine ts (i := 16) (h := ?_)
       try simp only [zR]
       refine ts (i := 17) (h := ?_)
       try simp only [zR]
       refine tk (i := 18) (h := ?_)
       try simp only [zR]
       refine wpAnyH_done (by kernel_rfl) ?_ _
       clear k0 k1 k2 k3 k4 l0 HAL HO hle
       go_wp2
       go_roundw
       case rel => exact ⟨k + 1, A3, c3, q, by omega, by omega, by go_num, rfl, HNN⟩
       case measure => simp [intOf]; omega
     ·
      have g1 : ¬ (k : Int) < (n1 : Int) := by omega
      obtain rfl : k = n1 := by omega
      have HKN : Hid (Kns N 150 wr A3 q (x :: D.filter (besB N (ptOf V) x.v.s))) := by
       have h1 := HO.out
       rw [List.take_of_length_le (by rw [HDL.out]; exact Nat.le_refl _)] at h1
       refine ⟨h1.1.kons, fun z hz => ?_⟩
       rcases List.mem_cons.1 hz with rfl | hz
       · exact (HXI.out.1.below h1.2).kin
       · exact ((HD.out.1.rd z (List.mem_filter.1 hz).1).below h1.2).kin
      have HBW : Hid (Below w1.heap.size w1 wr) := HO.out.2
      clear HO
      go_wp2_with fail
      refine (dConsistent_c (N : Int) N A3 q c3 (x :: D.filter (besB N (ptOf V) x.v.s)) wr (by omega) HKN.out (by omega) (by omega)).mono ?_
      rintro e w8 ⟨bb, rfl, hbb, hb⟩
      have H8 : Hid (Below w1.heap.size w1 w8) := HBW.out.trans (hb.mono HBW.out.size)
      have HBB : Hid (bb = true ↔ Could N (ptOf V) (allS N vs B) (smOf N x)) := hbb.trans (HCO.out x HXI.out.2.1 HHF.out)
      clear hbb hb HKN HBW
      cases bb with
      |
       true =>
       have HN : Hid (BeatAns N (ptOf V) (allS N vs B) ((rt at_ i : Nat) : Int)) := HD.out.2.1.first HX.out (HBB.out.1 rfl) HNC.out
       obtain ⟨b2, off2, hA2, hb2, hc2⟩ := HD.out.2.2.1.mem (by omega)
       have hcell := (H8.out.cell hb2).trans (hc2 i (by omega))
       subst hA2
       clear hc2
       go_wp2
       go_ret
       exact ⟨_, rfl, HN.out, HD.out.2.2.2.trans (H8.out.mono HD.out.2.2.2.size)⟩
      |
       false =>
       have HN : Hid (Below w1.heap.size w1 w8 ∧ ∀ j y, j < i + 1 → D[j]? = some y → ¬ Could N (ptOf V) (allS N vs B) (smOf N y)) := ⟨H8.out, fun j y hj hy => by
        by_cases e : j = i
        ·
         subst e
         rw [HX.out] at hy
         injection hy with hy
         subst hy
         exact fun h => absurd (HBB.out.2 h) (by simp)
        · exact HNC.out j y (by omega) hy⟩
       clear HNC H4 H8
       go_wp2
       go_roundw
       case rel => exact ⟨i + 1, by omega, by go_num, HN⟩
       case measure => simp [intOf]; omega
  ·
   have i1 : ¬ (i : Int) < (n1 : Int) := by omega
   obtain rfl : i = n1 := by omega
   have HN : Hid (BeatAns N (ptOf V) (allS N vs B) (-1)) := HD.out.2.1.none_ fun j y hy => HR.out.2 j y (by have := (List.getElem?_eq_some_iff.1 hy).1; rw [HDL.out] at this; exact this) hy
   have HBW : Hid (Below w.heap.size w wr) := HD.out.2.2.2.trans (HR.out.1.mono HD.out.2.2.2.size)
   clear HR
   go_wp2
   go_ret
   exact ⟨-1, rfl, HN.out, HBW.out⟩
end Go.Proofs.YtgffkaconhonlaaGreat
