/-
  Print of naturals, the program's way: a number's groups; the text.
  Print of naturals, the program's way: the text, out of its groups; the library's table at hand.
-/
import Derived.Test.YtcmomoalohibiaaGreatDoorTxtP
import Derived.Test.YtcmomoalohibiaaGreatDoorShelf
import Derived.Lib.AppendIntMem
namespace Go.Proofs.YtcmomoalohibiaaGreatDoor
set_option maxRecDepth 20000
open Go.RowKit

theorem Own.at {w w' : World} {lo B n c g : Nat} {l : List Nat} (h : Own w lo (some ⟨g, 0, none⟩) c n l) (hb : Below B w w') (hg : g < B) : Own w' lo (some ⟨g, 0, none⟩) c n l := by
  have h1 := h.own
  refine ⟨h.l32, h1.1, ?_⟩
  rcases h1.2 with ⟨hv, _⟩ | ⟨g', cap, cur, hv, hlo, hh, rest⟩
  · cases hv
  · have e : g' = g := by injection hv with e _ _; injection e with e; injection e with e; exact e.symm
    subst e
    exact .inr ⟨g', cap, cur, hv, hlo, (hb.block g' hg).trans hh, rest⟩
theorem Own.lit1 (w : World) (x : Nat) (v : Int) (hv : v = (x : Int)) (hx : x < 4294967296) : Own (w.alloc (.cells #[.int .u32 v] 50)) w.heap.size (some ⟨w.heap.size, 0, none⟩) 1 1 [x] := by
  subst hv
  exact ⟨L32.cons hx L32.nil, rfl, .inr ⟨w.heap.size, 1, _, rfl, Nat.le_refl _, heap_alloc_new w _, Nat.le_refl _, by unfold maxLen; omega, rfl, rfl⟩⟩
/-- What the loop of digitGroups keeps. -/
structure DgAt (w wl wx : World) (g c x r : Nat) (A : Option Addr) (d : Nat) (ls : List Nat) : Prop where
  rest : Own wx w.heap.size (some ⟨g, 0, none⟩) c (lim r).length (lim r)
  own : Own wx wl.heap.size A d ls.length ls
  txt : ls ++ (if r = 0 then [] else grp r) = grp x
  below : Below w.heap.size w wx
  size : wl.heap.size ≤ wx.heap.size
theorem DgAt.len {w wl wx : World} {g c x r : Nat} {A : Option Addr} {d : Nat} {ls : List Nat} (h : DgAt w wl wx g c x r A d ls) : ls.length ≤ (grp x).length := by
  rw [← h.txt, List.length_append]; omega
theorem DgAt.txt_step {w wl wx : World} {g c x r : Nat} {A : Option Addr} {d : Nat} {ls : List Nat} (h : DgAt w wl wx g c x r A d ls) (hr : r ≠ 0) : (ls ++ [r % 1000000000]) ++ (if r / 1000000000 = 0 then [] else grp (r / 1000000000)) = grp x := by
  have h1 := h.txt
  rw [if_neg hr] at h1
  rw [← h1, List.append_assoc]
  congr 1
  exact grp_split r

set_option maxHeartbeats 3200000 in
theorem digitGroups_any (A : Option Addr) (n c : Nat) (a : List Nat) (x : Nat) (w : World) (hx : val a = x) (hn : n ≤ 1000) (hcn : n ≤ c) (ha : Row w 0 A n a) :
    Calls Tryz.prog 89 #[.slice A n c] w fun e w' => ∃ X cx, e = .returned (.slice X (grp x).length cx) ∧ Own w' w.heap.size X cx (grp x).length (grp x) ∧ Below w.heap.size w w' := by
  have hlen : (lim x).length ≤ 1000 := by rw [← hx]; have := lim_len_le ha.l32; have := ha.len; omega
  have hgl : (grp x).length ≤ 2 * 1000 := grp_len_lim (by omega) hlen
  have HV := Lib.hid hx
  clear hx
  go_enter Tryz.func89, Tryz.ntmps89
  go_wp2_with fail
  refine (Trim_any A n c a _ (by omega) hcn ha).mono ?_
  rintro e w1 ⟨g, rfl, ho, hb⟩
  rw [HV.out] at ho ⊢
  clear ha
  have hg1 := ho.own.lt g rfl
  have HB1 := Lib.hid hb
  have hs1 := hb.size
  clear hb
  go_wp2_with fail
  refine (divideByLimb_any w.heap.size g (lim x).length (lim x).length 1000000000 (lim x) _ (by omega) (by omega) (by omega) ho).mono ?_
  rintro e w2 ⟨l', rfl, ho2, hv2, hg2⟩
  rw [val_lim] at hv2 ⊢
  have HB2 : Hid (Below w.heap.size w w2) := HB1.out.trans (below_of_grown_row hg2 hg1.1 hs1)
  have hs2 := hg2.size
  have hl2 := ho2.len
  have HO2 := Lib.hid ho2
  have hr2 := ho2.row.lower (Nat.zero_le _)
  have HV2 := Lib.hid hv2
  have hxr : x % 1000000000 < 4294967296 := by omega
  have HL2 := Lib.hid hl2
  clear ho ho2 hv2 hg2 hl2 HB1
  go_wp2_with fail
  have HG : Hid (Own (w2.alloc (.cells #[.int .u32 ((x : Int) % 1000000000)] 50)) w1.heap.size (some ⟨w2.heap.size, 0, none⟩) 1 [x % 1000000000].length [x % 1000000000]) :=
    (Own.lit1 w2 (x % 1000000000) _ (by rfl) hxr).lower hs2
  refine (head_any _ _ _ l' _ (by omega) (Nat.le_refl _) (hr2.alloc _)).mono ?_
  rintro e w3 ⟨rfl, rfl⟩
  rw [HV2.out]
  have HST : Hid (DgAt w w1 (w2.alloc (.cells #[.int .u32 ((x : Int) % 1000000000)] 50)) g (lim x).length x (x / 1000000000) (some ⟨w2.heap.size, 0, none⟩) 1 [x % 1000000000]) := by
    have hl := HO2.out.lim
    rw [HV2.out] at hl
    exact ⟨hl.alloc _, HG.out, grp_split x, HB2.out.alloc HB2.out.size _, by simp; omega⟩
  clear HO2 hr2 HV2 HG HB2 HL2
  go_wp2
  go_loopg [3, 4] (x / 1000000000) (fun r rv gv wx => ∃ (X : Option Addr) (d : Nat) (ls : List Nat), rv = .slice (some ⟨g, 0, none⟩) (lim r).length (lim x).length ∧ gv = .slice X ls.length d ∧ (lim r).length ≤ (lim x).length ∧ Hid (DgAt w w1 wx g (lim x).length x r X d ls))
  case atStart => exact ⟨_, 1, [x % 1000000000], rfl, rfl, lim_len_mono (Nat.div_le_self _ _), HST⟩
  case round =>
    obtain ⟨X, d, ls, rfl, rfl, hlr, HA⟩ := hrel
    clear HST
    by_cases hr : gk = 0
    · have hl0 : (lim gk).length ≤ 0 := by rw [hr, lim_zero]; simp
      have HE : Hid (ls = grp x) := by
        have := HA.out.txt
        rw [if_pos hr, List.append_nil] at this
        exact this
      have HO := Lib.hid (HA.out.own.lower hs1)
      have HB := Lib.hid HA.out.below
      clear HA hr
      go_wp2
      go_ret
      have HO2 := HO.out
      rw [HE.out] at HO2
      exact ⟨X, d, by rw [← HE.out]; rfl, HO2, HB.out⟩
    · have hl0 : 0 < (lim gk).length := by rw [lim_pos hr]; simp
      have hq : gk / 1000000000 < gk := by omega
      have hll := HA.out.len
      have HTX := Lib.hid (HA.out.txt_step hr)
      have hmono : (lim (gk / 1000000000)).length ≤ (lim gk).length := lim_len_mono (Nat.div_le_self _ _)
      have HR := Lib.hid HA.out.rest
      have HO := Lib.hid HA.out.own
      have HB := Lib.hid HA.out.below
      have hsz := HA.out.size
      have hxr : gk % 1000000000 < 4294967296 := by omega
      clear HA hr
      go_wp2_with fail
      refine (divideByLimb_any w.heap.size g (lim gk).length (lim x).length 1000000000 (lim gk) _ (by omega) (by omega) (by omega) HR.out).mono ?_
      rintro e w2 ⟨l', rfl, ho2, hv2, hg2⟩
      rw [val_lim] at hv2 ⊢
      have HB2 : Hid (Below w.heap.size w w2) := HB.out.trans (below_of_grown_row hg2 hg1.1 HB.out.size)
      have hs2 := hg2.size
      have HOG : Hid (Own w2 w1.heap.size X d ls.length ls) := HO.out.grown hg2 (by
        intro ad had
        subst had
        have := HO.out.own.lt ad.block rfl
        simp; omega)
      have HR2 := Lib.hid ho2
      have HV2 := Lib.hid hv2
      clear ho2 hv2 hg2 HO HB HR
      go_wp2_with (at_builtin; refine wpl_append rfl _ _ rfl rfl rfl (HOG.out.alloc _) (Row.one (x := gk % 1000000000) (lo := 0) ?c1 ?c2 ?c3) ?c4 ?c5 ?_)
      case c1 => rfl
      case c2 => exact hxr
      case c3 => omega
      case c4 => omega
      case c5 => simp; omega
      intro A3 c3 w3 ho3 hg3
      have hb3 : Below w1.heap.size w2 w3 := ((Below.refl _ _).alloc (by omega) _).grown hg3 (by simp; omega) (by
        intro q hq
        cases X with
        | none => cases hq
        | some ad =>
          have := HOG.out.own.lt ad.block rfl
          simp at hq; subst hq; exact this.1)
      have HR3 : Hid (Own w3 w.heap.size (some ⟨g, 0, none⟩) (lim x).length (lim gk).length l') := HR2.out.at hb3 (by omega)
      have HB3 : Hid (Below w.heap.size w w3) := HB2.out.trans (hb3.mono hs1)
      have hs3 := hb3.size
      have HO3 := Lib.hid ho3
      have hr3 := HR3.out.row.lower (Nat.zero_le _)
      clear hb3 ho3 hg3 HR2 HOG HB2
      go_wp2_with fail
      refine (head_any _ _ _ l' _ (by omega) hlr hr3).mono ?_
      rintro e w4 ⟨rfl, rfl⟩
      rw [HV2.out]
      have HST2 : Hid (DgAt w w1 w3 g (lim x).length x (gk / 1000000000) A3 c3 (ls ++ [gk % 1000000000])) := by
        have hl := HR3.out.lim
        rw [HV2.out] at hl
        refine ⟨hl, ?_, HTX.out, HB3.out, by omega⟩
        rw [List.length_append]; exact HO3.out
      clear hr3 HV2 HR3 HO3 HB3 HTX
      go_wp2
      go_roundg (gk / 1000000000)
      case rel => exact ⟨A3, c3, _, rfl, by simp, by omega, HST2⟩
      case measure => exact hq
end Go.Proofs.YtcmomoalohibiaaGreatDoor

namespace Go.Proofs.YtcmomoalohibiaaGreatDoor
set_option maxRecDepth 20000
open Go.RowKit

/-- The library's table of powers of ten reads as its initialiser lays it. -/
def Tb (w : World) : Prop := Lib.TabIs Tryz.prog w "internal/strconv.uint64pow10" .u64 Lib.pow10Tab
theorem Tb.below {w w' : World} (h : Tb w) (hb : Below w.heap.size w w') : Tb w' := Lib.tabBelow_of_tabIs h w' hb

set_option maxHeartbeats 800000 in
theorem AppendUint_any (B u : Nat) (w : World) (hu : u < 4294967296) (hB : B ≤ w.heap.size) (ht : Tb w) :
    Calls Tryz.prog 90 #[.slice none 0 0, .int .u64 (u : Int), .int .i64 10] w fun e w' => ∃ v, e = .returned v ∧ w'.ownsRow B 5 1 v (Lib.decDigits u).length (Lib.byteCells (Lib.decDigits u)) ∧ Below B w w' := by
  have HT := Lib.hid ht
  clear ht
  go_enter Tryz.func90, Tryz.ntmps90
  go_wp2_with fail
  refine (Tryz.internal_strconv_AppendUint_10 B 0 u (by omega) (.slice none 0 0) [] _ (World.ownsRow_nil _ _ _ _) hB (by omega) HT.out).mono ?_
  rintro e w1 ⟨v1, rfl, hown1, hnx1, -⟩
  rw [Nat.zero_add, List.nil_append] at hown1
  have HO := Lib.hid hown1
  have HB := Lib.hid hnx1
  clear hown1 hnx1
  go_wp2
  go_ret
  exact ⟨v1, rfl, HO.out, HB.out⟩

theorem dec_len_mono {x y : Nat} (h : y ≤ x) : (Lib.decDigits y).length ≤ (Lib.decDigits x).length := by
  refine dec_len_le (dec_len_pos x) ?_
  rw [Lib.decDigits_length]
  exact Nat.lt_of_le_of_lt h (Lib.lt_pow_nDigits x)
/-- What the loop of Print keeps: k groups are still to come. -/
structure PrAt (w wx : World) (B x k : Nat) (v : Value) : Prop where
  own : wx.ownsRow B 5 1 v (Lib.decDigits (x / 1000000000 ^ k)).length (Lib.byteCells (Lib.decDigits (x / 1000000000 ^ k)))
  below : Below B w wx

set_option maxHeartbeats 3200000 in
theorem Print_any (A : Option Addr) (n c : Nat) (a : List Nat) (x : Nat) (w : World) (hx : val a = x) (hn : n ≤ 1000) (hcn : n ≤ c) (ha : Row w 0 A n a) (ht : Tb w) :
    Calls Tryz.prog 52 #[.slice A n c] w fun e w' => e = .returned (.string ⟨(Lib.decDigits x).toArray⟩) ∧ Below w.heap.size w w' := by
  have hlen : (lim x).length ≤ 1000 := by rw [← hx]; have := lim_len_le ha.l32; have := ha.len; omega
  have hgl : (grp x).length ≤ 2 * 1000 := grp_len_lim (by omega) hlen
  have hdl : (Lib.decDigits x).length ≤ 10 * 1000 := dec_len_lim (by omega) hlen
  have hgp := grp_pos x
  have HT := Lib.hid ht
  clear ht
  go_enter Tryz.func52, Tryz.ntmps52
  go_wp2_with fail
  refine (digitGroups_any A n c a x _ hx hn hcn ha).mono ?_
  rintro e w1 ⟨X, cx, rfl, ho, hb⟩
  clear ha hx
  have HT1 := Lib.hid (HT.out.below hb)
  have HB1 := Lib.hid hb
  have hr := ho.row.lower (Nat.zero_le _)
  have hs1 := hb.size
  clear ho hb HT
  obtain ⟨k, hk⟩ : ∃ k, (grp x).length = k + 1 := ⟨(grp x).length - 1, by omega⟩
  obtain ⟨b, off, rfl, hb0, hb1, hc⟩ := hr.mem hgp
  obtain ⟨g1, _, g3⟩ := grp_dg k x (by omega)
  have g4 := g3 hk.symm
  have hck := hc k (by omega)
  rw [g1, Nat.mod_eq_of_lt g4] at hck
  have HC := Lib.hid hc
  have HK := Lib.hid hk
  have e1 : ((k + 1 : Nat) : Int) - 1 = (k : Int) := by omega
  clear hc g1 g3
  rw [hk] at hr hgl ⊢
  clear hk hr hgp
  obtain ⟨q, hq⟩ : ∃ q, q = x / 1000000000 ^ k := ⟨_, rfl⟩
  rw [← hq] at hck g4
  have HQ := Lib.hid hq
  clear hq
  have hq32 : q < 4294967296 := by omega
  go_wp2_with fail
  refine (AppendUint_any w1.heap.size q _ (by omega) (Nat.le_refl _) HT1.out).mono ?_
  rintro e w2 ⟨v2, rfl, ho2, hb2⟩
  have HST : Hid (PrAt w1 w2 w1.heap.size x k v2) := by
    refine ⟨?_, hb2⟩
    rw [← HQ.out]; exact ho2
  clear ho2 hb2 hck HT1
  go_wp2
  go_loopw [5, 6] (fun tv iv wr => ∃ j : Nat, j ≤ k ∧ iv = .int .i64 ((j : Int) - 1) ∧ Hid (PrAt w1 wr w1.heap.size x j tv)) (fun _ iv _ => (intOf iv + 1).toNat)
  case atStart => exact ⟨k, Nat.le_refl _, by first | rfl | go_num, HST⟩
  case round =>
    obtain ⟨j, hj, rfl, HA⟩ := hrel
    clear HST
    rcases Nat.eq_zero_or_pos j with rfl | hj0
    · have hown := HA.out.own
      rw [Nat.pow_zero, Nat.div_one] at hown
      have HB := Lib.hid (HB1.out.trans (HA.out.below.mono hs1))
      have hpos := dec_len_pos x
      obtain ⟨l, hl⟩ : ∃ l, l = Lib.decDigits x := ⟨_, rfl⟩
      rw [← hl] at hown hpos hdl
      have HL := Lib.hid hl
      clear hl HA
      rcases hown.2 with ⟨-, h0⟩ | ⟨g, cap, cur, rfl, -, -, -, -, -, -⟩
      · omega
      · have hcv := run_convert_bytes_back (P := Tryz.prog) wr 47 9 5 ⟨g, 0, none⟩ cap l Tryz.underlying47 Tryz.underlying5 Tryz.underlying9 (fun j hj => hown.cells (g := g) rfl j _ (by simp [Lib.byteCells, hj]))
        clear hown
        go_wp2
        go_ret
        exact ⟨by rw [← HL.out]; rfl, HB.out⟩
    · obtain ⟨j, rfl⟩ : ∃ i, j = i + 1 := ⟨j - 1, by omega⟩
      have hd : dg (grp x) j < 1000000000 := by
        obtain ⟨a1, _, _⟩ := grp_dg j x (by rw [HK.out]; omega)
        rw [a1]; omega
      have HTX : Hid (Lib.decDigits (x / 1000000000 ^ j) = Lib.decDigits (x / 1000000000 ^ (j + 1)) ++ pad 9 (dg (grp x) j)) := grp_text (by rw [HK.out]; omega)
      have hcj : wr.cell? ⟨b, off + j, none⟩ = some (.int .u32 ((dg (grp x) j : Nat) : Int)) := (HA.out.below.cell hb1).trans (HC.out j (by rw [HK.out]; omega))
      have hll : (Lib.decDigits (x / 1000000000 ^ (j + 1))).length ≤ 1000000 := by
        have := dec_len_mono (x := x) (y := x / 1000000000 ^ (j + 1)) (Nat.div_le_self _ _)
        omega
      have e2 : ((j + 1 : Nat) : Int) - 1 = (j : Int) := by omega
      have OWN := Lib.hid HA.out.own
      have HB := Lib.hid HA.out.below
      have hsz := HA.out.below.size
      clear HA
      obtain ⟨u, hu⟩ : ∃ u, u = dg (grp x) j := ⟨_, rfl⟩
      rw [← hu] at hd hcj HTX
      clear hu
      go_wp2_with fail
      refine (appendGroup_any w1.heap.size u _ _ _ hd hll hsz OWN.out).mono ?_
      rintro e w3 ⟨v3, rfl, ho3, hb3⟩
      have HST2 : Hid (PrAt w1 w3 w1.heap.size x j v3) := ⟨by rw [HTX.out]; exact ho3, HB.out.trans hb3⟩
      clear ho3 hb3 OWN HB HTX hcj
      go_wp2
      go_roundw
      case rel => exact ⟨j, by omega, by go_num, HST2⟩
      case measure => simp [intOf]
end Go.Proofs.YtcmomoalohibiaaGreatDoor
