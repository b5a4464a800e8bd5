/-
  Print of naturals, the program's way: the text, out of its groups; the library's table at hand.
-/
import Derived.Test.YtcmomoalohibiaaDoorTxtE
import Derived.Lib.AppendIntMem
namespace Go.Proofs.YtcmomoalohibiaaDoor
set_option maxRecDepth 20000
open Go.RowKit

/-- The library's table of powers of ten reads as its initialiser lays it. -/
def Tb (w : World) : Prop := Lib.TabIs Tryd.prog w "internal/strconv.uint64pow10" .u64 Lib.pow10Tab
theorem Tb.below {w w' : World} (h : Tb w) (hb : Below w.heap.size w w') : Tb w' := Lib.tabBelow_of_tabIs h w' hb

set_option maxHeartbeats 800000 in
theorem AppendUint_any (B u : Nat) (w : World) (hu : u < 4294967296) (hB : B ≤ w.heap.size) (ht : Tb w) :
    Calls Tryd.prog 22 #[.slice none 0 0, .int .u64 (u : Int), .int .i64 10] w fun e w' => ∃ v, e = .returned v ∧ w'.ownsRow B 5 1 v (Lib.decDigits u).length (Lib.byteCells (Lib.decDigits u)) ∧ Below B w w' := by
  have HT := Lib.hid ht
  clear ht
  go_enter Tryd.func22, Tryd.ntmps22
  go_wp2_with fail
  refine (Tryd.internal_strconv_AppendUint_10 B 0 u (by omega) (.slice none 0 0) [] _ (World.ownsRow_nil _ _ _ _) hB (by omega) HT.out).mono ?_
  rintro e w1 ⟨v1, rfl, hown1, hnx1, -⟩
  rw [Nat.zero_add, List.nil_append] at hown1
  have HO := Lib.hid hown1
  have HB := Lib.hid hnx1
  clear hown1 hnx1
  go_wp2
  go_ret
  exact ⟨v1, rfl, HO.out, HB.out⟩

theorem dec_len_mono {x y : Nat} (h : y ≤ x) : (Lib.decDigits y).length ≤ (Lib.decDigits x).length := by
  refine dec_len_le (dec_len_pos x) ?_
  rw [Lib.decDigits_length]
  exact Nat.lt_of_le_of_lt h (Lib.lt_pow_nDigits x)
/-- What the loop of Print keeps: k groups are still to come. -/
structure PrAt (w wx : World) (B x k : Nat) (v : Value) : Prop where
  own : wx.ownsRow B 5 1 v (Lib.decDigits (x / 1000000000 ^ k)).length (Lib.byteCells (Lib.decDigits (x / 1000000000 ^ k)))
  below : Below B w wx

set_option maxHeartbeats 3200000 in
theorem Print_any (A : Option Addr) (n c : Nat) (a : List Nat) (x : Nat) (w : World) (hx : val a = x) (hn : n ≤ 1000) (hcn : n ≤ c) (ha : Row w 0 A n a) (ht : Tb w) :
    Calls Tryd.prog 8 #[.slice A n c] w fun e w' => e = .returned (.string ⟨(Lib.decDigits x).toArray⟩) ∧ Below w.heap.size w w' := by
  have hlen : (lim x).length ≤ 1000 := by rw [← hx]; have := lim_len_le ha.l32; have := ha.len; omega
  have hgl : (grp x).length ≤ 2 * 1000 := grp_len_lim (by omega) hlen
  have hdl : (Lib.decDigits x).length ≤ 10 * 1000 := dec_len_lim (by omega) hlen
  have hgp := grp_pos x
  have HT := Lib.hid ht
  clear ht
  go_enter Tryd.func8, Tryd.ntmps8
  go_wp2_with fail
  refine (digitGroups_any A n c a x _ hx hn hcn ha).mono ?_
  rintro e w1 ⟨X, cx, rfl, ho, hb⟩
  clear ha hx
  have HT1 := Lib.hid (HT.out.below hb)
  have HB1 := Lib.hid hb
  have hr := ho.row.lower (Nat.zero_le _)
  have hs1 := hb.size
  clear ho hb HT
  obtain ⟨k, hk⟩ : ∃ k, (grp x).length = k + 1 := ⟨(grp x).length - 1, by omega⟩
  obtain ⟨b, off, rfl, hb0, hb1, hc⟩ := hr.mem hgp
  obtain ⟨g1, _, g3⟩ := grp_dg k x (by omega)
  have g4 := g3 hk.symm
  have hck := hc k (by omega)
  rw [g1, Nat.mod_eq_of_lt g4] at hck
  have HC := Lib.hid hc
  have HK := Lib.hid hk
  have e1 : ((k + 1 : Nat) : Int) - 1 = (k : Int) := by omega
  clear hc g1 g3
  rw [hk] at hr hgl ⊢
  clear hk hr hgp
  obtain ⟨q, hq⟩ : ∃ q, q = x / 1000000000 ^ k := ⟨_, rfl⟩
  rw [← hq] at hck g4
  have HQ := Lib.hid hq
  clear hq
  have hq32 : q < 4294967296 := by omega
  go_wp2_with fail
  refine (AppendUint_any w1.heap.size q _ (by omega) (Nat.le_refl _) HT1.out).mono ?_
  rintro e w2 ⟨v2, rfl, ho2, hb2⟩
  have HST : Hid (PrAt w1 w2 w1.heap.size x k v2) := by
    refine ⟨?_, hb2⟩
    rw [← HQ.out]; exact ho2
  clear ho2 hb2 hck HT1
  go_wp2
  go_loopw [5, 6] (fun tv iv wr => ∃ j : Nat, j ≤ k ∧ iv = .int .i64 ((j : Int) - 1) ∧ Hid (PrAt w1 wr w1.heap.size x j tv)) (fun _ iv _ => (intOf iv + 1).toNat)
  case atStart => exact ⟨k, Nat.le_refl _, by first | rfl | go_num, HST⟩
  case round =>
    obtain ⟨j, hj, rfl, HA⟩ := hrel
    clear HST
    rcases Nat.eq_zero_or_pos j with rfl | hj0
    · have hown := HA.out.own
      rw [Nat.pow_zero, Nat.div_one] at hown
      have HB := Lib.hid (HB1.out.trans (HA.out.below.mono hs1))
      have hpos := dec_len_pos x
      obtain ⟨l, hl⟩ : ∃ l, l = Lib.decDigits x := ⟨_, rfl⟩
      rw [← hl] at hown hpos hdl
      have HL := Lib.hid hl
      clear hl HA
      rcases hown.2 with ⟨-, h0⟩ | ⟨g, cap, cur, rfl, -, -, -, -, -, -⟩
      · omega
      · have hcv := run_convert_bytes_back (P := Tryd.prog) wr 41 9 5 ⟨g, 0, none⟩ cap l Tryd.underlying41 Tryd.underlying5 Tryd.underlying9 (fun j hj => hown.cells (g := g) rfl j _ (by simp [Lib.byteCells, hj]))
        clear hown
        go_wp2
        go_ret
        exact ⟨by rw [← HL.out]; rfl, HB.out⟩
    · obtain ⟨j, rfl⟩ : ∃ i, j = i + 1 := ⟨j - 1, by omega⟩
      have hd : dg (grp x) j < 1000000000 := by
        obtain ⟨a1, _, _⟩ := grp_dg j x (by rw [HK.out]; omega)
        rw [a1]; omega
      have HTX : Hid (Lib.decDigits (x / 1000000000 ^ j) = Lib.decDigits (x / 1000000000 ^ (j + 1)) ++ pad 9 (dg (grp x) j)) := grp_text (by rw [HK.out]; omega)
      have hcj : wr.cell? ⟨b, off + j, none⟩ = some (.int .u32 ((dg (grp x) j : Nat) : Int)) := (HA.out.below.cell hb1).trans (HC.out j (by rw [HK.out]; omega))
      have hll : (Lib.decDigits (x / 1000000000 ^ (j + 1))).length ≤ 1000000 := by
        have := dec_len_mono (x := x) (y := x / 1000000000 ^ (j + 1)) (Nat.div_le_self _ _)
        omega
      have e2 : ((j + 1 : Nat) : Int) - 1 = (j : Int) := by omega
      have OWN := Lib.hid HA.out.own
      have HB := Lib.hid HA.out.below
      have hsz := HA.out.below.size
      clear HA
      obtain ⟨u, hu⟩ : ∃ u, u = dg (grp x) j := ⟨_, rfl⟩
      rw [← hu] at hd hcj HTX
      clear hu
      go_wp2_with fail
      refine (appendGroup_any w1.heap.size u _ _ _ hd hll hsz OWN.out).mono ?_
      rintro e w3 ⟨v3, rfl, ho3, hb3⟩
      have HST2 : Hid (PrAt w1 w3 w1.heap.size x j v3) := ⟨by rw [HTX.out]; exact ho3, HB.out.trans hb3⟩
      clear ho3 hb3 OWN HB HTX hcj
      go_wp2
      go_roundw
      case rel => exact ⟨j, by omega, by go_num, HST2⟩
      case measure => simp [intOf]
end Go.Proofs.YtcmomoalohibiaaDoor
