/-
  GraphRings: pairs in a row are a forest; the pair that joins its ends closes a ring, and is the first that does.
-/
import Derived.Test.YtkfkjdpkkagjgaaPrs
import Derived.Deep.Cut
namespace Go.Proofs.Ytkfkjdpkkagjgaa
set_option maxRecDepth 20000
open Go.RowKit

/-- What the law's row holds after k pairs. -/
structure RAt (w wr : World) (A : Option Addr) (c k : Nat) (es : List (Nat × Nat)) : Prop where
  it : ∃ ps : List (Cv × List Tv), OwnC wr w.heap.size A c k (ps.map (·.1)) ∧ PL wr (A.map (·.block)) ps es
  below : Below w.heap.size w wr
/-- One pair more. -/
theorem RAt.more {w wr w1 w3 : World} {A A3 : Option Addr} {c k c3 G a b : Nat} {z zk : Rv} {es : List (Nat × Nat)} {ps : List (Cv × List Tv)}
    (ho : OwnC wr w.heap.size A c k (ps.map (·.1))) (hp : PL wr (A.map (·.block)) ps es) (hb : Below w.heap.size w wr) (ht : Two w1 wr.heap.size G a b z zk) (hb1 : Below wr.heap.size wr w1)
    (hown : OwnC w3 w.heap.size A3 c3 (k + 1) (ps.map (·.1) ++ [pv G zk])) (hg : (w1.alloc (.cells #[.int .i64 0, .slice (some ⟨G, 0, none⟩) 2 2, .bool zk.s, .slice zk.A zk.n zk.c, .slice zk.B zk.m zk.d] 28)).grownBy w3 (A.map (·.block)))
    (hw : A3.map (·.block) = A.map (·.block) ∨ A3.map (·.block) = some (w1.alloc (.cells #[.int .i64 0, .slice (some ⟨G, 0, none⟩) 2 2, .bool zk.s, .slice zk.A zk.n zk.c, .slice zk.B zk.m zk.d] 28)).heap.size) : RAt w w3 A3 c3 (k + 1) (es ++ [(a, b)]) := by
  generalize hV : w1.alloc (.cells #[.int .i64 0, .slice (some ⟨G, 0, none⟩) 2 2, .bool zk.s, .slice zk.A zk.n zk.c, .slice zk.B zk.m zk.d] 28) = V at *
  have hbV : Below w1.heap.size w1 V := hV ▸ (Below.refl _ _).alloc (Nat.le_refl _) _
  have hbW : Below wr.heap.size wr V := hb1.trans (hbV.mono hb1.size)
  have hkeep : Keep V (A.map (·.block)) G a b z zk := fun w2 h2 => ((ht.below hbV).grownLo h2 fun q hq => by
    cases A with
    | none => cases hq
    | some ad => injection hq with hq; subst hq; exact (ho.lt ad rfl).2).low
  have hpV : PL V (A.map (·.block)) ps es := hp.move (grown_any hbW _) (.inl rfl)
  refine ⟨⟨ps ++ [(pv G zk, [⟨(a : Int), z⟩, ⟨(b : Int), z⟩])], by rw [List.map_append]; exact hown, (PL.snoc (e := (a, b)) ⟨G, z, zk, rfl, hkeep⟩ hpV).move hg hw⟩, ?_⟩
  exact far_grown (hb.trans (hbW.mono hb.size)) (ho.below hbW) hg
set_option maxHeartbeats 12800000 in
theorem GraphRings_any (n : Int) (w : World) (hn : 0 ≤ n ∧ n ≤ 9223372036854775807 ∨ n < 0 ∧ -9223372036854775808 ≤ n) :
    Calls Try.prog 7 #[.int .i64 n] w fun e w' => e = .returned (.bool true) ∧ Below w.heap.size w w' := by
  by_cases h3 : n < 3
  · clear hn
    go_enter Try.func7, Try.ntmps7
    go_wp2_with fail
    refine (known11_c _).mono ?_
    rintro e w1 ⟨rfl, hb⟩
    have HB := Lib.hid hb
    clear hb
    go_wp2
    go_ret
    exact ⟨rfl, HB.out⟩
  · by_cases h40 : 40 < n
    · clear hn
      go_enter Try.func7, Try.ntmps7
      go_wp2_with fail
      refine (known11_c _).mono ?_
      rintro e w1 ⟨rfl, hb⟩
      have HB := Lib.hid hb
      clear hb
      go_wp2
      go_ret
      exact ⟨rfl, HB.out⟩
    · obtain ⟨N, rfl⟩ : ∃ N : Nat, n = (N : Int) := ⟨n.toNat, by omega⟩
      clear hn
      have n3 : (3 : Int) ≤ (N : Int) := by omega
      have n40 : (N : Int) ≤ 40 := by omega
      have g3 : ¬ (N : Int) < 3 := by omega
      have g40 : ¬ (40 : Int) < (N : Int) := by omega
      have HBN : Hid (bndN (N : Int) = N) := by show _ = _; unfold bndN; omega
      clear h3 h40
      go_enter Try.func7, Try.ntmps7
      go_wp2
      go_loopw [3, 4] (fun lv iv wr => ∃ (k : Nat) (A2 : Option Addr) (c2 : Nat), k + 1 ≤ N ∧ iv = .int .i64 ((k : Int) + 1) ∧ lv = .slice A2 k c2 ∧ Hid (RAt w wr A2 c2 k (chainE k))) (fun _ iv _ => N - (intOf iv).toNat)
      case atStart => exact ⟨0, none, 0, by omega, rfl, rfl, Lib.hid ⟨⟨[], OwnC.nil_ _ _, trivial⟩, Below.refl _ _⟩⟩
      case round =>
        obtain ⟨k, A2, c2, hk, rfl, rfl, HR⟩ := hrel
        have k0 : (0 : Int) ≤ (k : Int) := by omega
        obtain ⟨ps, hps⟩ := HR.out.it
        have HP := Lib.hid hps
        have HB := Lib.hid HR.out.below
        clear hps
        by_cases hlt : k + 1 < N
        · have k1 : (k : Int) + 1 < (N : Int) := by omega
          clear HR
          go_wp2_with fail
          have s2 : (k : Int) + 1 = ((k + 1 : Nat) : Int) := by omega
          rw [s2]
          refine (pair_c k (k + 1) (by omega) wr).mono ?_
          rintro e w1 ⟨G, z, zk, rfl, ht, hb1⟩
          have HT := Lib.hid (And.intro ht hb1)
          clear ht hb1
          rw [← s2]
          clear s2
          go_wp2_with (at_builtin; refine wpc_append1 rfl _ _ rfl rfl rfl (lo := w.heap.size) (t := pv G zk) ((HP.out.1.below HT.out.2).below ((Below.refl _ _).alloc (Nat.le_refl _) _)) (At5.new w1 (pv G zk)) (by omega) (by have := HB.out.size; have := HT.out.2.size; simp; omega) ?_)
          intro A3 c3 w3 hown hgrow hwh
          have HR2 : Hid (RAt w w3 A3 c3 (k + 1) (chainE (k + 1))) := by
            show RAt _ _ _ _ _ _
            rw [chainE_succ]
            exact RAt.more HP.out.1 HP.out.2 HB.out HT.out.1 HT.out.2 hown hgrow (by simpa using hwh)
          clear hown hgrow hwh HP HT HB
          go_wp2
          go_roundw
          case rel => exact ⟨k + 1, A3, c3, by omega, by go_num, rfl, HR2⟩
          case measure => simp [intOf]; omega
        · have e : k = N - 1 := by omega
          have g1 : ¬ (k : Int) + 1 < (N : Int) := by omega
          clear HR
          have HCE : Hid (csOf wr N ps = prs (chainE k)) := HP.out.2.cs (chain_lt (by omega))
          have HGN : Hid (Gns wr A2 k ps) := HP.out.2.gns HP.out.1 (by omega)
          have HE := Lib.hid e
          clear e
          go_wp2_with fail
          refine (Forest_c (N : Int) N HBN.out A2 k c2 ps (prs (chainE k)) wr wr HGN.out HCE.out (Below.refl _ _)).mono ?_
          rintro e w1 ⟨⟨r, rfl, hr⟩, hb1⟩
          obtain rfl : r = true := hr.2 (chain_forest (by omega))
          have H1 : Hid (Below wr.heap.size wr w1) := hb1
          have HP1 : Hid (OwnC w1 w.heap.size A2 c2 k (ps.map (·.1)) ∧ PL w1 (A2.map (·.block)) ps (chainE k) ∧ Below w.heap.size w w1) := ⟨HP.out.1.below hb1, HP.out.2.move (grown_any hb1 _) (.inl rfl), HB.out.trans (hb1.mono HB.out.size)⟩
          clear hr hb1 HCE HGN HP HB H1
          go_wp2_with fail
          have s2 : (N : Int) - 1 = ((N - 1 : Nat) : Int) := by omega
          rw [s2]
          refine (pair_c 0 (N - 1) (by omega) w1).mono ?_
          rintro e w2 ⟨G, z, zk, rfl, ht, hb2⟩
          have HT := Lib.hid (And.intro ht hb2)
          clear ht hb2
          rw [← s2]
          clear s2
          go_wp2_with (at_builtin; refine wpc_append1 rfl _ _ rfl rfl rfl (lo := w.heap.size) (t := pv G zk) ((HP1.out.1.below HT.out.2).below ((Below.refl _ _).alloc (Nat.le_refl _) _)) (At5.new w2 (pv G zk)) (by omega) (by have := HP1.out.2.2.size; have := HT.out.2.size; simp; omega) ?_)
          intro A3 c3 w3 hown hgrow hwh
          have HR3 : Hid (RAt w w3 A3 c3 (k + 1) (chainE (N - 1) ++ [(0, N - 1)])) := by
            have := RAt.more HP1.out.1 HP1.out.2.1 HP1.out.2.2 HT.out.1 HT.out.2 hown hgrow (by simpa using hwh)
            rw [HE.out] at this ⊢
            exact this
          clear hown hgrow hwh HP1 HT
          obtain ⟨qs, hqs⟩ := HR3.out.it
          have HCE : Hid (csOf w3 N qs = prs (chainE (N - 1) ++ [(0, N - 1)])) := hqs.2.cs (ring_bnd (by omega))
          have HGN : Hid (Gns w3 A3 (k + 1) qs) := hqs.2.gns hqs.1 (by omega)
          have HB3 : Hid (Below w.heap.size w w3) := HR3.out.below
          have HRF : Hid (IsFst N (prs (chainE (N - 1) ++ [(0, N - 1)])) ((N : Int) - 1)) := ring_first (by omega)
          clear hqs HR3
          go_wp2_with fail
          refine (First_c (N : Int) N HBN.out A3 (k + 1) c3 qs _ w3 w3 HGN.out HCE.out (Below.refl _ _)).mono ?_
          rintro e w4 ⟨x, rfl, hx, hb4⟩
          obtain rfl := hx.uniq HRF.out
          have H4 : Hid (Below w3.heap.size w3 w4) := hb4
          clear hx hb4
          have ee : ((N : Int) - 1 == (N : Int) - 1) = true := by simp
          go_wp2_with fail
          refine (Forest_c (N : Int) N HBN.out A3 (k + 1) c3 qs _ w3 w4 HGN.out HCE.out H4.out).mono ?_
          rintro e w5 ⟨⟨r, rfl, hr⟩, hb5⟩
          obtain rfl : r = false := by
            cases r with
            | false => rfl
            | true =>
              have := HRF.out.forest.2 (hr.1 rfl)
              omega
          have H5 : Hid (Below w3.heap.size w3 w5) := H4.out.trans (hb5.mono H4.out.size)
          clear hr hb5
          go_wp2_with fail
          refine (known11_c _).mono ?_
          rintro e w6 ⟨rfl, hb6⟩
          have H6 : Hid (Below w.heap.size w w6) := HB3.out.trans ((H5.out.trans (hb6.mono H5.out.size)).mono HB3.out.size)
          clear hb6
          go_wp2
          go_ret
          exact ⟨rfl, H6.out⟩
end Go.Proofs.Ytkfkjdpkkagjgaa
