/-
  The document's start and join.
-/
import Derived.Test.YtjbhhccklfddaaaVGrC
import Derived.Deep.Cut
namespace Go.Proofs.Ytjbhhccklfddaaa
set_option maxRecDepth 20000
open Go.RowKit
set_option maxHeartbeats 1600000 in
theorem start_c (N : Nat) (hN : N ≤ 64) (w : World) : Calls Try.prog 40 #[.int .i64 (N : Int)] w fun e w' => ∃ A c, e = .returned (.slice A N c) ∧ OwnN w' w.heap.size A c N (List.range N) ∧ Below w.heap.size w w' := by
 have n0 : (0 : Int) ≤ (N : Int) := by omega
 have n1 : (N : Int) ≤ 64 := by omega
 go_enter Try.func40, Try.ntmps40
 go_wp2
 go_loopw [3, 4] (fun lv iv wr => ∃ (k : Nat) (A : Option Addr) (c : Nat), k ≤ N ∧ iv = .int .i64 k ∧ lv = .slice A k c ∧ Hid (OwnN wr w.heap.size A c k (List.range k) ∧ Below w.heap.size w wr)) (fun _ iv _ => N - (intOf iv).toNat)
 case atStart => exact ⟨0, none, 0, Nat.zero_le _, rfl, rfl, Lib.hid ⟨OwnN.nil_ _ _, Below.refl _ _⟩⟩
 case round =>
  obtain ⟨k, A, c, hk, rfl, rfl, HR⟩ := hrel
  have k0 : (0 : Int) ≤ (k : Int) := by omega
  by_cases hlt : k < N
  ·
   have k1 : (k : Int) < (N : Int) := by omega
   go_wp2_with (at_builtin; refine wpn_append rfl _ _ rfl rfl rfl (lo := w.heap.size) (HR.out.1.alloc _) (IRow.one k) (by omega) (by have := HR.out.2.size; simp; omega) ?_)
   intro A2 c2 w2 ho hg
   have HR2 : Hid (OwnN w2 w.heap.size A2 c2 (k + 1) (List.range (k + 1)) ∧ Below w.heap.size w w2) := by
    refine ⟨by rw [List.range_succ]; exact ho, ?_⟩
    refine (HR.out.2.alloc HR.out.2.size _).grown hg (by have := HR.out.2.size; simp; omega) ?_
    intro q hq
    cases A with
    | none => cases hq
    | some ad => simp at hq; subst hq; exact HR.out.1.own.lt ad.block rfl |>.1
   clear ho hg
   go_wp2
   go_roundw
   case rel => exact ⟨k + 1, A2, c2, by omega, by go_num, rfl, HR2⟩
   case measure => simp [intOf]; omega
  ·
   have e : k = N := by omega
   subst e
   have k1 : ¬ (k : Int) < (k : Int) := by omega
   go_wp2
   go_ret
   exact ⟨A, c, rfl, HR.out.1, HR.out.2⟩
def RJPost (N lo : Nat) (A : Option Addr) (c : Nat) (l vs : List Nat) (w : World) (e : Ending) (w' : World) : Prop :=
 BPost (failR l vs = 0) e ∧ (failR l vs = 0 → OwnN w' lo A c N (starTo l vs (vs.length - 1))) ∧ (failR l vs ≠ 0 → OwnN w' lo A c N l) ∧ w.grownBy w' (A.map (·.block))
def TmsAt (w : World) (va : Cv) (A : Option Addr) (vs : List Nat) : Prop := ∃ bk off, va.A = some ⟨bk, off, none⟩ ∧ bk < w.heap.size ∧ (∀ ad, A = some ad → bk ≠ ad.block) ∧ ∀ j, j < va.n → w.cell? ⟨bk, off + j * 4, none⟩ = some (.int .i64 ((nth vs j : Nat) : Int))
set_option maxHeartbeats 12800000 in
theorem rjoin_c (A : Option Addr) (c0' N lo : Nat) (l vs : List Nat) (va : Cv) (w : World) (ho : OwnN w lo A c0' N l) (hN : N ≤ 64) (hn : vs.length = va.n) (hb : ∀ v ∈ vs, v < N) (h1000 : va.n ≤ 1000) (ht : 0 < va.n → TmsAt w va A vs) :
  Calls Try.prog 41 #[.slice A N c0', .agg #[.int .i64 va.s, .slice va.A va.n va.c, .bool va.K.s, .slice va.K.A va.K.n va.K.c, .slice va.K.B va.K.m va.K.d]] w (RJPost N lo A c0' l vs w) := by
 have ka := C5.new w (.int .i64 va.s) (.slice va.A va.n va.c) (.bool va.K.s) (.slice va.K.A va.K.n va.K.c) (.slice va.K.B va.K.m va.K.d)
 have hB : Below w.heap.size w (w.alloc (.cells #[.int .i64 va.s, .slice va.A va.n va.c, .bool va.K.s, .slice va.K.A va.K.n va.K.c, .slice va.K.B va.K.m va.K.d] 43)) := (Below.refl _ _).alloc (Nat.le_refl _) _
 have HK := Lib.hid (And.intro ka hB)
 have n1 : (va.n : Int) ≤ 1000 := by omega
 have n0 : (0 : Int) ≤ (va.n : Int) := by omega
 rcases Nat.eq_zero_or_pos va.n with hz | hz
 ·
  have hv : vs = [] := List.eq_nil_of_length_eq_zero (by omega)
  have HO := Lib.hid ho
  subst hv
  have HF : Hid (RJPost N lo A c0' l [] w (.returned (.bool true)) (w.alloc (.cells #[.int .i64 va.s, .slice va.A va.n va.c, .bool va.K.s, .slice va.K.A va.K.n va.K.c, .slice va.K.B va.K.m va.K.d] 43))) := ⟨.yes rfl rfl, fun _ => HO.out.alloc _, fun _ => HO.out.alloc _, grown_any hB _⟩
  have HKF := Lib.hid ka.facts
  have HZ := Lib.hid hz
  clear ka hB ho hn hb ht HK HO hz
  go_enter Try.func41, Try.ntmps41
  go_wp2_with fail
  generalize w.alloc (.cells #[.int .i64 va.s, .slice va.A va.n va.c, .bool va.K.s, .slice va.K.A va.K.n va.K.c, .slice va.K.B va.K.m va.K.d] 43) = W at *
  obtain ⟨B, hBd⟩ : ∃ B, B = w.heap.size := ⟨_, rfl⟩
  rw [← hBd] at HKF
  rw [← hBd]
  clear hBd
  obtain ⟨a0, a1, a2, a3, a4⟩ := HKF.out
  rw [HZ.out] at a1
  clear n0 n1 h1000
  go_wp2
  go_loopw [4, 5, 6] (fun _ iv _ wr => iv = .int .i64 0 ∧ W = wr) (fun _ _ _ _ => 0)
  case atStart => exact ⟨rfl, rfl⟩
  case round =>
   obtain ⟨rfl, rfl⟩ := hrel
   go_wp2
   go_loopw [7, 8, 9, 10, 11, 12] (fun iv _ _ _ _ _ wr => iv = .int .i64 1 ∧ W = wr) (fun _ _ _ _ _ _ _ => 0)
   case atStart => exact ⟨rfl, rfl⟩
   case round =>
    obtain ⟨rfl, rfl⟩ := hrel
    go_wp2
    go_ret
    exact HF.out
 ·
  obtain ⟨bk, off, hA, hbk, hne, hcell⟩ := ht hz
  obtain ⟨v0, hv0⟩ : ∃ v, v ∈ vs := by
   cases vs with
   | nil => simp at hn; omega
   | cons v _ => exact ⟨v, List.mem_cons_self⟩
  have hN0 : 0 < N := by have := hb v0 hv0; omega
  obtain ⟨g, hg, hg1, hg2⟩ := ho.form hN0
  subst hg
  have HG : Hid (lo ≤ g ∧ g < w.heap.size ∧ bk ≠ g ∧ bk < w.heap.size) := ⟨hg1, hg2, hne _ rfl, hbk⟩
  have HO := Lib.hid ho
  have HA := Lib.hid hA
  have HCE := Lib.hid hcell
  have HBD : Hid (∀ j, j < va.n → nth vs j < N) := fun j hj => hb _ (nth_mem (by omega))
  have HVL := Lib.hid hn
  clear ka hB ho hn hb ht hA hcell hv0 hg1 hg2 hne hbk
  go_enter Try.func41, Try.ntmps41
  go_wp2_with fail
  generalize w.alloc (.cells #[.int .i64 va.s, .slice va.A va.n va.c, .bool va.K.s, .slice va.K.A va.K.n va.K.c, .slice va.K.B va.K.m va.K.d] 43) = W at *
  obtain ⟨B, hBd⟩ : ∃ B, B = w.heap.size := ⟨_, rfl⟩
  have HBg : Hid (B = w.heap.size) := hBd
  rw [← hBd] at HK
  rw [← hBd]
  clear hBd
  have HWw : Hid (Below w.heap.size w W) := HBg.out ▸ HK.out.2
  have HRD : Hid (∀ wr, W.grownBy wr (some g) → C5 wr B (.int .i64 va.s) (.slice va.A va.n va.c) (.bool va.K.s) (.slice va.K.A va.K.n va.K.c) (.slice va.K.B va.K.m va.K.d) ∧ ∀ j, j < va.n → wr.cell? ⟨bk, off + j * 4, none⟩ = some (.int .i64 ((nth vs j : Nat) : Int))) := by
   intro wr hgr
   have hG := HG.out
   have hs := HWw.out.size
   refine ⟨(hgr.block B HK.out.1.lt (by have := HBg.out; simp; omega)).trans HK.out.1, fun j hj => ?_⟩
   have h1 : wr.heap[bk]? = w.heap[bk]? := (hgr.block bk (by omega) (by simp; omega)).trans (HWw.out.block bk hG.2.2.2)
   exact (World.cell?_of_block h1).trans (HCE.out j hj)
  have HOW : Hid (OwnN W lo (some ⟨g, 0, none⟩) c0' N l) := HO.out.below HWw.out
  clear HO
  go_wp2
  go_loopw [4, 5, 6] (fun _ iv _ wr => ∃ i : Nat, i ≤ va.n ∧ iv = .int .i64 i ∧ Hid (Below W.heap.size W wr) ∧ Hid (∀ q p, q < p → p < i → rt l (nth vs q) ≠ rt l (nth vs p))) (fun _ iv _ _ => va.n - (intOf iv).toNat)
  case atStart => exact ⟨0, Nat.zero_le _, rfl, Lib.hid (Below.refl _ _), Lib.hid (fun q p _ h => absurd h (Nat.not_lt_zero _))⟩
  case round =>
   obtain ⟨i, hi, rfl, HBR, HD⟩ := hrel
   have i0 : (0 : Int) ≤ (i : Int) := by omega
   obtain ⟨h5, hcl⟩ := HRD.out wr (grown_any HBR.out _)
   obtain ⟨a0, a1, a2, a3, a4⟩ := h5.facts
   rw [HA.out] at a1
   by_cases hlt : i < va.n
   ·
    have i1 : (i : Int) < (va.n : Int) := by omega
    clear h5 hcl
    go_wp2
    clear a0 a1 a2 a3 a4
    go_loopw [4, 6] (fun _ kv wr => ∃ k : Nat, k ≤ i ∧ kv = .int .i64 k ∧ Hid (Below W.heap.size W wr) ∧ Hid (∀ q, q < k → rt l (nth vs q) ≠ rt l (nth vs i))) (fun _ kv _ => i - (intOf kv).toNat)
    case atStart => exact ⟨0, Nat.zero_le _, rfl, HBR, Lib.hid (fun q h => absurd h (Nat.not_lt_zero _))⟩
    case round =>
     clear HBR
     obtain ⟨k, hk, rfl, HBR, HQ⟩ := hrel
     have k0 : (0 : Int) ≤ (k : Int) := by omega
     by_cases hki : k < i
     ·
      have k1 : (k : Int) < (i : Int) := by omega
      have k2 : (k : Int) < (va.n : Int) := by omega
      obtain ⟨h5, hcl⟩ := HRD.out wr (grown_any HBR.out _)
      obtain ⟨a0, a1, a2, a3, a4⟩ := h5.facts
      rw [HA.out] at a1
      have x0 := hcl i hlt
      have y0 := hcl k (by omega)
      have bu := HBD.out i hlt
      have bv := HBD.out k (by omega)
      have c0 := (HOW.out.below HBR.out).cell bu
      have c1 := (HOW.out.below HBR.out).cell bv
      have NE : Hid (rt l (nth vs k) = rt l (nth vs i) → failR l vs ≠ 0) := fun e h => fail_zero.1 h k i hki (by have := HVL.out; omega) e
      have NQ : Hid (rt l (nth vs k) ≠ rt l (nth vs i) → ∀ q, q < k + 1 → rt l (nth vs q) ≠ rt l (nth vs i)) := fun e q hq => by
       by_cases eq : q = k
       · rw [eq]; exact e
       · exact HQ.out q (by omega)
      clear h5 hcl
      generalize nth vs i = u at *
      generalize nth vs k = v at *
      have u0 : (0 : Int) ≤ (u : Int) := by omega
      have u1 : (u : Int) < (N : Int) := by omega
      have w0 : (0 : Int) ≤ (v : Int) := by omega
      have w1 : (v : Int) < (N : Int) := by omega
      generalize rt l u = x at *
      generalize rt l v = y at *
      by_cases hxy : y = x
      ·
       have HF := Lib.hid (NE.out hxy)
       clear NE NQ HQ HD
       subst hxy
       have e3 : ((y : Int) == (y : Int)) = true := by simp
       go_wp2
       go_region
       go_wp2
       go_ret
       have hbw := HWw.out.trans (HBR.out.mono HWw.out.size)
       exact ⟨.no HF.out rfl, fun h => absurd h HF.out, fun _ => HOW.out.below HBR.out.drew, grown_any hbw.drew _⟩
      ·
       have HQ2 := Lib.hid (NQ.out hxy)
       clear NE NQ HQ
       have e3 : ((x : Int) == (y : Int)) = false := beq_eq_false_iff_ne.2 (by omega)
       have e4 : ¬ (x : Int) = (y : Int) := by omega
       go_wp2
       go_region
       go_wp2
       go_roundw
       case rel => exact ⟨k + 1, by omega, by go_num, Lib.hid HBR.out.drew, HQ2⟩
       case measure => simp [intOf]; omega
     ·
      have e : k = i := by omega
      have HD2 : Hid (∀ q p, q < p → p < i + 1 → rt l (nth vs q) ≠ rt l (nth vs p)) := fun q p hqp hp => by
       by_cases ep : p = i
       · rw [ep]; exact HQ.out q (by omega)
       · exact HD.out q p hqp (by omega)
      have k1 : ¬ (k : Int) < (i : Int) := by omega
      clear e HQ HD
      go_wp2
      go_roundw
      case rel => exact ⟨i + 1, by omega, by go_num, HBR, HD2⟩
      case measure => simp [intOf]; omega
   ·
    have e : i = vs.length := by have := HVL.out; omega
    have HF : Hid (failR l vs = 0) := fail_zero.2 fun q p hqp hp => HD.out q p hqp (by omega)
    have i1 : ¬ (i : Int) < (va.n : Int) := by omega
    clear e HD hcl h5
    go_wp2
    clear a0 a1 a2 a3 a4
    go_loopw [7, 8, 9, 10, 11, 12] (fun iv _ _ _ _ _ wr => ∃ j : Nat, j + 1 ≤ va.n ∧ iv = .int .i64 ((j : Int) + 1) ∧ Hid (OwnN wr lo (some ⟨g, 0, none⟩) c0' N (starTo l vs j) ∧ W.grownBy wr (some g))) (fun iv _ _ _ _ _ _ => va.n + 1 - (intOf iv).toNat)
    case atStart => exact ⟨0, by omega, rfl, Lib.hid ⟨HOW.out.below HBR.out, grown_any HBR.out _⟩⟩
    case round =>
     obtain ⟨j, hj, rfl, HS⟩ := hrel
     have j0 : (0 : Int) ≤ (j : Int) + 1 := by omega
     obtain ⟨h5, hcl⟩ := HRD.out wr HS.out.2
     obtain ⟨a0, a1, a2, a3, a4⟩ := h5.facts
     rw [HA.out] at a1
     by_cases hjn : j + 1 < va.n
     ·
      have j1 : (j : Int) + 1 < (va.n : Int) := by omega
      have j2 : (0 : Int) < (va.n : Int) := by omega
      have x0 : wr.cell? ⟨bk, off, none⟩ = some (.int .i64 ((nth vs 0 : Nat) : Int)) := by have := hcl 0 hz; rwa [Nat.zero_mul, Nat.add_zero] at this
      have y0 := hcl (j + 1) hjn
      have bu := HBD.out 0 hz
      have bv := HBD.out (j + 1) hjn
      have HEM : Hid (mrg (starTo l vs j) (nth vs 0) (nth vs (j + 1)) = starTo l vs (j + 1)) := rfl
      have HSL : Hid ((starTo l vs j).length = N) := HS.out.1.len
      generalize starTo l vs j = S at *
      have c0 := HS.out.1.cell bu
      have c1 := HS.out.1.cell bv
      clear h5 hcl
      generalize nth vs 0 = u at *
      generalize nth vs (j + 1) = v at *
      have HMG : Hid (mrg S u v = S.map (trn (min (rt S u) (rt S v)) (max (rt S u) (rt S v)))) := rfl
      have u0 : (0 : Int) ≤ (u : Int) := by omega
      have u1 : (u : Int) < (N : Int) := by omega
      have w0 : (0 : Int) ≤ (v : Int) := by omega
      have w1 : (v : Int) < (N : Int) := by omega
      generalize rt S u = x at *
      generalize rt S v = y at *
      have n2 : (N : Int) ≤ 64 := by omega
      have n3 : (0 : Int) ≤ (N : Int) := by omega
      rcases Nat.lt_trichotomy x y with h | h | h
      ·
       have m1 : min (x : Int) (y : Int) = (x : Int) := by omega
       have m2 : max (x : Int) (y : Int) = (y : Int) := by omega
       have HMI : Hid (S.map (trn x y) = mrg S u v) := by show _ = _; rw [HMG.out, Nat.min_eq_left (by omega), Nat.max_eq_right (by omega)]
       clear h HMG
       go_wp2
       go_region
       go_wp2
       clear x0 y0 a0 a1 a2 a3 a4 c0 c1
       go_loopw [12] (fun kv wr => ∃ k : Nat, k ≤ N ∧ kv = .int .i64 k ∧ Hid (OwnN wr lo (some ⟨g, 0, none⟩) c0' N (halfT S x y k) ∧ W.grownBy wr (some g))) (fun kv _ => N - (intOf kv).toNat)
       case atStart => exact ⟨0, Nat.zero_le _, rfl, Lib.hid ⟨HS.out.1.drew, HS.out.2.trans (grown_any ((Below.refl _ _).drew) _)⟩⟩
       case round =>
        clear HS
        obtain ⟨k, hk, rfl, HR⟩ := hrel
        have k0 : (0 : Int) ≤ (k : Int) := by omega
        by_cases hkN : k < N
        ·
         have k1 : (k : Int) < (N : Int) := by omega
         have hkl : k < S.length := by rw [HSL.out]; exact hkN
         have hc := HR.out.1.cell hkN
         rw [halfT_rt hkl] at hc
         have hth := HR.out.1.thaw k
         by_cases hz : rt S k = y
         ·
          have HR2 : Hid (OwnN (wr.setCell ⟨g, k, none⟩ (.int .i64 (x : Int))) lo (some ⟨g, 0, none⟩) c0' N (halfT S x y (k + 1)) ∧ W.grownBy (wr.setCell ⟨g, k, none⟩ (.int .i64 (x : Int))) (some g)) := ⟨halfT_turn hkl hz ▸ HR.out.1.set k x, HR.out.2.trans (set_grown wr g k _)⟩
          rw [hz] at hc
          have e3 : ((y : Int) == (y : Int)) = true := by simp
          clear hz hkl HR
          go_wp2
          go_roundw
          case rel => exact ⟨k + 1, by omega, by go_num, HR2⟩
          case measure => simp [intOf]; omega
         ·
          have HR2 : Hid (OwnN wr lo (some ⟨g, 0, none⟩) c0' N (halfT S x y (k + 1)) ∧ W.grownBy wr (some g)) := by
           have := HR.out
           rw [halfT_keep hkl hz] at this
           exact this
          generalize rt S k = z at *
          have e3 : ((z : Int) == (y : Int)) = false := beq_eq_false_iff_ne.2 (by omega)
          have e4 : ¬ (z : Int) = (y : Int) := by omega
          clear hz hkl HR
          go_wp2
          go_roundw
          case rel => exact ⟨k + 1, by omega, by go_num, HR2⟩
          case measure => simp [intOf]; omega
        ·
         have e : k = S.length := by rw [HSL.out]; omega
         have HR2 : Hid (OwnN wr lo (some ⟨g, 0, none⟩) c0' N (starTo l vs (j + 1)) ∧ W.grownBy wr (some g)) := by
          have := HR.out
          rw [e, halfT_all, HMI.out, HEM.out] at this
          exact this
         have k1 : ¬ (k : Int) < (N : Int) := by omega
         clear e HR
         go_wp2
         go_roundw
         case rel => exact ⟨j + 1, by omega, by go_num, HR2⟩
         case measure => simp [intOf]; omega
      ·
       have HMI : Hid (S.map (trn x x) = mrg S u v) := by show _ = _; rw [HMG.out, ← h, Nat.min_self, Nat.max_self]
       clear HMG
       subst h
       go_wp2
       go_region
       go_wp2
       clear x0 y0 a0 a1 a2 a3 a4 c0 c1
       go_loopw [12] (fun kv wr => ∃ k : Nat, k ≤ N ∧ kv = .int .i64 k ∧ Hid (OwnN wr lo (some ⟨g, 0, none⟩) c0' N (halfT S x x k) ∧ W.grownBy wr (some g))) (fun kv _ => N - (intOf kv).toNat)
       case atStart => exact ⟨0, Nat.zero_le _, rfl, Lib.hid ⟨HS.out.1.drew, HS.out.2.trans (grown_any ((Below.refl _ _).drew) _)⟩⟩
       case round =>
        clear HS
        obtain ⟨k, hk, rfl, HR⟩ := hrel
        have k0 : (0 : Int) ≤ (k : Int) := by omega
        by_cases hkN : k < N
        ·
         have k1 : (k : Int) < (N : Int) := by omega
         have hkl : k < S.length := by rw [HSL.out]; exact hkN
         have hc := HR.out.1.cell hkN
         rw [halfT_rt hkl] at hc
         have hth := HR.out.1.thaw k
         by_cases hz : rt S k = x
         ·
          have HR2 : Hid (OwnN (wr.setCell ⟨g, k, none⟩ (.int .i64 (x : Int))) lo (some ⟨g, 0, none⟩) c0' N (halfT S x x (k + 1)) ∧ W.grownBy (wr.setCell ⟨g, k, none⟩ (.int .i64 (x : Int))) (some g)) := ⟨halfT_turn hkl hz ▸ HR.out.1.set k x, HR.out.2.trans (set_grown wr g k _)⟩
          rw [hz] at hc
          have e3 : ((x : Int) == (x : Int)) = true := by simp
          clear hz hkl HR
          go_wp2
          go_roundw
          case rel => exact ⟨k + 1, by omega, by go_num, HR2⟩
          case measure => simp [intOf]; omega
         ·
          have HR2 : Hid (OwnN wr lo (some ⟨g, 0, none⟩) c0' N (halfT S x x (k + 1)) ∧ W.grownBy wr (some g)) := by
           have := HR.out
           rw [halfT_keep hkl hz] at this
           exact this
          generalize rt S k = z at *
          have e3 : ((z : Int) == (x : Int)) = false := beq_eq_false_iff_ne.2 (by omega)
          have e4 : ¬ (z : Int) = (x : Int) := by omega
          clear hz hkl HR
          go_wp2
          go_roundw
          case rel => exact ⟨k + 1, by omega, by go_num, HR2⟩
          case measure => simp [intOf]; omega
        ·
         have e : k = S.length := by rw [HSL.out]; omega
         have HR2 : Hid (OwnN wr lo (some ⟨g, 0, none⟩) c0' N (starTo l vs (j + 1)) ∧ W.grownBy wr (some g)) := by
          have := HR.out
          rw [e, halfT_all, HMI.out, HEM.out] at this
          exact this
         have k1 : ¬ (k : Int) < (N : Int) := by omega
         clear e HR
         go_wp2
         go_roundw
         case rel => exact ⟨j + 1, by omega, by go_num, HR2⟩
         case measure => simp [intOf]; omega
      ·
       have m1 : min (x : Int) (y : Int) = (y : Int) := by omega
       have m2 : max (x : Int) (y : Int) = (x : Int) := by omega
       have HMI : Hid (S.map (trn y x) = mrg S u v) := by show _ = _; rw [HMG.out, Nat.min_eq_right (by omega), Nat.max_eq_left (by omega)]
       clear h HMG
       go_wp2
       go_region
       go_wp2
       clear x0 y0 a0 a1 a2 a3 a4 c0 c1
       go_loopw [12] (fun kv wr => ∃ k : Nat, k ≤ N ∧ kv = .int .i64 k ∧ Hid (OwnN wr lo (some ⟨g, 0, none⟩) c0' N (halfT S y x k) ∧ W.grownBy wr (some g))) (fun kv _ => N - (intOf kv).toNat)
       case atStart => exact ⟨0, Nat.zero_le _, rfl, Lib.hid ⟨HS.out.1.drew, HS.out.2.trans (grown_any ((Below.refl _ _).drew) _)⟩⟩
       case round =>
        clear HS
        obtain ⟨k, hk, rfl, HR⟩ := hrel
        have k0 : (0 : Int) ≤ (k : Int) := by omega
        by_cases hkN : k < N
        ·
         have k1 : (k : Int) < (N : Int) := by omega
         have hkl : k < S.length := by rw [HSL.out]; exact hkN
         have hc := HR.out.1.cell hkN
         rw [halfT_rt hkl] at hc
         have hth := HR.out.1.thaw k
         by_cases hz : rt S k = x
         ·
          have HR2 : Hid (OwnN (wr.setCell ⟨g, k, none⟩ (.int .i64 (y : Int))) lo (some ⟨g, 0, none⟩) c0' N (halfT S y x (k + 1)) ∧ W.grownBy (wr.setCell ⟨g, k, none⟩ (.int .i64 (y : Int))) (some g)) := ⟨halfT_turn hkl hz ▸ HR.out.1.set k y, HR.out.2.trans (set_grown wr g k _)⟩
          rw [hz] at hc
          have e3 : ((x : Int) == (x : Int)) = true := by simp
          clear hz hkl HR
          go_wp2
          go_roundw
          case rel => exact ⟨k + 1, by omega, by go_num, HR2⟩
          case measure => simp [intOf]; omega
         ·
          have HR2 : Hid (OwnN wr lo (some ⟨g, 0, none⟩) c0' N (halfT S y x (k + 1)) ∧ W.grownBy wr (some g)) := by
           have := HR.out
           rw [halfT_keep hkl hz] at this
           exact this
          generalize rt S k = z at *
          have e3 : ((z : Int) == (x : Int)) = false := beq_eq_false_iff_ne.2 (by omega)
          have e4 : ¬ (z : Int) = (x : Int) := by omega
          clear hz hkl HR
          go_wp2
          go_roundw
          case rel => exact ⟨k + 1, by omega, by go_num, HR2⟩
          case measure => simp [intOf]; omega
        ·
         have e : k = S.length := by rw [HSL.out]; omega
         have HR2 : Hid (OwnN wr lo (some ⟨g, 0, none⟩) c0' N (starTo l vs (j + 1)) ∧ W.grownBy wr (some g)) := by
          have := HR.out
          rw [e, halfT_all, HMI.out, HEM.out] at this
          exact this
         have k1 : ¬ (k : Int) < (N : Int) := by omega
         clear e HR
         go_wp2
         go_roundw
         case rel => exact ⟨j + 1, by omega, by go_num, HR2⟩
         case measure => simp [intOf]; omega
     ·
      have e : j = vs.length - 1 := by have := HVL.out; omega
      have j1 : ¬ (j : Int) + 1 < (va.n : Int) := by omega
      have HE : Hid (OwnN wr lo (some ⟨g, 0, none⟩) c0' N (starTo l vs (vs.length - 1)) ∧ w.grownBy wr (some g)) := by
       have := HS.out
       rw [e] at this
       exact ⟨this.1, (grown_any HWw.out _).trans this.2⟩
      clear e HS h5 hcl
      go_wp2
      go_ret
      exact ⟨.yes HF.out rfl, fun _ => HE.out.1, fun h => absurd HF.out h, HE.out.2⟩
end Go.Proofs.Ytjbhhccklfddaaa
