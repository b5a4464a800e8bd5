/-
  The document's Same of two trees that came in or were made.
-/
import Derived.Test.YtcmkgoikmleanaaGreatDoorTgP
import Derived.Deep.RegionHeld3
namespace Go.Proofs.YtcmkgoikmleanaaGreatDoor
set_option maxRecDepth 20000
open Go.RowKit

set_option maxHeartbeats 3200000 in
theorem gSame_leaf {w : World} (k : Int) (y z : Rv) (s : ByteArray) (K K2 : Option Addr) (c c2 : Nat) (hrat : ∀ w', Below w.heap.size w w' → Calls Tryz.prog 22 #[.agg #[.bool y.s, .slice y.A y.n y.c, .slice y.B y.m y.d], .agg #[.bool z.s, .slice z.A z.n z.c, .slice z.B z.m z.d]] w' fun e w'' => e = .returned (.bool true) ∧ Below w'.heap.size w' w'') :
    Calls Tryz.prog 10 #[.agg #[.int .i64 k, .bool y.s, .slice y.A y.n y.c, .slice y.B y.m y.d, .string s, .slice K 0 c], .agg #[.int .i64 k, .bool z.s, .slice z.A z.n z.c, .slice z.B z.m z.d, .string s, .slice K2 0 c2]] w fun e w' => e = .returned (.bool true) ∧ Below w.heap.size w w' := by
  have k_1 := (C6.new w (.int .i64 k) (.bool y.s) (.slice y.A y.n y.c) (.slice y.B y.m y.d) (.string s) (.slice K 0 c)).alloc (.cells #[.int .i64 k, .bool z.s, .slice z.A z.n z.c, .slice z.B z.m z.d, .string s, .slice K2 0 c2] 27)
  have k_2 := C6.newAt (w := w.alloc (.cells #[.int .i64 k, .bool y.s, .slice y.A y.n y.c, .slice y.B y.m y.d, .string s, .slice K 0 c] 27)) (b := w.heap.size + 1) (.int .i64 k) (.bool z.s) (.slice z.A z.n z.c) (.slice z.B z.m z.d) (.string s) (.slice K2 0 c2) (by simp)
  have hb0 := ((Below.refl w.heap.size w).alloc (Nat.le_refl _) (.cells #[.int .i64 k, .bool y.s, .slice y.A y.n y.c, .slice y.B y.m y.d, .string s, .slice K 0 c] 27)).alloc (by simp) (.cells #[.int .i64 k, .bool z.s, .slice z.A z.n z.c, .slice z.B z.m z.d, .string s, .slice K2 0 c2] 27)
  obtain ⟨e0, e1, e2, e3, e4, e5⟩ := k_1.facts
  obtain ⟨d0, d1, d2, d3, d4, d5⟩ := k_2.facts
  have HR := hrat _ hb0
  go_enter Tryz.func10, Tryz.ntmps10
  go_wp2_with fail
  refine HR.mono ?_
  clear HR
  rintro e w1 ⟨rfl, hb⟩
  replace k_1 := k_1.below hb
  replace k_2 := k_2.below hb
  replace hb0 := hb0.trans (hb.mono hb0.size)
  clear hb e0 e1 e2 e3 e4 e5 d0 d1 d2 d3 d4 d5
  obtain ⟨e0, e1, e2, e3, e4, e5⟩ := k_1.facts
  obtain ⟨d0, d1, d2, d3, d4, d5⟩ := k_2.facts
  go_wp2
  go_loopw [5] (fun iv wr => iv = .int .i64 0 ∧ wr = w1) (fun _ _ => 0)
  case atStart => exact ⟨rfl, rfl⟩
  case round =>
    obtain ⟨rfl, rfl⟩ := hrel
    go_wp2
    go_ret
    exact ⟨rfl, hb0⟩
set_option maxHeartbeats 6400000 in
theorem gSame_step {w : World} (k : Int) (y z : Rv) (s : ByteArray) (b0 c0 off off2 n c c2 : Nat) (xs ys : Nat → Ev) (hn : n ≤ 2) (hpos : 0 < n) (hb : b0 < w.heap.size) (hc : c0 < w.heap.size)
    (hx : ∀ i, i < n → At6 w b0 (off + i * 6) (xs i)) (hy : ∀ i, i < n → At6 w c0 (off2 + i * 6) (ys i)) (IH : ∀ i, i < n → SameR w (xs i) (ys i))
    (hrat : ∀ w', Below w.heap.size w w' → Calls Tryz.prog 22 #[.agg #[.bool y.s, .slice y.A y.n y.c, .slice y.B y.m y.d], .agg #[.bool z.s, .slice z.A z.n z.c, .slice z.B z.m z.d]] w' fun e w'' => e = .returned (.bool true) ∧ Below w'.heap.size w' w'') :
    Calls Tryz.prog 10 #[.agg #[.int .i64 k, .bool y.s, .slice y.A y.n y.c, .slice y.B y.m y.d, .string s, .slice (some ⟨b0, off, none⟩) n c], .agg #[.int .i64 k, .bool z.s, .slice z.A z.n z.c, .slice z.B z.m z.d, .string s, .slice (some ⟨c0, off2, none⟩) n c2]] w fun e w' => e = .returned (.bool true) ∧ Below w.heap.size w w' := by
  have k_1 := (C6.new w (.int .i64 k) (.bool y.s) (.slice y.A y.n y.c) (.slice y.B y.m y.d) (.string s) (.slice (some ⟨b0, off, none⟩) n c)).alloc (.cells #[.int .i64 k, .bool z.s, .slice z.A z.n z.c, .slice z.B z.m z.d, .string s, .slice (some ⟨c0, off2, none⟩) n c2] 27)
  have k_2 := C6.newAt (w := w.alloc (.cells #[.int .i64 k, .bool y.s, .slice y.A y.n y.c, .slice y.B y.m y.d, .string s, .slice (some ⟨b0, off, none⟩) n c] 27)) (b := w.heap.size + 1) (.int .i64 k) (.bool z.s) (.slice z.A z.n z.c) (.slice z.B z.m z.d) (.string s) (.slice (some ⟨c0, off2, none⟩) n c2) (by simp)
  have hb0 := ((Below.refl w.heap.size w).alloc (Nat.le_refl _) (.cells #[.int .i64 k, .bool y.s, .slice y.A y.n y.c, .slice y.B y.m y.d, .string s, .slice (some ⟨b0, off, none⟩) n c] 27)).alloc (by simp) (.cells #[.int .i64 k, .bool z.s, .slice z.A z.n z.c, .slice z.B z.m z.d, .string s, .slice (some ⟨c0, off2, none⟩) n c2] 27)
  obtain ⟨e0, e1, e2, e3, e4, e5⟩ := k_1.facts
  obtain ⟨d0, d1, d2, d3, d4, d5⟩ := k_2.facts
  have HR := hrat _ hb0
  go_enter Tryz.func10, Tryz.ntmps10
  go_wp2_with fail
  refine HR.mono ?_
  clear HR
  rintro e w1 ⟨rfl, hb⟩
  replace k_1 := k_1.below hb
  replace k_2 := k_2.below hb
  replace hb0 := hb0.trans (hb.mono hb0.size)
  clear hb e0 e1 e2 e3 e4 e5 d0 d1 d2 d3 d4 d5
  obtain ⟨e0, e1, e2, e3, e4, e5⟩ := k_1.facts
  obtain ⟨d0, d1, d2, d3, d4, d5⟩ := k_2.facts
  go_wp2
  have hz1 := hb0.size
  clear e0 e1 e2 e3 e4 e5 d0 d1 d2 d3 d4 d5
  go_loopw [5] (fun iv wr => ∃ i : Nat, i ≤ n ∧ iv = .int .i64 i ∧ Below w.heap.size w wr ∧ C6 wr w.heap.size (.int .i64 k) (.bool y.s) (.slice y.A y.n y.c) (.slice y.B y.m y.d) (.string s) (.slice (some ⟨b0, off, none⟩) n c) ∧ C6 wr (w.heap.size + 1) (.int .i64 k) (.bool z.s) (.slice z.A z.n z.c) (.slice z.B z.m z.d) (.string s) (.slice (some ⟨c0, off2, none⟩) n c2)) (fun iv _ => n - (intOf iv).toNat)
  case atStart => exact ⟨0, Nat.zero_le _, rfl, hb0, k_1, k_2⟩
  case round =>
    clear k_1 k_2 hb0
    obtain ⟨i, hi, rfl, hb0, k_1, k_2⟩ := hrel
    obtain ⟨e0, e1, e2, e3, e4, e5⟩ := k_1.facts
    obtain ⟨d0, d1, d2, d3, d4, d5⟩ := k_2.facts
    have a0 : (0 : Int) ≤ (i : Int) := by omega
    by_cases hlt : i < n
    · have a1 : (i : Int) < (n : Int) := by omega
      have a2 : (i : Int) ≤ 2 := by omega
      have HC := Lib.hid (IH i hlt wr.drew (hb0.drew))
      have hx6 := (hx i hlt).keep (hb0.block b0 hb)
      have hy6 := (hy i hlt).keep (hb0.block c0 hc)
      generalize xs i = p at *
      generalize ys i = q at *
      obtain ⟨x0, x1, x2, x3, x4, x5⟩ := hx6
      obtain ⟨y0, y1, y2, y3, y4, y5⟩ := hy6
      go_wp2_with fail
      have hx7 : At6 wr.drew b0 (off + i * 6) p := ⟨x0, x1, x2, x3, x4, x5⟩
      have hy7 : At6 wr.drew c0 (off2 + i * 6) q := ⟨y0, y1, y2, y3, y4, y5⟩
      have hbw : b0 < wr.drew.heap.size := Nat.lt_of_lt_of_le hb hb0.size
      have hcw : c0 < wr.drew.heap.size := Nat.lt_of_lt_of_le hc hb0.size
      replace k_1 := k_1.drew
      replace k_2 := k_2.drew
      replace hb0 := hb0.drew
      go_region_held3 (fun w' => w'.cell? ⟨w.heap.size, 5, none⟩ = some (.slice (some ⟨b0, off, none⟩) n c) ∧ w'.cell? ⟨w.heap.size + 1, 5, none⟩ = some (.slice (some ⟨c0, off2, none⟩) n c2) ∧ w'.cell? ⟨b0, off + i * 6, none⟩ = some (.int .i64 p.k) ∧ w'.cell? ⟨b0, off + i * 6 + 1, none⟩ = some (.bool p.r.s) ∧ w'.cell? ⟨b0, off + i * 6 + 2, none⟩ = some (.slice p.r.A p.r.n p.r.c) ∧ w'.cell? ⟨b0, off + i * 6 + 3, none⟩ = some (.slice p.r.B p.r.m p.r.d) ∧ w'.cell? ⟨b0, off + i * 6 + 4, none⟩ = some (.string p.s) ∧ w'.cell? ⟨b0, off + i * 6 + 5, none⟩ = some (.slice p.K p.n p.c) ∧ w'.cell? ⟨c0, off2 + i * 6, none⟩ = some (.int .i64 q.k) ∧ w'.cell? ⟨c0, off2 + i * 6 + 1, none⟩ = some (.bool q.r.s) ∧ w'.cell? ⟨c0, off2 + i * 6 + 2, none⟩ = some (.slice q.r.A q.r.n q.r.c) ∧ w'.cell? ⟨c0, off2 + i * 6 + 3, none⟩ = some (.slice q.r.B q.r.m q.r.d) ∧ w'.cell? ⟨c0, off2 + i * 6 + 4, none⟩ = some (.string q.s) ∧ w'.cell? ⟨c0, off2 + i * 6 + 5, none⟩ = some (.slice q.K q.n q.c)) (go_keep)
        (first
        | (go_at_call 10
           refine HC.out.mono ?_
           rintro e w2 ⟨rfl, hbx⟩
           replace k_1 := k_1.below hbx
           replace k_2 := k_2.below hbx
           replace hb0 := hb0.trans (hbx.mono hb0.size)
           have hx8 := hx7.keep (hbx.block b0 hbw)
           have hy8 := hy7.keep (hbx.block c0 hcw)
           clear hbx hx7 hy7 e0 e1 e2 e3 e4 e5 d0 d1 d2 d3 d4 d5 x0 x1 x2 x3 x4 x5 y0 y1 y2 y3 y4 y5
           obtain ⟨x0, x1, x2, x3, x4, x5⟩ := hx8
           obtain ⟨y0, y1, y2, y3, y4, y5⟩ := hy8
           obtain ⟨e0, e1, e2, e3, e4, e5⟩ := k_1.facts
           obtain ⟨d0, d1, d2, d3, d4, d5⟩ := k_2.facts))
      go_wp2
      go_roundw
      case rel => exact ⟨i + 1, by omega, by go_num, hb0, k_1, k_2⟩
      case measure => simp [intOf]; omega
    · have e : i = n := by omega
      have a1 : ¬ (i : Int) < (n : Int) := by omega
      go_wp2
      go_ret
      exact ⟨rfl, hb0⟩

theorem blk_same {w : World} {y z : Rv} (hy : Blk w y) (hz : Blk w z) : ∀ w', Below w.heap.size w w' → Calls Tryz.prog 22 #[.agg #[.bool y.s, .slice y.A y.n y.c, .slice y.B y.m y.d], .agg #[.bool z.s, .slice z.A z.n z.c, .slice z.B z.m z.d]] w' fun e w'' => e = .returned (.bool true) ∧ Below w'.heap.size w' w'' :=
  fun w' hb => rSame_v y z 0 0 true w' (((blk_rw (p := 16) hy (by omega)).below hb).more (by omega)) (((blk_rw (p := 16) hz (by omega)).below hb).more (by omega)) (decide_eq_true rfl)
/-- Two that read as one tree are one. -/
theorem gSame_c : ∀ (t : Ex) (v u : Ev) (w : World), t.fine → Tg w t v → Tg w t u → Calls Tryz.prog 10 #[.agg #[.int .i64 v.k, .bool v.r.s, .slice v.r.A v.r.n v.r.c, .slice v.r.B v.r.m v.r.d, .string v.s, .slice v.K v.n v.c], .agg #[.int .i64 u.k, .bool u.r.s, .slice u.r.A u.r.n u.r.c, .slice u.r.B u.r.m u.r.d, .string u.s, .slice u.K u.n u.c]] w fun e w' => e = .returned (.bool true) ∧ Below w.heap.size w w' := by
  intro t
  induction t with
  | bad => exact fun v u w hf => hf.elim
  | num r =>
    intro v u w hf hv hu
    obtain ⟨vk, y, st, K, n, c⟩ := v
    obtain ⟨uk, z, su, K2, n2, c2⟩ := u
    obtain ⟨h1, h2, h3, hr⟩ := hv
    obtain ⟨g1, g2, g3, gr⟩ := hu
    dsimp only at h1 h2 h3 hr g1 g2 g3 gr
    subst h1; subst h2; subst h3; subst g1; subst g2; subst g3
    have hsz : Sz r 16 := ⟨Bd.ofL hf.1, Bd.ofL hf.2.1⟩
    exact gSame_leaf 1 y z ⟨#[]⟩ K K2 c c2 fun w' hb => rSame_v y z r r true w' (((hr.below hb).rw hsz).more (by omega)) (((gr.below hb).rw hsz).more (by omega)) (decide_eq_true rfl)
  | nm s =>
    intro v u w _ hv hu
    obtain ⟨vk, y, st, K, n, c⟩ := v
    obtain ⟨uk, z, su, K2, n2, c2⟩ := u
    obtain ⟨h1, h2, h3, hr⟩ := hv
    obtain ⟨g1, g2, g3, gr⟩ := hu
    dsimp only at h1 h2 h3 hr g1 g2 g3 gr
    subst h1; subst h2; subst h3; subst g1; subst g2; subst g3
    exact gSame_leaf 2 y z _ K K2 c c2 (blk_same hr gr)
  | bin k a b iha ihb =>
    intro v u w hf hv hu
    obtain ⟨vk, y, st, K, n, c⟩ := v
    obtain ⟨uk, z, su, K2, n2, c2⟩ := u
    obtain ⟨h1, h2, h3, hr, b0, off, p, q, h5, h6, h7, h8, h9, h10⟩ := hv
    obtain ⟨g1, g2, g3, gr, d0, off2, p2, q2, g5, g6, g7, g8, g9, g10⟩ := hu
    dsimp only at h1 h2 h3 hr h5 g1 g2 g3 gr g5
    subst h1; subst h2; subst h3; subst h5; subst g1; subst g2; subst g3; subst g5
    refine gSame_step (k : Int) y z ⟨#[]⟩ b0 d0 off off2 2 c c2 (two_ p q) (two_ p2 q2) (by omega) (by omega) h6 g6 ?_ ?_ ?_ (blk_same hr gr)
    · intro i hi
      rcases i with _ | _ | i
      · exact h7
      · exact h8
      · omega
    · intro i hi
      rcases i with _ | _ | i
      · exact g7
      · exact g8
      · omega
    · intro i hi w1 hb1
      rcases i with _ | _ | i
      · exact iha p p2 w1 hf.1 (Tg.below hb1 _ _ h9) (Tg.below hb1 _ _ g9)
      · exact ihb q q2 w1 hf.2 (Tg.below hb1 _ _ h10) (Tg.below hb1 _ _ g10)
      · omega
  | neg a iha =>
    intro v u w hf hv hu
    obtain ⟨vk, y, st, K, n, c⟩ := v
    obtain ⟨uk, z, su, K2, n2, c2⟩ := u
    obtain ⟨h1, h2, h3, hr, b0, off, p, h5, h6, h7, h8⟩ := hv
    obtain ⟨g1, g2, g3, gr, d0, off2, p2, g5, g6, g7, g8⟩ := hu
    dsimp only at h1 h2 h3 hr h5 g1 g2 g3 gr g5
    subst h1; subst h2; subst h3; subst h5; subst g1; subst g2; subst g3; subst g5
    refine gSame_step 7 y z ⟨#[]⟩ b0 d0 off off2 1 c c2 (fun _ => p) (fun _ => p2) (by omega) (by omega) h6 g6 ?_ ?_ ?_ (blk_same hr gr)
    · intro i hi
      rcases i with _ | i
      · exact h7
      · omega
    · intro i hi
      rcases i with _ | i
      · exact g7
      · omega
    · intro i hi w1 hb1
      exact iha p p2 w1 hf (Tg.below hb1 _ _ h8) (Tg.below hb1 _ _ g8)
end Go.Proofs.YtcmkgoikmleanaaGreatDoor
