/-
  A law's argument opened: texts, rows of texts, histories, of a bulk that is bounded.
-/
import Derived.Test.YtaifgehmlfjljaaHsA
import Derived.Test.YtaifgehmlfjljaaRows
import Derived.ProofKit
import Derived.WalkKit
import Derived.WalkSpells
import Derived.WalkLawsBesides
import Derived.Deep.Strs
import Derived.ChangeArms
import Derived.SliceStrings
import Derived.ChangeMaps5
import Derived.Lib.SmallJoins
namespace Go.Proofs.Ytaifgehmlfjljaa
set_option maxRecDepth 20000
open Go.Deep Go.Joins Go.ChangeShapes Go.WideShapes Go.ChangeAt Go.RowKit Go.WideMaps Go.ChangeMaps

theorem Try.own : ownKnob Try.prog.godebug = none := by kernel_rfl
theorem Try.laidOut : laidOutB Try.prog = true := by kernel_rfl
theorem bulk_mem {H : Type} {d : DataW H} : ∀ {l : List (DataW H)}, d ∈ l → Rows.uptoBulk d ≤ Rows.uptoBulkAll l
  | [], h => by cases h
  | x :: l, h => by
    rw [Rows.uptoBulkAll]
    rcases List.mem_cons.1 h with rfl | h
    · omega
    · have := bulk_mem h; omega
theorem bulk_pos {H : Type} (d : DataW H) : 1 ≤ Rows.uptoBulk d := by
  cases d with
  | lit l => cases l <;> simp [Rows.uptoBulk]
  | _ => simp [Rows.uptoBulk]
theorem bulk_len {H : Type} : ∀ l : List (DataW H), l.length ≤ Rows.uptoBulkAll l
  | [] => Nat.zero_le _
  | x :: l => by rw [Rows.uptoBulkAll, List.length_cons]; have := bulk_len l; have := bulk_pos x; omega
theorem data_size (s : ByteArray) : s.data.toList.length = s.size := by rw [Array.length_toList]; rfl
theorem Try.cells9 : Try.prog.cellsOf 9 = 1 := by kernel_rfl
theorem Try.cells22 : Try.prog.cellsOf 22 = 1 := by kernel_rfl
theorem open_strsU {H : Type} {enc : TypeId × Value → H} {W : World} {v : Value} {y : DataW H × List MemPlace} {fuel : Nat} (hf : DataW.trod enc Try.prog W 0 (fun _ => true) true fuel 22 [v] = some y)
    (hlt : ∀ x ∈ y.2, x.block < W.heap.size) (hb : Rows.uptoBulk y.1 ≤ 1048576) :
    ∃ A n c ss, v = .slice A n c ∧ n ≤ c ∧ n ≤ 1048576 ∧ Strs W A n ss := by
  rcases open_strings Try.underlying22 Try.underlying9 Try.cells9 hf with ⟨hcs, hx⟩ | ⟨a, len, cap, ss, hcs, _, hl, hm, hz, hx, hcell, hsize⟩
  · simp at hcs
    subst hcs
    exact ⟨none, 0, 0, [], rfl, Nat.le_refl _, by omega, Strs.nil_ _ _⟩
  · simp at hcs
    subst hcs
    subst hx
    simp only [if_true] at hz
    simp only [Rows.uptoBulk] at hb
    have hlen : (ss.take len).length = len := by simp; omega
    have hn : len ≤ 1048576 := by
      have := bulk_len (strs (H := H) (List.take len ss))
      simp [strs] at this
      simp [strs] at hb
      omega
    refine ⟨some a, len, cap, ss.take len, rfl, hl, hn, hlen, fun s hs => ?_, fun hn => ?_⟩
    · have h9 := bulk_mem (H := H) (d := .lit (.string s.data.toList)) (l := strs (List.take len ss)) (List.mem_map.2 ⟨_, hs, rfl⟩)
      simp only [Rows.uptoBulk] at h9
      rw [data_size] at h9
      omega
    · obtain ⟨b, off, spot⟩ := a
      have hspot : spot = none := by simpa [Addr.add] using World.cell?_spot (hcell 0 (by omega))
      subst hspot
      have hbW : b < W.heap.size := hlt (.cell b off) (MemPlace.mem_row.2 ⟨0, by omega, by simp⟩)
      refine ⟨b, off, rfl, hbW, fun j s hj => ?_⟩
      have hj2 : j < len := by have := (List.getElem?_eq_some_iff.1 hj).1; omega
      rw [← add_plain, hcell j (by omega)]
      rw [List.getElem?_take, if_pos hj2] at hj
      simp [List.getD, hj]
theorem open_hist {H : Type} {enc : TypeId × Value → H} {W : World} {v : Value} {d : DataW H} {p : List MemPlace} (h0 : DataW.Trod enc Try.prog W 0 (fun _ => true) true 24 v d p)
    {base : Nat} (hval : Value.okWide Try.prog W .any base 24 v) (hlt : ∀ x ∈ p, x.block < W.heap.size) (hb : Rows.uptoBulk d ≤ 1048576) :
    ∃ A n c B m e ss ts, v = .agg #[.slice A n c, .slice B m e] ∧ n ≤ c ∧ m ≤ e ∧ n ≤ 1048576 ∧ m ≤ 1048576 ∧ Strs W A n ss ∧ Strs W B m ts := by
  obtain ⟨v0, v1, y0, y1, n, rfl, rfl, rfl, t0, t1⟩ := open_agg2 Try.underlying24 (by kernel_rfl) (by kernel_rfl) hval h0
  simp only [Rows.uptoBulk, Rows.uptoBulkAll] at hb
  obtain ⟨A, n1, c1, ss, rfl, g1, g2, s1⟩ := open_strsU t0 (fun x hx => hlt x (by simp [hx])) (by omega)
  obtain ⟨B, n2, c2, ts, rfl, g3, g4, s2⟩ := open_strsU t1 (fun x hx => hlt x (by simp [hx])) (by omega)
  exact ⟨A, n1, c1, B, n2, c2, ss, ts, rfl, g1, g3, g2, g4, s1, s2⟩
theorem open_strV {H : Type} {enc : TypeId × Value → H} {W : World} {v : Value} {d : DataW H} {p : List MemPlace} (h0 : DataW.Trod enc Try.prog W 0 (fun _ => true) true 9 v d p)
    {base : Nat} (hval : Value.okWide Try.prog W .any base 9 v) (hb : Rows.uptoBulk d ≤ 1048576) : ∃ s : ByteArray, v = .string s ∧ s.size ≤ 1048576 := by
  obtain ⟨s, rfl, rfl, _, _⟩ := open_string Try.underlying9 hval h0
  refine ⟨s, rfl, ?_⟩
  simp only [Rows.uptoBulk] at hb
  rw [data_size] at hb
  omega
end Go.Proofs.Ytaifgehmlfjljaa
