/-
  Expressions, no program: the text of a tree with a sign of two behind it is none, and that is met at its end.
-/
import Derived.Test.YtcmkgoikmleanaaGreatDoorExZa
namespace Go.Proofs.YtcmkgoikmleanaaGreatDoor
set_option maxRecDepth 20000
open Go.RowKit

theorem fac_end {S : ByteArray} {p n : Nat} (k : Nat) (hs : skp S p = S.size) : (lev tv S k).1 p n = .err S.size 2 := by
  obtain ⟨dp, e⟩ := lev_fac S k
  have h0 : bt S S.size = 0 := bt_ge (Nat.le_refl _)
  rw [e]
  unfold fac
  rw [hs, h0, if_neg (by decide), if_neg (by decide), if_neg (by decide), if_neg (by decide)]
theorem rowS_end {S : ByteArray} {p n : Nat} (k : Nat) (kf : UInt8 → Nat) (hs : skp S p = S.size) : rowS S (lev tv S k).1 kf p n = .err S.size 2 := by
  unfold rowS; rw [fac_end k hs]; rfl
theorem skp_end (S : ByteArray) : skp S S.size = S.size := by
  have h1 := skp_le S S.size
  have h2 := skp_ge S (Nat.le_refl S.size)
  omega
theorem cut_end {T : ByteArray} {l : List UInt8} {c : UInt8} {p : Nat} (hc : c ≠ 32) (h : At T p (l ++ [32, c])) : skp T (p + l.length) = p + l.length + 1 ∧ bt T (p + l.length + 1) = c ∧ p + l.length + 2 = T.size := by
  have h1 := h.step
  have h2 : At T (p + l.length + 1) [c] := h1.next
  have h3 : At T (p + l.length + 1 + 1) [] := h2.next
  refine ⟨?_, h2.head, h3.end_⟩
  rw [At.skp_yes (l := [c]) h1, h2.skp_no (fun e => by injection e with e; exact hc e)]
theorem cut_sum {T : ByteArray} {t : Ex} {c : UInt8} (hR : Rds t) (hd : t.deep ≤ 32) (hc : c = 43 ∨ c = 45) (hA : At T 0 (t.pr ++ [32, c])) : (lev tv T 31).2 0 0 = .err T.size 2 := by
  have hc32 : c ≠ 32 := by rcases hc with rfl | rfl <;> decide
  have hk : kPro c = 0 := by rcases hc with rfl | rfl <;> decide
  have hk2 : kSum c ≠ 0 := by rcases hc with rfl | rfl <;> decide
  obtain ⟨s1, s2, s3⟩ := cut_end hc32 hA
  obtain ⟨f, t', q, n', e, hf, hq⟩ := hR.b1 T 0 0 31 [32, c] hA (okR.c32 _) (by rw [s1, s2, hk]) (by split <;> omega)
  have hql := skp_le T q
  obtain ⟨f, rfl⟩ : ∃ f', f = f' + 1 := ⟨f - 1, by omega⟩
  rw [e, rowL_go (k := kSum c) (by rw [hq, s1, s2]) hk2, hq, s1, rowS_end 31 kPro (by rw [show 0 + t.pr.length + 1 + 1 = T.size by omega]; exact skp_end T)]
  rfl
theorem cut_pro {T : ByteArray} {t : Ex} {c : UInt8} (hf : t.fine) (hw : t.wf) (hd : t.deep ≤ 32) (hc : c = 42 ∨ c = 47) (hA : At T 0 (t.pr ++ [32, c])) : (lev tv T 31).2 0 0 = .err T.size 2 := by
  have hc32 : c ≠ 32 := by rcases hc with rfl | rfl <;> decide
  have hk2 : kPro c ≠ 0 := by rcases hc with rfl | rfl <;> decide
  obtain ⟨s1, s2, s3⟩ := cut_end hc32 hA
  have hR := rds_all t hf hw
  by_cases hr : 2 ≤ t.row
  · obtain ⟨f, t', n', e, hf⟩ := hR.b2 hr T 0 0 31 [32, c] hA (okR.c32 _) (by split <;> omega)
    obtain ⟨f, rfl⟩ : ∃ f', f = f' + 1 := ⟨f - 1, by omega⟩
    rw [rowL_go (k := kPro c) (by rw [s1, s2]) hk2, s1, fac_end 31 (by rw [show 0 + t.pr.length + 1 + 1 = T.size by omega]; exact skp_end T)] at e
    rw [lev_two, rowS, e]; rfl
  · cases t with
    | bad => exact absurd hf (fun h => h)
    | num r => exact absurd (show 2 ≤ 4 by omega) hr
    | nm s => exact absurd (show 2 ≤ 4 by omega) hr
    | neg a => exact absurd (show 2 ≤ 3 by omega) hr
    | bin k a b =>
      have hk : k = 3 ∨ k = 4 := by
        rcases Classical.em (k = 3 ∨ k = 4) with h | h
        · exact h
        · exact absurd (show 2 ≤ (Ex.bin k a b).row by rw [show (Ex.bin k a b).row = 2 from if_neg h]; omega) hr
      have ha := rds_all a hf.1 hw.2.1
      have hb := rds_all b hf.2 hw.2.2
      obtain ⟨d, hd1, hkd, hd32, hkp⟩ := sgn_sum hk
      have hwa : wrapK 1 a.row a.pr = a.pr := wrapK_yes a.row_pos
      have hpr : (Ex.bin k a b).pr = a.pr ++ [32, d, 32] ++ wrapK 2 b.row b.pr := by
        show wrapK (if k = 3 ∨ k = 4 then 1 else 2) a.row a.pr ++ sgnK k ++ wrapK ((if k = 3 ∨ k = 4 then 1 else 2) + 1) b.row b.pr = _
        rw [if_pos hk, hd1, hwa]
      have hdeep : max a.deep b.deep + 1 ≤ 32 := hd
      have hlen : (Ex.bin k a b).pr.length = a.pr.length + 3 + (wrapK 2 b.row b.pr).length := by
        rw [hpr]; simp only [List.length_append, List.length_cons, List.length_nil]
      rw [hlen] at s1 s2 s3
      rw [hpr] at hA
      have h1 : At T 0 (a.pr ++ (32 :: d :: 32 :: (wrapK 2 b.row b.pr ++ [32, c]))) := by
        have e : a.pr ++ [32, d, 32] ++ wrapK 2 b.row b.pr ++ [32, c] = a.pr ++ (32 :: d :: 32 :: (wrapK 2 b.row b.pr ++ [32, c])) := by simp
        rw [← e]; exact hA
      have h2 := h1.step
      have h3 := h2.next
      have h4 := h3.next
      have h5 := h4.next
      have u2 : skp T (0 + a.pr.length) = 0 + a.pr.length + 1 := by
        rw [h2.skp_yes, h3.skp_no (fun e => by injection e with e; exact hd32 e)]
      obtain ⟨f, t1, q1, n1, e1, hf1, hq1⟩ := ha.b1 T 0 0 31 _ h1 (okR.c32 _) (by rw [u2, h3.head, hkp]) (by split <;> omega)
      obtain ⟨f2, t2, n2, e2, hf2⟩ := hb.a2 T _ n1 31 [32, c] h5 (okR.c32 _) (by omega)
      have hq := skp_le T q1
      have hl := h3.lt
      obtain ⟨f, rfl⟩ : ∃ f', f = f' + 1 := ⟨f - 1, by omega⟩
      obtain ⟨f2, rfl⟩ : ∃ f', f2 = f' + 1 := ⟨f2 - 1, by omega⟩
      have pe : 0 + a.pr.length + 1 + 1 + 1 + (wrapK 2 b.row b.pr).length = 0 + (a.pr.length + 3 + (wrapK 2 b.row b.pr).length) := by omega
      rw [pe, rowL_go (k := kPro c) (by rw [s1, s2]) hk2, s1, fac_end 31 (by rw [show 0 + (a.pr.length + 3 + (wrapK 2 b.row b.pr).length) + 1 + 1 = T.size by omega]; exact skp_end T)] at e2
      rw [e1, rowL_go (k := k) (by rw [hq1, u2, h3.head, hkd]) (by omega), hq1, u2, rowS_skip 31 kPro h4.skp_yes, e2]
      rfl
/-- A tree's text with a sign of two behind it. -/
theorem cut_fin {T : ByteArray} {t : Ex} {c : UInt8} (hm : t.may 32 256) (hw : t.wf) (hc : c = 43 ∨ c = 45 ∨ c = 42 ∨ c = 47) (hT : T.data.toList = t.pr ++ [32, c]) : fin T = .err T.size 2 := by
  have hA : At T 0 (t.pr ++ [32, c]) := ⟨Nat.zero_le _, by rw [List.drop_zero, hT]⟩
  have h : (lev tv T 31).2 0 0 = .err T.size 2 := by
    rcases hc with h | h | h | h
    · exact cut_sum (rds_all t hm.1 hw) hm.2.1 (.inl h) hA
    · exact cut_sum (rds_all t hm.1 hw) hm.2.1 (.inr h) hA
    · exact cut_pro hm.1 hw hm.2.1 (.inl h) hA
    · exact cut_pro hm.1 hw hm.2.1 (.inr h) hA
  unfold fin parse
  rw [h]; rfl
end Go.Proofs.YtcmkgoikmleanaaGreatDoor
