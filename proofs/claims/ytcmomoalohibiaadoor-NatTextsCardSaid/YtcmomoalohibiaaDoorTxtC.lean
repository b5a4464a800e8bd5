/-
  Print of naturals, the document's way.
-/
import Derived.Test.YtcmomoalohibiaaDoorTxtB
import Derived.Test.YtcmomoalohibiaaDoorRQ
import Derived.Laws.IdiomStrings
import Derived.Outline
namespace Go.Proofs.YtcmomoalohibiaaDoor
set_option maxRecDepth 20000
open Go.RowKit

theorem str_append (l m : List UInt8) : (⟨l.toArray⟩ : ByteArray) ++ ⟨m.toArray⟩ = ⟨(l ++ m).toArray⟩ := by
  apply ByteArray.ext
  rw [ByteArray.data_append]
  simp
theorem dec_len_lim {x p : Nat} (hp : 0 < p) (h : (lim x).length ≤ p) : (Lib.decDigits x).length ≤ 10 * p := by
  refine dec_len_le (by omega) ?_
  have h1 : x < 4294967296 ^ p := Bd.ofL h
  have h2 : 4294967296 ^ p ≤ (10 ^ 10) ^ p := Nat.pow_le_pow_left (by omega) _
  rw [Nat.pow_mul]
  omega
/-- What the loop of the document's Print keeps. -/
structure RPrAt (w wx : World) (x g : Nat) (A : Option Addr) (r : List UInt8) : Prop where
  row : Row wx 0 A (lim g).length (lim g)
  txt : (if g = 0 then r else Lib.decDigits g ++ r) = Lib.decDigits x
  below : Below w.heap.size w wx
theorem RPrAt.len {w wx : World} {x g : Nat} {A : Option Addr} {r : List UInt8} (h : RPrAt w wx x g A r) : r.length ≤ (Lib.decDigits x).length := by
  rw [← h.txt]
  split
  · exact Nat.le_refl _
  · rw [List.length_append]; omega
theorem RPrAt.step {w wx w2 : World} {x g : Nat} {A A2 : Option Addr} {r : List UInt8} (h : RPrAt w wx x g A r) (hg : g ≠ 0) (hr : Row w2 0 A2 (lim (g / 10)).length (lim (g / 10))) (hb : Below wx.heap.size wx w2) :
    RPrAt w w2 x (g / 10) A2 (UInt8.ofNat (48 + g % 10) :: r) := by
  refine ⟨hr, ?_, h.below.trans (hb.mono h.below.size)⟩
  have h1 := h.txt
  rw [if_neg hg] at h1
  rw [← h1]
  by_cases h2 : g < 10
  · rw [if_pos (by omega), dec_small h2, Nat.mod_eq_of_lt h2]; rfl
  · rw [if_neg (by omega), dec_big h2, List.append_assoc]; rfl

set_option maxHeartbeats 1600000 in
theorem rPrint_any (A : Option Addr) (n c : Nat) (a : List Nat) (x : Nat) (w : World) (hx : val a = x) (hn : n ≤ 1000) (hcn : n ≤ c) (ha : Row w 0 A n a) :
    Calls Tryd.prog 9 #[.slice A n c] w fun e w' => e = .returned (.string ⟨(Lib.decDigits x).toArray⟩) ∧ Below w.heap.size w w' := by
  have hlen : (lim x).length ≤ 1000 := by rw [← hx]; have := lim_len_le ha.l32; have := ha.len; omega
  have HV := Lib.hid hx
  clear hx
  by_cases h0 : x = 0
  · have HZ : Hid ((⟨(Lib.decDigits x).toArray⟩ : ByteArray) = ⟨#[48]⟩) := by
      show _ = _
      rw [h0, dec_small (by omega)]; rfl
    have HL : Hid ((lim x).length = 0) := by show _ = _; rw [h0, lim_zero]; rfl
    clear h0
    go_enter Tryd.func9, Tryd.ntmps9
    go_wp2_with fail
    refine (rTrim_any A n c a _ (by omega) hcn ha).mono ?_
    rintro e w1 ⟨A2, c2, rfl, ho, hb⟩
    rw [HV.out, HL.out]
    have HB := Lib.hid hb
    clear hb ho
    go_wp2
    go_ret
    exact ⟨by rw [HZ.out]; rfl, HB.out⟩
  · have HP : Hid (0 < (lim x).length) := by show _ < _; rw [lim_pos h0]; simp
    have HX := Lib.hid h0
    clear h0
    go_enter Tryd.func9, Tryd.ntmps9
    go_wp2_with fail
    refine (rTrim_any A n c a _ (by omega) hcn ha).mono ?_
    rintro e w1 ⟨A2, c2, rfl, ho, hb⟩
    rw [HV.out] at ho ⊢
    have HST : Hid (RPrAt w w1 x x A2 []) := ⟨ho.row.lower (Nat.zero_le _), by rw [if_neg HX.out]; simp, hb⟩
    clear hb ho ha
    have hbq : (((lim x).length : Int) == 0) = false := by rw [beq_eq_false_iff_ne]; have := HP.out; omega
    clear HX
    go_wp2
    go_loopg [3, 4] x (fun g t s wx => ∃ (A2 : Option Addr) (c2 : Nat) (r : List UInt8), t = .slice A2 (lim g).length c2 ∧ s = .string ⟨r.toArray⟩ ∧ (lim g).length ≤ 1000 ∧ Hid (RPrAt w wx x g A2 r))
    case atStart => exact ⟨A2, c2, [], rfl, rfl, hlen, HST⟩
    case round =>
      obtain ⟨A2, c2, r, rfl, rfl, hlg, HA⟩ := hrel
      clear HST HP hbq
      by_cases hg : gk = 0
      · have HL : Hid ((lim gk).length = 0) := by show _ = _; rw [hg, lim_zero]; rfl
        have HE : Hid ((⟨r.toArray⟩ : ByteArray) = ⟨(Lib.decDigits x).toArray⟩) := by
          have := HA.out.txt
          rw [if_pos hg] at this
          show _ = _
          rw [this]
        have HB := Lib.hid HA.out.below
        have hl0 : (lim gk).length ≤ 0 := by have := HL.out; omega
        clear HA hg
        go_wp2
        go_ret
        exact ⟨by rw [← HE.out]; rfl, HB.out⟩
      · have hl0 : 0 < (lim gk).length := by rw [lim_pos hg]; simp
        have hrl0 : r.length ≤ 10 * 1000 := Nat.le_trans HA.out.len (dec_len_lim (by omega) hlen)
        have STEP := Lib.hid (fun w2 A3 => HA.out.step (w2 := w2) (A2 := A3) hg)
        have HR := Lib.hid HA.out.row
        have hq : (gk / 10) < gk := by omega
        have hl10 : (lim (gk / 10)).length ≤ 1000 := by
          have := lim_len_mono (x := gk) (y := gk / 10) (by omega)
          omega
        clear HA hg
        go_wp2_with fail
        refine (small_any _ _ _ 10 (lim gk) _ (by omega) (by omega) (by omega) HR.out).mono ?_
        rintro e w2 ⟨A3, c3, rfl, ho, hb⟩
        rw [val_lim] at ho ⊢
        have HS := Lib.hid (STEP.out w2 A3 (ho.row.lower (Nat.zero_le _)) hb)
        clear STEP HR ho hb
        obtain ⟨b, hb⟩ : ∃ b, b = UInt8.ofNat (48 + gk % 10) := ⟨_, rfl⟩
        rw [← hb] at HS
        have hb2 : b.toNat = 48 + gk % 10 := by rw [hb, u8_toNat (by omega)]
        clear hb
        have hcv : (Go.convert 41 9 (.slice (some ⟨w2.heap.size, 0, none⟩) 1 1)).run Tryd.prog (w2.alloc (.cells #[.int .u8 (48 + (gk : Int) % 10)] 5)) = .ok (.string ⟨#[b]⟩) (w2.alloc (.cells #[.int .u8 (48 + (gk : Int) % 10)] 5)) := by
          refine run_convert_bytes_back (P := Tryd.prog) _ 41 9 5 ⟨w2.heap.size, 0, none⟩ 1 [b] Tryd.underlying41 Tryd.underlying5 Tryd.underlying9 (fun j hj => ?_)
          have hj0 : j = 0 := by simpa using hj
          subst hj0
          simp only [List.getElem_cons_zero]
          rw [hb2, show (Addr.add ⟨w2.heap.size, 0, none⟩ 0) = ⟨w2.heap.size, 0, none⟩ by rfl, World.cell?_alloc_at _ _ _ _ rfl]
          rfl
        have hrl : r.length ≤ 100000 := by omega
        have HS2 : Hid (RPrAt w (w2.alloc (.cells #[.int .u8 (48 + (gk : Int) % 10)] 5)) x (gk / 10) A3 ([b] ++ r)) :=
          ⟨HS.out.row.alloc _, HS.out.txt, HS.out.below.alloc HS.out.below.size _⟩
        clear hb2 HS
        go_wp2
        go_roundg (gk / 10)
        case rel => exact ⟨A3, c3, _, rfl, by rw [← str_append], hl10, HS2⟩
        case measure => exact hq
end Go.Proofs.YtcmomoalohibiaaDoor
