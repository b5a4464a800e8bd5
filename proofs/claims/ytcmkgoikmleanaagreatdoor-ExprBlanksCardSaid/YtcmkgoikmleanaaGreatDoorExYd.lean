/-
  The document's reader: names.
-/
import Derived.Test.YtcmkgoikmleanaaGreatDoorExYc
namespace Go.Proofs.YtcmkgoikmleanaaGreatDoor
set_option maxRecDepth 20000
open Go.RowKit

set_option maxHeartbeats 8000000 in
theorem rname_c {w0 : World} {g d : Nat} {lg : Bool} {S : ByteArray} (hs : S.size ≤ 100000) (w : World) (p n : Nat) (h : RRd w0 g S w p 0 0 d lg) (hp : p ≤ S.size) :
    Calls Tryz.prog 100 #[.pointer (some ⟨g, 0, none⟩)] w (RPost w0 g S d lg w (name S p n)) := by
  have hgl := h.lt
  have hw0 := h.below.size
  have h' := h.alloc (.cells #[.int .i64 0, .bool false, .slice none 0 0, .slice none 0 0, .string ⟨#[]⟩, .slice none 0 0] 27)
  have hb' := (But.refl g w).alloc (.cells #[.int .i64 0, .bool false, .slice none 0 0, .slice none 0 0, .string ⟨#[]⟩, .slice none 0 0] 27)
  have k_r := C6.new w (.int .i64 0) (.bool false) (.slice none 0 0) (.slice none 0 0) (.string ⟨#[]⟩) (.slice none 0 0)
  have hsz : (w.alloc (.cells #[.int .i64 0, .bool false, .slice none 0 0, .slice none 0 0, .string ⟨#[]⟩, .slice none 0 0] 27)).heap.size = w.heap.size + 1 := by simp
  have HR : Hid (name S p n = if run isNb S p - p > 24 then .err (p + 24) 2
    else .ok (mk n (.nm (S.extract p (run isNb S p)))) (.nm (S.extract p (run isNb S p))) (run isNb S p) (n + 1) false) := rfl
  have HI : Hid (∀ j, p ≤ j → j < run isNb S p → j < S.size ∧ isNb (bt S j) = true) := fun j => run_in isNb S p j
  have HO : Hid (run isNb S p < S.size → isNb (bt S (run isNb S p)) = false) := fun h => run_out isNb S p hp h
  have hq1 := le_run isNb S p
  have hq2 := run_le isNb S hp
  generalize name S p n = RES at *
  generalize run isNb S p = q at *
  obtain ⟨h0, h1, h2, h3, h4, h5⟩ := h'.facts
  go_enter Tryz.func100, Tryz.ntmps100
  go_wp2
  clear h0 h1 h2 h3 h4 h5
  generalize w.alloc (.cells #[.int .i64 0, .bool false, .slice none 0 0, .slice none 0 0, .string ⟨#[]⟩, .slice none 0 0] 27) = wa at *
  go_loopw [] (fun wr => ∃ x : Nat, p ≤ x ∧ x ≤ q ∧ x ≤ p + 24 ∧ RRd w0 g S wr x 0 0 d lg ∧ But g w wr ∧ C6 wr w.heap.size (.int .i64 0) (.bool false) (.slice none 0 0) (.slice none 0 0) (.string ⟨#[]⟩) (.slice none 0 0)) (fun wr => q - atOf g wr)
  case atStart => exact ⟨p, Nat.le_refl _, hq1, by omega, h', hb', k_r⟩
  case round =>
    clear h' hb' k_r
    obtain ⟨x, hx1, hx2, hx3, hr, hbu, k_r⟩ := hrel
    obtain ⟨h0, h1, h2, h3, h4, h5⟩ := hr.facts
    obtain ⟨f1, f2, f3, f4, f5⟩ := hr.thaw
    have i0 : (0 : Int) ≤ (x : Int) := by omega
    have i2 : (x : Int) ≤ 100000 := by omega
    by_cases hxq : x < q
    · obtain ⟨hl, hv⟩ := HI.out x hx1 hxq
      have i1 : (x : Int) < (S.size : Int) := by omega
      cases hlw : isLw (bt S x) with
      | true =>
        have HL : Hid (isLw S[x] = true) := by rw [bt_lt hl] at hlw; exact hlw
        have HD : Hid (isDg S[x] = isDg S[x]) := rfl
        clear hlw hv
        go_wp2
        go_quiet ((first | (go_at_call 50; first | exact rletter_q S[x] true HL.out _ _ | exact rletter_q 95 false (by decide) _ _) | (go_at_call 51; first | exact rdigit_q S[x] _ HD.out _ _ | exact rdigit_q 95 false (by decide) _ _)))
        by_cases hx24 : x - p = 24
        · have a4 : (x : Int) - (p : Int) = 24 := by omega
          have a5 : (((x : Int) - (p : Int)) == 24) = true := by rw [beq_iff_eq]; exact a4
          have a0 : (0 : Int) ≤ (p : Int) := by omega
          obtain ⟨s0, s1, s2, s3, s4, s5⟩ := k_r.facts
          go_wp2_with fail
          refine (rfail_ok 2 (hr.drewN _)).mono ?_
          rintro e w3 ⟨rfl, hr3, hb3⟩
          replace hbu := (hbu.drewN nq).trans hb3
          replace k_r := (k_r.below (below_drewN' _ wr nq)).but hb3 (by omega)
          clear s0 s1 s2 s3 s4 s5 h0 h1 h2 h3 h4 h5 f1 f2 f3 f4 f5
          obtain ⟨s0, s1, s2, s3, s4, s5⟩ := k_r.facts
          obtain ⟨r0, r1, r2, r3, r4, r5⟩ := k_r.thaw
          go_wp2
          refine ret6 (fn := Tryz.f100) Tryz.results100 rfl rfl k_r ?_
          have hres : RES = .err (p + 24) 2 := by rw [HR.out, if_pos (by omega)]
          rw [hres]
          have hx24 : x = p + 24 := by omega
          subst hx24
          exact ⟨Ez, p + 24, d, lg, rfl, hr3.put (by omega) (by omega) _ _ _ _ _ _, by omega, Nat.le_refl _, fun h => h, hbu.put (Nat.le_refl _) _ _ _ _ _ _⟩
        · have a4 : ¬ ((x : Int) - (p : Int) = 24) := by omega
          have a5 : (((x : Int) - (p : Int)) == 24) = false := beq_eq_false_iff_ne.2 a4
          have a0 : (0 : Int) ≤ (p : Int) := by omega
          go_wp2
          go_roundw
          case rel => exact ⟨x + 1, by omega, by omega, by omega, (hr.drewN _).set1 (by omega), (hbu.drewN _).set _ _, (k_r.below (below_drewN' _ wr _)).setOther (by omega) _ _⟩
          case measure =>
            rw [((hr.drewN _).set1 (q := x + 1) (v := (x : Int) + 1) (by omega)).atOf, hr.atOf]; omega
      | false =>
        cases hdg : isDg (bt S x) with
        | true =>
          have HL : Hid (isLw S[x] = false) := by rw [bt_lt hl] at hlw; exact hlw
          have HD : Hid (isDg S[x] = true) := by rw [bt_lt hl] at hdg; exact hdg
          clear hlw hdg hv
          go_wp2
          go_quiet ((first | (go_at_call 50; first | exact rletter_q S[x] false HL.out _ _ | exact rletter_q 95 false (by decide) _ _) | (go_at_call 51; first | exact rdigit_q S[x] true HD.out _ _ | exact rdigit_q 95 false (by decide) _ _)))
          by_cases hx24 : x - p = 24
          · have a4 : (x : Int) - (p : Int) = 24 := by omega
            have a5 : (((x : Int) - (p : Int)) == 24) = true := by rw [beq_iff_eq]; exact a4
            have a0 : (0 : Int) ≤ (p : Int) := by omega
            obtain ⟨s0, s1, s2, s3, s4, s5⟩ := k_r.facts
            go_wp2_with fail
            refine (rfail_ok 2 (hr.drewN _)).mono ?_
            rintro e w3 ⟨rfl, hr3, hb3⟩
            replace hbu := (hbu.drewN nq).trans hb3
            replace k_r := (k_r.below (below_drewN' _ wr nq)).but hb3 (by omega)
            clear s0 s1 s2 s3 s4 s5 h0 h1 h2 h3 h4 h5 f1 f2 f3 f4 f5
            obtain ⟨s0, s1, s2, s3, s4, s5⟩ := k_r.facts
            obtain ⟨r0, r1, r2, r3, r4, r5⟩ := k_r.thaw
            go_wp2
            refine ret6 (fn := Tryz.f100) Tryz.results100 rfl rfl k_r ?_
            have hres : RES = .err (p + 24) 2 := by rw [HR.out, if_pos (by omega)]
            rw [hres]
            have hx24 : x = p + 24 := by omega
            subst hx24
            exact ⟨Ez, p + 24, d, lg, rfl, hr3.put (by omega) (by omega) _ _ _ _ _ _, by omega, Nat.le_refl _, fun h => h, hbu.put (Nat.le_refl _) _ _ _ _ _ _⟩
          · have a4 : ¬ ((x : Int) - (p : Int) = 24) := by omega
            have a5 : (((x : Int) - (p : Int)) == 24) = false := beq_eq_false_iff_ne.2 a4
            have a0 : (0 : Int) ≤ (p : Int) := by omega
            go_wp2
            go_roundw
            case rel => exact ⟨x + 1, by omega, by omega, by omega, (hr.drewN _).set1 (by omega), (hbu.drewN _).set _ _, (k_r.below (below_drewN' _ wr _)).setOther (by omega) _ _⟩
            case measure =>
              rw [((hr.drewN _).set1 (q := x + 1) (v := (x : Int) + 1) (by omega)).atOf, hr.atOf]; omega
        | false =>
          have h95 : bt S x = 95 := by
            unfold isNb at hv
            rw [hlw, hdg] at hv
            simpa using hv
          have j95 : ((S[x].toNat : Int) == 95) = true := by rw [← bt_lt hl, h95]; rfl
          have HL : Hid (isLw S[x] = false) := by rw [bt_lt hl] at hlw; exact hlw
          have HD : Hid (isDg S[x] = false) := by rw [bt_lt hl] at hdg; exact hdg
          clear hlw hdg hv h95
          go_wp2
          go_quiet ((first | (go_at_call 50; first | exact rletter_q S[x] false HL.out _ _ | exact rletter_q 95 false (by decide) _ _) | (go_at_call 51; first | exact rdigit_q S[x] false HD.out _ _ | exact rdigit_q 95 false (by decide) _ _)))
          by_cases hx24 : x - p = 24
          · have a4 : (x : Int) - (p : Int) = 24 := by omega
            have a5 : (((x : Int) - (p : Int)) == 24) = true := by rw [beq_iff_eq]; exact a4
            have a0 : (0 : Int) ≤ (p : Int) := by omega
            obtain ⟨s0, s1, s2, s3, s4, s5⟩ := k_r.facts
            go_wp2_with fail
            refine (rfail_ok 2 (hr.drewN _)).mono ?_
            rintro e w3 ⟨rfl, hr3, hb3⟩
            replace hbu := (hbu.drewN nq).trans hb3
            replace k_r := (k_r.below (below_drewN' _ wr nq)).but hb3 (by omega)
            clear s0 s1 s2 s3 s4 s5 h0 h1 h2 h3 h4 h5 f1 f2 f3 f4 f5
            obtain ⟨s0, s1, s2, s3, s4, s5⟩ := k_r.facts
            obtain ⟨r0, r1, r2, r3, r4, r5⟩ := k_r.thaw
            go_wp2
            refine ret6 (fn := Tryz.f100) Tryz.results100 rfl rfl k_r ?_
            have hres : RES = .err (p + 24) 2 := by rw [HR.out, if_pos (by omega)]
            rw [hres]
            have hx24 : x = p + 24 := by omega
            subst hx24
            exact ⟨Ez, p + 24, d, lg, rfl, hr3.put (by omega) (by omega) _ _ _ _ _ _, by omega, Nat.le_refl _, fun h => h, hbu.put (Nat.le_refl _) _ _ _ _ _ _⟩
          · have a4 : ¬ ((x : Int) - (p : Int) = 24) := by omega
            have a5 : (((x : Int) - (p : Int)) == 24) = false := beq_eq_false_iff_ne.2 a4
            have a0 : (0 : Int) ≤ (p : Int) := by omega
            go_wp2
            go_roundw
            case rel => exact ⟨x + 1, by omega, by omega, by omega, (hr.drewN _).set1 (by omega), (hbu.drewN _).set _ _, (k_r.below (below_drewN' _ wr _)).setOther (by omega) _ _⟩
            case measure =>
              rw [((hr.drewN _).set1 (q := x + 1) (v := (x : Int) + 1) (by omega)).atOf, hr.atOf]; omega
    · have e : x = q := by omega
      subst e
      by_cases hl : x < S.size
      · have i1 : (x : Int) < (S.size : Int) := by omega
        have hv := HO.out hl
        have hlw : isLw (bt S x) = false := by
          unfold isNb at hv
          simp only [Bool.or_eq_false_iff] at hv
          exact hv.1.1
        have hdg : isDg (bt S x) = false := by
          unfold isNb at hv
          simp only [Bool.or_eq_false_iff] at hv
          exact hv.1.2
        have h95 : bt S x ≠ 95 := by
          unfold isNb at hv
          simp only [Bool.or_eq_false_iff] at hv
          intro e
          have := hv.2
          rw [e] at this
          exact absurd this (by decide)
        have n95 : S[x].toNat ≠ 95 := by rw [← bt_lt hl]; exact u8_ne (k := 95) (by omega) h95
        have i95 : ¬ ((S[x].toNat : Int) = 95) := by omega
        have j95 : ((S[x].toNat : Int) == 95) = false := beq_eq_false_iff_ne.2 i95
        have HL : Hid (isLw S[x] = false) := by rw [bt_lt hl] at hlw; exact hlw
        have HD : Hid (isDg S[x] = false) := by rw [bt_lt hl] at hdg; exact hdg
        clear hlw hdg hv h95 n95
        obtain ⟨s0, s1, s2, s3, s4, s5⟩ := k_r.facts
        obtain ⟨r0, r1, r2, r3, r4, r5⟩ := k_r.thaw
        have j1 : (p : Int) ≤ (x : Int) := by omega
        have j0 : (0 : Int) ≤ (p : Int) := by omega
        have j2 : (x : Int) ≤ (S.size : Int) := by omega
        have hres : Hid (RES = .ok (mk n (.nm (S.extract p x))) (.nm (S.extract p x)) x (n + 1) false) := by show _ = _; rw [HR.out, if_neg (by omega)]
        go_wp2
        go_quiet ((first | (go_at_call 50; first | exact rletter_q S[x] false HL.out _ _ | exact rletter_q 95 false (by decide) _ _) | (go_at_call 51; first | exact rdigit_q S[x] false HD.out _ _ | exact rdigit_q 95 false (by decide) _ _)))
        go_wp2
        go_region
        go_wp2
        refine ret6 (fn := Tryz.f100) Tryz.results100 rfl rfl (k_r.below (below_drewN' _ wr _)) ?_
        rw [hres.out]
        exact ⟨⟨2, Rz, S.extract p x, none, 0, 0⟩, rfl, rfl, (by rw [Bool.or_false]; exact (hr.drewN _).put (by omega) (by omega) _ _ _ _ _ _), (hbu.drewN _).put (Nat.le_refl _) _ _ _ _ _ _⟩
      · have i1 : ¬ (x : Int) < (S.size : Int) := by omega
        obtain ⟨s0, s1, s2, s3, s4, s5⟩ := k_r.facts
        obtain ⟨r0, r1, r2, r3, r4, r5⟩ := k_r.thaw
        have j1 : (p : Int) ≤ (x : Int) := by omega
        have j0 : (0 : Int) ≤ (p : Int) := by omega
        have j2 : (x : Int) ≤ (S.size : Int) := by omega
        have hres : Hid (RES = .ok (mk n (.nm (S.extract p x))) (.nm (S.extract p x)) x (n + 1) false) := by show _ = _; rw [HR.out, if_neg (by omega)]
        go_wp2
        go_quiet (fail)
        go_wp2
        go_region
        go_wp2
        refine ret6 (fn := Tryz.f100) Tryz.results100 rfl rfl (k_r.below (below_drewN' _ wr _)) ?_
        rw [hres.out]
        exact ⟨⟨2, Rz, S.extract p x, none, 0, 0⟩, rfl, rfl, (by rw [Bool.or_false]; exact (hr.drewN _).put (by omega) (by omega) _ _ _ _ _ _), (hbu.drewN _).put (Nat.le_refl _) _ _ _ _ _ _⟩
end Go.Proofs.YtcmkgoikmleanaaGreatDoor
