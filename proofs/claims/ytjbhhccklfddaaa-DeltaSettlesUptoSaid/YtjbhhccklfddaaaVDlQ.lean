/-
  A choice of its own memory, or none, by the program.
  Whether a choice may be, and whether a constraint is blocked, by the program.
-/
import Derived.Test.YtjbhhccklfddaaaVDlO
import Derived.Test.YtjbhhccklfddaaaVRgn
namespace Go.Proofs.Ytjbhhccklfddaaa
set_option maxRecDepth 20000
open Go.RowKit
theorem zc : Try.zeroCells49 = chZ := by kernel_rfl
def ChPost (w0 : World) (n : Int) (N : Nat) (A : Option Addr) (cA : Nat) (ps : List (Cv × List Tv)) (m : Nat) (L : List Int) (w : World) (e : Ending) (w' : World) : Prop :=
 ∃
  (ok : Bool) (xs : Array Value), e = .returned (.tuple #[.agg xs, .bool ok]) ∧ xs.size = 66 ∧ xs.all (·.oneCell') = true ∧ Below w.heap.size w w' ∧ (ok = false → ∀ o, ¬ May w0 n N ps m L o) ∧
  (ok = true → ∃ o g c, May w0 n N ps m L o ∧ xs = chC (.slice A N cA) (.slice (some ⟨g, 0, none⟩) N c) (tel N o) ∧ OwnZ w' w.heap.size (some ⟨g, 0, none⟩) c N (outsL N o))
theorem ChPost.no {w0 : World} {n : Int} {N : Nat} {A : Option Addr} {cA : Nat} {ps : List (Cv × List Tv)} {m : Nat} {L : List Int} {w : World} {e : Ending} {w' : World} (he : e = .returned (.tuple #[.agg chZ, .bool false])) (hb : Below w.heap.size w w') (h : ∀ o, ¬ May w0 n N ps m L o) : ChPost w0 n N A cA ps m L w e w' :=
 ⟨false, chZ, he, chC_size .., chC_one rfl rfl, hb, fun _ => h, fun k => (by cases k)⟩
theorem wpl_buildC {ops : Array Oper} {rest : List Oper} {o : Oper} {a : Act} {w : World} {Q : Exit → Act → World → Prop} (hg : o.guard = none) (x y : Operand) (ho : o.op = .build 49 #[(0, x), (1, y)]) {A B : Option Addr} {n c m d : Nat} (hx : a.eval x = .slice A n c) (hy : a.eval y = .slice B m d)
  (h : wpList Try.prog ops Q rest (a.put o.dst (.agg (chC (.slice A n c) (.slice B m d) fun _ => some 0))) w) : wpList Try.prog ops Q (o :: rest) a w := by
 have e : (#[(0, x), (1, y)] : Array (Nat × Operand)).map (fun (i, x) => (i, a.eval x)) = #[(0, .slice A n c), (1, .slice B m d)] := by simp [hx, hy]
 refine wpList_build hg 49 _ ho ?_ ?_
 · rw [e]; exact congrArg Option.isSome (Try.built2 A B n c m d)
 ·
  rw [e]
  have e2 : (Try.prog.built 49 (#[(0, Value.slice A n c), (1, .slice B m d)] : Array (Nat × Value)).toList) = some (chC (.slice A n c) (.slice B m d) fun _ => some 0) := Try.built2 A B n c m d
  rw [e2]
  exact h
theorem ret_ch {R : Ending → World → Prop} {a : Act} {w : World} {b : Nat} {xs : Array Value} {v : Value} (ht : a.tmps.getD 6 undef = .pointer (some ⟨b, 0, none⟩)) (hv : a.tmps.getD 7 undef = v) (hd : a.defers = [])
  (hc : w.heap[b]? = some (.cells xs 49 (0, 0))) (hs : xs.size = 66) (hR : R (.returned (.tuple #[.agg xs, v])) w) : bodyPost Try.prog Try.f25 R .ret a w := by
 refine bodyPost_ret (v := .tuple #[.agg xs, v]) ?_ hd hR
 have hl := run_loadVar_row (P := Try.prog) w b 49 49 xs (0, 0) _ hc Try.underlying49 rfl (by rw [hs]; exact Try.size49)
 rw [results_cell_tmp Try.results25, ht, hv]
 simp [asAddr, Result.andThen, hl]
set_option maxHeartbeats 12800000 in
theorem choiceOf_c (w0 : World) (n : Int) (N : Nat) (A : Option Addr) (cA : Nat) (ps : List (Cv × List Tv)) (OA : Option Addr) (m oc : Nat) (L : List Int) (w : World) (hg : Gns w0 A N ps) (hN : N ≤ 12) (hm : m ≤ 1000) (hO : ZRow w0 OA m L) (hb0 : Below w0.heap.size w0 w) :
  Calls Try.prog 25 #[.slice A N cA, .slice OA m oc, .int .i64 n] w (ChPost w0 n N A cA ps m L w) := by
 have N0 : (0 : Int) ≤ (N : Int) := by omega
 have N1 : (N : Int) ≤ 12 := by omega
 have HD := Lib.hid (And.intro hg (And.intro hO hb0))
 clear hg hO hb0
 go_enter Try.func25, Try.ntmps25
 by_cases h1 : n < 1
 ·
  have HN : Hid (∀ o, ¬ May w0 n N ps m L o) := fun o k => by have := k.n1; omega
  go_wp2_with (first
   | (refine wpl_allocC rfl rfl ?_)
   | (refine wpList_store_row rfl 49 _ _ rfl w.heap.size Try.zeroCells49 rfl rfl 49 chZ (heap_alloc_new w _) (by rw [zc, chC_size]; exact Try.size49) (by rw [zc]) (by rw [zc]; exact chC_one rfl rfl) ?_))
  exact ret_ch rfl rfl rfl (setRow_heap _ _ _ _ _ _ (heap_alloc_new w _)) (by rw [zc, chC_size]) (ChPost.no (by rw [zc]; rfl) (((Below.refl _ _).alloc (Nat.le_refl _) _).trans (setRow_below (Nat.le_refl _) _)) HN.out)
 by_cases h2 : 64 < n
 ·
  have HN : Hid (∀ o, ¬ May w0 n N ps m L o) := fun o k => by have := k.n64; omega
  go_wp2_with (first
   | (refine wpl_allocC rfl rfl ?_)
   | (refine wpList_store_row rfl 49 _ _ rfl w.heap.size Try.zeroCells49 rfl rfl 49 chZ (heap_alloc_new w _) (by rw [zc, chC_size]; exact Try.size49) (by rw [zc]) (by rw [zc]; exact chC_one rfl rfl) ?_))
  exact ret_ch rfl rfl rfl (setRow_heap _ _ _ _ _ _ (heap_alloc_new w _)) (by rw [zc, chC_size]) (ChPost.no (by rw [zc]; rfl) (((Below.refl _ _).alloc (Nat.le_refl _) _).trans (setRow_below (Nat.le_refl _) _)) HN.out)
 have h3 : ¬ (256 : Int) < (N : Int) := by omega
 by_cases h4 : m = N
 ·
  subst h4
  go_wp2_with (first
   | (refine wpl_allocC rfl rfl ?_)
   | fail)
  have HR0 : Hid (((w.alloc (.cells chZ 49)).alloc (.cells #[.int .i64 (-1)] 3)).heap[w.heap.size]? = some (.cells chZ 49 (0, 0)) ∧ Below w.heap.size w ((w.alloc (.cells chZ 49)).alloc (.cells #[.int .i64 (-1)] 3)) ∧ ((w.alloc (.cells chZ 49)).alloc (.cells #[.int .i64 (-1)] 3)).heap.size = w.heap.size + 2) := by
   refine ⟨?_, ((Below.refl _ _).alloc (Nat.le_refl _) _).alloc (by simp) _, by simp⟩
   exact (((Below.refl (w.heap.size + 1) _).alloc (by simp) _).block w.heap.size (by omega)).trans (heap_alloc_new w _)
  have hG : ((w.alloc (.cells chZ 49)).alloc (.cells #[.int .i64 (-1)] 3)).heap[w.heap.size + 1]? = some (.cells #[.int .i64 (-1)] 3 (0, 0)) := by
   have := heap_alloc_new (w.alloc (.cells chZ 49)) (.cells #[.int .i64 (-1)] 3)
   simpa using this
  generalize (w.alloc (.cells chZ 49)).alloc (.cells #[.int .i64 (-1)] 3) = W1 at *
  refine (Repeat_c (w.heap.size + 1) m (by omega) W1 hG).mono ?_
  rintro e w2 ⟨g, rfl, hz, hb2⟩
  obtain ⟨H, hH⟩ : ∃ H, H = w.heap.size := ⟨_, rfl⟩
  have HH := Lib.hid hH
  have H2 : Hid (w2.heap[H]? = some (.cells chZ 49 (0, 0)) ∧ Below H w w2 ∧ H + 2 ≤ w2.heap.size ∧ OwnZ w2 (H + 2) (some ⟨g, 0, none⟩) m m (List.replicate m (-1))) := by
   obtain ⟨r1, r2, r3⟩ := HR0.out
   rw [hH]
   refine ⟨(hb2.block w.heap.size (by omega)).trans r1, r2.trans (hb2.mono (by omega)), by have := hb2.size; omega, ?_⟩
   rw [r3] at hz; exact hz
  rw [← hH]
  clear hz hb2 HR0 hG hH
  go_wp2_with (first
   | (refine wpl_allocC rfl rfl ?_)
   | (refine wpl_buildC rfl (.tmp 31) (.tmp 35) rfl rfl rfl ?_)
   | (refine wpList_store_row rfl 49 _ _ rfl w2.heap.size (chC (.slice A m cA) (.slice (some ⟨g, 0, none⟩) m m) fun _ => some 0) rfl rfl 49 chZ (heap_alloc_new w2 _) (by rw [chC_size]; exact Try.size49) (by rw [chC_size, chC_size]) (chC_one rfl rfl) ?_))
  have hW3 : ChB ((w2.alloc (.cells chZ 49)).setRow w2.heap.size (chC (.slice A m cA) (.slice (some ⟨g, 0, none⟩) m m) fun _ => some 0)) w2.heap.size (.slice A m cA) (.slice (some ⟨g, 0, none⟩) m m) fun _ => some 0 := setRow_heap _ _ _ _ _ _ (heap_alloc_new w2 _)
  have hWb : Below w2.heap.size w2 ((w2.alloc (.cells chZ 49)).setRow w2.heap.size (chC (.slice A m cA) (.slice (some ⟨g, 0, none⟩) m m) fun _ => some 0)) := ((Below.refl _ _).alloc (Nat.le_refl _) _).trans (setRow_below (Nat.le_refl _) _)
  generalize (w2.alloc (.cells chZ 49)).setRow w2.heap.size (chC (.slice A m cA) (.slice (some ⟨g, 0, none⟩) m m) fun _ => some 0) = W3 at *
  obtain ⟨b, hbd⟩ : ∃ b, b = w2.heap.size := ⟨_, rfl⟩
  have HB3 : Hid (ChB W3 b (.slice A m cA) (.slice (some ⟨g, 0, none⟩) m m) (fun v => if v < 0 then none else some 0) ∧ W3.heap[H]? = some (.cells chZ 49 (0, 0)) ∧ Below H w W3 ∧ OwnZ W3 (H + 2) (some ⟨g, 0, none⟩) m m (List.replicate m (-1))) := by
   obtain ⟨h1, h2, h3, h4⟩ := H2.out
   rw [hbd]
   exact ⟨hW3.congr fun v _ => by simp, (hWb.block H (by omega)).trans h1, h2.trans (hWb.mono (by omega)), h4.below hWb⟩
  have HL : Hid (H + 2 ≤ b ∧ g < b) := by
   obtain ⟨h1, h2, h3, h4⟩ := H2.out
   rw [hbd]; exact ⟨h3, h4.lt.2⟩
  rw [← hbd]
  clear hW3 hWb H2 hbd
  have nb : b ≠ g := by have := HL.out; omega
  go_loopw [9, 37] (fun _ kv wr => ∃ k : Nat, k ≤ 64 ∧ kv = .int .i64 k ∧ Hid (ChB wr b (.slice A m cA) (.slice (some ⟨g, 0, none⟩) m m) (fun v => if v < k then none else some 0) ∧ wr.heap[H]? = some (.cells chZ 49 (0, 0)) ∧ Below H w wr ∧ OwnZ wr (H + 2) (some ⟨g, 0, none⟩) m m (List.replicate m (-1)))) (fun _ kv _ => 64 - (intOf kv).toNat)
  case atStart => exact ⟨0, by omega, rfl, HB3⟩
  case round =>
   clear HB3
   obtain ⟨k, hk, rfl, HB3⟩ := hrel
   have k0 : (0 : Int) ≤ (k : Int) := by omega
   by_cases hlt : k < 64
   ·
    have k1 : (k : Int) < 64 := by omega
    have ct := HB3.out.1.cellT hlt
    have tt := HB3.out.1.thaw (2 + k)
    have HB4 : Hid (ChB (wr.setCell ⟨b, 2 + k, none⟩ (.int .i64 (-1))) b (.slice A m cA) (.slice (some ⟨g, 0, none⟩) m m) (fun v => if v < k + 1 then none else some 0) ∧ (wr.setCell ⟨b, 2 + k, none⟩ (.int .i64 (-1))).heap[H]? = some (.cells chZ 49 (0, 0)) ∧ Below H w (wr.setCell ⟨b, 2 + k, none⟩ (.int .i64 (-1))) ∧ OwnZ (wr.setCell ⟨b, 2 + k, none⟩ (.int .i64 (-1))) (H + 2) (some ⟨g, 0, none⟩) m m (List.replicate m (-1))) := by
     obtain ⟨h1, h2, h3, h4⟩ := HB3.out
     have hl := HL.out
     refine ⟨(h1.set hlt none).congr fun v _ => ?_, (heap_setCell_other wr ⟨b, 2 + k, none⟩ H _ (fun e => by have : H = b := e; omega)).trans h2, set_at (by omega) _ _ h3, h4.grown (set_growZ wr b (2 + k) _) (fun ad e => by injection e with e; subst e; intro q; injection q with q; exact nb q.symm)⟩
     by_cases e : v = k
     · rw [if_pos e, if_pos (by omega)]
     ·
      rw [if_neg e]
      by_cases l : v < k
      · rw [if_pos l, if_pos (by omega)]
      · rw [if_neg l, if_neg (by omega)]
    go_wp2
    go_roundw
    case rel => exact ⟨k + 1, by omega, by go_num, HB4⟩
    case measure => simp [intOf]; omega
   ·
    have k1 : ¬ (k : Int) < 64 := by omega
    have HM : Hid (ChM wr (H + 2) b (.slice A m cA) g m m (fun _ => none) ∧ wr.heap[H]? = some (.cells chZ 49 (0, 0)) ∧ Below H w wr) := by
     obtain ⟨h1, h2, h3, h4⟩ := HB3.out
     have hl := HL.out
     refine ⟨⟨h1.congr fun v hv => ?_, ?_, by omega, nb⟩, h2, h3⟩
     ·
      rw [if_pos (by omega)]
      symm
      exact tel_none.2 fun i _ e => by cases e
     ·
      have e : outsL m (fun _ => none) = List.replicate m (-1) := List.eq_replicate_iff.2 ⟨outsL_len .., fun b hb => by obtain ⟨_, _, rfl⟩ := List.mem_map.1 hb; rfl⟩
      rw [e]; exact h4
    clear HB3
    go_wp2
    have HP0 := Lib.hid (Part.start w0 n m ps L)
    have hpl : Hid (ps.length = m) := HD.out.1.len
    have n0 : 0 ≤ n := by omega
    go_loopw [10, 11, 46] (fun _ _ kv wr => ∃ (k : Nat) (o1 : Nat → Option Nat), k ≤ m ∧ kv = .int .i64 k ∧ Hid (Part w0 n m ps L k o1) ∧ Hid (ChM wr (H + 2) b (.slice A m cA) g m m o1 ∧ wr.heap[H]? = some (.cells chZ 49 (0, 0)) ∧ Below H w wr)) (fun _ _ kv _ => m - (intOf kv).toNat)
    case atStart => exact ⟨0, _, Nat.zero_le _, rfl, HP0, HM⟩
    case round =>
     clear HM HP0
     obtain ⟨k, o1, hk, rfl, HP, HM⟩ := hrel
     have k0 : (0 : Int) ≤ (k : Int) := by omega
     have HB0 : Hid (Below w0.heap.size w0 wr) := HD.out.2.2.trans (HM.out.2.2.mono (by have := HD.out.2.2.size; have := HH.out; omega))
     by_cases hlt : k < m
     ·
      have k1 : (k : Int) < (m : Int) := by omega
      obtain ⟨bo, oo, hOA, _, hoc⟩ := (HD.out.2.1.below HB0.out).mem (by omega)
      have c0 := hoc k hlt
      subst hOA
      have hkp : k < ps.length := by rw [hpl.out]; exact hlt
      have hx := List.getElem?_eq_getElem hkp
      obtain ⟨x, hxe⟩ : ∃ x, x = ps[k] := ⟨_, rfl⟩
      rw [← hxe] at hx
      have HX := Lib.hid hx
      obtain ⟨bb, off, hA, hbb, hat⟩ := conU_of HD.out.1 hx
      obtain ⟨a0, a1, a2, a3, a4⟩ := hat.keep (HB0.out.block bb hbb)
      subst hA
      have hin := HD.out.1.each x (List.mem_of_getElem? hx)
      obtain ⟨Lx, hLx⟩ := hin.rd
      obtain ⟨kx, hkx⟩ := hin.k
      have HIN := Lib.hid (And.intro hin (And.intro hLx hkx))
      obtain ⟨v, hv⟩ : ∃ v, v = zt L k := ⟨_, rfl⟩
      rw [← hv] at c0
      have HV := Lib.hid hv
      clear hv hoc hx hxe hkp hat hin hLx hkx
      by_cases hs : IsS w0 x.1 x.2 n
      ·
       have HS := Lib.hid hs
       clear hs
       go_wp2_with fail
       clear a0 a1 a2 a3 a4
       refine (IsK_c x.1 n x.2 Lx kx wr ((HIN.out.1.row).below HB0.out) ((HIN.out.2.1.below HB0.out).more (by omega)) ((HIN.out.2.2.below HB0.out).more (by omega)) HIN.out.1.n true ⟨fun _ => (HIN.out.1.turn HB0.out _).1 HS.out, fun _ => rfl⟩).mono ?_
       rintro e w4 ⟨rfl, hb4⟩
       have HM4 : Hid (ChM w4 (H + 2) b (.slice (some ⟨bb, off, none⟩) m cA) g m m o1 ∧ w4.heap[H]? = some (.cells chZ 49 (0, 0)) ∧ Below H w w4) := by
        obtain ⟨q1, q2, q3⟩ := HM.out
        have hl := HL.out
        have hb := q1.lt
        exact ⟨q1.below hb4, (hb4.block H (by omega)).trans q2, q3.trans (hb4.mono (by omega))⟩
       have HB4 : Hid (Below w0.heap.size w0 w4) := HB0.out.trans (hb4.mono HB0.out.size)
       clear hb4 HM c0
       by_cases hv1 : v = -1
       ·
        subst hv1
        have HP2 : Hid (Part w0 n m ps L (k + 1) o1) := HP.out.skip HX.out HS.out HV.out.symm
        go_wp2
        go_roundw
        case rel => exact ⟨k + 1, o1, by omega, by go_num, HP2, HM4⟩
        case measure => simp [intOf]; omega
       ·
        have en : ((n.toNat : Nat) : Int) = n := by omega
        go_wp2_with fail
        refine (mayTell_c HD.out.1 (n := n.toNat) HX.out (by rw [en]; exact HS.out) (by omega) v b _ (tel m o1) w4 HB4.out HM4.out.1.blk).mono ?_
        rintro e w5 ⟨⟨r, rfl, hr⟩, hb5⟩
        have HM5 : Hid (ChM w5 (H + 2) b (.slice (some ⟨bb, off, none⟩) m cA) g m m o1 ∧ w5.heap[H]? = some (.cells chZ 49 (0, 0)) ∧ Below H w w5) := by
         obtain ⟨q1, q2, q3⟩ := HM4.out
         have hl := HL.out
         have hb := q1.lt
         exact ⟨q1.below hb5, (hb5.block H (by omega)).trans q2, q3.trans (hb5.mono (by omega))⟩
        have evs : vsOf w0 n.toNat ps k = x.2.map fun t => t.v.toNat := by rw [vsOf_get HX.out, vr_yes (by rw [en]; exact HS.out)]
        rw [← evs] at hr
        have HR := Lib.hid hr
        have HV1 := Lib.hid hv1
        clear hb5 HM4 HB4 hr evs
        cases r with
        |
         false =>
         have HN : Hid (∀ o, ¬ May w0 n m ps m L o) := fun o q => by obtain ⟨u, u1, u2, u3⟩ := HP.out.can q hlt (by rw [← HV.out]; exact HV1.out); have h1 := HR.out.2 ⟨u, u1, by rw [HV.out]; exact u2, u3⟩; cases h1
         go_wp2_with (refine wpList_store_row rfl 49 _ _ rfl H Try.zeroCells49 rfl rfl 49 chZ HM5.out.2.1 (by rw [zc, chC_size]; exact Try.size49) (by rw [zc]) (by rw [zc]; exact chC_one rfl rfl) ?_)
         exact ret_ch rfl rfl rfl (setRow_heap _ _ _ _ _ _ HM5.out.2.1) (by rw [zc, chC_size]) (ChPost.no (by rw [zc]; rfl) (by rw [← HH.out]; exact HM5.out.2.2.trans (setRow_below (Nat.le_refl _) _)) HN.out)
        |
         true =>
         obtain ⟨u, u1, u2, u3⟩ := HR.out.1 rfl
         subst u2
         have HU : Hid (tel m o1 u = none) := u3
         have HV2 := Lib.hid hv1
         have un : u < n.toNat := by
          have := vr_bnd w0 n.toNat x u (by rw [← vsOf_get HX.out]; exact u1)
          exact this
         go_wp2_with fail
         refine (tell_c HP.out.cho (H + 2) k u b g m _ w5 HM5.out.1 hlt u1 un (by omega) (HP.out.rest k (Nat.le_refl _))).mono ?_
         rintro e w6 ⟨rfl, hm6, hb6⟩
         have HP2 : Hid (Part w0 n m ps L (k + 1) (tellTo m o1 k u)) := HP.out.tell HX.out HS.out hlt HV.out.symm u1 HU.out
         have HM6 : Hid (ChM w6 (H + 2) b (.slice (some ⟨bb, off, none⟩) m cA) g m m (tellTo m o1 k u) ∧ w6.heap[H]? = some (.cells chZ 49 (0, 0)) ∧ Below H w w6) := by
          obtain ⟨q1, q2, q3⟩ := HM5.out
          have hl := HL.out
          have hb := q1.lt
          exact ⟨hm6, (hb6.block H (by omega) (by omega) (by omega)).trans q2, q3.trans (hb6.below (by omega) (by omega) (by omega))⟩
         clear hm6 hb6 HM5 u1 u3
         go_wp2
         go_roundw
         case rel => exact ⟨k + 1, _, by omega, by go_num, HP2, HM6⟩
         case measure => simp [intOf]; omega
      ·
       have HS := Lib.hid hs
       clear hs
       go_wp2_with fail
       clear a0 a1 a2 a3 a4
       refine (IsK_c x.1 n x.2 Lx kx wr ((HIN.out.1.row).below HB0.out) ((HIN.out.2.1.below HB0.out).more (by omega)) ((HIN.out.2.2.below HB0.out).more (by omega)) HIN.out.1.n false ⟨fun h => (by cases h), fun h => absurd ((HIN.out.1.turn HB0.out _).2 h) HS.out⟩).mono ?_
       rintro e w4 ⟨rfl, hb4⟩
       have HM4 : Hid (w4.heap[H]? = some (.cells chZ 49 (0, 0)) ∧ Below H w w4) := by
        obtain ⟨q1, q2, q3⟩ := HM.out
        have hl := HL.out
        have hb := q1.lt
        exact ⟨(hb4.block H (by omega)).trans q2, q3.trans (hb4.mono (by omega))⟩
       clear hb4 HM c0
       have HN : Hid (∀ o, ¬ May w0 n m ps m L o) := fun o q => HS.out (q.ok x (List.mem_of_getElem? HX.out))
       go_wp2_with (refine wpList_store_row rfl 49 _ _ rfl H Try.zeroCells49 rfl rfl 49 chZ HM4.out.1 (by rw [zc, chC_size]; exact Try.size49) (by rw [zc]) (by rw [zc]; exact chC_one rfl rfl) ?_)
       exact ret_ch rfl rfl rfl (setRow_heap _ _ _ _ _ _ HM4.out.1) (by rw [zc, chC_size]) (ChPost.no (by rw [zc]; rfl) (by rw [← HH.out]; exact HM4.out.2.trans (setRow_below (Nat.le_refl _) _)) HN.out)
     ·
      have k1 : ¬ (k : Int) < (m : Int) := by omega
      have e : k = m := by omega
      subst e
      have hbn : bndN n = n.toNat := by have := bndN_int n; omega
      have HCd : Hid (ChM wr.drew (H + 2) b (.slice A k cA) g k k o1 ∧ wr.drew.heap[H]? = some (.cells chZ 49 (0, 0)) ∧ Below H w wr.drew) := ⟨HM.out.1.below ((Below.refl _ _).drew), HM.out.2.1, HM.out.2.2.drew⟩
      have HFa : Hid (failN n.toNat (csOf w0 n.toNat ps) = 0 → May w0 n k ps k L o1) := fun q => HP.out.all hpl.out HD.out.2.1.len h1 h2 q
      have HFn : Hid (failN n.toNat (csOf w0 n.toNat ps) ≠ 0 → ∀ o, ¬ May w0 n k ps k L o) := fun q o q2 => q q2.tree
      clear HM
      go_wp2_with fail
      refine wp_region_held_drew (S := fun _ => True) (by kernel_rfl) ?_ (fun hHeld => ?_)
      · exact True.intro
      refine tk (i := 1) (h := ?_)
      try simp only [zR]
      refine tk (i := 2) (h := ?_)
      try simp only [zR]
      refine tr [0, 3] ?_
      refine tc (h := fun K hK => ?_) (hs := tc (h := fun K hK => ?_) (hs := tn))
      ·
       skip
       refine step_load_ch rfl (.tmp 8) rfl b rfl _ _ _ (by first | exact H2.out.1.blk | exact HCd.out.1.blk) ?_
       try go_wp2_with fail
       refine hK.out _ _ ?_ (fun hHeld => ?_)
       · exact True.intro
       clear hK K
       try simp only [zR]
       refine tr [3] ?_
       refine tc (h := fun K hK => ?_) (hs := tn)
       try go_simp
       refine (Forest_c n n.toNat hbn A k cA ps _ w0 wr.drew HD.out.1 rfl HB0.out.drew).mono ?_
       rintro e w2 ⟨⟨r, rfl, hr⟩, hb2⟩
       have H2 : Hid (ChM w2 (H + 2) b (.slice A k cA) g k k o1 ∧ w2.heap[H]? = some (.cells chZ 49 (0, 0)) ∧ Below H w w2) := by
        obtain ⟨q1, q2, q3⟩ := HCd.out
        have hl := HL.out
        have hb := q1.lt
        exact ⟨q1.below hb2, (hb2.block H (by omega)).trans q2, q3.trans (hb2.mono (by omega))⟩
       have HR := Lib.hid hr
       clear hr hb2
       try go_wp2_with fail
       refine hK.out _ _ ?_ (fun hHeld => ?_)
       · exact True.intro
       clear hK K
       try simp only [zR]
       refine tr [4] ?_
       refine tc (h := fun K hK => ?_) (hs := tn)
       refine step_store_row rfl 49 _ _ rfl H (chC (.slice A k cA) (.slice (some ⟨g, 0, none⟩) k k) (tel k o1)) rfl rfl 49 chZ H2.out.2.1 (by rw [chC_size]; exact Try.size49) (by rw [chC_size, chC_size]) (chC_one rfl rfl) ?_
       try go_wp2_with fail
       refine hK.out _ _ ?_ (fun hHeld => ?_)
       · exact True.intro
       clear hK K
       try simp only [zR]
       refine tk (i := 5) (h := ?_)
       try simp only [zR]
       refine wpAnyH_done (by kernel_rfl) ?_ _
       go_wp2
       refine ret_ch rfl rfl rfl (setRow_heap _ _ _ _ _ _ H2.out.2.1) (chC_size ..) ?_
       refine ⟨r, _, rfl, chC_size .., chC_one rfl rfl, by rw [← HH.out]; exact H2.out.2.2.trans (setRow_below (Nat.le_refl _) _), fun q => HFn.out (fun q2 => by have := HR.out.2 q2; rw [q] at this; cases this), fun q => ⟨o1, g, k, HFa.out (HR.out.1 q), rfl, ?_⟩⟩
       rw [← HH.out]
       refine OwnZ.lower (OwnZ.grown H2.out.1.row (row := some H) ⟨rfl, rfl, rfl, by simp, fun j _ hj => setRow_other _ _ _ _ (fun e => hj (by rw [e]))⟩ (fun ad e => by injection e with e; subst e; intro q; injection q with q; have q2 : g = H := q; have := H2.out.1.lt; have := HL.out; omega)) (by omega)
      ·
       skip
       try go_simp
       refine (Forest_c n n.toNat hbn A k cA ps _ w0 wr.drew HD.out.1 rfl HB0.out.drew).mono ?_
       rintro e w2 ⟨⟨r, rfl, hr⟩, hb2⟩
       have H2 : Hid (ChM w2 (H + 2) b (.slice A k cA) g k k o1 ∧ w2.heap[H]? = some (.cells chZ 49 (0, 0)) ∧ Below H w w2) := by
        obtain ⟨q1, q2, q3⟩ := HCd.out
        have hl := HL.out
        have hb := q1.lt
        exact ⟨q1.below hb2, (hb2.block H (by omega)).trans q2, q3.trans (hb2.mono (by omega))⟩
       have HR := Lib.hid hr
       clear hr hb2
       try go_wp2_with fail
       refine hK.out _ _ ?_ (fun hHeld => ?_)
       · exact True.intro
       clear hK K
       try simp only [zR]
       refine tr [0] ?_
       refine tc (h := fun K hK => ?_) (hs := tn)
       refine step_load_ch rfl (.tmp 8) rfl b rfl _ _ _ (by first | exact H2.out.1.blk | exact HCd.out.1.blk) ?_
       try go_wp2_with fail
       refine hK.out _ _ ?_ (fun hHeld => ?_)
       · exact True.intro
       clear hK K
       try simp only [zR]
       refine tr [4] ?_
       refine tc (h := fun K hK => ?_) (hs := tn)
       refine step_store_row rfl 49 _ _ rfl H (chC (.slice A k cA) (.slice (some ⟨g, 0, none⟩) k k) (tel k o1)) rfl rfl 49 chZ H2.out.2.1 (by rw [chC_size]; exact Try.size49) (by rw [chC_size, chC_size]) (chC_one rfl rfl) ?_
       try go_wp2_with fail
       refine hK.out _ _ ?_ (fun hHeld => ?_)
       · exact True.intro
       clear hK K
       try simp only [zR]
       refine tk (i := 5) (h := ?_)
       try simp only [zR]
       refine wpAnyH_done (by kernel_rfl) ?_ _
       go_wp2
       refine ret_ch rfl rfl rfl (setRow_heap _ _ _ _ _ _ H2.out.2.1) (chC_size ..) ?_
       refine ⟨r, _, rfl, chC_size .., chC_one rfl rfl, by rw [← HH.out]; exact H2.out.2.2.trans (setRow_below (Nat.le_refl _) _), fun q => HFn.out (fun q2 => by have := HR.out.2 q2; rw [q] at this; cases this), fun q => ⟨o1, g, k, HFa.out (HR.out.1 q), rfl, ?_⟩⟩
       rw [← HH.out]
       refine OwnZ.lower (OwnZ.grown H2.out.1.row (row := some H) ⟨rfl, rfl, rfl, by simp, fun j _ hj => setRow_other _ _ _ _ (fun e => hj (by rw [e]))⟩ (fun ad e => by injection e with e; subst e; intro q; injection q with q; have q2 : g = H := q; have := H2.out.1.lt; have := HL.out; omega)) (by omega)
 ·
  have h5 : ¬ (m : Int) = (N : Int) := by omega
  have HN : Hid (∀ o, ¬ May w0 n N ps m L o) := fun o k => h4 k.len
  clear h4
  go_wp2_with (first
   | (refine wpl_allocC rfl rfl ?_)
   | (refine wpList_store_row rfl 49 _ _ rfl w.heap.size Try.zeroCells49 rfl rfl 49 chZ (heap_alloc_new w _) (by rw [zc, chC_size]; exact Try.size49) (by rw [zc]) (by rw [zc]; exact chC_one rfl rfl) ?_))
  exact ret_ch rfl rfl rfl (setRow_heap _ _ _ _ _ _ (heap_alloc_new w _)) (by rw [zc, chC_size]) (ChPost.no (by rw [zc]; rfl) (((Below.refl _ _).alloc (Nat.le_refl _) _).trans (setRow_below (Nat.le_refl _) _)) HN.out)
end Go.Proofs.Ytjbhhccklfddaaa

namespace Go.Proofs.Ytjbhhccklfddaaa
set_option maxRecDepth 20000
open Go.RowKit
theorem laid_ch {w1 w : World} {lo g c N : Nat} {vl : Value} {o : Nat → Option Nat} {xs old : Array Value} (hx : xs = chC vl (.slice (some ⟨g, 0, none⟩) N c) (tel N o)) (hz : OwnZ w1 lo (some ⟨g, 0, none⟩) c N (outsL N o)) (hb : Below w.heap.size w w1) (hlo : lo = w.heap.size) :
  ChM ((w1.alloc (.cells old 49)).setRow w1.heap.size xs) lo w1.heap.size vl g c N o ∧ Below w.heap.size w ((w1.alloc (.cells old 49)).setRow w1.heap.size xs) := by
 have hWb : Below w1.heap.size w1 ((w1.alloc (.cells old 49)).setRow w1.heap.size xs) := ((Below.refl _ _).alloc (Nat.le_refl _) _).trans (setRow_below (Nat.le_refl _) _)
 have h1 : ((w1.alloc (.cells old 49)).setRow w1.heap.size xs).heap[w1.heap.size]? = some (.cells xs 49 (0, 0)) := setRow_heap _ _ _ _ _ _ (heap_alloc_new w1 _)
 rw [hx] at h1
 refine ⟨⟨by rw [hx]; exact h1, hz.below hWb, by rw [hlo]; exact hb.size, ?_⟩, hb.trans (hWb.mono hb.size)⟩
 have := hz.lt.2
 omega
set_option maxHeartbeats 6400000 in
theorem Is_c' (w0 : World) (n : Int) (N : Nat) (A : Option Addr) (cA : Nat) (ps : List (Cv × List Tv)) (OA : Option Addr) (m oc : Nat) (L : List Int) (w : World) (hg : Gns w0 A N ps) (hN : N ≤ 12) (hm : m ≤ 1000) (hO : ZRow w0 OA m L) (hb0 : Below w0.heap.size w0 w) :
  Calls Try.prog 15 #[.slice A N cA, .slice OA m oc, .int .i64 n] w fun e w' => BPost (∃ o, May w0 n N ps m L o) e ∧ Below w.heap.size w w' := by
 have HD := Lib.hid (And.intro hg (And.intro hO hb0))
 clear hg hO hb0
 go_enter Try.func15, Try.ntmps15
 go_wp2_with fail
 refine (choiceOf_c w0 n N A cA ps OA m oc L w HD.out.1 hN hm HD.out.2.1 HD.out.2.2).mono ?_
 rintro e w1 ⟨ok, xs, rfl, hxs, hx1, hb, hno, hyes⟩
 have H1 : Hid (BPost (∃ o, May w0 n N ps m L o) (.returned (.bool ok)) ∧ Below w.heap.size w w1 ∧ xs.size = 66 ∧ xs.all (·.oneCell') = true) := by
  refine ⟨⟨ok, rfl, ?_⟩, hb, hxs, hx1⟩
  cases ok with
  | false => exact ⟨fun k => (by cases k), fun ⟨o, k⟩ => absurd k (hno rfl o)⟩
  | true => obtain ⟨o, _, _, k, _⟩ := hyes rfl; exact ⟨fun _ => ⟨o, k⟩, fun _ => rfl⟩
 clear hxs hx1 hb hno hyes
 go_wp2_with (first
  | (refine wpl_allocC rfl rfl ?_)
  | (refine wpList_store_row rfl 49 _ _ rfl w1.heap.size xs rfl rfl 49 chZ (heap_alloc_new w1 _) (by rw [H1.out.2.2.1]; exact Try.size49) (by rw [chC_size, H1.out.2.2.1]) H1.out.2.2.2 ?_))
 go_ret
 exact ⟨H1.out.1, H1.out.2.1.trans ((((Below.refl _ _).alloc (Nat.le_refl _) _).trans (setRow_below (Nat.le_refl _) _)).mono H1.out.2.1.size)⟩
end Go.Proofs.Ytjbhhccklfddaaa
