/-
  GaussMore: each of some sums is implied by them; what is implied adds nothing.
-/
import Derived.Test.YtkfkjdpkkagjgaaSpc
import Derived.Test.YtkfkjdpkkagjgaaGsK
import Derived.Test.YtkfkjdpkkagjgaaKnG
import Derived.Test.YtkfkjdpkkagjgaaRIg
import Derived.Deep.Cut
namespace Go.Proofs.Ytkfkjdpkkagjgaa
set_option maxRecDepth 20000
open Go.RowKit
/-- An edge (chain). -/
abbrev gcM (i : Nat) : Edge := { on := i, ground := Ground.chain }
/-- An edge (data). -/
abbrev gdM (i : Nat) : Edge := { on := i, ground := Ground.data }
/-- An edge (phase). -/
abbrev gpM (i : Nat) : Edge := { on := i, ground := Ground.phase }

/-- What holds wherever sums hold that can is made of them. -/
theorem told_sp {n : Nat} {S : List (Nat → Rat)} {c : Nat → Rat} (hs : ∃ x, Sat n S x) (h : ∀ x, Sat n S x → dot n c x = 0) : Sp n S c := by
  have hI := solveS_inv S [] [] true (Inv.nil n)
  rw [List.nil_append] at hI
  obtain ⟨x, hx⟩ := hs
  cases hok : (solveS n S [] true).2 with
  | false => rw [hok] at hI; exact absurd hx (hI.bad rfl x)
  | true =>
    rw [hok] at hI
    have := (hI.implies rfl c).2 h
    exact red_back hI.down (.zero (lead_all.1 this.1))
theorem sums_more {n : Nat} {vs us : List Kin} {f : Nat → Rat} (h : f ∈ sums n vs) : f ∈ sums n (vs ++ us) := by
  unfold sums at *
  rw [List.filter_append, List.map_append]
  exact List.mem_append_left _ h
theorem sums_in {n : Nat} {vs : List Kin} {x : Kin} (h : x ∈ vs) (ho : x.ok = true) : fn n x.L x.k ∈ sums n vs := List.mem_map.2 ⟨x, List.mem_filter.2 ⟨h, ho⟩, rfl⟩
theorem KinOf.below {N s : Nat} {w w' : World} {x : Kin} (h : KinOf N s w x) (hb : Below w.heap.size w w') : KinOf N s w' x := by
  obtain ⟨h1, h2, h3, la, h4, h5, h6⟩ := h
  exact ⟨h1, h2, h3.below hb, la, h4.below hb, h5.below hb, h6.trans (IsS.turn h5 h3 hb)⟩
theorem Fit.below {w w' : World} {v : Cv} {l : List Tv} (h : Fit w v l) (hb : Below w.heap.size w w') : Fit w' v l := ⟨h.row.below hb, h.n, h.kn, h.km, h.cap, h.each⟩
set_option maxHeartbeats 25600000 in
theorem GaussMore_any (A : Option Addr) (m c : Nat) (vc : Cv) (lc : List Tv) (n : Int) (ps : List (Cv × List Tv)) (w : World) (hk : Kons w A m (ps.map (·.1))) (hf : ∀ x ∈ ps, Raw w x.1 x.2) (hm : m ≤ 1048576) (hc : Raw w vc lc) :
    Calls Try.prog 3 #[.slice A m c, .agg #[.int .i64 vc.s, .slice vc.A vc.n vc.c, .bool vc.K.s, .slice vc.K.A vc.K.n vc.K.c, .slice vc.K.B vc.K.m vc.K.d], .int .i64 n] w fun e w' => e = .returned (.bool true) ∧ Below w.heap.size w w' := by
  have HK := Lib.hid hk
  have HF := Lib.hid hf
  have HCR := Lib.hid hc
  have ka := C5.new w (.int .i64 vc.s) (.slice vc.A vc.n vc.c) (.bool vc.K.s) (.slice vc.K.A vc.K.n vc.K.c) (.slice vc.K.B vc.K.m vc.K.d)
  have hB : Below w.heap.size w (w.alloc (.cells #[.int .i64 vc.s, .slice vc.A vc.n vc.c, .bool vc.K.s, .slice vc.K.A vc.K.n vc.K.c, .slice vc.K.B vc.K.m vc.K.d] 28)) := (Below.refl _ _).alloc (Nat.le_refl _) _
  have HZ0 := Lib.hid (And.intro ka hB)
  clear hk hf hc ka hB
  go_enter Try.func3, Try.ntmps3
  go_wp2_with fail
  generalize w.alloc (.cells #[.int .i64 vc.s, .slice vc.A vc.n vc.c, .bool vc.K.s, .slice vc.K.A vc.K.n vc.K.c, .slice vc.K.B vc.K.m vc.K.d] 28) = W0 at *
  obtain ⟨X, hX⟩ : ∃ X, X = w.heap.size := ⟨_, rfl⟩
  have HXE : Hid (X = w.heap.size) := hX
  rw [← hX] at HZ0
  rw [← hX]
  clear hX
  have HB0 : Hid (Below w.heap.size w W0) := HXE.out ▸ HZ0.out.2
  refine (heavyG_c A m c ps _ (HK.out.below HB0.out) (fun x hx => (HF.out x hx).fit.below HB0.out) hm).mono ?_
  rintro e w1 ⟨r, rfl, hr, hb⟩
  have HR := Lib.hid hr
  have HB1 : Hid (Below w.heap.size w w1 ∧ C5 w1 X (.int .i64 vc.s) (.slice vc.A vc.n vc.c) (.bool vc.K.s) (.slice vc.K.A vc.K.n vc.K.c) (.slice vc.K.B vc.K.m vc.K.d)) := ⟨HB0.out.trans (hb.mono HB0.out.size), HZ0.out.1.below hb⟩
  clear hr hb HZ0 HB0
  cases r with
  | true =>
    go_wp2
    go_ret
    exact ⟨rfl, HB1.out.1⟩
  | false =>
  obtain ⟨a0, a1, a2, a3, a4⟩ := HB1.out.2.facts
  go_wp2_with fail
  have HV1 : Hid ((w1.alloc (.cells #[.int .i64 vc.s, .slice vc.A vc.n vc.c, .bool vc.K.s, .slice vc.K.A vc.K.n vc.K.c, .slice vc.K.B vc.K.m vc.K.d] 28)).heap[w1.heap.size]? = some (.cells #[.int .i64 vc.s, .slice vc.A vc.n vc.c, .bool vc.K.s, .slice vc.K.A vc.K.n vc.K.c, .slice vc.K.B vc.K.m vc.K.d] 28 (0, 0)) ∧ Below w.heap.size w (w1.alloc (.cells #[.int .i64 vc.s, .slice vc.A vc.n vc.c, .bool vc.K.s, .slice vc.K.A vc.K.n vc.K.c, .slice vc.K.B vc.K.m vc.K.d] 28)) ∧ C5 (w1.alloc (.cells #[.int .i64 vc.s, .slice vc.A vc.n vc.c, .bool vc.K.s, .slice vc.K.A vc.K.n vc.K.c, .slice vc.K.B vc.K.m vc.K.d] 28)) X (.int .i64 vc.s) (.slice vc.A vc.n vc.c) (.bool vc.K.s) (.slice vc.K.A vc.K.n vc.K.c) (.slice vc.K.B vc.K.m vc.K.d)) := ⟨heap_alloc_new w1 _, HB1.out.1.alloc HB1.out.1.size _, HB1.out.2.alloc _⟩
  clear a0 a1 a2 a3 a4
  generalize w1.alloc (.cells #[.int .i64 vc.s, .slice vc.A vc.n vc.c, .bool vc.K.s, .slice vc.K.A vc.K.n vc.K.c, .slice vc.K.B vc.K.m vc.K.d] 28) = V at *
  generalize w1.heap.size = g1 at *
  refine (heavyG_c (some ⟨g1, 0, none⟩) 1 1 [(vc, lc)] _ (kons_one (v := vc) HV1.out.1) (fun x hx => by rw [List.mem_singleton.1 hx]; exact HCR.out.fit.below HV1.out.2.1) (by omega)).mono ?_
  rintro e w2 ⟨r, rfl, hr, hb⟩
  have HR' := Lib.hid hr
  have H2 : Hid (Below w.heap.size w w2 ∧ C5 w2 X (.int .i64 vc.s) (.slice vc.A vc.n vc.c) (.bool vc.K.s) (.slice vc.K.A vc.K.n vc.K.c) (.slice vc.K.B vc.K.m vc.K.d)) := ⟨HV1.out.2.1.trans (hb.mono HV1.out.2.1.size), HV1.out.2.2.below hb⟩
  clear hr hb HV1 HB1
  cases r with
  | true =>
    go_wp2
    go_ret
    exact ⟨rfl, H2.out.1⟩
  | false =>
  by_cases hn1 : n < 1
  · go_wp2
    go_ret
    exact ⟨rfl, H2.out.1⟩
  by_cases hn8 : 8 < n
  · go_wp2
    go_ret
    exact ⟨rfl, H2.out.1⟩
  obtain ⟨N, hN⟩ : ∃ N, heldN n = N := ⟨_, rfl⟩
  have hNn : n = (N : Int) := by have := heldN_int n; omega
  have hN8 : N ≤ 8 := by omega
  have HN := Lib.hid hN
  have HRM : Hid (Room 150 N) := room150 (by omega)
  obtain ⟨hm75, vs, hvs, hkn⟩ := kns_of N HK.out HF.out (HR.out (by trivial))
  have hcost : cost vc lc ≤ 150 := by
    have h1 := HR'.out (by trivial)
    have h2 := costA_get (ps := [(vc, lc)]) (i := 0) rfl
    exact Nat.le_trans h2 h1
  obtain ⟨xc, hxv, hxk⟩ := HCR.out.kin N hcost
  obtain ⟨vc', Lc, kc, okc⟩ := xc
  have hxv2 : vc = vc' := hxv.symm
  subst hxv2
  clear hxv
  have HV := Lib.hid hkn
  have HXC := Lib.hid hxk
  have HN2 : Hid (n = (N : Int)) := hNn
  have m2 : (m : Int) ≤ 75 := by omega
  have m0 : (0 : Int) ≤ (m : Int) := by omega
  clear hvs hkn hxk hcost HF HR HR' HK HCR hN hm
  obtain ⟨L, hL⟩ : ∃ L, L = vs.map (·.v) := ⟨_, rfl⟩
  have HL := Lib.hid hL
  have HKL0 : Hid (Kons w A m L) := by rw [hL]; exact HV.out.kons
  clear hL hNn
  go_wp2
  go_loopw [6, 7] (fun _ iv wr => ∃ i : Nat, i ≤ m ∧ iv = .int .i64 i ∧ Hid (Below w2.heap.size w2 wr)) (fun _ iv _ => m - (intOf iv).toNat)
  case atStart => exact ⟨0, Nat.zero_le _, rfl, Lib.hid (Below.refl _ _)⟩
  case round =>
    obtain ⟨i, hi, rfl, HBR⟩ := hrel
    have i0 : (0 : Int) ≤ (i : Int) := by omega
    have HBW : Hid (Below w.heap.size w wr) := H2.out.1.trans (HBR.out.mono H2.out.1.size)
    by_cases hlt : i < m
    · have i1 : (i : Int) < (m : Int) := by omega
      have hlen : vs.length = m := by have := HV.out.kons.len; rwa [List.length_map] at this
      have hil : i < vs.length := by omega
      obtain ⟨b, off, hA, hbw, hcc⟩ := HKL0.out.mem (by omega)
      have hx := List.getElem?_eq_getElem hil
      have hxm : L[i]? = some vs[i].v := by rw [HL.out, List.getElem?_map, hx]; rfl
      have HXI := Lib.hid (HV.out.rd _ (List.getElem_mem hil))
      have HMI := Lib.hid (fun ho => sums_in (n := N) (List.getElem_mem hil) ho)
      have h5 := hcc i _ hxm
      have HBK : Hid (b < w.heap.size) := hbw
      generalize vs[i] = x at *
      obtain ⟨va, La, ka, ok⟩ := x
      replace h5 : At5 w b (off + i * 5) va := h5
      replace HMI : Hid (ok = true → fn N La ka ∈ sums N vs) := HMI
      have H5 : Hid (∀ wz, Below w.heap.size w wz → At5 wz b (off + i * 5) va) := fun wz hz => h5.keep (hz.block b hbw)
      obtain ⟨k0, k1, k2, k3, k4⟩ := H5.out _ HBW.out
      have HXJ : Hid (KinOf N 150 w ⟨va, La, ka, ok⟩) := HXI.out
      obtain ⟨la, hla⟩ : ∃ la, va.n ≤ va.c ∧ va.n ≤ 1000 ∧ Rw w va.K ka 150 ∧ Tms w 0 va.A va.n la ∧ Rds w 150 la La ∧ (ok = true ↔ IsS w va la (N : Int)) := by
        obtain ⟨h1, h2, h3, la, h4, h5, h6⟩ := HXI.out
        exact ⟨la, h1, h2, h3, h4, h5, h6⟩
      have HLA := Lib.hid hla
      subst hA
      clear hx hxm hcc hbw h5 hlen HXI hla
      go_wp2_with fail
      refine (rIsK_c va n la La ka wr (by have := HN2.out; omega) HLA.out.1 (HLA.out.2.2.2.1.below HBW.out) ((HLA.out.2.2.2.2.1.below HBW.out).more (by omega)) ((HLA.out.2.2.1.below HBW.out).more (by omega)) HLA.out.2.1 ok (by rw [HN2.out]; exact HLA.out.2.2.2.2.2.trans (IsS.turn HLA.out.2.2.2.2.1 HLA.out.2.2.1 HBW.out))).mono ?_
      rintro e w3 ⟨rfl, hb3⟩
      have H3 : Hid (Below w.heap.size w w3 ∧ Below w2.heap.size w2 w3) := ⟨HBW.out.trans (hb3.mono HBW.out.size), HBR.out.trans (hb3.mono HBR.out.size)⟩
      clear k0 k1 k2 k3 k4 hb3 HBW HBR HLA
      cases ok with
      | false =>
        go_wp2
        go_roundw
        case rel => exact ⟨i + 1, by omega, by go_num, Lib.hid H3.out.2⟩
        case measure => simp [intOf]; omega
      | true =>
        obtain ⟨k0, k1, k2, k3, k4⟩ := H5.out _ H3.out.1
        go_wp2_with fail
        refine (Implies_c n N 150 _ m c vs va La ka true w3 HN.out (HV.out.below H3.out.1) (HXJ.out.below H3.out.1) (by omega) HRM.out).mono ?_
        rintro e w4 ⟨r, rfl, hr, hb4⟩
        obtain rfl : r = true := hr.2 (.inr ⟨rfl, fun x hx => hx _ (HMI.out (by trivial))⟩)
        have H4 : Hid (Below w2.heap.size w2 w4) := H3.out.2.trans (hb4.mono H3.out.2.size)
        clear k0 k1 k2 k3 k4 hr hb4
        go_wp2
        go_roundw
        case rel => exact ⟨i + 1, by omega, by go_num, H4⟩
        case measure => simp [intOf]; omega
    · have i1 : ¬ (i : Int) < (m : Int) := by omega
      have HCC : Hid (C5 wr X (.int .i64 vc.s) (.slice vc.A vc.n vc.c) (.bool vc.K.s) (.slice vc.K.A vc.K.n vc.K.c) (.slice vc.K.B vc.K.m vc.K.d)) := H2.out.2.below HBR.out
      have HKL : Hid (Kons wr A m L) := HKL0.out.below HBW.out
      have HAL : Hid (∀ w', Below wr.heap.size wr w' → w'.cell? ⟨X, 0, none⟩ = some (.int .i64 vc.s) ∧ w'.cell? ⟨X, 1, none⟩ = some (.slice vc.A vc.n vc.c) ∧ w'.cell? ⟨X, 2, none⟩ = some (.bool vc.K.s) ∧ w'.cell? ⟨X, 3, none⟩ = some (.slice vc.K.A vc.K.n vc.K.c) ∧ w'.cell? ⟨X, 4, none⟩ = some (.slice vc.K.B vc.K.m vc.K.d)) := fun w' h => (HCC.out.below h).facts
      obtain ⟨a0, a1, a2, a3, a4⟩ := HAL.out _ (Below.refl _ _)
      go_upto_region 8 with fail
      go_cut [8] from 46 (fun bv wx => ∃ (A3 : Option Addr) (c3 : Nat), bv = .slice A3 (m + 1) c3 ∧ Hid (OwnC wx wr.heap.size A3 c3 (m + 1) (L ++ [vc]) ∧ Below wr.heap.size wr wx))
      case first =>
          refine wp_region_held_drew (S := fun w' => w'.cell? ⟨X, 0, none⟩ = some (.int .i64 vc.s) ∧ w'.cell? ⟨X, 1, none⟩ = some (.slice vc.A vc.n vc.c) ∧ w'.cell? ⟨X, 2, none⟩ = some (.bool vc.K.s) ∧ w'.cell? ⟨X, 3, none⟩ = some (.slice vc.K.A vc.K.n vc.K.c) ∧ w'.cell? ⟨X, 4, none⟩ = some (.slice vc.K.B vc.K.m vc.K.d)) (by kernel_rfl) ?_ (fun hHeld => ?_)
          · (try dsimp only)
            go_keep
          refine wpAnyH_take (i := 1) (oi := { dst := some 47, op := Op.move (Operand.tmp 0), type := 22, pos := "law.go:108", after := #[], guard := none }) (v := ?vq1x) rfl (by kernel_rfl) (by kernel_rfl) (by kernel_rfl) (fun _ _ _ h => h) (Or.inl ⟨by rfl, ?hyq1x⟩) (by assumption) ?restq1x
          case hyq1x => intro w hSw; (try dsimp only at hSw); go_simp; all_goals (with_reducible rfl)
          try simp only [Act.put, List.setIfInBounds_toArray, List.set_cons_zero, List.set_cons_succ]
          refine wpAnyH_take (i := 3) (oi := { dst := some 49, op := Op.load 28 (Operand.tmp 4), type := 28, pos := "law.go:108", after := #[], guard := none }) (v := ?vq2x) rfl (by kernel_rfl) (by kernel_rfl) (by kernel_rfl) (fun _ _ _ h => h) (Or.inl ⟨by rfl, ?hyq2x⟩) (by assumption) ?restq2x
          case hyq2x => intro w hSw; (try dsimp only at hSw); go_simp; all_goals (with_reducible rfl)
          try simp only [Act.put, List.setIfInBounds_toArray, List.set_cons_zero, List.set_cons_succ]
          refine wpAnyH_ready (rs := [0, 4]) (by kernel_rfl) (by simp) ?_
          refine AllReadyH.cons (o := { dst := some 46, op := Op.buildSlice 22 0 #[], type := 22, pos := "law.go:108", after := #[], guard := none }) rfl (fun K hK => ?_) (AllReadyH.cons (o := { dst := some 50, op := Op.buildSlice 22 1 #[(0, Operand.tmp 49)], type := 22, pos := "law.go:108", after := #[gdM 3], guard := none }) rfl (fun K hK => ?_) AllReadyH.nil)
          · skip
            try go_simp
            try go_wp2_with fail
            refine hK.out _ _ ?_ (fun hHeld => ?_)
            · (try dsimp only); go_keep
            clear hK K
            try simp only [Act.put, List.setIfInBounds_toArray, List.set_cons_zero, List.set_cons_succ]
            have P0 : Hid (Below wr.heap.size wr (wr.alloc (.cells #[] 28)).drew) := (Below.refl wr.heap.size wr).trans ((((Below.refl _ _).alloc (Nat.le_refl _) _).drew).mono (Below.refl wr.heap.size wr).size)
            have E0 : Hid (OwnC (wr.alloc (.cells #[] 28)).drew wr.heap.size (some ⟨wr.heap.size, 0, none⟩) 0 0 [] ∧ Below wr.heap.size wr (wr.alloc (.cells #[] 28)).drew) := ⟨(OwnC.made0 wr).below (Below.refl _ _).drew, ((Below.refl _ _).alloc (Nat.le_refl _) _).drew⟩
            generalize (wr.alloc (.cells #[] 28)).drew = w0 at *
            clear a0 a1 a2 a3 a4
            obtain ⟨a0, a1, a2, a3, a4⟩ := HAL.out _ P0.out
            refine wpAnyH_ready (rs := [2, 4]) (by kernel_rfl) (by simp) ?_
            refine AllReadyH.cons (o := { dst := some 48, op := Op.call { callee := Callee.builtin Builtin.append, args := #[Operand.tmp 46, Operand.tmp 47], argTypes := #[22, 22] }, type := 22, pos := "law.go:108", after := #[gdM 0, gdM 1], guard := none }) rfl (fun K hK => ?_) (AllReadyH.cons (o := { dst := some 50, op := Op.buildSlice 22 1 #[(0, Operand.tmp 49)], type := 22, pos := "law.go:108", after := #[gdM 3], guard := none }) rfl (fun K hK => ?_) AllReadyH.nil)
            · skip
              refine spc_appends rfl _ _ rfl rfl rfl (lo := wr.heap.size) (l := []) (n := 0) E0.out.1 (HKL.out.below P0.out) (by omega) (by have := E0.out.2.size; omega) ?_
              intro A6 c6 w2 hown hgrow
              have P2 : Hid (Below wr.heap.size wr w2) := P0.out.grown hgrow P0.out.size (by intro k hk; simp at hk; have := (Below.refl wr.heap.size wr).size; omega)
              have G2 : Hid (OwnC w2 wr.heap.size A6 c6 m L) := OwnC.lower (by simpa using hown) (Below.refl wr.heap.size wr).size
              clear hown hgrow
              try rw [Nat.zero_add]
              clear a0 a1 a2 a3 a4
              obtain ⟨a0, a1, a2, a3, a4⟩ := HAL.out _ P2.out
              try go_wp2_with fail
              refine hK.out _ _ ?_ (fun hHeld => ?_)
              · (try dsimp only); go_keep
              clear hK K
              try simp only [Act.put, List.setIfInBounds_toArray, List.set_cons_zero, List.set_cons_succ]
              refine wpAnyH_ready (rs := [4]) (by kernel_rfl) (by simp) ?_
              refine AllReadyH.cons (o := { dst := some 50, op := Op.buildSlice 22 1 #[(0, Operand.tmp 49)], type := 22, pos := "law.go:108", after := #[gdM 3], guard := none }) rfl (fun K hK => ?_) AllReadyH.nil
              try go_simp
              try go_wp2_with fail
              refine hK.out _ _ ?_ (fun hHeld => ?_)
              · (try dsimp only); go_keep
              clear hK K
              try simp only [Act.put, List.setIfInBounds_toArray, List.set_cons_zero, List.set_cons_succ]
              have P4 : Hid (Below wr.heap.size wr (w2.alloc (.cells #[.int .i64 vc.s, .slice vc.A vc.n vc.c, .bool vc.K.s, .slice vc.K.A vc.K.n vc.K.c, .slice vc.K.B vc.K.m vc.K.d] 28))) := P2.out.trans ((((Below.refl _ _).alloc (Nat.le_refl _) _)).mono P2.out.size)
              have G4 : Hid ((w2.alloc (.cells #[.int .i64 vc.s, .slice vc.A vc.n vc.c, .bool vc.K.s, .slice vc.K.A vc.K.n vc.K.c, .slice vc.K.B vc.K.m vc.K.d] 28)).heap[w2.heap.size]? = some (.cells #[.int .i64 vc.s, .slice vc.A vc.n vc.c, .bool vc.K.s, .slice vc.K.A vc.K.n vc.K.c, .slice vc.K.B vc.K.m vc.K.d] 28 (0, 0)) ∧ w2.heap.size < (w2.alloc (.cells #[.int .i64 vc.s, .slice vc.A vc.n vc.c, .bool vc.K.s, .slice vc.K.A vc.K.n vc.K.c, .slice vc.K.B vc.K.m vc.K.d] 28)).heap.size) := ⟨heap_alloc_new w2 _, by simp⟩
              have D4 : Hid (Below w2.heap.size w2 (w2.alloc (.cells #[.int .i64 vc.s, .slice vc.A vc.n vc.c, .bool vc.K.s, .slice vc.K.A vc.K.n vc.K.c, .slice vc.K.B vc.K.m vc.K.d] 28))) := ((Below.refl _ _).alloc (Nat.le_refl _) _)
              generalize (w2.alloc (.cells #[.int .i64 vc.s, .slice vc.A vc.n vc.c, .bool vc.K.s, .slice vc.K.A vc.K.n vc.K.c, .slice vc.K.B vc.K.m vc.K.d] 28)) = w4 at *
              clear a0 a1 a2 a3 a4
              obtain ⟨a0, a1, a2, a3, a4⟩ := HAL.out _ P4.out
              refine wpAnyH_ready (rs := [5]) (by kernel_rfl) (by simp) ?_
              refine AllReadyH.cons (o := { dst := some 51, op := Op.call { callee := Callee.builtin Builtin.append, args := #[Operand.tmp 48, Operand.tmp 50], argTypes := #[22, 22] }, type := 22, pos := "law.go:108", after := #[gdM 2, gdM 4, gcM 2], guard := none }) rfl (fun K hK => ?_) AllReadyH.nil
              refine spc_appends rfl _ _ rfl rfl rfl (lo := wr.heap.size) (G2.out.below D4.out) (kons_one (v := vc) G4.out.1) (by omega) P4.out.size ?_
              intro A7 c7 w5 hown hgrow
              have P5 : Hid (OwnC w5 wr.heap.size A7 c7 (m + 1) (L ++ [vc]) ∧ Below wr.heap.size wr w5) := ⟨hown, far_grown P4.out (G2.out.below D4.out) hgrow⟩
              clear hown hgrow
              clear a0 a1 a2 a3 a4
              obtain ⟨a0, a1, a2, a3, a4⟩ := HAL.out _ P5.out.2
              try go_wp2_with fail
              refine hK.out _ _ ?_ (fun hHeld => ?_)
              · (try dsimp only); go_keep
              clear hK K
              try simp only [Act.put, List.setIfInBounds_toArray, List.set_cons_zero, List.set_cons_succ]
              refine wpAnyH_take (i := 6) (oi := { dst := some 8, op := Op.assign (Operand.tmp 51), type := 22, pos := "law.go:108", after := #[gdM 5, gcM 5, gpM 0, gpM 1, gpM 2, gpM 3, gpM 4, gpM 5], guard := none }) (v := ?vq3x) rfl (by kernel_rfl) (by kernel_rfl) (by kernel_rfl) (fun _ _ _ h => h) (Or.inl ⟨by rfl, ?hyq3x⟩) (by assumption) ?restq3x
              case hyq3x => intro w hSw; (try dsimp only at hSw); go_simp; all_goals (with_reducible rfl)
              try simp only [Act.put, List.setIfInBounds_toArray, List.set_cons_zero, List.set_cons_succ]
              refine wpAnyH_done (by kernel_rfl) ?_ _
              go_wp2_with fail
              go_meet
              exact ⟨_, _, rfl, P5⟩
            · skip
              try go_simp
              try go_wp2_with fail
              refine hK.out _ _ ?_ (fun hHeld => ?_)
              · (try dsimp only); go_keep
              clear hK K
              try simp only [Act.put, List.setIfInBounds_toArray, List.set_cons_zero, List.set_cons_succ]
              have P4 : Hid (Below wr.heap.size wr (w0.alloc (.cells #[.int .i64 vc.s, .slice vc.A vc.n vc.c, .bool vc.K.s, .slice vc.K.A vc.K.n vc.K.c, .slice vc.K.B vc.K.m vc.K.d] 28))) := P0.out.trans ((((Below.refl _ _).alloc (Nat.le_refl _) _)).mono P0.out.size)
              have G4 : Hid ((w0.alloc (.cells #[.int .i64 vc.s, .slice vc.A vc.n vc.c, .bool vc.K.s, .slice vc.K.A vc.K.n vc.K.c, .slice vc.K.B vc.K.m vc.K.d] 28)).heap[w0.heap.size]? = some (.cells #[.int .i64 vc.s, .slice vc.A vc.n vc.c, .bool vc.K.s, .slice vc.K.A vc.K.n vc.K.c, .slice vc.K.B vc.K.m vc.K.d] 28 (0, 0)) ∧ w0.heap.size < (w0.alloc (.cells #[.int .i64 vc.s, .slice vc.A vc.n vc.c, .bool vc.K.s, .slice vc.K.A vc.K.n vc.K.c, .slice vc.K.B vc.K.m vc.K.d] 28)).heap.size) := ⟨heap_alloc_new w0 _, by simp⟩
              have D4 : Hid (Below w0.heap.size w0 (w0.alloc (.cells #[.int .i64 vc.s, .slice vc.A vc.n vc.c, .bool vc.K.s, .slice vc.K.A vc.K.n vc.K.c, .slice vc.K.B vc.K.m vc.K.d] 28))) := ((Below.refl _ _).alloc (Nat.le_refl _) _)
              have HNE : Hid (w0.heap.size ≠ wr.heap.size) := by have := E0.out.1.lt _ rfl; show _ ≠ _; omega
              generalize (w0.alloc (.cells #[.int .i64 vc.s, .slice vc.A vc.n vc.c, .bool vc.K.s, .slice vc.K.A vc.K.n vc.K.c, .slice vc.K.B vc.K.m vc.K.d] 28)) = w4 at *
              clear a0 a1 a2 a3 a4
              obtain ⟨a0, a1, a2, a3, a4⟩ := HAL.out _ P4.out
              refine wpAnyH_ready (rs := [2]) (by kernel_rfl) (by simp) ?_
              refine AllReadyH.cons (o := { dst := some 48, op := Op.call { callee := Callee.builtin Builtin.append, args := #[Operand.tmp 46, Operand.tmp 47], argTypes := #[22, 22] }, type := 22, pos := "law.go:108", after := #[gdM 0, gdM 1], guard := none }) rfl (fun K hK => ?_) AllReadyH.nil
              refine spc_appends rfl _ _ rfl rfl rfl (lo := wr.heap.size) (l := []) (n := 0) (E0.out.1.below D4.out) (HKL.out.below P4.out) (by omega) (by have := E0.out.2.size; have := D4.out.size; omega) ?_
              intro A6 c6 w2 hown hgrow
              have P2 : Hid (Below wr.heap.size wr w2) := P4.out.grown hgrow P4.out.size (by intro k hk; simp at hk; have := (Below.refl wr.heap.size wr).size; omega)
              have G2 : Hid (OwnC w2 wr.heap.size A6 c6 m L) := OwnC.lower (by simpa using hown) (Below.refl wr.heap.size wr).size
              replace G4 : Hid (w2.heap[w0.heap.size]? = some (.cells #[.int .i64 vc.s, .slice vc.A vc.n vc.c, .bool vc.K.s, .slice vc.K.A vc.K.n vc.K.c, .slice vc.K.B vc.K.m vc.K.d] 28 (0, 0)) ∧ w0.heap.size < w2.heap.size) := ⟨(hgrow.block _ G4.out.2 (by have := HNE.out; simp; omega)).trans G4.out.1, Nat.lt_of_lt_of_le G4.out.2 hgrow.size⟩
              clear hown hgrow
              try rw [Nat.zero_add]
              clear a0 a1 a2 a3 a4
              obtain ⟨a0, a1, a2, a3, a4⟩ := HAL.out _ P2.out
              try go_wp2_with fail
              refine hK.out _ _ ?_ (fun hHeld => ?_)
              · (try dsimp only); go_keep
              clear hK K
              try simp only [Act.put, List.setIfInBounds_toArray, List.set_cons_zero, List.set_cons_succ]
              refine wpAnyH_ready (rs := [5]) (by kernel_rfl) (by simp) ?_
              refine AllReadyH.cons (o := { dst := some 51, op := Op.call { callee := Callee.builtin Builtin.append, args := #[Operand.tmp 48, Operand.tmp 50], argTypes := #[22, 22] }, type := 22, pos := "law.go:108", after := #[gdM 2, gdM 4, gcM 2], guard := none }) rfl (fun K hK => ?_) AllReadyH.nil
              refine spc_appends rfl _ _ rfl rfl rfl (lo := wr.heap.size) G2.out (kons_one (v := vc) G4.out.1) (by omega) P2.out.size ?_
              intro A7 c7 w5 hown hgrow
              have P5 : Hid (OwnC w5 wr.heap.size A7 c7 (m + 1) (L ++ [vc]) ∧ Below wr.heap.size wr w5) := ⟨hown, far_grown P2.out G2.out hgrow⟩
              clear hown hgrow
              clear a0 a1 a2 a3 a4
              obtain ⟨a0, a1, a2, a3, a4⟩ := HAL.out _ P5.out.2
              try go_wp2_with fail
              refine hK.out _ _ ?_ (fun hHeld => ?_)
              · (try dsimp only); go_keep
              clear hK K
              try simp only [Act.put, List.setIfInBounds_toArray, List.set_cons_zero, List.set_cons_succ]
              refine wpAnyH_take (i := 6) (oi := { dst := some 8, op := Op.assign (Operand.tmp 51), type := 22, pos := "law.go:108", after := #[gdM 5, gcM 5, gpM 0, gpM 1, gpM 2, gpM 3, gpM 4, gpM 5], guard := none }) (v := ?vq4x) rfl (by kernel_rfl) (by kernel_rfl) (by kernel_rfl) (fun _ _ _ h => h) (Or.inl ⟨by rfl, ?hyq4x⟩) (by assumption) ?restq4x
              case hyq4x => intro w hSw; (try dsimp only at hSw); go_simp; all_goals (with_reducible rfl)
              try simp only [Act.put, List.setIfInBounds_toArray, List.set_cons_zero, List.set_cons_succ]
              refine wpAnyH_done (by kernel_rfl) ?_ _
              go_wp2_with fail
              go_meet
              exact ⟨_, _, rfl, P5⟩
          · skip
            try go_simp
            try go_wp2_with fail
            refine hK.out _ _ ?_ (fun hHeld => ?_)
            · (try dsimp only); go_keep
            clear hK K
            try simp only [Act.put, List.setIfInBounds_toArray, List.set_cons_zero, List.set_cons_succ]
            have P4 : Hid (Below wr.heap.size wr (wr.alloc (.cells #[.int .i64 vc.s, .slice vc.A vc.n vc.c, .bool vc.K.s, .slice vc.K.A vc.K.n vc.K.c, .slice vc.K.B vc.K.m vc.K.d] 28)).drew) := (Below.refl wr.heap.size wr).trans ((((Below.refl _ _).alloc (Nat.le_refl _) _).drew).mono (Below.refl wr.heap.size wr).size)
            have G4 : Hid ((wr.alloc (.cells #[.int .i64 vc.s, .slice vc.A vc.n vc.c, .bool vc.K.s, .slice vc.K.A vc.K.n vc.K.c, .slice vc.K.B vc.K.m vc.K.d] 28)).drew.heap[wr.heap.size]? = some (.cells #[.int .i64 vc.s, .slice vc.A vc.n vc.c, .bool vc.K.s, .slice vc.K.A vc.K.n vc.K.c, .slice vc.K.B vc.K.m vc.K.d] 28 (0, 0)) ∧ wr.heap.size < (wr.alloc (.cells #[.int .i64 vc.s, .slice vc.A vc.n vc.c, .bool vc.K.s, .slice vc.K.A vc.K.n vc.K.c, .slice vc.K.B vc.K.m vc.K.d] 28)).drew.heap.size) := ⟨heap_alloc_new wr _, by simp⟩
            have D4 : Hid (Below wr.heap.size wr (wr.alloc (.cells #[.int .i64 vc.s, .slice vc.A vc.n vc.c, .bool vc.K.s, .slice vc.K.A vc.K.n vc.K.c, .slice vc.K.B vc.K.m vc.K.d] 28)).drew) := ((Below.refl _ _).alloc (Nat.le_refl _) _).drew
            generalize (wr.alloc (.cells #[.int .i64 vc.s, .slice vc.A vc.n vc.c, .bool vc.K.s, .slice vc.K.A vc.K.n vc.K.c, .slice vc.K.B vc.K.m vc.K.d] 28)).drew = w4 at *
            clear a0 a1 a2 a3 a4
            obtain ⟨a0, a1, a2, a3, a4⟩ := HAL.out _ P4.out
            refine wpAnyH_ready (rs := [0]) (by kernel_rfl) (by simp) ?_
            refine AllReadyH.cons (o := { dst := some 46, op := Op.buildSlice 22 0 #[], type := 22, pos := "law.go:108", after := #[], guard := none }) rfl (fun K hK => ?_) AllReadyH.nil
            try go_simp
            try go_wp2_with fail
            refine hK.out _ _ ?_ (fun hHeld => ?_)
            · (try dsimp only); go_keep
            clear hK K
            try simp only [Act.put, List.setIfInBounds_toArray, List.set_cons_zero, List.set_cons_succ]
            have P0 : Hid (Below wr.heap.size wr (w4.alloc (.cells #[] 28))) := P4.out.trans ((((Below.refl _ _).alloc (Nat.le_refl _) _)).mono P4.out.size)
            have E0 : Hid (OwnC (w4.alloc (.cells #[] 28)) w4.heap.size (some ⟨w4.heap.size, 0, none⟩) 0 0 [] ∧ Below w4.heap.size w4 (w4.alloc (.cells #[] 28))) := ⟨(OwnC.made0 w4), ((Below.refl _ _).alloc (Nat.le_refl _) _)⟩
            have HNE : Hid (wr.heap.size ≠ w4.heap.size) := by have := G4.out.2; show _ ≠ _; omega
            replace G4 : Hid ((w4.alloc (.cells #[] 28)).heap[wr.heap.size]? = some (.cells #[.int .i64 vc.s, .slice vc.A vc.n vc.c, .bool vc.K.s, .slice vc.K.A vc.K.n vc.K.c, .slice vc.K.B vc.K.m vc.K.d] 28 (0, 0)) ∧ wr.heap.size < (w4.alloc (.cells #[] 28)).heap.size) := ⟨(E0.out.2.block _ G4.out.2).trans G4.out.1, Nat.lt_of_lt_of_le G4.out.2 E0.out.2.size⟩
            generalize (w4.alloc (.cells #[] 28)) = w0 at *
            clear a0 a1 a2 a3 a4
            obtain ⟨a0, a1, a2, a3, a4⟩ := HAL.out _ P0.out
            refine wpAnyH_ready (rs := [2]) (by kernel_rfl) (by simp) ?_
            refine AllReadyH.cons (o := { dst := some 48, op := Op.call { callee := Callee.builtin Builtin.append, args := #[Operand.tmp 46, Operand.tmp 47], argTypes := #[22, 22] }, type := 22, pos := "law.go:108", after := #[gdM 0, gdM 1], guard := none }) rfl (fun K hK => ?_) AllReadyH.nil
            refine spc_appends rfl _ _ rfl rfl rfl (lo := w4.heap.size) (l := []) (n := 0) E0.out.1 (HKL.out.below P0.out) (by omega) (by have := E0.out.2.size; omega) ?_
            intro A6 c6 w2 hown hgrow
            have P2 : Hid (Below wr.heap.size wr w2) := P0.out.grown hgrow P0.out.size (by intro k hk; simp at hk; have := P4.out.size; omega)
            have G2 : Hid (OwnC w2 wr.heap.size A6 c6 m L) := OwnC.lower (by simpa using hown) P4.out.size
            replace G4 : Hid (w2.heap[wr.heap.size]? = some (.cells #[.int .i64 vc.s, .slice vc.A vc.n vc.c, .bool vc.K.s, .slice vc.K.A vc.K.n vc.K.c, .slice vc.K.B vc.K.m vc.K.d] 28 (0, 0)) ∧ wr.heap.size < w2.heap.size) := ⟨(hgrow.block _ G4.out.2 (by have := HNE.out; simp; omega)).trans G4.out.1, Nat.lt_of_lt_of_le G4.out.2 hgrow.size⟩
            clear hown hgrow
            try rw [Nat.zero_add]
            clear a0 a1 a2 a3 a4
            obtain ⟨a0, a1, a2, a3, a4⟩ := HAL.out _ P2.out
            try go_wp2_with fail
            refine hK.out _ _ ?_ (fun hHeld => ?_)
            · (try dsimp only); go_keep
            clear hK K
            try simp only [Act.put, List.setIfInBounds_toArray, List.set_cons_zero, List.set_cons_succ]
            refine wpAnyH_ready (rs := [5]) (by kernel_rfl) (by simp) ?_
            refine AllReadyH.cons (o := { dst := some 51, op := Op.call { callee := Callee.builtin Builtin.append, args := #[Operand.tmp 48, Operand.tmp 50], argTypes := #[22, 22] }, type := 22, pos := "law.go:108", after := #[gdM 2, gdM 4, gcM 2], guard := none }) rfl (fun K hK => ?_) AllReadyH.nil
            refine spc_appends rfl _ _ rfl rfl rfl (lo := wr.heap.size) G2.out (kons_one (v := vc) G4.out.1) (by omega) P2.out.size ?_
            intro A7 c7 w5 hown hgrow
            have P5 : Hid (OwnC w5 wr.heap.size A7 c7 (m + 1) (L ++ [vc]) ∧ Below wr.heap.size wr w5) := ⟨hown, far_grown P2.out G2.out hgrow⟩
            clear hown hgrow
            clear a0 a1 a2 a3 a4
            obtain ⟨a0, a1, a2, a3, a4⟩ := HAL.out _ P5.out.2
            try go_wp2_with fail
            refine hK.out _ _ ?_ (fun hHeld => ?_)
            · (try dsimp only); go_keep
            clear hK K
            try simp only [Act.put, List.setIfInBounds_toArray, List.set_cons_zero, List.set_cons_succ]
            refine wpAnyH_take (i := 6) (oi := { dst := some 8, op := Op.assign (Operand.tmp 51), type := 22, pos := "law.go:108", after := #[gdM 5, gcM 5, gpM 0, gpM 1, gpM 2, gpM 3, gpM 4, gpM 5], guard := none }) (v := ?vq5x) rfl (by kernel_rfl) (by kernel_rfl) (by kernel_rfl) (fun _ _ _ h => h) (Or.inl ⟨by rfl, ?hyq5x⟩) (by assumption) ?restq5x
            case hyq5x => intro w hSw; (try dsimp only at hSw); go_simp; all_goals (with_reducible rfl)
            try simp only [Act.put, List.setIfInBounds_toArray, List.set_cons_zero, List.set_cons_succ]
            refine wpAnyH_done (by kernel_rfl) ?_ _
            go_wp2_with fail
            go_meet
            exact ⟨_, _, rfl, P5⟩
      case rest =>
        obtain ⟨A3, c3, rfl, HO⟩ := hcut
        have HBM : Hid (Below w.heap.size w wc) := HBW.out.trans (HO.out.2.mono HBW.out.size)
        have HVM : Hid (Kns N 150 wc A m vs) := HV.out.below HBM.out
        have HMO : Hid (Kns N 150 wc A3 (m + 1) (vs ++ [⟨vc, Lc, kc, okc⟩])) := by
          refine ⟨by rw [List.map_append, ← HL.out]; exact HO.out.1.kons, fun x hx => ?_⟩
          rcases List.mem_append.1 hx with hx | hx
          · exact HVM.out.rd x hx
          · rw [List.mem_singleton.1 hx]; exact HXC.out.below HBM.out
        have HCM : Hid (C5 wc X (.int .i64 vc.s) (.slice vc.A vc.n vc.c) (.bool vc.K.s) (.slice vc.K.A vc.K.n vc.K.c) (.slice vc.K.B vc.K.m vc.K.d)) := HCC.out.below HO.out.2
        have HXM : Hid (KinOf N 150 wc ⟨vc, Lc, kc, okc⟩) := HXC.out.below HBM.out
        clear a0 a1 a2 a3 a4 HAL HCC HKL HO HV HXC HKL0 HL HBW HBR H2
        generalize wc = WM at *
        obtain ⟨a0, a1, a2, a3, a4⟩ := HCM.out.facts
        go_wp2_with fail
        refine (Implies_c n N 150 A m c vs vc Lc kc okc WM HN.out HVM.out HXM.out (by omega) HRM.out).mono ?_
        rintro e w8 ⟨b1, rfl, hi1, hb8⟩
        have H8 : Hid (Below WM.heap.size WM w8) := hb8
        have HI1 := Lib.hid hi1
        clear hi1 hb8 a0 a1 a2 a3 a4
        cases b1 with
        | false =>
          have HBX := H8
          go_wp2_with fail
          refine (Rank_c n N 150 A3 (m + 1) c3 (vs ++ [⟨vc, Lc, kc, okc⟩]) _ HN.out (HMO.out.below HBX.out) (by omega) HRM.out).mono ?_
          rintro e w11 ⟨R1, rfl, hB1, hb⟩
          have H1 : Hid (Below WM.heap.size WM w11) := HBX.out.trans (hb.mono HBX.out.size)
          have HR1 := Lib.hid hB1
          clear hb hB1 HBX
          go_wp2_with fail
          refine (Rank_c n N 150 A m c vs _ HN.out (HVM.out.below H1.out) (by omega) HRM.out).mono ?_
          rintro e w12 ⟨R2, rfl, hB2, hb⟩
          have H2 : Hid (Below WM.heap.size WM w12) := H1.out.trans (hb.mono H1.out.size)
          have HLE : (R2.length : Int) ≤ (R1.length : Int) := by
            have := hB2.le HR1.out fun s hs => Sp.mem (sums_more hs)
            omega
          generalize R1.length = r1 at *
          generalize R2.length = r2 at *
          clear hb hB2 H1 HR1
          go_wp2_with fail
          refine (Consistent_c n N 150 A3 (m + 1) c3 (vs ++ [⟨vc, Lc, kc, okc⟩]) _ HN.out (HMO.out.below H2.out) (by omega) HRM.out).mono ?_
          rintro e w13 ⟨b3, rfl, hc3, hb⟩
          have H3 : Hid (Below WM.heap.size WM w13) := H2.out.trans (hb.mono H2.out.size)
          clear hb H2
          cases b3 with
          | true =>
            have HSL : Hid (∃ x, Sat N (sums N vs) x) := by
              obtain ⟨x, hx⟩ := hc3.1 rfl
              exact ⟨x, fun f hf => hx f (sums_more hf)⟩
            clear hc3
            go_wp2_with fail
            refine (Consistent_c n N 150 A m c vs _ HN.out (HVM.out.below H3.out) (by omega) HRM.out).mono ?_
            rintro e w14 ⟨b4, rfl, hc4, hb⟩
            obtain rfl : b4 = true := hc4.2 HSL.out
            have H4 : Hid (Below WM.heap.size WM w14) := H3.out.trans (hb.mono H3.out.size)
            clear hb hc4
            go_wp2_with fail
            refine (known10_c _).mono ?_
            rintro e w15 ⟨rfl, hb⟩
            have H5 : Hid (Below w.heap.size w w15) := HBM.out.trans ((H4.out.trans (hb.mono H4.out.size)).mono HBM.out.size)
            clear hb
            go_wp2
            go_ret
            exact ⟨rfl, H5.out⟩
          | false =>
            clear hc3
            go_wp2_with fail
            refine (known10_c _).mono ?_
            rintro e w15 ⟨rfl, hb⟩
            have H5 : Hid (Below w.heap.size w w15) := HBM.out.trans ((H3.out.trans (hb.mono H3.out.size)).mono HBM.out.size)
            clear hb
            go_wp2
            go_ret
            exact ⟨rfl, H5.out⟩
        | true =>
          go_wp2_with fail
          refine (Consistent_c n N 150 A m c vs _ HN.out (HVM.out.below H8.out) (by omega) HRM.out).mono ?_
          rintro e w9 ⟨b2, rfl, hc2, hb9⟩
          have H9 : Hid (Below WM.heap.size WM w9) := H8.out.trans (hb9.mono H8.out.size)
          have HC2 := Lib.hid hc2
          clear hc2 hb9 H8
          cases b2 with
          | false =>
            have HBX := H9
            go_wp2_with fail
            refine (Rank_c n N 150 A3 (m + 1) c3 (vs ++ [⟨vc, Lc, kc, okc⟩]) _ HN.out (HMO.out.below HBX.out) (by omega) HRM.out).mono ?_
            rintro e w11 ⟨R1, rfl, hB1, hb⟩
            have H1 : Hid (Below WM.heap.size WM w11) := HBX.out.trans (hb.mono HBX.out.size)
            have HR1 := Lib.hid hB1
            clear hb hB1 HBX
            go_wp2_with fail
            refine (Rank_c n N 150 A m c vs _ HN.out (HVM.out.below H1.out) (by omega) HRM.out).mono ?_
            rintro e w12 ⟨R2, rfl, hB2, hb⟩
            have H2 : Hid (Below WM.heap.size WM w12) := H1.out.trans (hb.mono H1.out.size)
            have HLE : (R2.length : Int) ≤ (R1.length : Int) := by
              have := hB2.le HR1.out fun s hs => Sp.mem (sums_more hs)
              omega
            generalize R1.length = r1 at *
            generalize R2.length = r2 at *
            clear hb hB2 H1 HR1
            go_wp2_with fail
            refine (Consistent_c n N 150 A3 (m + 1) c3 (vs ++ [⟨vc, Lc, kc, okc⟩]) _ HN.out (HMO.out.below H2.out) (by omega) HRM.out).mono ?_
            rintro e w13 ⟨b3, rfl, hc3, hb⟩
            have H3 : Hid (Below WM.heap.size WM w13) := H2.out.trans (hb.mono H2.out.size)
            clear hb H2
            cases b3 with
            | true =>
              have HSL : Hid (∃ x, Sat N (sums N vs) x) := by
                obtain ⟨x, hx⟩ := hc3.1 rfl
                exact ⟨x, fun f hf => hx f (sums_more hf)⟩
              clear hc3
              go_wp2_with fail
              refine (Consistent_c n N 150 A m c vs _ HN.out (HVM.out.below H3.out) (by omega) HRM.out).mono ?_
              rintro e w14 ⟨b4, rfl, hc4, hb⟩
              obtain rfl : b4 = true := hc4.2 HSL.out
              have H4 : Hid (Below WM.heap.size WM w14) := H3.out.trans (hb.mono H3.out.size)
              clear hb hc4
              go_wp2_with fail
              refine (known10_c _).mono ?_
              rintro e w15 ⟨rfl, hb⟩
              have H5 : Hid (Below w.heap.size w w15) := HBM.out.trans ((H4.out.trans (hb.mono H4.out.size)).mono HBM.out.size)
              clear hb
              go_wp2
              go_ret
              exact ⟨rfl, H5.out⟩
            | false =>
              clear hc3
              go_wp2_with fail
              refine (known10_c _).mono ?_
              rintro e w15 ⟨rfl, hb⟩
              have H5 : Hid (Below w.heap.size w w15) := HBM.out.trans ((H3.out.trans (hb.mono H3.out.size)).mono HBM.out.size)
              clear hb
              go_wp2
              go_ret
              exact ⟨rfl, H5.out⟩
          | true =>
            have hs : ∃ x, Sat N (sums N vs) x := HC2.out.1 (by trivial)
            have hi : okc = true ∧ ∀ x, Sat N (sums N vs) x → dot N (fn N Lc kc) x = 0 := (HI1.out.1 (by trivial)).resolve_left (fun h => h hs)
            have hsm : sums N (vs ++ [⟨vc, Lc, kc, okc⟩]) = sums N vs ++ [fn N Lc kc] := sums_yes (x := ⟨vc, Lc, kc, okc⟩) hi.1
            have HSP : Hid (∀ f ∈ sums N (vs ++ [⟨vc, Lc, kc, okc⟩]), Sp N (sums N vs) f) := fun f hf => by
              rw [hsm] at hf
              rcases List.mem_append.1 hf with hf | hf
              · exact Sp.mem hf
              · rw [List.mem_singleton.1 hf]; exact told_sp hs hi.2
            have HST : Hid (∃ x, Sat N (sums N (vs ++ [⟨vc, Lc, kc, okc⟩])) x) := by
              obtain ⟨x, hx⟩ := hs
              exact ⟨x, by rw [hsm]; exact sat_snoc.2 ⟨hx, hi.2 x hx⟩⟩
            clear hs hi hsm HI1 HC2
            go_wp2_with fail
            refine (Rank_c n N 150 A3 (m + 1) c3 (vs ++ [⟨vc, Lc, kc, okc⟩]) _ HN.out (HMO.out.below H9.out) (by omega) HRM.out).mono ?_
            rintro e w11 ⟨R1, rfl, hB1, hb⟩
            have H1 : Hid (Below WM.heap.size WM w11) := H9.out.trans (hb.mono H9.out.size)
            have HR1 := Lib.hid hB1
            clear hb hB1 H9
            go_wp2_with fail
            refine (Rank_c n N 150 A m c vs _ HN.out (HVM.out.below H1.out) (by omega) HRM.out).mono ?_
            rintro e w12 ⟨R2, rfl, hB2, hb⟩
            have H2 : Hid (Below WM.heap.size WM w12) := H1.out.trans (hb.mono H1.out.size)
            have hrr : R1.length = R2.length := HR1.out.same hB2 HSP.out fun s hs => Sp.mem (sums_more hs)
            rw [hrr]
            generalize R2.length = r2 at *
            have er : ((r2 : Int) == (r2 : Int)) = true := by simp
            clear hb hB2 H1 HR1 hrr
            go_wp2_with fail
            refine (Consistent_c n N 150 A3 (m + 1) c3 (vs ++ [⟨vc, Lc, kc, okc⟩]) _ HN.out (HMO.out.below H2.out) (by omega) HRM.out).mono ?_
            rintro e w13 ⟨b3, rfl, hc3, hb⟩
            obtain rfl : b3 = true := hc3.2 HST.out
            have H3 : Hid (Below WM.heap.size WM w13) := H2.out.trans (hb.mono H2.out.size)
            clear hb H2 hc3
            go_wp2_with fail
            refine (known10_c _).mono ?_
            rintro e w15 ⟨rfl, hb⟩
            have H5 : Hid (Below w.heap.size w w15) := HBM.out.trans ((H3.out.trans (hb.mono H3.out.size)).mono HBM.out.size)
            clear hb
            go_wp2
            go_ret
            exact ⟨rfl, H5.out⟩
end Go.Proofs.Ytkfkjdpkkagjgaa
