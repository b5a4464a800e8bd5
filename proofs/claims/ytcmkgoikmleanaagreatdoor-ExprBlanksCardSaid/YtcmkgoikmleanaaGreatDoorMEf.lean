/-
  The reader's rows: parts with signs between two, from the left.
-/
import Derived.Test.YtcmkgoikmleanaaGreatDoorMEa
namespace Go.Proofs.YtcmkgoikmleanaaGreatDoor
set_option maxRecDepth 20000
open Go.RowKit

/-- A store into a block that is new. -/
theorem But.put {g : Nat} {w w' : World} (h : But g w w') {b : Nat} (hb : w.heap.size ≤ b) (x0 x1 x2 x3 x4 x5 : Value) : But g w (put6 w' b x0 x1 x2 x3 x4 x5) := by
  have h1 := put6_but (w := w') (b := b) x0 x1 x2 x3 x4 x5
  exact ⟨h1.os.trans h.os, h1.tape.trans h.tape, h1.output.trans h.output, Nat.le_trans h.size h1.size, fun k hk hg => (h1.block k (Nat.lt_of_lt_of_le hk h.size) (by omega)).trans (h.block k hk hg)⟩
/-- A row, as far as it is read. -/
def RowAt (w0 : World) (g : Nat) (S : ByteArray) (d : Nat) (m : Nat → Nat → PR) (kf : UInt8 → Nat) (RES : PR) (w : World) (eb : Nat) (kv : Value) (wr : World) : Prop :=
  ∃ (f : Nat) (t u : Ex) (p n : Nat) (lg : Bool) (v : Ev), Hid (RES = rowL S m kf f t u p n lg) ∧ kv = .int .i64 (kf (bt S (skp S p))) ∧ Rdr w0 g S wr (skp S p) d n ∧ C6 wr eb (.int .i64 v.k) (.bool v.r.s) (.slice v.r.A v.r.n v.r.c) (.slice v.r.B v.r.m v.r.d) (.string v.s) (.slice v.K v.n v.c) ∧ C6 wr w.heap.size (.int .i64 0) (.bool false) (.slice none 0 0) (.slice none 0 0) (.string ⟨#[]⟩) (.slice none 0 0) ∧
    Tw wr (fun b => w.heap.size + 1 ≤ b ∧ b ≠ eb) t v ∧ But g w wr ∧ p ≤ S.size ∧ n ≤ p ∧ S.size < f + p
theorem kSum_zero : kSum 0 = 0 := by decide
theorem kPro_zero : kPro 0 = 0 := by decide
theorem kSum_le (c : UInt8) : kSum c ≤ 6 := by unfold kSum; split; omega; split <;> omega
theorem kPro_le (c : UInt8) : kPro c ≤ 6 := by unfold kPro; split; omega; split <;> omega

set_option maxHeartbeats 8000000 in
theorem rowP_c {w0 : World} {g d : Nat} {S : ByteArray} {m : Nat → Nat → PR} (HP : Hid (Part w0 g S 79 d m)) (HG : Hid (∀ p n, p ≤ S.size → Good S p n (m p n))) (hs : S.size ≤ 100000) (w : World) (p n : Nat) (h : Rdr w0 g S w p d n) (hp : p ≤ S.size) (hn : n ≤ p) :
    Calls Tryz.prog 52 #[.pointer (some ⟨g, 0, none⟩), .func (.func 79) #[.pointer (some ⟨g, 0, none⟩)] #[], .func (.func 80) #[] #[]] w (Post w0 g S d w (rowS S m kPro p n)) := by
  have hgl := h.lt
  have hw0 := h.below.size
  have h' := h.alloc (.cells #[.int .i64 0, .bool false, .slice none 0 0, .slice none 0 0, .string ⟨#[]⟩, .slice none 0 0] 27)
  have hb' := (But.refl g w).alloc (.cells #[.int .i64 0, .bool false, .slice none 0 0, .slice none 0 0, .string ⟨#[]⟩, .slice none 0 0] 27)
  have hc' := C6.new w (.int .i64 0) (.bool false) (.slice none 0 0) (.slice none 0 0) (.string ⟨#[]⟩) (.slice none 0 0)
  have hsz : (w.alloc (.cells #[.int .i64 0, .bool false, .slice none 0 0, .slice none 0 0, .string ⟨#[]⟩, .slice none 0 0] 27)).heap.size = w.heap.size + 1 := by simp
  have HR : Hid (rowS S m kPro p n = (m p n).then fun t u p n lg => rowL S m kPro (S.size + 1) t u p n lg) := rfl
  have HGp := HG.out p n hp
  generalize rowS S m kPro p n = RES at *
  go_enter Tryz.func52, Tryz.ntmps52
  go_wp2_with fail
  refine (HP.out _ p n h' hp hn).mono ?_
  generalize w.alloc (.cells #[.int .i64 0, .bool false, .slice none 0 0, .slice none 0 0, .string ⟨#[]⟩, .slice none 0 0] 27) = wa at *
  generalize m p n = r0 at *
  cases r0 with
  | err a c =>
    rintro e w1 ⟨rfl, hb⟩
    refine ⟨rfl, ?_⟩
    rw [HR.out]
    exact ⟨rfl, hb'.trans hb⟩
  | ok t u p1 n1 lg =>
    rintro e w1 ⟨v, rfl, ht, hr, hb⟩
    replace hb' := hb'.trans hb
    replace hc' := hc'.but hb (by omega)
    have hsz1 := hb.size
    have k_e := C6.new w1 (.int .i64 v.k) (.bool v.r.s) (.slice v.r.A v.r.n v.r.c) (.slice v.r.B v.r.m v.r.d) (.string v.s) (.slice v.K v.n v.c)
    have k_r := hc'.alloc (.cells #[.int .i64 v.k, .bool v.r.s, .slice v.r.A v.r.n v.r.c, .slice v.r.B v.r.m v.r.d, .string v.s, .slice v.K v.n v.c] 27)
    replace hr := hr.alloc (.cells #[.int .i64 v.k, .bool v.r.s, .slice v.r.A v.r.n v.r.c, .slice v.r.B v.r.m v.r.d, .string v.s, .slice v.K v.n v.c] 27)
    replace hb' := hb'.alloc (.cells #[.int .i64 v.k, .bool v.r.s, .slice v.r.A v.r.n v.r.c, .slice v.r.B v.r.m v.r.d, .string v.s, .slice v.K v.n v.c] 27)
    replace ht := (ht.lt.wide (Q := fun b => w.heap.size + 1 ≤ b ∧ b ≠ w1.heap.size) (fun b ⟨h1, h2⟩ => ⟨by omega, by omega⟩)).alloc (.cells #[.int .i64 v.k, .bool v.r.s, .slice v.r.A v.r.n v.r.c, .slice v.r.B v.r.m v.r.d, .string v.s, .slice v.K v.n v.c] 27)
    have hsz2 : (w1.alloc (.cells #[.int .i64 v.k, .bool v.r.s, .slice v.r.A v.r.n v.r.c, .slice v.r.B v.r.m v.r.d, .string v.s, .slice v.K v.n v.c] 27)).heap.size = w1.heap.size + 1 := by simp
    go_wp2_with fail
    generalize hW : w1.alloc (.cells #[.int .i64 v.k, .bool v.r.s, .slice v.r.A v.r.n v.r.c, .slice v.r.B v.r.m v.r.d, .string v.s, .slice v.K v.n v.c] 27) = w2 at *
    clear hW hsz2
    have hp1 := HGp.le
    have hn1 : n1 ≤ p1 := by have := HGp.step; omega
    clear HGp hc' h' hb
    refine (next_c hr hp1 hs).mono ?_
    rintro e w3 ⟨rfl, hr3, hb3⟩
    replace hb' := hb'.trans hb3
    replace k_e := k_e.but hb3 (by omega)
    replace k_r := k_r.but hb3 (by omega)
    replace ht := ht.but hb3 (fun b ⟨h1, _⟩ => by omega)
    clear hb3 hr
    go_wp2_with fail
    refine (kPro_c (bt S (skp S p1)) _).mono ?_
    rintro e w4 ⟨rfl, rfl⟩
    go_wp2
    have HR0 : RowAt w0 g S d m kPro RES w w1.heap.size (.int .i64 (kPro (bt S (skp S p1)))) w3 := ⟨S.size + 1, t, u, p1, n1, lg, v, HR, rfl, hr3, k_e, k_r, ht, hb', hp1, hn1, by omega⟩
    have heb : w.heap.size + 1 ≤ w1.heap.size := by omega
    clear HR hr3 k_e k_r ht hb' hp1 hn1 hn hp
    generalize w1.heap.size = eb at *
    clear hsz1
    go_loopw [8] (fun kv wr => RowAt w0 g S d m kPro RES w eb kv wr) (fun _ wr => S.size + 1 - atOf g wr)
    case atStart => exact HR0
    case round =>
      clear HR0
      obtain ⟨f, t, u, p, n, lg, v, HR, rfl, hr, k_e, k_r, ht, hb, hp, hn, hf⟩ := hrel
      have hat := Lib.hid hr.atOf
      have hq := skp_le S p
      have hq2 := skp_ge S hp
      obtain ⟨e0, e1, e2, e3, e4, e5⟩ := k_e.facts
      obtain ⟨E0, E1, E2, E3, E4, E5⟩ := k_e.thaw
      have hkk := kPro_le (bt S (skp S p))
      by_cases hk : kPro (bt S (skp S p)) = 0
      · have hres : RES = .ok t u (skp S p) n lg := by
          rw [HR.out]
          cases f with
          | zero => omega
          | succ f => unfold rowL; rw [if_pos hk]
        generalize kPro (bt S (skp S p)) = kk at *
        have i1 : (kk : Int) = 0 := by omega
        clear hk
        obtain ⟨R0, R1, R2, R3, R4, R5⟩ := k_r.facts
        obtain ⟨T0, T1, T2, T3, T4, T5⟩ := k_r.thaw
        go_wp2
        refine ret6 (fn := Tryz.f52) Tryz.results52 rfl rfl k_r ?_
        rw [hres]
        exact ⟨v, rfl, (ht.but (put6_but _ _ _ _ _ _) (fun b ⟨h1, _⟩ => by omega)).wide (fun b ⟨h1, _⟩ => by omega), hr.put (by omega) hw0 _ _ _ _ _ _, hb.put (Nat.le_refl _) _ _ _ _ _ _⟩
      · obtain ⟨f', rfl⟩ : ∃ f', f = f' + 1 := ⟨f - 1, by omega⟩
        have HR2 : Hid (RES = (m (skp S p + 1) n).then fun t2 u2 p2 n2 lg2 => rowL S m kPro f' (mk n2 (.bin (kPro (bt S (skp S p))) t t2)) (.bin (kPro (bt S (skp S p))) u u2) p2 (n2 + 1) (lg || lg2)) := by
          show RES = _
          rw [HR.out]; rw [rowL]; rw [if_neg hk]
        have hlt : skp S p < S.size := bt_some (fun e => hk (by rw [e]; exact kPro_zero))
        have HGp := HG.out (skp S p + 1) n (by omega)
        have hwr := hb.size
        clear HR
        generalize kPro (bt S (skp S p)) = kk at *
        generalize skp S p = q at *
        have i1 : ¬ (kk : Int) = 0 := by omega
        have i2 : (q : Int) ≤ 100000 := by omega
        have i3 : (0 : Int) ≤ (q : Int) := by omega
        clear hk
        obtain ⟨h0, h1, h2, h3, f1, f2, f3⟩ := hr.facts
        go_wp2
        have hr5 := hr.set1 (q := q + 1) (v := (q : Int) + 1) (by omega)
        have k_e5 := k_e.setOther (g := g) (by omega) 1 (.int .i64 ((q : Int) + 1))
        have k_r5 := k_r.setOther (g := g) (by omega) 1 (.int .i64 ((q : Int) + 1))
        have hb5 := (But.refl g wr).set 1 (.int .i64 ((q : Int) + 1))
        have ht5 := ht.but hb5 (fun b ⟨h1, _⟩ => by omega)
        replace hb5 := hb.trans hb5
        have hz5 : (wr.setCell ⟨g, 1, none⟩ (.int .i64 ((q : Int) + 1))).heap.size = wr.heap.size := by simp
        clear h0 h1 h2 h3 f1 f2 f3 e0 e1 e2 e3 e4 e5 E0 E1 E2 E3 E4 E5 i1 i2 i3
        generalize wr.setCell ⟨g, 1, none⟩ (.int .i64 ((q : Int) + 1)) = w5 at *
        obtain ⟨e0, e1, e2, e3, e4, e5⟩ := k_e5.facts
        obtain ⟨E0, E1, E2, E3, E4, E5⟩ := k_e5.thaw
        have HC := Lib.hid (HP.out w5.drew (q + 1) n hr5.drew (by omega) (by omega))
        replace hb5 := hb5.drew
        replace k_e5 := k_e5.drew
        replace k_r5 := k_r5.drew
        replace ht5 := ht5.drew
        generalize m (q + 1) n = r0 at *
        cases r0 with
        | err a c =>
          refine wp_region_held_drew (S := (fun w' => w'.cell? ⟨eb, 0, none⟩ = some (.int .i64 v.k) ∧ w'.cell? ⟨eb, 1, none⟩ = some (.bool v.r.s) ∧ w'.cell? ⟨eb, 2, none⟩ = some (.slice v.r.A v.r.n v.r.c) ∧ w'.cell? ⟨eb, 3, none⟩ = some (.slice v.r.B v.r.m v.r.d) ∧ w'.cell? ⟨eb, 4, none⟩ = some (.string v.s) ∧ w'.cell? ⟨eb, 5, none⟩ = some (.slice v.K v.n v.c))) (by kernel_rfl) ?_ (fun hHeld => ?_)
          · (try dsimp only)
            go_keep
          refine wpAnyH_take (i := 0) (oi := { dst := some 28, op := Op.move (Operand.tmp 0), type := 64, pos := "parse.go:64", after := #[], guard := none }) (v := ?v0) rfl (by kernel_rfl) (by kernel_rfl) (by kernel_rfl) (fun _ _ _ h => h) (Or.inl ⟨by rfl, ?hy0⟩) (by assumption) ?rest0
          case hy0 =>
            intro w hSw
            (try dsimp only at hSw)
            go_simp
            all_goals (with_reducible rfl)
          try simp only [Act.put, List.setIfInBounds_toArray, List.set_cons_zero, List.set_cons_succ]
          refine wpAnyH_take (i := 1) (oi := { dst := some 29, op := Op.move (Operand.tmp 8), type := 3, pos := "parse.go:64", after := #[], guard := none }) (v := ?v1) rfl (by kernel_rfl) (by kernel_rfl) (by kernel_rfl) (fun _ _ _ h => h) (Or.inl ⟨by rfl, ?hy1⟩) (by assumption) ?rest1
          case hy1 =>
            intro w hSw
            (try dsimp only at hSw)
            go_simp
            all_goals (with_reducible rfl)
          try simp only [Act.put, List.setIfInBounds_toArray, List.set_cons_zero, List.set_cons_succ]
          refine wpAnyH_take (i := 2) (oi := { dst := some 30, op := Op.load 27 (Operand.tmp 7), type := 27, pos := "parse.go:64", after := #[], guard := none }) (v := ?v2) rfl (by kernel_rfl) (by kernel_rfl) (by kernel_rfl) (fun _ _ _ h => h) (Or.inl ⟨by rfl, ?hy2⟩) (by assumption) ?rest2
          case hy2 =>
            intro w hSw
            (try dsimp only at hSw)
            go_simp
            all_goals (with_reducible rfl)
          try simp only [Act.put, List.setIfInBounds_toArray, List.set_cons_zero, List.set_cons_succ]
          refine wpAnyH_take (i := 3) (oi := { dst := some 31, op := Op.move (Operand.tmp 1), type := 55, pos := "parse.go:64", after := #[], guard := none }) (v := ?v3) rfl (by kernel_rfl) (by kernel_rfl) (by kernel_rfl) (fun _ _ _ h => h) (Or.inl ⟨by rfl, ?hy3⟩) (by assumption) ?rest3
          case hy3 =>
            intro w hSw
            (try dsimp only at hSw)
            go_simp
            all_goals (with_reducible rfl)
          try simp only [Act.put, List.setIfInBounds_toArray, List.set_cons_zero, List.set_cons_succ]
          refine wpAnyH_ready (rs := [4]) (by kernel_rfl) (by simp) ?_
          refine AllReadyH.cons (o := { dst := some 32, op := Op.call { callee := Callee.value (Operand.tmp 31), args := #[], argTypes := #[] }, type := 27, pos := "parse.go:64", after := #[{ on := 3, ground := Ground.data }], guard := none }) rfl (fun K hK => ?_) AllReadyH.nil
          go_simp
          refine HC.out.mono ?_
          rintro e w6 ⟨rfl, hb6⟩
          refine ⟨rfl, ?_⟩
          rw [HR2.out]
          exact ⟨rfl, hb5.trans hb6⟩
        | ok t2 u2 p2 n2 lg2 =>
          have hp2 := HGp.le
          have hl2 := HGp.lt
          have hn2 : n2 + 1 ≤ p2 := by have := HGp.step; omega
          have HR3 : Hid (RES = rowL S m kPro f' (mk n2 (.bin kk t t2)) (.bin kk u u2) p2 (n2 + 1) (lg || lg2)) := HR2
          have hq9 := skp_le S p2
          have hq10 := skp_ge S hp2
          clear HGp
          go_region_with
            (first
            | (go_at_call 79
               refine HC.out.mono ?_
               rintro e w6 ⟨v2, rfl, ht2, hr6, hb6⟩
               replace hb5 := hb5.trans hb6
               replace k_e5 := k_e5.but hb6 (by omega)
               replace k_r5 := k_r5.but hb6 (by omega)
               replace ht5 := ht5.but hb6 (fun b ⟨h1, _⟩ => by omega)
               have hz6 := hb6.size
               have hz7 : w5.drew.heap.size = w5.heap.size := rfl
               have hz8 := k_e5.lt
               have hz9 := k_e.lt
               replace ht2 := ht2.wide (Q := fun b => w.heap.size + 1 ≤ b ∧ b ≠ eb) (fun b h1 => ⟨by omega, by omega⟩)
               clear hb6 e0 e1 e2 e3 e4 e5 E0 E1 E2 E3 E4 E5
               obtain ⟨e0, e1, e2, e3, e4, e5⟩ := k_e5.facts
               obtain ⟨E0, E1, E2, E3, E4, E5⟩ := k_e5.thaw)
            | (go_at_call 78
               obtain ⟨x, hx⟩ : ∃ x : Ev, Hid (x = if n2 < 256 then ⟨(kk : Int), Rz, ⟨#[]⟩, some ⟨w6.heap.size, 0, none⟩, 2, 2⟩ else Ez) := ⟨_, rfl⟩
               refine (node_c ⟨(kk : Int), Rz, ⟨#[]⟩, some ⟨w6.heap.size, 0, none⟩, 2, 2⟩ x hx.out (hr6.alloc _) (by omega)).mono ?_
               rintro e w7 ⟨rfl, hr7, hb7⟩
               have hnew := heap_alloc_new w6 (.cells #[.int .i64 v.k, .bool v.r.s, .slice v.r.A v.r.n v.r.c, .slice v.r.B v.r.m v.r.d, .string v.s, .slice v.K v.n v.c, .int .i64 v2.k, .bool v2.r.s, .slice v2.r.A v2.r.n v2.r.c, .slice v2.r.B v2.r.m v2.r.d, .string v2.s, .slice v2.K v2.n v2.c] 27)
               have hz10 : (w6.alloc (.cells #[.int .i64 v.k, .bool v.r.s, .slice v.r.A v.r.n v.r.c, .slice v.r.B v.r.m v.r.d, .string v.s, .slice v.K v.n v.c, .int .i64 v2.k, .bool v2.r.s, .slice v2.r.A v2.r.n v2.r.c, .slice v2.r.B v2.r.m v2.r.d, .string v2.s, .slice v2.K v2.n v2.c] 27)).heap.size = w6.heap.size + 1 := by simp
               replace hnew := (hb7.block w6.heap.size (by omega) (by omega)).trans hnew
               replace k_e5 := (k_e5.alloc _).but hb7 (by omega)
               replace k_r5 := (k_r5.alloc _).but hb7 (by omega)
               replace ht5 := (ht5.alloc _).but hb7 (fun b ⟨h1, _⟩ => by omega)
               replace ht2 := (ht2.alloc _).but hb7 (fun b ⟨h1, _⟩ => by omega)
               replace hb5 := (hb5.alloc _).trans hb7
               have hz11 := hb7.size
               have ht7 : Tw w7 (fun b => w.heap.size + 1 ≤ b ∧ b ≠ eb) (mk n2 (.bin kk t t2)) x := by
                 have hx := hx.out
                 by_cases hn : n2 < 256
                 · rw [if_pos hn] at hx; subst hx
                   rw [mk_of (by omega)]
                   exact ⟨w6.heap.size, v, v2, rfl, ⟨by omega, by omega⟩, by omega, hnew, ht5, ht2⟩
                 · rw [if_neg hn] at hx; subst hx
                   rw [mk_over (by omega)]
                   rfl
               clear hb7 hnew e0 e1 e2 e3 e4 e5 E0 E1 E2 E3 E4 E5
               obtain ⟨e0, e1, e2, e3, e4, e5⟩ := k_e5.facts
               obtain ⟨E0, E1, E2, E3, E4, E5⟩ := k_e5.thaw))
          all_goals
            go_wp2_with fail
            refine (next_c (hr7.put (b := eb) (by omega) (by omega) _ _ _ _ _ _) hp2 hs).mono ?_
            rintro e w10 ⟨rfl, hr10, hb10⟩
            have hpx := put6_but (w := w7) (b := eb) (.int .i64 x.k) (.bool x.r.s) (.slice x.r.A x.r.n x.r.c) (.slice x.r.B x.r.m x.r.d) (.string x.s) (.slice x.K x.n x.c)
            have k_e10 := (k_e5.put (.int .i64 x.k) (.bool x.r.s) (.slice x.r.A x.r.n x.r.c) (.slice x.r.B x.r.m x.r.d) (.string x.s) (.slice x.K x.n x.c)).but hb10 (by omega)
            have k_r10 := (k_r5.but hpx (by omega)).but hb10 (by omega)
            have ht10 := (ht7.but hpx (fun b ⟨_, h2⟩ => h2)).but hb10 (fun b ⟨h1, _⟩ => by omega)
            have hb11 := (hb5.put (b := eb) (by omega) (.int .i64 x.k) (.bool x.r.s) (.slice x.r.A x.r.n x.r.c) (.slice x.r.B x.r.m x.r.d) (.string x.s) (.slice x.K x.n x.c)).trans hb10
            clear hpx hb10 hb5 k_e5 k_r5 ht7 ht5 ht2 e0 e1 e2 e3 e4 e5 E0 E1 E2 E3 E4 E5
            go_wp2_with fail
            refine (kPro_c (bt S (skp S p2)) _).mono ?_
            rintro e w11 ⟨rfl, rfl⟩
            go_wp2
            go_roundw
            case rel => exact ⟨f', mk n2 (.bin kk t t2), .bin kk u u2, p2, n2 + 1, lg || lg2, x, HR3, rfl, hr10, k_e10, k_r10, ht10, hb11, hp2, hn2, by omega⟩
            case measure =>
              rw [hr10.atOf, hat.out]; omega

set_option maxHeartbeats 8000000 in
theorem rowS_c {w0 : World} {g d : Nat} {S : ByteArray} {m : Nat → Nat → PR} (HP : Hid (Part w0 g S 53 d m)) (HG : Hid (∀ p n, p ≤ S.size → Good S p n (m p n))) (hs : S.size ≤ 100000) (w : World) (p n : Nat) (h : Rdr w0 g S w p d n) (hp : p ≤ S.size) (hn : n ≤ p) :
    Calls Tryz.prog 52 #[.pointer (some ⟨g, 0, none⟩), .func (.func 53) #[.pointer (some ⟨g, 0, none⟩)] #[], .func (.func 54) #[] #[]] w (Post w0 g S d w (rowS S m kSum p n)) := by
  have hgl := h.lt
  have hw0 := h.below.size
  have h' := h.alloc (.cells #[.int .i64 0, .bool false, .slice none 0 0, .slice none 0 0, .string ⟨#[]⟩, .slice none 0 0] 27)
  have hb' := (But.refl g w).alloc (.cells #[.int .i64 0, .bool false, .slice none 0 0, .slice none 0 0, .string ⟨#[]⟩, .slice none 0 0] 27)
  have hc' := C6.new w (.int .i64 0) (.bool false) (.slice none 0 0) (.slice none 0 0) (.string ⟨#[]⟩) (.slice none 0 0)
  have hsz : (w.alloc (.cells #[.int .i64 0, .bool false, .slice none 0 0, .slice none 0 0, .string ⟨#[]⟩, .slice none 0 0] 27)).heap.size = w.heap.size + 1 := by simp
  have HR : Hid (rowS S m kSum p n = (m p n).then fun t u p n lg => rowL S m kSum (S.size + 1) t u p n lg) := rfl
  have HGp := HG.out p n hp
  generalize rowS S m kSum p n = RES at *
  go_enter Tryz.func52, Tryz.ntmps52
  go_wp2_with fail
  refine (HP.out _ p n h' hp hn).mono ?_
  generalize w.alloc (.cells #[.int .i64 0, .bool false, .slice none 0 0, .slice none 0 0, .string ⟨#[]⟩, .slice none 0 0] 27) = wa at *
  generalize m p n = r0 at *
  cases r0 with
  | err a c =>
    rintro e w1 ⟨rfl, hb⟩
    refine ⟨rfl, ?_⟩
    rw [HR.out]
    exact ⟨rfl, hb'.trans hb⟩
  | ok t u p1 n1 lg =>
    rintro e w1 ⟨v, rfl, ht, hr, hb⟩
    replace hb' := hb'.trans hb
    replace hc' := hc'.but hb (by omega)
    have hsz1 := hb.size
    have k_e := C6.new w1 (.int .i64 v.k) (.bool v.r.s) (.slice v.r.A v.r.n v.r.c) (.slice v.r.B v.r.m v.r.d) (.string v.s) (.slice v.K v.n v.c)
    have k_r := hc'.alloc (.cells #[.int .i64 v.k, .bool v.r.s, .slice v.r.A v.r.n v.r.c, .slice v.r.B v.r.m v.r.d, .string v.s, .slice v.K v.n v.c] 27)
    replace hr := hr.alloc (.cells #[.int .i64 v.k, .bool v.r.s, .slice v.r.A v.r.n v.r.c, .slice v.r.B v.r.m v.r.d, .string v.s, .slice v.K v.n v.c] 27)
    replace hb' := hb'.alloc (.cells #[.int .i64 v.k, .bool v.r.s, .slice v.r.A v.r.n v.r.c, .slice v.r.B v.r.m v.r.d, .string v.s, .slice v.K v.n v.c] 27)
    replace ht := (ht.lt.wide (Q := fun b => w.heap.size + 1 ≤ b ∧ b ≠ w1.heap.size) (fun b ⟨h1, h2⟩ => ⟨by omega, by omega⟩)).alloc (.cells #[.int .i64 v.k, .bool v.r.s, .slice v.r.A v.r.n v.r.c, .slice v.r.B v.r.m v.r.d, .string v.s, .slice v.K v.n v.c] 27)
    have hsz2 : (w1.alloc (.cells #[.int .i64 v.k, .bool v.r.s, .slice v.r.A v.r.n v.r.c, .slice v.r.B v.r.m v.r.d, .string v.s, .slice v.K v.n v.c] 27)).heap.size = w1.heap.size + 1 := by simp
    go_wp2_with fail
    generalize hW : w1.alloc (.cells #[.int .i64 v.k, .bool v.r.s, .slice v.r.A v.r.n v.r.c, .slice v.r.B v.r.m v.r.d, .string v.s, .slice v.K v.n v.c] 27) = w2 at *
    clear hW hsz2
    have hp1 := HGp.le
    have hn1 : n1 ≤ p1 := by have := HGp.step; omega
    clear HGp hc' h' hb
    refine (next_c hr hp1 hs).mono ?_
    rintro e w3 ⟨rfl, hr3, hb3⟩
    replace hb' := hb'.trans hb3
    replace k_e := k_e.but hb3 (by omega)
    replace k_r := k_r.but hb3 (by omega)
    replace ht := ht.but hb3 (fun b ⟨h1, _⟩ => by omega)
    clear hb3 hr
    go_wp2_with fail
    refine (kSum_c (bt S (skp S p1)) _).mono ?_
    rintro e w4 ⟨rfl, rfl⟩
    go_wp2
    have HR0 : RowAt w0 g S d m kSum RES w w1.heap.size (.int .i64 (kSum (bt S (skp S p1)))) w3 := ⟨S.size + 1, t, u, p1, n1, lg, v, HR, rfl, hr3, k_e, k_r, ht, hb', hp1, hn1, by omega⟩
    have heb : w.heap.size + 1 ≤ w1.heap.size := by omega
    clear HR hr3 k_e k_r ht hb' hp1 hn1 hn hp
    generalize w1.heap.size = eb at *
    clear hsz1
    go_loopw [8] (fun kv wr => RowAt w0 g S d m kSum RES w eb kv wr) (fun _ wr => S.size + 1 - atOf g wr)
    case atStart => exact HR0
    case round =>
      clear HR0
      obtain ⟨f, t, u, p, n, lg, v, HR, rfl, hr, k_e, k_r, ht, hb, hp, hn, hf⟩ := hrel
      have hat := Lib.hid hr.atOf
      have hq := skp_le S p
      have hq2 := skp_ge S hp
      obtain ⟨e0, e1, e2, e3, e4, e5⟩ := k_e.facts
      obtain ⟨E0, E1, E2, E3, E4, E5⟩ := k_e.thaw
      have hkk := kSum_le (bt S (skp S p))
      by_cases hk : kSum (bt S (skp S p)) = 0
      · have hres : RES = .ok t u (skp S p) n lg := by
          rw [HR.out]
          cases f with
          | zero => omega
          | succ f => unfold rowL; rw [if_pos hk]
        generalize kSum (bt S (skp S p)) = kk at *
        have i1 : (kk : Int) = 0 := by omega
        clear hk
        obtain ⟨R0, R1, R2, R3, R4, R5⟩ := k_r.facts
        obtain ⟨T0, T1, T2, T3, T4, T5⟩ := k_r.thaw
        go_wp2
        refine ret6 (fn := Tryz.f52) Tryz.results52 rfl rfl k_r ?_
        rw [hres]
        exact ⟨v, rfl, (ht.but (put6_but _ _ _ _ _ _) (fun b ⟨h1, _⟩ => by omega)).wide (fun b ⟨h1, _⟩ => by omega), hr.put (by omega) hw0 _ _ _ _ _ _, hb.put (Nat.le_refl _) _ _ _ _ _ _⟩
      · obtain ⟨f', rfl⟩ : ∃ f', f = f' + 1 := ⟨f - 1, by omega⟩
        have HR2 : Hid (RES = (m (skp S p + 1) n).then fun t2 u2 p2 n2 lg2 => rowL S m kSum f' (mk n2 (.bin (kSum (bt S (skp S p))) t t2)) (.bin (kSum (bt S (skp S p))) u u2) p2 (n2 + 1) (lg || lg2)) := by
          show RES = _
          rw [HR.out]; rw [rowL]; rw [if_neg hk]
        have hlt : skp S p < S.size := bt_some (fun e => hk (by rw [e]; exact kSum_zero))
        have HGp := HG.out (skp S p + 1) n (by omega)
        have hwr := hb.size
        clear HR
        generalize kSum (bt S (skp S p)) = kk at *
        generalize skp S p = q at *
        have i1 : ¬ (kk : Int) = 0 := by omega
        have i2 : (q : Int) ≤ 100000 := by omega
        have i3 : (0 : Int) ≤ (q : Int) := by omega
        clear hk
        obtain ⟨h0, h1, h2, h3, f1, f2, f3⟩ := hr.facts
        go_wp2
        have hr5 := hr.set1 (q := q + 1) (v := (q : Int) + 1) (by omega)
        have k_e5 := k_e.setOther (g := g) (by omega) 1 (.int .i64 ((q : Int) + 1))
        have k_r5 := k_r.setOther (g := g) (by omega) 1 (.int .i64 ((q : Int) + 1))
        have hb5 := (But.refl g wr).set 1 (.int .i64 ((q : Int) + 1))
        have ht5 := ht.but hb5 (fun b ⟨h1, _⟩ => by omega)
        replace hb5 := hb.trans hb5
        have hz5 : (wr.setCell ⟨g, 1, none⟩ (.int .i64 ((q : Int) + 1))).heap.size = wr.heap.size := by simp
        clear h0 h1 h2 h3 f1 f2 f3 e0 e1 e2 e3 e4 e5 E0 E1 E2 E3 E4 E5 i1 i2 i3
        generalize wr.setCell ⟨g, 1, none⟩ (.int .i64 ((q : Int) + 1)) = w5 at *
        obtain ⟨e0, e1, e2, e3, e4, e5⟩ := k_e5.facts
        obtain ⟨E0, E1, E2, E3, E4, E5⟩ := k_e5.thaw
        have HC := Lib.hid (HP.out w5.drew (q + 1) n hr5.drew (by omega) (by omega))
        replace hb5 := hb5.drew
        replace k_e5 := k_e5.drew
        replace k_r5 := k_r5.drew
        replace ht5 := ht5.drew
        generalize m (q + 1) n = r0 at *
        cases r0 with
        | err a c =>
          refine wp_region_held_drew (S := (fun w' => w'.cell? ⟨eb, 0, none⟩ = some (.int .i64 v.k) ∧ w'.cell? ⟨eb, 1, none⟩ = some (.bool v.r.s) ∧ w'.cell? ⟨eb, 2, none⟩ = some (.slice v.r.A v.r.n v.r.c) ∧ w'.cell? ⟨eb, 3, none⟩ = some (.slice v.r.B v.r.m v.r.d) ∧ w'.cell? ⟨eb, 4, none⟩ = some (.string v.s) ∧ w'.cell? ⟨eb, 5, none⟩ = some (.slice v.K v.n v.c))) (by kernel_rfl) ?_ (fun hHeld => ?_)
          · (try dsimp only)
            go_keep
          refine wpAnyH_take (i := 0) (oi := { dst := some 28, op := Op.move (Operand.tmp 0), type := 64, pos := "parse.go:64", after := #[], guard := none }) (v := ?v0) rfl (by kernel_rfl) (by kernel_rfl) (by kernel_rfl) (fun _ _ _ h => h) (Or.inl ⟨by rfl, ?hy0⟩) (by assumption) ?rest0
          case hy0 =>
            intro w hSw
            (try dsimp only at hSw)
            go_simp
            all_goals (with_reducible rfl)
          try simp only [Act.put, List.setIfInBounds_toArray, List.set_cons_zero, List.set_cons_succ]
          refine wpAnyH_take (i := 1) (oi := { dst := some 29, op := Op.move (Operand.tmp 8), type := 3, pos := "parse.go:64", after := #[], guard := none }) (v := ?v1) rfl (by kernel_rfl) (by kernel_rfl) (by kernel_rfl) (fun _ _ _ h => h) (Or.inl ⟨by rfl, ?hy1⟩) (by assumption) ?rest1
          case hy1 =>
            intro w hSw
            (try dsimp only at hSw)
            go_simp
            all_goals (with_reducible rfl)
          try simp only [Act.put, List.setIfInBounds_toArray, List.set_cons_zero, List.set_cons_succ]
          refine wpAnyH_take (i := 2) (oi := { dst := some 30, op := Op.load 27 (Operand.tmp 7), type := 27, pos := "parse.go:64", after := #[], guard := none }) (v := ?v2) rfl (by kernel_rfl) (by kernel_rfl) (by kernel_rfl) (fun _ _ _ h => h) (Or.inl ⟨by rfl, ?hy2⟩) (by assumption) ?rest2
          case hy2 =>
            intro w hSw
            (try dsimp only at hSw)
            go_simp
            all_goals (with_reducible rfl)
          try simp only [Act.put, List.setIfInBounds_toArray, List.set_cons_zero, List.set_cons_succ]
          refine wpAnyH_take (i := 3) (oi := { dst := some 31, op := Op.move (Operand.tmp 1), type := 55, pos := "parse.go:64", after := #[], guard := none }) (v := ?v3) rfl (by kernel_rfl) (by kernel_rfl) (by kernel_rfl) (fun _ _ _ h => h) (Or.inl ⟨by rfl, ?hy3⟩) (by assumption) ?rest3
          case hy3 =>
            intro w hSw
            (try dsimp only at hSw)
            go_simp
            all_goals (with_reducible rfl)
          try simp only [Act.put, List.setIfInBounds_toArray, List.set_cons_zero, List.set_cons_succ]
          refine wpAnyH_ready (rs := [4]) (by kernel_rfl) (by simp) ?_
          refine AllReadyH.cons (o := { dst := some 32, op := Op.call { callee := Callee.value (Operand.tmp 31), args := #[], argTypes := #[] }, type := 27, pos := "parse.go:64", after := #[{ on := 3, ground := Ground.data }], guard := none }) rfl (fun K hK => ?_) AllReadyH.nil
          go_simp
          refine HC.out.mono ?_
          rintro e w6 ⟨rfl, hb6⟩
          refine ⟨rfl, ?_⟩
          rw [HR2.out]
          exact ⟨rfl, hb5.trans hb6⟩
        | ok t2 u2 p2 n2 lg2 =>
          have hp2 := HGp.le
          have hl2 := HGp.lt
          have hn2 : n2 + 1 ≤ p2 := by have := HGp.step; omega
          have HR3 : Hid (RES = rowL S m kSum f' (mk n2 (.bin kk t t2)) (.bin kk u u2) p2 (n2 + 1) (lg || lg2)) := HR2
          have hq9 := skp_le S p2
          have hq10 := skp_ge S hp2
          clear HGp
          go_region_with
            (first
            | (go_at_call 53
               refine HC.out.mono ?_
               rintro e w6 ⟨v2, rfl, ht2, hr6, hb6⟩
               replace hb5 := hb5.trans hb6
               replace k_e5 := k_e5.but hb6 (by omega)
               replace k_r5 := k_r5.but hb6 (by omega)
               replace ht5 := ht5.but hb6 (fun b ⟨h1, _⟩ => by omega)
               have hz6 := hb6.size
               have hz7 : w5.drew.heap.size = w5.heap.size := rfl
               have hz8 := k_e5.lt
               have hz9 := k_e.lt
               replace ht2 := ht2.wide (Q := fun b => w.heap.size + 1 ≤ b ∧ b ≠ eb) (fun b h1 => ⟨by omega, by omega⟩)
               clear hb6 e0 e1 e2 e3 e4 e5 E0 E1 E2 E3 E4 E5
               obtain ⟨e0, e1, e2, e3, e4, e5⟩ := k_e5.facts
               obtain ⟨E0, E1, E2, E3, E4, E5⟩ := k_e5.thaw)
            | (go_at_call 78
               obtain ⟨x, hx⟩ : ∃ x : Ev, Hid (x = if n2 < 256 then ⟨(kk : Int), Rz, ⟨#[]⟩, some ⟨w6.heap.size, 0, none⟩, 2, 2⟩ else Ez) := ⟨_, rfl⟩
               refine (node_c ⟨(kk : Int), Rz, ⟨#[]⟩, some ⟨w6.heap.size, 0, none⟩, 2, 2⟩ x hx.out (hr6.alloc _) (by omega)).mono ?_
               rintro e w7 ⟨rfl, hr7, hb7⟩
               have hnew := heap_alloc_new w6 (.cells #[.int .i64 v.k, .bool v.r.s, .slice v.r.A v.r.n v.r.c, .slice v.r.B v.r.m v.r.d, .string v.s, .slice v.K v.n v.c, .int .i64 v2.k, .bool v2.r.s, .slice v2.r.A v2.r.n v2.r.c, .slice v2.r.B v2.r.m v2.r.d, .string v2.s, .slice v2.K v2.n v2.c] 27)
               have hz10 : (w6.alloc (.cells #[.int .i64 v.k, .bool v.r.s, .slice v.r.A v.r.n v.r.c, .slice v.r.B v.r.m v.r.d, .string v.s, .slice v.K v.n v.c, .int .i64 v2.k, .bool v2.r.s, .slice v2.r.A v2.r.n v2.r.c, .slice v2.r.B v2.r.m v2.r.d, .string v2.s, .slice v2.K v2.n v2.c] 27)).heap.size = w6.heap.size + 1 := by simp
               replace hnew := (hb7.block w6.heap.size (by omega) (by omega)).trans hnew
               replace k_e5 := (k_e5.alloc _).but hb7 (by omega)
               replace k_r5 := (k_r5.alloc _).but hb7 (by omega)
               replace ht5 := (ht5.alloc _).but hb7 (fun b ⟨h1, _⟩ => by omega)
               replace ht2 := (ht2.alloc _).but hb7 (fun b ⟨h1, _⟩ => by omega)
               replace hb5 := (hb5.alloc _).trans hb7
               have hz11 := hb7.size
               have ht7 : Tw w7 (fun b => w.heap.size + 1 ≤ b ∧ b ≠ eb) (mk n2 (.bin kk t t2)) x := by
                 have hx := hx.out
                 by_cases hn : n2 < 256
                 · rw [if_pos hn] at hx; subst hx
                   rw [mk_of (by omega)]
                   exact ⟨w6.heap.size, v, v2, rfl, ⟨by omega, by omega⟩, by omega, hnew, ht5, ht2⟩
                 · rw [if_neg hn] at hx; subst hx
                   rw [mk_over (by omega)]
                   rfl
               clear hb7 hnew e0 e1 e2 e3 e4 e5 E0 E1 E2 E3 E4 E5
               obtain ⟨e0, e1, e2, e3, e4, e5⟩ := k_e5.facts
               obtain ⟨E0, E1, E2, E3, E4, E5⟩ := k_e5.thaw))
          all_goals
            go_wp2_with fail
            refine (next_c (hr7.put (b := eb) (by omega) (by omega) _ _ _ _ _ _) hp2 hs).mono ?_
            rintro e w10 ⟨rfl, hr10, hb10⟩
            have hpx := put6_but (w := w7) (b := eb) (.int .i64 x.k) (.bool x.r.s) (.slice x.r.A x.r.n x.r.c) (.slice x.r.B x.r.m x.r.d) (.string x.s) (.slice x.K x.n x.c)
            have k_e10 := (k_e5.put (.int .i64 x.k) (.bool x.r.s) (.slice x.r.A x.r.n x.r.c) (.slice x.r.B x.r.m x.r.d) (.string x.s) (.slice x.K x.n x.c)).but hb10 (by omega)
            have k_r10 := (k_r5.but hpx (by omega)).but hb10 (by omega)
            have ht10 := (ht7.but hpx (fun b ⟨_, h2⟩ => h2)).but hb10 (fun b ⟨h1, _⟩ => by omega)
            have hb11 := (hb5.put (b := eb) (by omega) (.int .i64 x.k) (.bool x.r.s) (.slice x.r.A x.r.n x.r.c) (.slice x.r.B x.r.m x.r.d) (.string x.s) (.slice x.K x.n x.c)).trans hb10
            clear hpx hb10 hb5 k_e5 k_r5 ht7 ht5 ht2 e0 e1 e2 e3 e4 e5 E0 E1 E2 E3 E4 E5
            go_wp2_with fail
            refine (kSum_c (bt S (skp S p2)) _).mono ?_
            rintro e w11 ⟨rfl, rfl⟩
            go_wp2
            go_roundw
            case rel => exact ⟨f', mk n2 (.bin kk t t2), .bin kk u u2, p2, n2 + 1, lg || lg2, x, HR3, rfl, hr10, k_e10, k_r10, ht10, hb11, hp2, hn2, by omega⟩
            case measure =>
              rw [hr10.atOf, hat.out]; omega
end Go.Proofs.YtcmkgoikmleanaaGreatDoor
