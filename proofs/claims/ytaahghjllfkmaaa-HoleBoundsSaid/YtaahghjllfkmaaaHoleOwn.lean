/- Package hole: which pinholes may be; what keeps them (method values); those that are not over, those of other sessions, ports (gen-hole-code.py). -/
import Derived.Test.YtaahghjllfkmaaaHoleGrant
import Derived.Test.YtaahghjllfkmaaaSatMayC
namespace Go.Proofs.Ytaahghjllfkmaaa.Hl
open Go.Proofs.Ytaahghjllfkmaaa Go.Proofs.Ytaahghjllfkmaaa.Qt
open Go Go.ChangeShapes Go.WideShapes Go.ChangeAt Go.RowKit
set_option maxRecDepth 100000
set_option linter.unusedSimpArgs false
set_option linter.unusedVariables false
theorem hport_any (n : Int) (w : World) : Calls Try.prog 37 #[.int .i64 n] w fun e w' => e = .returned (.bool (portB n)) ∧ w = w' := by
  have HM : Hid ((portB n) = (decide (1024 ≤ n) && decide (n ≤ 65535))) := Lib.hid rfl
  generalize (portB n) = m at HM ⊢
  by_cases h1 : 1024 ≤ n
  · by_cases h2 : n ≤ 65535
    · have HV : Hid (m = true) := Lib.hid (by rw [HM.out, decide_eq_true h1, decide_eq_true h2]; rfl)
      go_enter Try.func37, Try.ntmps37
      go_wp2_with fail
      go_ret
      exact ⟨by rw [HV.out] <;> rfl, rfl⟩
    · have HV : Hid (m = false) := Lib.hid (by rw [HM.out, decide_eq_true h1, decide_eq_false h2]; rfl)
      go_enter Try.func37, Try.ntmps37
      go_wp2_with fail
      go_ret
      exact ⟨by rw [HV.out] <;> rfl, rfl⟩
  · have HV : Hid (m = false) := Lib.hid (by rw [HM.out, decide_eq_false h1]; rfl)
    go_enter Try.func37, Try.ntmps37
    go_wp2_with fail
    go_ret
    exact ⟨by rw [HV.out] <;> rfl, rfl⟩

theorem satB_may (n : Int) : mayN n = satB n := rfl
set_option maxHeartbeats 4000000 in
theorem hmay_any (q : Ho) (w : World) : Calls Try.prog 23 #[holeV q] w fun e w' => e = .returned (.bool (mayH q)) ∧ Below w.heap.size w w' := by
  have HM : Hid (mayH q = (satB q.dead && (portB q.port && (portB q.tport && (decide (0 ≤ q.sess) && (decide (0 ≤ q.ten) && decide (q.ten < 4))))))) := Lib.hid rfl
  generalize mayH q = m at HM ⊢
  have H1 := Lib.hid (fun W => sat_may q.dead W)
  rw [satB_may] at H1
  have H2 := Lib.hid (fun W => hport_any q.port W)
  have H3 := Lib.hid (fun W => hport_any q.tport W)
  generalize satB q.dead = x1 at *
  generalize portB q.port = x2 at *
  generalize portB q.tport = x3 at *
  have B0 := Lib.hid ((Below.refl w.heap.size w).alloc (Nat.le_refl _) (.cells #[.int .i64 q.port, .int .i64 q.sess, .int .i64 q.ten, .int .u8 q.a, .int .u8 q.b, .int .u8 q.c, .int .u8 q.d, .int .u8 q.e, .int .u8 q.f, .int .u8 q.g, .int .u8 q.h, .int .i64 q.tport, .int .i64 q.dead] 28))
  cases x2 with
  | false =>
    have HV : Hid (m = false) := Lib.hid (by rw [HM.out]; simp)
    go_enter Try.func23, Try.ntmps23
    go_wp2_with (first
      | (go_at_call 37; refine (H2.out _).mono ?_; rintro e w1 ⟨rfl, rfl⟩; clear H2)
      | (go_at_call 37; refine (H3.out _).mono ?_; rintro e w1 ⟨rfl, rfl⟩; clear H3)
      | (go_at_call 38; refine (H1.out _).mono ?_; rintro e w1 ⟨rfl, rfl⟩; clear H1))
    go_ret
    exact ⟨by rw [HV.out] <;> rfl, B0.out⟩
  | true =>
    cases x3 with
    | false =>
      have HV : Hid (m = false) := Lib.hid (by rw [HM.out]; simp)
      go_enter Try.func23, Try.ntmps23
      go_wp2_with (first
        | (go_at_call 37; refine (H2.out _).mono ?_; rintro e w1 ⟨rfl, rfl⟩; clear H2)
        | (go_at_call 37; refine (H3.out _).mono ?_; rintro e w1 ⟨rfl, rfl⟩; clear H3)
        | (go_at_call 38; refine (H1.out _).mono ?_; rintro e w1 ⟨rfl, rfl⟩; clear H1))
      go_ret
      exact ⟨by rw [HV.out] <;> rfl, B0.out⟩
    | true =>
      by_cases g1 : 0 ≤ q.sess
      · by_cases g2 : 0 ≤ q.ten
        · by_cases g3 : q.ten < 4
          · cases x1 with
            | false =>
              have HV : Hid (m = false) := Lib.hid (by rw [HM.out]; simp)
              go_enter Try.func23, Try.ntmps23
              go_wp2_with (first
                | (go_at_call 37; refine (H2.out _).mono ?_; rintro e w1 ⟨rfl, rfl⟩; clear H2)
                | (go_at_call 37; refine (H3.out _).mono ?_; rintro e w1 ⟨rfl, rfl⟩; clear H3)
                | (go_at_call 38; refine (H1.out _).mono ?_; rintro e w1 ⟨rfl, rfl⟩; clear H1))
              go_ret
              exact ⟨by rw [HV.out] <;> rfl, B0.out⟩
            | true =>
              have HV : Hid (m = true) := Lib.hid (by rw [HM.out, decide_eq_true g1, decide_eq_true g2, decide_eq_true g3]; simp)
              go_enter Try.func23, Try.ntmps23
              go_wp2_with (first
                | (go_at_call 37; refine (H2.out _).mono ?_; rintro e w1 ⟨rfl, rfl⟩; clear H2)
                | (go_at_call 37; refine (H3.out _).mono ?_; rintro e w1 ⟨rfl, rfl⟩; clear H3)
                | (go_at_call 38; refine (H1.out _).mono ?_; rintro e w1 ⟨rfl, rfl⟩; clear H1))
              go_ret
              exact ⟨by rw [HV.out] <;> rfl, B0.out⟩
          · have HV : Hid (m = false) := Lib.hid (by rw [HM.out, decide_eq_false g3]; simp)
            go_enter Try.func23, Try.ntmps23
            go_wp2_with (first
              | (go_at_call 37; refine (H2.out _).mono ?_; rintro e w1 ⟨rfl, rfl⟩; clear H2)
              | (go_at_call 37; refine (H3.out _).mono ?_; rintro e w1 ⟨rfl, rfl⟩; clear H3)
              | (go_at_call 38; refine (H1.out _).mono ?_; rintro e w1 ⟨rfl, rfl⟩; clear H1))
            go_ret
            exact ⟨by rw [HV.out] <;> rfl, B0.out⟩
        · have HV : Hid (m = false) := Lib.hid (by rw [HM.out, decide_eq_false g2]; simp)
          go_enter Try.func23, Try.ntmps23
          go_wp2_with (first
            | (go_at_call 37; refine (H2.out _).mono ?_; rintro e w1 ⟨rfl, rfl⟩; clear H2)
            | (go_at_call 37; refine (H3.out _).mono ?_; rintro e w1 ⟨rfl, rfl⟩; clear H3)
            | (go_at_call 38; refine (H1.out _).mono ?_; rintro e w1 ⟨rfl, rfl⟩; clear H1))
          go_ret
          exact ⟨by rw [HV.out] <;> rfl, B0.out⟩
      · have HV : Hid (m = false) := Lib.hid (by rw [HM.out, decide_eq_false g1]; simp)
        go_enter Try.func23, Try.ntmps23
        go_wp2_with (first
          | (go_at_call 37; refine (H2.out _).mono ?_; rintro e w1 ⟨rfl, rfl⟩; clear H2)
          | (go_at_call 37; refine (H3.out _).mono ?_; rintro e w1 ⟨rfl, rfl⟩; clear H3)
          | (go_at_call 38; refine (H1.out _).mono ?_; rintro e w1 ⟨rfl, rfl⟩; clear H1))
        go_ret
        exact ⟨by rw [HV.out] <;> rfl, B0.out⟩

set_option maxHeartbeats 1000000 in
theorem has_any (n0 : Int) (x : Ho) (w : World) : Calls Try.prog 29 #[.int .i64 n0, holeV x] w fun e w' => e = .returned (.bool (x.ten == n0)) ∧ Below w.heap.size w w' := by
  have B0 := Lib.hid ((Below.refl w.heap.size w).alloc (Nat.le_refl _) (.cells #[.int .i64 x.port, .int .i64 x.sess, .int .i64 x.ten, .int .u8 x.a, .int .u8 x.b, .int .u8 x.c, .int .u8 x.d, .int .u8 x.e, .int .u8 x.f, .int .u8 x.g, .int .u8 x.h, .int .i64 x.tport, .int .i64 x.dead] 28))
  go_enter Try.func29, Try.ntmps29
  go_wp2_with fail
  go_ret
  exact ⟨by first | rfl | (simp; done) | (simp [bne]; done), B0.out⟩

set_option maxHeartbeats 1000000 in
theorem over_any (n0 : Int) (x : Ho) (w : World) : Calls Try.prog 35 #[.int .i64 n0, holeV x] w fun e w' => e = .returned (.bool (decide (n0 < x.dead))) ∧ Below w.heap.size w w' := by
  have B0 := Lib.hid ((Below.refl w.heap.size w).alloc (Nat.le_refl _) (.cells #[.int .i64 x.port, .int .i64 x.sess, .int .i64 x.ten, .int .u8 x.a, .int .u8 x.b, .int .u8 x.c, .int .u8 x.d, .int .u8 x.e, .int .u8 x.f, .int .u8 x.g, .int .u8 x.h, .int .i64 x.tport, .int .i64 x.dead] 28))
  by_cases h1 : n0 < x.dead
  · have HV : Hid ((decide (n0 < x.dead)) = true) := Lib.hid (decide_eq_true h1)
    go_enter Try.func35, Try.ntmps35
    go_wp2_with fail
    go_ret
    exact ⟨by rw [HV.out] <;> rfl, B0.out⟩
  · have HV : Hid ((decide (n0 < x.dead)) = false) := Lib.hid (decide_eq_false h1)
    go_enter Try.func35, Try.ntmps35
    go_wp2_with fail
    go_ret
    exact ⟨by rw [HV.out] <;> rfl, B0.out⟩

set_option maxHeartbeats 1000000 in
theorem sess_any (n0 : Int) (x : Ho) (w : World) : Calls Try.prog 36 #[.int .i64 n0, holeV x] w fun e w' => e = .returned (.bool (!(x.sess == n0))) ∧ Below w.heap.size w w' := by
  have B0 := Lib.hid ((Below.refl w.heap.size w).alloc (Nat.le_refl _) (.cells #[.int .i64 x.port, .int .i64 x.sess, .int .i64 x.ten, .int .u8 x.a, .int .u8 x.b, .int .u8 x.c, .int .u8 x.d, .int .u8 x.e, .int .u8 x.f, .int .u8 x.g, .int .u8 x.h, .int .i64 x.tport, .int .i64 x.dead] 28))
  go_enter Try.func36, Try.ntmps36
  go_wp2_with fail
  go_ret
  exact ⟨by first | rfl | (simp; done) | (simp [bne]; done), B0.out⟩

/-- a block of one pinhole, made, and a call behind it -/
theorem box_below {B : Nat} {W0 W W' : World} (x : Ho) (h : Below B W0 W) (g : B ≤ W.heap.size) (b : Below (W.alloc (.cells #[.int .i64 x.port, .int .i64 x.sess, .int .i64 x.ten, .int .u8 x.a, .int .u8 x.b, .int .u8 x.c, .int .u8 x.d, .int .u8 x.e, .int .u8 x.f, .int .u8 x.g, .int .u8 x.h, .int .i64 x.tport, .int .i64 x.dead] 28)).heap.size (W.alloc (.cells #[.int .i64 x.port, .int .i64 x.sess, .int .i64 x.ten, .int .u8 x.a, .int .u8 x.b, .int .u8 x.c, .int .u8 x.d, .int .u8 x.e, .int .u8 x.f, .int .u8 x.g, .int .u8 x.h, .int .i64 x.tport, .int .i64 x.dead] 28)) W') : Below B W0 W' :=
  (h.alloc g (.cells #[.int .i64 x.port, .int .i64 x.sess, .int .i64 x.ten, .int .u8 x.a, .int .u8 x.b, .int .u8 x.c, .int .u8 x.d, .int .u8 x.e, .int .u8 x.f, .int .u8 x.g, .int .u8 x.h, .int .i64 x.tport, .int .i64 x.dead] 28)).trans (b.mono (by simp; omega))

set_option maxHeartbeats 4000000 in
theorem kept_has (u : Value) (l : List Ho) (n0 : Int) (hl : l.length ≤ 100000) (w : World) (H : HolesIs w u l) :
    Calls Try.prog 28 #[u, .func (.func 29) #[.int .i64 n0] #[]] w fun e w' => (∃ p n c, e = .returned (.slice p n c) ∧ OwnHoles w.heap.size w' (.slice p n c) (l.filter (fun x => x.ten == n0))) ∧ Below w.heap.size w w' := by
  have hmax := H.max
  obtain ⟨p, n, c, rfl, hn⟩ := H.form
  have HN := Lib.hid hn
  have HR := Lib.hid H
  rw [← hn] at hmax hl
  clear hn H
  obtain ⟨out, hout⟩ : ∃ out, out = l.filter (fun x => x.ten == n0) := ⟨_, rfl⟩
  have HE := Lib.hid hout
  rw [← hout]
  clear hout
  go_enter Try.func28, Try.ntmps28
  go_wp2_with fail
  go_loopw [5, 10] (fun x5 x6 wr => ∃ (k : Nat) (p2 : Option Addr) (n2 c2 : Nat), x5 = .slice p2 n2 c2 ∧ x6 = .int .i64 (k : Int) ∧ k ≤ n ∧ Hid (OwnHoles w.heap.size wr (.slice p2 n2 c2) ((l.take k).filter (fun x => x.ten == n0))) ∧ Hid (Below w.heap.size w wr)) (fun _ i _ => n - (intOf i).toNat)
  case atStart => exact ⟨0, none, 0, 0, rfl, rfl, Nat.zero_le _, Lib.hid (OwnHoles.nil _ _), Lib.hid (Below.refl _ _)⟩
  case round =>
    obtain ⟨k, p2, n2, c2, rfl, rfl, hk, HO, HB⟩ := hrel
    by_cases hlt : k < n
    · have hji : (k : Int) < (n : Int) := by omega
      have HK : Hid (k + 1 ≤ n) := Lib.hid hlt
      have hkl : k < l.length := by rw [← HN.out]; exact hlt
      have HLEN : Hid (((l.take k).filter (fun x => x.ten == n0)).length ≤ 100000) := Lib.hid (Nat.le_trans (List.length_filter_le _ _) (by rw [List.length_take]; omega))
      obtain ⟨b1, o1, rfl, hb1, hc1⟩ := (HR.out.call HB.out).some (by omega)
      have T1 := hc1 k hkl
      have a0 := T1.c0; have a1 := T1.c1; have a2 := T1.c2; have a3 := T1.c3; have a4 := T1.c4; have a5 := T1.c5; have a6 := T1.c6; have a7 := T1.c7; have a8 := T1.c8; have a9 := T1.c9; have a10 := T1.c10; have a11 := T1.c11; have a12 := T1.c12
      have HNX := Lib.hid (filter_next (f := (fun x => x.ten == n0)) hkl)
      clear T1 hc1
      generalize l[k] = x at *
      have HC := Lib.hid (fun W => has_any n0 x W)
      cases h1 : (x.ten == n0) with
      | true =>
        have HO4 : Hid ((l.take (k + 1)).filter (fun x => x.ten == n0) = (l.take k).filter (fun x => x.ten == n0) ++ [x]) := Lib.hid (by rw [HNX.out, h1]; rfl)
        rw [h1] at HC
        clear h1 HNX
        go_wp2_with (first
          | (go_at_call 29; refine (HC.out _).mono ?_; rintro e w1 ⟨rfl, b1⟩; have BX := Lib.hid (box_below x (Below.refl wr.heap.size wr) (Nat.le_refl _) b1); have B1 := Lib.hid (HB.out.trans (BX.out.mono HB.out.size)); have R1 := Lib.hid ((IsRow.made wr 28 #[.int .i64 x.port, .int .i64 x.sess, .int .i64 x.ten, .int .u8 x.a, .int .u8 x.b, .int .u8 x.c, .int .u8 x.d, .int .u8 x.e, .int .u8 x.f, .int .u8 x.g, .int .u8 x.h, .int .i64 x.tport, .int .i64 x.dead]).call b1); have O1 := Lib.hid (HO.out.kept BX.out); have y0 := R1.out.cell 0; have y1 := R1.out.cell 1; have y2 := R1.out.cell 2; have y3 := R1.out.cell 3; have y4 := R1.out.cell 4; have y5 := R1.out.cell 5; have y6 := R1.out.cell 6; have y7 := R1.out.cell 7; have y8 := R1.out.cell 8; have y9 := R1.out.cell 9; have y10 := R1.out.cell 10; have y11 := R1.out.cell 11; have y12 := R1.out.cell 12; have yl := R1.out.lt; clear b1 HC a0 a1 a2 a3 a4 a5 a6 a7 a8 a9 a10 a11 a12)
          | (at_builtin; refine wpList_append_holes rfl _ _ rfl w.heap.size (.slice p2 n2 c2) ((l.take k).filter (fun x => x.ten == n0)) rfl (O1.out.alloc _) (.slice (some ⟨w1.heap.size, 0, none⟩) 1 1) [x] rfl (holes_one w1 x) (by have := HLEN.out; simp only [List.length_singleton]; omega) (by have := B1.out.size; simp; omega) ?_; intro v4 w4 o4 g4 e4; clear e4; have B4 := Lib.hid ((B1.out.alloc B1.out.size (.cells #[.int .i64 x.port, .int .i64 x.sess, .int .i64 x.ten, .int .u8 x.a, .int .u8 x.b, .int .u8 x.c, .int .u8 x.d, .int .u8 x.e, .int .u8 x.f, .int .u8 x.g, .int .u8 x.h, .int .i64 x.tport, .int .i64 x.dead] 28)).grown g4 (by have := B1.out.size; simp; omega) O1.out.ge); have O4 := Lib.hid o4; obtain ⟨p4, n4, c4, rfl, -⟩ := O4.out.form; clear o4 g4))
        go_roundw
        case rel => exact ⟨k + 1, p4, n4, c4, rfl, by go_num, HK.out, by rw [HO4.out]; exact O4, B4⟩
        case measure => have := HK.out; simp [intOf]; omega
      | false =>
        have HO4 : Hid ((l.take (k + 1)).filter (fun x => x.ten == n0) = (l.take k).filter (fun x => x.ten == n0)) := Lib.hid (by rw [HNX.out, h1]; simp)
        rw [h1] at HC
        clear h1 HNX
        go_wp2_with (first
          | (go_at_call 29; refine (HC.out _).mono ?_; rintro e w1 ⟨rfl, b1⟩; have BX := Lib.hid (box_below x (Below.refl wr.heap.size wr) (Nat.le_refl _) b1); have B1 := Lib.hid (HB.out.trans (BX.out.mono HB.out.size)); have R1 := Lib.hid ((IsRow.made wr 28 #[.int .i64 x.port, .int .i64 x.sess, .int .i64 x.ten, .int .u8 x.a, .int .u8 x.b, .int .u8 x.c, .int .u8 x.d, .int .u8 x.e, .int .u8 x.f, .int .u8 x.g, .int .u8 x.h, .int .i64 x.tport, .int .i64 x.dead]).call b1); have O1 := Lib.hid (HO.out.kept BX.out); have y0 := R1.out.cell 0; have y1 := R1.out.cell 1; have y2 := R1.out.cell 2; have y3 := R1.out.cell 3; have y4 := R1.out.cell 4; have y5 := R1.out.cell 5; have y6 := R1.out.cell 6; have y7 := R1.out.cell 7; have y8 := R1.out.cell 8; have y9 := R1.out.cell 9; have y10 := R1.out.cell 10; have y11 := R1.out.cell 11; have y12 := R1.out.cell 12; have yl := R1.out.lt; clear b1 HC a0 a1 a2 a3 a4 a5 a6 a7 a8 a9 a10 a11 a12))
        go_roundw
        case rel => exact ⟨k + 1, p2, n2, c2, rfl, by go_num, HK.out, by rw [HO4.out]; exact O1, B1⟩
        case measure => have := HK.out; simp [intOf]; omega
    · have hji : ¬ (k : Int) < (n : Int) := by omega
      have hE : (l.take k).filter (fun x => x.ten == n0) = out := by rw [HE.out, List.take_of_length_le (by have := HN.out; omega)]
      rw [hE] at HO
      clear hE
      go_wp2_with fail
      go_ret
      exact ⟨⟨p2, n2, c2, rfl, HO.out⟩, HB.out⟩

set_option maxHeartbeats 4000000 in
theorem kept_over (u : Value) (l : List Ho) (n0 : Int) (hl : l.length ≤ 100000) (w : World) (H : HolesIs w u l) :
    Calls Try.prog 28 #[u, .func (.func 35) #[.int .i64 n0] #[]] w fun e w' => (∃ p n c, e = .returned (.slice p n c) ∧ OwnHoles w.heap.size w' (.slice p n c) (sweep l n0)) ∧ Below w.heap.size w w' := by
  have hmax := H.max
  obtain ⟨p, n, c, rfl, hn⟩ := H.form
  have HN := Lib.hid hn
  have HR := Lib.hid H
  rw [← hn] at hmax hl
  clear hn H
  have HE : Hid (sweep l n0 = l.filter (fun x => decide (n0 < x.dead))) := Lib.hid rfl
  generalize sweep l n0 = out at HE ⊢
  go_enter Try.func28, Try.ntmps28
  go_wp2_with fail
  go_loopw [5, 10] (fun x5 x6 wr => ∃ (k : Nat) (p2 : Option Addr) (n2 c2 : Nat), x5 = .slice p2 n2 c2 ∧ x6 = .int .i64 (k : Int) ∧ k ≤ n ∧ Hid (OwnHoles w.heap.size wr (.slice p2 n2 c2) ((l.take k).filter (fun x => decide (n0 < x.dead)))) ∧ Hid (Below w.heap.size w wr)) (fun _ i _ => n - (intOf i).toNat)
  case atStart => exact ⟨0, none, 0, 0, rfl, rfl, Nat.zero_le _, Lib.hid (OwnHoles.nil _ _), Lib.hid (Below.refl _ _)⟩
  case round =>
    obtain ⟨k, p2, n2, c2, rfl, rfl, hk, HO, HB⟩ := hrel
    by_cases hlt : k < n
    · have hji : (k : Int) < (n : Int) := by omega
      have HK : Hid (k + 1 ≤ n) := Lib.hid hlt
      have hkl : k < l.length := by rw [← HN.out]; exact hlt
      have HLEN : Hid (((l.take k).filter (fun x => decide (n0 < x.dead))).length ≤ 100000) := Lib.hid (Nat.le_trans (List.length_filter_le _ _) (by rw [List.length_take]; omega))
      obtain ⟨b1, o1, rfl, hb1, hc1⟩ := (HR.out.call HB.out).some (by omega)
      have T1 := hc1 k hkl
      have a0 := T1.c0; have a1 := T1.c1; have a2 := T1.c2; have a3 := T1.c3; have a4 := T1.c4; have a5 := T1.c5; have a6 := T1.c6; have a7 := T1.c7; have a8 := T1.c8; have a9 := T1.c9; have a10 := T1.c10; have a11 := T1.c11; have a12 := T1.c12
      have HNX := Lib.hid (filter_next (f := (fun x => decide (n0 < x.dead))) hkl)
      clear T1 hc1
      generalize l[k] = x at *
      have HC := Lib.hid (fun W => over_any n0 x W)
      cases h1 : (decide (n0 < x.dead)) with
      | true =>
        have HO4 : Hid ((l.take (k + 1)).filter (fun x => decide (n0 < x.dead)) = (l.take k).filter (fun x => decide (n0 < x.dead)) ++ [x]) := Lib.hid (by rw [HNX.out, h1]; rfl)
        rw [h1] at HC
        clear h1 HNX
        go_wp2_with (first
          | (go_at_call 35; refine (HC.out _).mono ?_; rintro e w1 ⟨rfl, b1⟩; have BX := Lib.hid (box_below x (Below.refl wr.heap.size wr) (Nat.le_refl _) b1); have B1 := Lib.hid (HB.out.trans (BX.out.mono HB.out.size)); have R1 := Lib.hid ((IsRow.made wr 28 #[.int .i64 x.port, .int .i64 x.sess, .int .i64 x.ten, .int .u8 x.a, .int .u8 x.b, .int .u8 x.c, .int .u8 x.d, .int .u8 x.e, .int .u8 x.f, .int .u8 x.g, .int .u8 x.h, .int .i64 x.tport, .int .i64 x.dead]).call b1); have O1 := Lib.hid (HO.out.kept BX.out); have y0 := R1.out.cell 0; have y1 := R1.out.cell 1; have y2 := R1.out.cell 2; have y3 := R1.out.cell 3; have y4 := R1.out.cell 4; have y5 := R1.out.cell 5; have y6 := R1.out.cell 6; have y7 := R1.out.cell 7; have y8 := R1.out.cell 8; have y9 := R1.out.cell 9; have y10 := R1.out.cell 10; have y11 := R1.out.cell 11; have y12 := R1.out.cell 12; have yl := R1.out.lt; clear b1 HC a0 a1 a2 a3 a4 a5 a6 a7 a8 a9 a10 a11 a12)
          | (at_builtin; refine wpList_append_holes rfl _ _ rfl w.heap.size (.slice p2 n2 c2) ((l.take k).filter (fun x => decide (n0 < x.dead))) rfl (O1.out.alloc _) (.slice (some ⟨w1.heap.size, 0, none⟩) 1 1) [x] rfl (holes_one w1 x) (by have := HLEN.out; simp only [List.length_singleton]; omega) (by have := B1.out.size; simp; omega) ?_; intro v4 w4 o4 g4 e4; clear e4; have B4 := Lib.hid ((B1.out.alloc B1.out.size (.cells #[.int .i64 x.port, .int .i64 x.sess, .int .i64 x.ten, .int .u8 x.a, .int .u8 x.b, .int .u8 x.c, .int .u8 x.d, .int .u8 x.e, .int .u8 x.f, .int .u8 x.g, .int .u8 x.h, .int .i64 x.tport, .int .i64 x.dead] 28)).grown g4 (by have := B1.out.size; simp; omega) O1.out.ge); have O4 := Lib.hid o4; obtain ⟨p4, n4, c4, rfl, -⟩ := O4.out.form; clear o4 g4))
        go_roundw
        case rel => exact ⟨k + 1, p4, n4, c4, rfl, by go_num, HK.out, by rw [HO4.out]; exact O4, B4⟩
        case measure => have := HK.out; simp [intOf]; omega
      | false =>
        have HO4 : Hid ((l.take (k + 1)).filter (fun x => decide (n0 < x.dead)) = (l.take k).filter (fun x => decide (n0 < x.dead))) := Lib.hid (by rw [HNX.out, h1]; simp)
        rw [h1] at HC
        clear h1 HNX
        go_wp2_with (first
          | (go_at_call 35; refine (HC.out _).mono ?_; rintro e w1 ⟨rfl, b1⟩; have BX := Lib.hid (box_below x (Below.refl wr.heap.size wr) (Nat.le_refl _) b1); have B1 := Lib.hid (HB.out.trans (BX.out.mono HB.out.size)); have R1 := Lib.hid ((IsRow.made wr 28 #[.int .i64 x.port, .int .i64 x.sess, .int .i64 x.ten, .int .u8 x.a, .int .u8 x.b, .int .u8 x.c, .int .u8 x.d, .int .u8 x.e, .int .u8 x.f, .int .u8 x.g, .int .u8 x.h, .int .i64 x.tport, .int .i64 x.dead]).call b1); have O1 := Lib.hid (HO.out.kept BX.out); have y0 := R1.out.cell 0; have y1 := R1.out.cell 1; have y2 := R1.out.cell 2; have y3 := R1.out.cell 3; have y4 := R1.out.cell 4; have y5 := R1.out.cell 5; have y6 := R1.out.cell 6; have y7 := R1.out.cell 7; have y8 := R1.out.cell 8; have y9 := R1.out.cell 9; have y10 := R1.out.cell 10; have y11 := R1.out.cell 11; have y12 := R1.out.cell 12; have yl := R1.out.lt; clear b1 HC a0 a1 a2 a3 a4 a5 a6 a7 a8 a9 a10 a11 a12))
        go_roundw
        case rel => exact ⟨k + 1, p2, n2, c2, rfl, by go_num, HK.out, by rw [HO4.out]; exact O1, B1⟩
        case measure => have := HK.out; simp [intOf]; omega
    · have hji : ¬ (k : Int) < (n : Int) := by omega
      have hE : (l.take k).filter (fun x => decide (n0 < x.dead)) = out := by rw [HE.out, List.take_of_length_le (by have := HN.out; omega)]
      rw [hE] at HO
      clear hE
      go_wp2_with fail
      go_ret
      exact ⟨⟨p2, n2, c2, rfl, HO.out⟩, HB.out⟩

set_option maxHeartbeats 4000000 in
theorem kept_sess (u : Value) (l : List Ho) (n0 : Int) (hl : l.length ≤ 100000) (w : World) (H : HolesIs w u l) :
    Calls Try.prog 28 #[u, .func (.func 36) #[.int .i64 n0] #[]] w fun e w' => (∃ p n c, e = .returned (.slice p n c) ∧ OwnHoles w.heap.size w' (.slice p n c) (revoke l n0)) ∧ Below w.heap.size w w' := by
  have hmax := H.max
  obtain ⟨p, n, c, rfl, hn⟩ := H.form
  have HN := Lib.hid hn
  have HR := Lib.hid H
  rw [← hn] at hmax hl
  clear hn H
  have HE : Hid (revoke l n0 = l.filter (fun x => !(x.sess == n0))) := Lib.hid rfl
  generalize revoke l n0 = out at HE ⊢
  go_enter Try.func28, Try.ntmps28
  go_wp2_with fail
  go_loopw [5, 10] (fun x5 x6 wr => ∃ (k : Nat) (p2 : Option Addr) (n2 c2 : Nat), x5 = .slice p2 n2 c2 ∧ x6 = .int .i64 (k : Int) ∧ k ≤ n ∧ Hid (OwnHoles w.heap.size wr (.slice p2 n2 c2) ((l.take k).filter (fun x => !(x.sess == n0)))) ∧ Hid (Below w.heap.size w wr)) (fun _ i _ => n - (intOf i).toNat)
  case atStart => exact ⟨0, none, 0, 0, rfl, rfl, Nat.zero_le _, Lib.hid (OwnHoles.nil _ _), Lib.hid (Below.refl _ _)⟩
  case round =>
    obtain ⟨k, p2, n2, c2, rfl, rfl, hk, HO, HB⟩ := hrel
    by_cases hlt : k < n
    · have hji : (k : Int) < (n : Int) := by omega
      have HK : Hid (k + 1 ≤ n) := Lib.hid hlt
      have hkl : k < l.length := by rw [← HN.out]; exact hlt
      have HLEN : Hid (((l.take k).filter (fun x => !(x.sess == n0))).length ≤ 100000) := Lib.hid (Nat.le_trans (List.length_filter_le _ _) (by rw [List.length_take]; omega))
      obtain ⟨b1, o1, rfl, hb1, hc1⟩ := (HR.out.call HB.out).some (by omega)
      have T1 := hc1 k hkl
      have a0 := T1.c0; have a1 := T1.c1; have a2 := T1.c2; have a3 := T1.c3; have a4 := T1.c4; have a5 := T1.c5; have a6 := T1.c6; have a7 := T1.c7; have a8 := T1.c8; have a9 := T1.c9; have a10 := T1.c10; have a11 := T1.c11; have a12 := T1.c12
      have HNX := Lib.hid (filter_next (f := (fun x => !(x.sess == n0))) hkl)
      clear T1 hc1
      generalize l[k] = x at *
      have HC := Lib.hid (fun W => sess_any n0 x W)
      cases h1 : (!(x.sess == n0)) with
      | true =>
        have HO4 : Hid ((l.take (k + 1)).filter (fun x => !(x.sess == n0)) = (l.take k).filter (fun x => !(x.sess == n0)) ++ [x]) := Lib.hid (by rw [HNX.out, h1]; rfl)
        rw [h1] at HC
        clear h1 HNX
        go_wp2_with (first
          | (go_at_call 36; refine (HC.out _).mono ?_; rintro e w1 ⟨rfl, b1⟩; have BX := Lib.hid (box_below x (Below.refl wr.heap.size wr) (Nat.le_refl _) b1); have B1 := Lib.hid (HB.out.trans (BX.out.mono HB.out.size)); have R1 := Lib.hid ((IsRow.made wr 28 #[.int .i64 x.port, .int .i64 x.sess, .int .i64 x.ten, .int .u8 x.a, .int .u8 x.b, .int .u8 x.c, .int .u8 x.d, .int .u8 x.e, .int .u8 x.f, .int .u8 x.g, .int .u8 x.h, .int .i64 x.tport, .int .i64 x.dead]).call b1); have O1 := Lib.hid (HO.out.kept BX.out); have y0 := R1.out.cell 0; have y1 := R1.out.cell 1; have y2 := R1.out.cell 2; have y3 := R1.out.cell 3; have y4 := R1.out.cell 4; have y5 := R1.out.cell 5; have y6 := R1.out.cell 6; have y7 := R1.out.cell 7; have y8 := R1.out.cell 8; have y9 := R1.out.cell 9; have y10 := R1.out.cell 10; have y11 := R1.out.cell 11; have y12 := R1.out.cell 12; have yl := R1.out.lt; clear b1 HC a0 a1 a2 a3 a4 a5 a6 a7 a8 a9 a10 a11 a12)
          | (at_builtin; refine wpList_append_holes rfl _ _ rfl w.heap.size (.slice p2 n2 c2) ((l.take k).filter (fun x => !(x.sess == n0))) rfl (O1.out.alloc _) (.slice (some ⟨w1.heap.size, 0, none⟩) 1 1) [x] rfl (holes_one w1 x) (by have := HLEN.out; simp only [List.length_singleton]; omega) (by have := B1.out.size; simp; omega) ?_; intro v4 w4 o4 g4 e4; clear e4; have B4 := Lib.hid ((B1.out.alloc B1.out.size (.cells #[.int .i64 x.port, .int .i64 x.sess, .int .i64 x.ten, .int .u8 x.a, .int .u8 x.b, .int .u8 x.c, .int .u8 x.d, .int .u8 x.e, .int .u8 x.f, .int .u8 x.g, .int .u8 x.h, .int .i64 x.tport, .int .i64 x.dead] 28)).grown g4 (by have := B1.out.size; simp; omega) O1.out.ge); have O4 := Lib.hid o4; obtain ⟨p4, n4, c4, rfl, -⟩ := O4.out.form; clear o4 g4))
        go_roundw
        case rel => exact ⟨k + 1, p4, n4, c4, rfl, by go_num, HK.out, by rw [HO4.out]; exact O4, B4⟩
        case measure => have := HK.out; simp [intOf]; omega
      | false =>
        have HO4 : Hid ((l.take (k + 1)).filter (fun x => !(x.sess == n0)) = (l.take k).filter (fun x => !(x.sess == n0))) := Lib.hid (by rw [HNX.out, h1]; simp)
        rw [h1] at HC
        clear h1 HNX
        go_wp2_with (first
          | (go_at_call 36; refine (HC.out _).mono ?_; rintro e w1 ⟨rfl, b1⟩; have BX := Lib.hid (box_below x (Below.refl wr.heap.size wr) (Nat.le_refl _) b1); have B1 := Lib.hid (HB.out.trans (BX.out.mono HB.out.size)); have R1 := Lib.hid ((IsRow.made wr 28 #[.int .i64 x.port, .int .i64 x.sess, .int .i64 x.ten, .int .u8 x.a, .int .u8 x.b, .int .u8 x.c, .int .u8 x.d, .int .u8 x.e, .int .u8 x.f, .int .u8 x.g, .int .u8 x.h, .int .i64 x.tport, .int .i64 x.dead]).call b1); have O1 := Lib.hid (HO.out.kept BX.out); have y0 := R1.out.cell 0; have y1 := R1.out.cell 1; have y2 := R1.out.cell 2; have y3 := R1.out.cell 3; have y4 := R1.out.cell 4; have y5 := R1.out.cell 5; have y6 := R1.out.cell 6; have y7 := R1.out.cell 7; have y8 := R1.out.cell 8; have y9 := R1.out.cell 9; have y10 := R1.out.cell 10; have y11 := R1.out.cell 11; have y12 := R1.out.cell 12; have yl := R1.out.lt; clear b1 HC a0 a1 a2 a3 a4 a5 a6 a7 a8 a9 a10 a11 a12))
        go_roundw
        case rel => exact ⟨k + 1, p2, n2, c2, rfl, by go_num, HK.out, by rw [HO4.out]; exact O1, B1⟩
        case measure => have := HK.out; simp [intOf]; omega
    · have hji : ¬ (k : Int) < (n : Int) := by omega
      have hE : (l.take k).filter (fun x => !(x.sess == n0)) = out := by rw [HE.out, List.take_of_length_le (by have := HN.out; omega)]
      rw [hE] at HO
      clear hE
      go_wp2_with fail
      go_ret
      exact ⟨⟨p2, n2, c2, rfl, HO.out⟩, HB.out⟩

theorem hsweep_any (u : Value) (l : List Ho) (n0 : Int) (hl : l.length ≤ 100000) (w : World) (H : HolesIs w u l) :
    Calls Try.prog 17 #[u, .int .i64 n0] w fun e w' => (∃ p n c, e = .returned (.slice p n c) ∧ OwnHoles w.heap.size w' (.slice p n c) (sweep l n0)) ∧ Below w.heap.size w w' := by
  have HC := Lib.hid (kept_over u l n0 hl w H)
  obtain ⟨p, n, c, rfl, -⟩ := H.form
  clear H
  go_enter Try.func17, Try.ntmps17
  go_wp2_with (go_at_call 28; refine HC.out.mono ?_; rintro e w1 ⟨⟨p2, n2, c2, rfl, o1⟩, b1⟩; have O1 := Lib.hid o1; have B1 := Lib.hid b1; clear HC o1 b1)
  go_ret
  exact ⟨⟨p2, n2, c2, rfl, O1.out⟩, B1.out⟩

theorem hrevoke_any (u : Value) (l : List Ho) (n0 : Int) (hl : l.length ≤ 100000) (w : World) (H : HolesIs w u l) :
    Calls Try.prog 19 #[u, .int .i64 n0] w fun e w' => (∃ p n c, e = .returned (.slice p n c) ∧ OwnHoles w.heap.size w' (.slice p n c) (revoke l n0)) ∧ Below w.heap.size w w' := by
  have HC := Lib.hid (kept_sess u l n0 hl w H)
  obtain ⟨p, n, c, rfl, -⟩ := H.form
  clear H
  go_enter Try.func19, Try.ntmps19
  go_wp2_with (go_at_call 28; refine HC.out.mono ?_; rintro e w1 ⟨⟨p2, n2, c2, rfl, o1⟩, b1⟩; have O1 := Lib.hid o1; have B1 := Lib.hid b1; clear HC o1 b1)
  go_ret
  exact ⟨⟨p2, n2, c2, rfl, O1.out⟩, B1.out⟩

theorem ints_lit {w : World} {b : Nat} {n : Int} (h : IsRow w b 3 #[.int .i64 n]) : IntsIs w (.slice (some ⟨b, 0, none⟩) 1 1) [n] := by
  refine Or.inr ⟨_, _, rfl, Nat.le_refl _, by show 1 ≤ maxLen; decide, fun i hi => ?_⟩
  obtain rfl : i = 0 := by simpa using hi
  exact h.cell 0
theorem port_row (wr : World) (x : Ho) : IsRow ((wr.alloc (.cells #[.int .i64 x.port, .int .i64 x.sess, .int .i64 x.ten, .int .u8 x.a, .int .u8 x.b, .int .u8 x.c, .int .u8 x.d, .int .u8 x.e, .int .u8 x.f, .int .u8 x.g, .int .u8 x.h, .int .i64 x.tport, .int .i64 x.dead] 28)).alloc (.cells #[.int .i64 x.port] 3)) (wr.heap.size + 1) 3 #[.int .i64 x.port] := by
  have h := IsRow.made (wr.alloc (.cells #[.int .i64 x.port, .int .i64 x.sess, .int .i64 x.ten, .int .u8 x.a, .int .u8 x.b, .int .u8 x.c, .int .u8 x.d, .int .u8 x.e, .int .u8 x.f, .int .u8 x.g, .int .u8 x.h, .int .i64 x.tport, .int .i64 x.dead] 28)) 3 #[.int .i64 x.port]
  rw [World.size_alloc] at h
  exact h
set_option maxHeartbeats 4000000 in
theorem hports_any (u : Value) (l : List Ho) (hl : l.length ≤ 100000) (w : World) (H : HolesIs w u l) :
    Calls Try.prog 21 #[u] w fun e w' => (∃ p n c, e = .returned (.slice p n c) ∧ IntsIs w' (.slice p n c) (ports l)) ∧ Below w.heap.size w w' := by
  have hmax := H.max
  obtain ⟨p, n, c, rfl, hn⟩ := H.form
  have HN := Lib.hid hn
  have HR := Lib.hid H
  rw [← hn] at hmax hl
  clear hn H
  have HE : Hid (ports l = l.map (fun x => x.port)) := Lib.hid rfl
  generalize ports l = out at HE ⊢
  go_enter Try.func21, Try.ntmps21
  go_wp2_with fail
  go_loopw [3, 8] (fun x3 x4 wr => ∃ (k : Nat) (p2 : Option Addr) (n2 c2 : Nat), x3 = .slice p2 n2 c2 ∧ x4 = .int .i64 (k : Int) ∧ k ≤ n ∧ Hid (OwnInts w.heap.size wr (.slice p2 n2 c2) ((l.take k).map (fun x => x.port))) ∧ Hid (Below w.heap.size w wr)) (fun _ i _ => n - (intOf i).toNat)
  case atStart => exact ⟨0, none, 0, 0, rfl, rfl, Nat.zero_le _, Lib.hid (OwnInts.nil _ _), Lib.hid (Below.refl _ _)⟩
  case round =>
    obtain ⟨k, p2, n2, c2, rfl, rfl, hk, HO, HB⟩ := hrel
    by_cases hlt : k < n
    · have hji : (k : Int) < (n : Int) := by omega
      have HK : Hid (k + 1 ≤ n) := Lib.hid hlt
      have hkl : k < l.length := by rw [← HN.out]; exact hlt
      have HLEN : Hid (((l.take k).map (fun x => x.port)).length ≤ 100000) := Lib.hid (by rw [List.length_map, List.length_take]; omega)
      obtain ⟨b1, o1, rfl, hb1, hc1⟩ := (HR.out.call HB.out).some (by omega)
      have T1 := hc1 k hkl
      have a0 := T1.c0; have a1 := T1.c1; have a2 := T1.c2; have a3 := T1.c3; have a4 := T1.c4; have a5 := T1.c5; have a6 := T1.c6; have a7 := T1.c7; have a8 := T1.c8; have a9 := T1.c9; have a10 := T1.c10; have a11 := T1.c11; have a12 := T1.c12
      have HNX : Hid ((l.take (k + 1)).map (fun x => x.port) = (l.take k).map (fun x => x.port) ++ [l[k].port]) := Lib.hid (by rw [List.take_succ_eq_append_getElem hkl, List.map_append]; rfl)
      clear hc1 T1
      generalize l[k] = x at *
      have HL := Lib.hid (port_row wr x)
      have B1 := Lib.hid (HB.out.alloc HB.out.size (.cells #[.int .i64 x.port, .int .i64 x.sess, .int .i64 x.ten, .int .u8 x.a, .int .u8 x.b, .int .u8 x.c, .int .u8 x.d, .int .u8 x.e, .int .u8 x.f, .int .u8 x.g, .int .u8 x.h, .int .i64 x.tport, .int .i64 x.dead] 28))
      have O1 := Lib.hid (HO.out.alloc (.cells #[.int .i64 x.port, .int .i64 x.sess, .int .i64 x.ten, .int .u8 x.a, .int .u8 x.b, .int .u8 x.c, .int .u8 x.d, .int .u8 x.e, .int .u8 x.f, .int .u8 x.g, .int .u8 x.h, .int .i64 x.tport, .int .i64 x.dead] 28))
      go_wp2_with (first
        | (at_builtin; refine wpList_append_ints rfl _ _ rfl w.heap.size (.slice p2 n2 c2) ((l.take k).map (fun x => x.port)) rfl (O1.out.alloc _) (.slice (some ⟨wr.heap.size + 1, 0, none⟩) 1 1) [x.port] rfl (ints_lit HL.out) (by have := HLEN.out; simp only [List.length_singleton]; omega) (by have := HB.out.size; simp; omega) ?_; intro v4 w4 o4 g4 e4; clear e4; have B4 := Lib.hid ((B1.out.alloc B1.out.size (.cells #[.int .i64 x.port] 3)).grown g4 (by have := HB.out.size; simp; omega) O1.out.ge); have O4 := Lib.hid o4; obtain ⟨p4, n4, c4, rfl, -⟩ := O4.out.form; clear o4 g4))
      go_roundw
      case rel => exact ⟨k + 1, p4, n4, c4, rfl, by go_num, HK.out, by rw [HNX.out]; exact O4, B4⟩
      case measure => have := HK.out; simp [intOf]; omega
    · have hji : ¬ (k : Int) < (n : Int) := by omega
      have hE : (l.take k).map (fun x => x.port) = out := by rw [HE.out, List.take_of_length_le (by have := HN.out; omega)]
      rw [hE] at HO
      clear hE
      go_wp2_with fail
      go_ret
      exact ⟨⟨p2, n2, c2, rfl, HO.out.ints⟩, HB.out⟩

#print axioms hmay_any
#print axioms hsweep_any
#print axioms hrevoke_any
#print axioms hports_any
end Go.Proofs.Ytaahghjllfkmaaa.Hl
