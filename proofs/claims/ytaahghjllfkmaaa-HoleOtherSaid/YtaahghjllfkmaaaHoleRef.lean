/- The document's answer of layer 16: whether a pinhole may be, whether two lists are the same, those that are not over, those of other sessions, ports (gen-hole-ref.py). -/
import Derived.Test.YtaahghjllfkmaaaHoleArg
import Derived.Test.YtaahghjllfkmaaaInts
import Derived.Test.YtaahghjllfkmaaaEnvBare
import Derived.BigQuiet
import Derived.Deep.QuietTactic
import Derived.Deep.RegionHeld
namespace Go.Proofs.Ytaahghjllfkmaaa.Hl
open Go.Proofs.Ytaahghjllfkmaaa
open Go Go.ChangeShapes Go.WideShapes Go.ChangeAt Go.RowKit
set_option maxRecDepth 100000
set_option linter.unusedSimpArgs false
set_option linter.unusedVariables false
theorem rport_any (n : Int) (w : World) : Calls Try.prog 27 #[.int .i64 n] w fun e w' => e = .returned (.bool (portB n)) ∧ Below w.heap.size w w' := by
  have HM : Hid ((portB n) = (decide (1024 ≤ n) && decide (n ≤ 65535))) := Lib.hid rfl
  generalize (portB n) = m at HM ⊢
  by_cases h1 : 1024 ≤ n
  · by_cases h2 : n ≤ 65535
    · have HV : Hid (m = true) := Lib.hid (by rw [HM.out, decide_eq_true h1, decide_eq_true h2]; rfl)
      go_enter Try.func27, Try.ntmps27
      go_wp2_with fail
      go_ret
      exact ⟨by rw [HV.out] <;> rfl, Below.refl _ _⟩
    · have HV : Hid (m = false) := Lib.hid (by rw [HM.out, decide_eq_true h1, decide_eq_false h2]; rfl)
      go_enter Try.func27, Try.ntmps27
      go_wp2_with fail
      go_ret
      exact ⟨by rw [HV.out] <;> rfl, Below.refl _ _⟩
  · have HV : Hid (m = false) := Lib.hid (by rw [HM.out, decide_eq_false h1]; rfl)
    go_enter Try.func27, Try.ntmps27
    go_wp2_with fail
    go_ret
    exact ⟨by rw [HV.out] <;> rfl, Below.refl _ _⟩
theorem rsat_any (n : Int) (w : World) : Calls Try.prog 26 #[.int .i64 n] w fun e w' => e = .returned (.bool (satB n)) ∧ Below w.heap.size w w' := by
  have HM : Hid ((satB n) = (decide (0 ≤ n) && decide (n ≤ 1099511627776))) := Lib.hid rfl
  generalize (satB n) = m at HM ⊢
  by_cases h1 : 0 ≤ n
  · by_cases h2 : n ≤ 1099511627776
    · have HV : Hid (m = true) := Lib.hid (by rw [HM.out, decide_eq_true h1, decide_eq_true h2]; rfl)
      go_enter Try.func26, Try.ntmps26
      go_wp2_with fail
      go_ret
      exact ⟨by rw [HV.out] <;> rfl, Below.refl _ _⟩
    · have HV : Hid (m = false) := Lib.hid (by rw [HM.out, decide_eq_true h1, decide_eq_false h2]; rfl)
      go_enter Try.func26, Try.ntmps26
      go_wp2_with fail
      go_ret
      exact ⟨by rw [HV.out] <;> rfl, Below.refl _ _⟩
  · have HV : Hid (m = false) := Lib.hid (by rw [HM.out, decide_eq_false h1]; rfl)
    go_enter Try.func26, Try.ntmps26
    go_wp2_with fail
    go_ret
    exact ⟨by rw [HV.out] <;> rfl, Below.refl _ _⟩

theorem any_next {α : Type} {l : List α} {f : α → Bool} {k : Nat} (h : k < l.length) : (l.take (k + 1)).any f = ((l.take k).any f || f l[k]) := by
  rw [List.take_succ_eq_append_getElem h, List.any_append]; simp

set_option maxHeartbeats 4000000 in
theorem rmay_any (q : Ho) (w : World) : Calls Try.prog 11 #[holeV q] w fun e w' => e = .returned (.bool (mayH q)) ∧ Below w.heap.size w w' := by
  have HM : Hid (mayH q = (satB q.dead && (portB q.port && (portB q.tport && (decide (0 ≤ q.sess) && (decide (0 ≤ q.ten) && decide (q.ten < 4))))))) := Lib.hid rfl
  generalize mayH q = m at HM ⊢
  have H1 := Lib.hid (fun W => rsat_any q.dead W)
  have H2 := Lib.hid (fun W => rport_any q.port W)
  have H3 := Lib.hid (fun W => rport_any q.tport W)
  generalize satB q.dead = x1 at *
  generalize portB q.port = x2 at *
  generalize portB q.tport = x3 at *
  have C0 := Lib.hid (IsRow.made w 28 #[.int .i64 q.port, .int .i64 q.sess, .int .i64 q.ten, .int .u8 q.a, .int .u8 q.b, .int .u8 q.c, .int .u8 q.d, .int .u8 q.e, .int .u8 q.f, .int .u8 q.g, .int .u8 q.h, .int .i64 q.tport, .int .i64 q.dead])
  have B0 := Lib.hid ((Below.refl w.heap.size w).alloc (Nat.le_refl _) (.cells #[.int .i64 q.port, .int .i64 q.sess, .int .i64 q.ten, .int .u8 q.a, .int .u8 q.b, .int .u8 q.c, .int .u8 q.d, .int .u8 q.e, .int .u8 q.f, .int .u8 q.g, .int .u8 q.h, .int .i64 q.tport, .int .i64 q.dead] 28))
  cases x1 with
  | false =>
    have HV : Hid (m = false) := Lib.hid (by rw [HM.out]; first | rfl | (cases x2 <;> rfl) | (cases x1 <;> rfl) | simp)
    go_enter Try.func11, Try.ntmps11
    go_wp2_with (first
      | (go_at_call 26; refine (H1.out _).mono ?_; rintro e w1 ⟨rfl, b1⟩; have B1 := Lib.hid (B0.out.trans (b1.mono B0.out.size)); have C1 := Lib.hid (C0.out.call b1); have k0 := C1.out.cell 0; have k1 := C1.out.cell 1; have k2 := C1.out.cell 2; have k11 := C1.out.cell 11; have k12 := C1.out.cell 12; have kl := C1.out.lt; clear H1 b1 C0)
      | (go_at_call 27; refine (H2.out _).mono ?_; rintro e w2 ⟨rfl, b2⟩; have B2 := Lib.hid (B1.out.trans (b2.mono B1.out.size)); have C2 := Lib.hid (C1.out.call b2); clear k0 k1 k2 k11 k12 kl; have k0 := C2.out.cell 0; have k1 := C2.out.cell 1; have k2 := C2.out.cell 2; have k11 := C2.out.cell 11; have k12 := C2.out.cell 12; have kl := C2.out.lt; clear H2 b2 C1)
      | (go_at_call 27; refine (H3.out _).mono ?_; rintro e w3 ⟨rfl, b3⟩; have B3 := Lib.hid (B2.out.trans (b3.mono B2.out.size)); have C3 := Lib.hid (C2.out.call b3); clear k0 k1 k2 k11 k12 kl; have k0 := C3.out.cell 0; have k1 := C3.out.cell 1; have k2 := C3.out.cell 2; have k11 := C3.out.cell 11; have k12 := C3.out.cell 12; have kl := C3.out.lt; clear H3 b3 C2))
    go_ret
    exact ⟨by rw [HV.out] <;> rfl, B3.out⟩
  | true =>
    cases x2 with
    | false =>
      have HV : Hid (m = false) := Lib.hid (by rw [HM.out]; first | rfl | (cases x2 <;> rfl) | (cases x1 <;> rfl) | simp)
      go_enter Try.func11, Try.ntmps11
      go_wp2_with (first
        | (go_at_call 26; refine (H1.out _).mono ?_; rintro e w1 ⟨rfl, b1⟩; have B1 := Lib.hid (B0.out.trans (b1.mono B0.out.size)); have C1 := Lib.hid (C0.out.call b1); have k0 := C1.out.cell 0; have k1 := C1.out.cell 1; have k2 := C1.out.cell 2; have k11 := C1.out.cell 11; have k12 := C1.out.cell 12; have kl := C1.out.lt; clear H1 b1 C0)
        | (go_at_call 27; refine (H2.out _).mono ?_; rintro e w2 ⟨rfl, b2⟩; have B2 := Lib.hid (B1.out.trans (b2.mono B1.out.size)); have C2 := Lib.hid (C1.out.call b2); clear k0 k1 k2 k11 k12 kl; have k0 := C2.out.cell 0; have k1 := C2.out.cell 1; have k2 := C2.out.cell 2; have k11 := C2.out.cell 11; have k12 := C2.out.cell 12; have kl := C2.out.lt; clear H2 b2 C1)
        | (go_at_call 27; refine (H3.out _).mono ?_; rintro e w3 ⟨rfl, b3⟩; have B3 := Lib.hid (B2.out.trans (b3.mono B2.out.size)); have C3 := Lib.hid (C2.out.call b3); clear k0 k1 k2 k11 k12 kl; have k0 := C3.out.cell 0; have k1 := C3.out.cell 1; have k2 := C3.out.cell 2; have k11 := C3.out.cell 11; have k12 := C3.out.cell 12; have kl := C3.out.lt; clear H3 b3 C2))
      go_ret
      exact ⟨by rw [HV.out] <;> rfl, B3.out⟩
    | true =>
      cases x3 with
      | false =>
        have HV : Hid (m = false) := Lib.hid (by rw [HM.out]; first | rfl | (cases x2 <;> rfl) | (cases x1 <;> rfl) | simp)
        go_enter Try.func11, Try.ntmps11
        go_wp2_with (first
          | (go_at_call 26; refine (H1.out _).mono ?_; rintro e w1 ⟨rfl, b1⟩; have B1 := Lib.hid (B0.out.trans (b1.mono B0.out.size)); have C1 := Lib.hid (C0.out.call b1); have k0 := C1.out.cell 0; have k1 := C1.out.cell 1; have k2 := C1.out.cell 2; have k11 := C1.out.cell 11; have k12 := C1.out.cell 12; have kl := C1.out.lt; clear H1 b1 C0)
          | (go_at_call 27; refine (H2.out _).mono ?_; rintro e w2 ⟨rfl, b2⟩; have B2 := Lib.hid (B1.out.trans (b2.mono B1.out.size)); have C2 := Lib.hid (C1.out.call b2); clear k0 k1 k2 k11 k12 kl; have k0 := C2.out.cell 0; have k1 := C2.out.cell 1; have k2 := C2.out.cell 2; have k11 := C2.out.cell 11; have k12 := C2.out.cell 12; have kl := C2.out.lt; clear H2 b2 C1)
          | (go_at_call 27; refine (H3.out _).mono ?_; rintro e w3 ⟨rfl, b3⟩; have B3 := Lib.hid (B2.out.trans (b3.mono B2.out.size)); have C3 := Lib.hid (C2.out.call b3); clear k0 k1 k2 k11 k12 kl; have k0 := C3.out.cell 0; have k1 := C3.out.cell 1; have k2 := C3.out.cell 2; have k11 := C3.out.cell 11; have k12 := C3.out.cell 12; have kl := C3.out.lt; clear H3 b3 C2))
        go_ret
        exact ⟨by rw [HV.out] <;> rfl, B3.out⟩
      | true =>
        by_cases g1 : 0 ≤ q.sess
        · by_cases g2 : 0 ≤ q.ten
          · by_cases g3 : q.ten < 4
            · have HV : Hid (m = true) := Lib.hid (by rw [HM.out, decide_eq_true g1, decide_eq_true g2, decide_eq_true g3] <;> rfl)
              go_enter Try.func11, Try.ntmps11
              go_wp2_with (first
                | (go_at_call 26; refine (H1.out _).mono ?_; rintro e w1 ⟨rfl, b1⟩; have B1 := Lib.hid (B0.out.trans (b1.mono B0.out.size)); have C1 := Lib.hid (C0.out.call b1); have k0 := C1.out.cell 0; have k1 := C1.out.cell 1; have k2 := C1.out.cell 2; have k11 := C1.out.cell 11; have k12 := C1.out.cell 12; have kl := C1.out.lt; clear H1 b1 C0)
                | (go_at_call 27; refine (H2.out _).mono ?_; rintro e w2 ⟨rfl, b2⟩; have B2 := Lib.hid (B1.out.trans (b2.mono B1.out.size)); have C2 := Lib.hid (C1.out.call b2); clear k0 k1 k2 k11 k12 kl; have k0 := C2.out.cell 0; have k1 := C2.out.cell 1; have k2 := C2.out.cell 2; have k11 := C2.out.cell 11; have k12 := C2.out.cell 12; have kl := C2.out.lt; clear H2 b2 C1)
                | (go_at_call 27; refine (H3.out _).mono ?_; rintro e w3 ⟨rfl, b3⟩; have B3 := Lib.hid (B2.out.trans (b3.mono B2.out.size)); have C3 := Lib.hid (C2.out.call b3); clear k0 k1 k2 k11 k12 kl; have k0 := C3.out.cell 0; have k1 := C3.out.cell 1; have k2 := C3.out.cell 2; have k11 := C3.out.cell 11; have k12 := C3.out.cell 12; have kl := C3.out.lt; clear H3 b3 C2))
              go_ret
              exact ⟨by rw [HV.out]; first | rfl | (simp; done) | (simp; omega), B3.out⟩
            · have HV : Hid (m = false) := Lib.hid (by rw [HM.out, decide_eq_true g1, decide_eq_true g2, decide_eq_false g3] <;> rfl)
              go_enter Try.func11, Try.ntmps11
              go_wp2_with (first
                | (go_at_call 26; refine (H1.out _).mono ?_; rintro e w1 ⟨rfl, b1⟩; have B1 := Lib.hid (B0.out.trans (b1.mono B0.out.size)); have C1 := Lib.hid (C0.out.call b1); have k0 := C1.out.cell 0; have k1 := C1.out.cell 1; have k2 := C1.out.cell 2; have k11 := C1.out.cell 11; have k12 := C1.out.cell 12; have kl := C1.out.lt; clear H1 b1 C0)
                | (go_at_call 27; refine (H2.out _).mono ?_; rintro e w2 ⟨rfl, b2⟩; have B2 := Lib.hid (B1.out.trans (b2.mono B1.out.size)); have C2 := Lib.hid (C1.out.call b2); clear k0 k1 k2 k11 k12 kl; have k0 := C2.out.cell 0; have k1 := C2.out.cell 1; have k2 := C2.out.cell 2; have k11 := C2.out.cell 11; have k12 := C2.out.cell 12; have kl := C2.out.lt; clear H2 b2 C1)
                | (go_at_call 27; refine (H3.out _).mono ?_; rintro e w3 ⟨rfl, b3⟩; have B3 := Lib.hid (B2.out.trans (b3.mono B2.out.size)); have C3 := Lib.hid (C2.out.call b3); clear k0 k1 k2 k11 k12 kl; have k0 := C3.out.cell 0; have k1 := C3.out.cell 1; have k2 := C3.out.cell 2; have k11 := C3.out.cell 11; have k12 := C3.out.cell 12; have kl := C3.out.lt; clear H3 b3 C2))
              go_ret
              exact ⟨by rw [HV.out]; first | rfl | (simp; done) | (simp; omega), B3.out⟩
          · have HV : Hid (m = false) := Lib.hid (by rw [HM.out, decide_eq_true g1, decide_eq_false g2] <;> rfl)
            go_enter Try.func11, Try.ntmps11
            go_wp2_with (first
              | (go_at_call 26; refine (H1.out _).mono ?_; rintro e w1 ⟨rfl, b1⟩; have B1 := Lib.hid (B0.out.trans (b1.mono B0.out.size)); have C1 := Lib.hid (C0.out.call b1); have k0 := C1.out.cell 0; have k1 := C1.out.cell 1; have k2 := C1.out.cell 2; have k11 := C1.out.cell 11; have k12 := C1.out.cell 12; have kl := C1.out.lt; clear H1 b1 C0)
              | (go_at_call 27; refine (H2.out _).mono ?_; rintro e w2 ⟨rfl, b2⟩; have B2 := Lib.hid (B1.out.trans (b2.mono B1.out.size)); have C2 := Lib.hid (C1.out.call b2); clear k0 k1 k2 k11 k12 kl; have k0 := C2.out.cell 0; have k1 := C2.out.cell 1; have k2 := C2.out.cell 2; have k11 := C2.out.cell 11; have k12 := C2.out.cell 12; have kl := C2.out.lt; clear H2 b2 C1)
              | (go_at_call 27; refine (H3.out _).mono ?_; rintro e w3 ⟨rfl, b3⟩; have B3 := Lib.hid (B2.out.trans (b3.mono B2.out.size)); have C3 := Lib.hid (C2.out.call b3); clear k0 k1 k2 k11 k12 kl; have k0 := C3.out.cell 0; have k1 := C3.out.cell 1; have k2 := C3.out.cell 2; have k11 := C3.out.cell 11; have k12 := C3.out.cell 12; have kl := C3.out.lt; clear H3 b3 C2))
            go_ret
            exact ⟨by rw [HV.out]; first | rfl | (simp; done) | (simp; omega), B3.out⟩
        · have HV : Hid (m = false) := Lib.hid (by rw [HM.out, decide_eq_false g1] <;> rfl)
          go_enter Try.func11, Try.ntmps11
          go_wp2_with (first
            | (go_at_call 26; refine (H1.out _).mono ?_; rintro e w1 ⟨rfl, b1⟩; have B1 := Lib.hid (B0.out.trans (b1.mono B0.out.size)); have C1 := Lib.hid (C0.out.call b1); have k0 := C1.out.cell 0; have k1 := C1.out.cell 1; have k2 := C1.out.cell 2; have k11 := C1.out.cell 11; have k12 := C1.out.cell 12; have kl := C1.out.lt; clear H1 b1 C0)
            | (go_at_call 27; refine (H2.out _).mono ?_; rintro e w2 ⟨rfl, b2⟩; have B2 := Lib.hid (B1.out.trans (b2.mono B1.out.size)); have C2 := Lib.hid (C1.out.call b2); clear k0 k1 k2 k11 k12 kl; have k0 := C2.out.cell 0; have k1 := C2.out.cell 1; have k2 := C2.out.cell 2; have k11 := C2.out.cell 11; have k12 := C2.out.cell 12; have kl := C2.out.lt; clear H2 b2 C1)
            | (go_at_call 27; refine (H3.out _).mono ?_; rintro e w3 ⟨rfl, b3⟩; have B3 := Lib.hid (B2.out.trans (b3.mono B2.out.size)); have C3 := Lib.hid (C2.out.call b3); clear k0 k1 k2 k11 k12 kl; have k0 := C3.out.cell 0; have k1 := C3.out.cell 1; have k2 := C3.out.cell 2; have k11 := C3.out.cell 11; have k12 := C3.out.cell 12; have kl := C3.out.lt; clear H3 b3 C2))
          go_ret
          exact ⟨by rw [HV.out]; first | rfl | (simp; done) | (simp; omega), B3.out⟩

set_option maxHeartbeats 4000000 in
theorem rsame_any (u v : Value) (l m : List Ho) (w : World) (H : HolesIs w u l) (H' : HolesIs w v m) :
    Calls Try.prog 14 #[u, v] w fun e w' => e = .returned (.bool (sameL l m)) ∧ Below w.heap.size w w' := by
  have hmax := H.max
  have hmax' := H'.max
  obtain ⟨p, n, c, rfl, hn⟩ := H.form
  obtain ⟨p', n', c', rfl, hn'⟩ := H'.form
  have HN := Lib.hid hn
  have HN' := Lib.hid hn'
  have HR := Lib.hid H
  have HR' := Lib.hid H'
  rw [← hn] at hmax
  rw [← hn'] at hmax'
  clear hn hn' H H'
  by_cases q : n = n'
  · subst q
    have g : ((n : Int) != (n : Int)) = false := by simp
    have HT : Hid ((∀ k (h : k < l.length) (h' : k < m.length), l[k] = m[k]) → sameL l m = true) := Lib.hid (fun h => sameL_all (by rw [← HN.out, ← HN'.out]) h)
    have HX : Hid (∀ k (h : k < l.length) (h' : k < m.length), l[k] ≠ m[k] → sameL l m = false) := Lib.hid (fun k h h' hn => sameL_no h h' hn)
    generalize sameL l m = s at *
    go_enter Try.func14, Try.ntmps14
    go_wp2_with fail
    go_loopw [5] (fun x5 wr => ∃ (k : Nat), x5 = .int .i64 (k : Int) ∧ k ≤ n ∧ Hid (∀ j (h : j < l.length) (h' : j < m.length), j < k → l[j] = m[j]) ∧ Hid (Below w.heap.size w wr)) (fun i _ => n - (intOf i).toNat)
    case atStart => exact ⟨0, rfl, Nat.zero_le _, Lib.hid (fun j _ _ hj => absurd hj (Nat.not_lt_zero j)), Lib.hid (Below.refl _ _)⟩
    case round =>
      obtain ⟨k, rfl, hk, HO, HB⟩ := hrel
      by_cases hlt : k < n
      · have hji : (k : Int) < (n : Int) := by omega
        have HK : Hid (k + 1 ≤ n) := Lib.hid hlt
        have hkl : k < l.length := by rw [← HN.out]; exact hlt
        have hkm : k < m.length := by rw [← HN'.out]; exact hlt
        obtain ⟨b1, o1, rfl, hb1, hc1⟩ := (HR.out.call HB.out).some (by omega)
        obtain ⟨b2, o2, rfl, hb2, hc2⟩ := (HR'.out.call HB.out).some (by omega)
        have T1 := hc1 k hkl
        have T2 := hc2 k hkm
        have a0 := T1.c0; have a1 := T1.c1; have a2 := T1.c2; have a3 := T1.c3; have a4 := T1.c4; have a5 := T1.c5; have a6 := T1.c6; have a7 := T1.c7; have a8 := T1.c8; have a9 := T1.c9; have a10 := T1.c10; have a11 := T1.c11; have a12 := T1.c12
        have d0 := T2.c0; have d1 := T2.c1; have d2 := T2.c2; have d3 := T2.c3; have d4 := T2.c4; have d5 := T2.c5; have d6 := T2.c6; have d7 := T2.c7; have d8 := T2.c8; have d9 := T2.c9; have d10 := T2.c10; have d11 := T2.c11; have d12 := T2.c12
        have HXK := Lib.hid (HX.out k hkl hkm)
        have HNK : Hid (l[k] = m[k] → ∀ j (h : j < l.length) (h' : j < m.length), j < k + 1 → l[j] = m[j]) := Lib.hid (fun h j hj hj' hjk => by
          by_cases e : j = k
          · subst e; exact h
          · exact HO.out j hj hj' (by omega))
        clear T1 T2 hc1 hc2
        generalize l[k] = x at *
        generalize m[k] = y at *
        have heq := equal_holes x y
        cases hq : eqH x y with
        | true =>
          have HV := Lib.hid (HNK.out (eqH_iff.1 hq))
          rw [hq] at heq
          clear hq HXK HNK
          go_wp2_with fail
          go_quiet (fail)
          go_wp2_with fail
          go_roundw
          case rel => exact ⟨k + 1, by go_num, HK.out, HV, Lib.hid (HB.out.trans ⟨rfl, rfl, rfl, Nat.le_refl _, fun _ _ => rfl⟩)⟩
          case measure => have := HK.out; simp [intOf]; omega
        | false =>
          have HV := Lib.hid (HXK.out (fun e => by rw [eqH_iff.2 e] at hq; cases hq))
          rw [hq] at heq
          clear hq HXK HNK
          go_wp2_with fail
          go_quiet (fail)
          go_wp2_with fail
          go_ret
          exact ⟨by rw [HV.out] <;> rfl, HB.out.trans ⟨rfl, rfl, rfl, Nat.le_refl _, fun _ _ => rfl⟩⟩
      · have hji : ¬ (k : Int) < (n : Int) := by omega
        have HV := Lib.hid (HT.out (fun j h h' => HO.out j h h' (by have := HN.out; omega)))
        go_wp2_with fail
        go_ret
        exact ⟨by rw [HV.out] <;> rfl, HB.out⟩
  · have g : ((n : Int) != (n' : Int)) = true := by rw [bne_iff_ne]; omega
    have HV := Lib.hid (sameL_len (l := l) (m := m) (by rw [← HN.out, ← HN'.out]; exact q))
    generalize sameL l m = s at *
    go_enter Try.func14, Try.ntmps14
    go_wp2_with fail
    go_ret
    exact ⟨by rw [HV.out] <;> rfl, Below.refl _ _⟩

#print axioms rmay_any
#print axioms rsame_any
end Go.Proofs.Ytaahghjllfkmaaa.Hl
