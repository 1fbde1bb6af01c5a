/- Proved: for every user, tenant, tenants, text and code (held against 4 tenants, 200 bytes): nothing leads on from one that is gone, nor back from one that is in. Conditions: none beyond the row's own (the library's variables start as the program's text lays them: the card ties them). -/
import Derived.Test.YtkkajbnonfnbjaaLoginAwake
import Derived.BigQuiet
import Derived.Deep.QuietTactic
import Derived.Lib.QuietBelow

namespace Go.Proofs.Ytkkajbnonfnbjaa.loginGone
open Go.Proofs.Ytkkajbnonfnbjaa Go.Proofs.Ytkkajbnonfnbjaa.Lo Go.Proofs.Ytkkajbnonfnbjaa.Ro Go.Sort
open Go.ChangeShapes Go.WideShapes Go.ChangeAt Go.RowKit Go.Sort Go.ChangeMaps
set_option linter.unusedSimpArgs false
set_option linter.unusedVariables false
set_option linter.unusedVariables false in
set_option maxHeartbeats 16000000 in
set_option maxRecDepth 100000 in
theorem walk (s0 : List UInt8) (z0 : s0.length ≤ 9223372036854775807) (n1 : Int) (l1 : -9223372036854775808 ≤ n1) (h1 : n1 ≤ 9223372036854775807) (b2 : Bool) (u3 : Value) (s3 : List (List UInt8)) (s4 : List UInt8) (z4 : s4.length ≤ 9223372036854775807) (n5 : Int) (l5 : -9223372036854775808 ≤ n5) (h5 : n5 ≤ 9223372036854775807) (w : World) (y3 : HostsIs w u3 s3) (E : Env w) :
    Calls Try.prog 9 #[str s0, .int .i64 n1, .bool b2, u3, str s4, .int .i64 n5] w fun e w' => e = .returned (.bool true) ∧ Below w.heap.size w w' := by
  have AWK := Lib.hid (fun W EW => awake_any W EW)
  have B0 := Lib.hid (Below.refl w.heap.size w)
  obtain ⟨p, n, c, rfl, hn⟩ := y3.form
  have HN := Lib.hid hn
  have YL0 := Lib.hid y3
  clear hn y3
  by_cases g1 : 4 < n
  · have g1' : (4 : Int) < (n : Int) := by omega
    go_enter Try.func9, Try.ntmps9
    go_wp2_with (first
        | (go_at_call 10; refine (AWK.out _ (E.below (B0.out))).mono ?_; rintro e w1 ⟨rfl, b1⟩; have B1 := Lib.hid (B0.out.trans (b1.mono B0.out.size)); have YL1 := Lib.hid (YL0.out.call b1); clear YL0))
    all_goals (go_ret; exact ⟨by first | rfl | (simp; done) | (simp; omega), B1.out⟩)
  have g1' : ¬ (4 : Int) < (n : Int) := by omega
  by_cases g2 : 200 < s4.length
  · have g2' : (200 : Int) < (s4.length : Int) := by omega
    go_enter Try.func9, Try.ntmps9
    go_wp2_with (first
        | (go_at_call 10; refine (AWK.out _ (E.below (B0.out))).mono ?_; rintro e w1 ⟨rfl, b1⟩; have B1 := Lib.hid (B0.out.trans (b1.mono B0.out.size)); have YL1 := Lib.hid (YL0.out.call b1); clear YL0))
    all_goals (go_ret; exact ⟨by first | rfl | (simp; done) | (simp; omega), B1.out⟩)
  have g2' : ¬ (200 : Int) < (s4.length : Int) := by omega
  by_cases g3 : 200 < s0.length
  · have g3' : (200 : Int) < (s0.length : Int) := by omega
    go_enter Try.func9, Try.ntmps9
    go_wp2_with (first
        | (go_at_call 10; refine (AWK.out _ (E.below (B0.out))).mono ?_; rintro e w1 ⟨rfl, b1⟩; have B1 := Lib.hid (B0.out.trans (b1.mono B0.out.size)); have YL1 := Lib.hid (YL0.out.call b1); clear YL0))
    all_goals (go_ret; exact ⟨by first | rfl | (simp; done) | (simp; omega), B1.out⟩)
  have g3' : ¬ (200 : Int) < (s0.length : Int) := by omega
  cases b2 with
  | false =>
    have HA1 := Lib.hid (fun W HR => user_of (⟨7, (-1), []⟩ : Lg) (⟨7, (-1), []⟩ : Lg) (.slice p n c) s3 s4 (by omega) 7 (user_odd (by show (7 : Int) ≠ 0; decide) s3 s4) W HR)
    have HA2 := Lib.hid (fun W => pass_of (⟨7, (-1), []⟩ : Lg) (⟨7, (-1), []⟩ : Lg) 7 rfl W)
    have HA3 := Lib.hid (fun W => dial_of (⟨7, (-1), []⟩ : Lg) (⟨7, (-1), []⟩ : Lg) true 7 rfl W)
    have HA4 := Lib.hid (fun W => heard_of (⟨7, (-1), []⟩ : Lg) (⟨7, (-1), []⟩ : Lg) n5 0 l5 h5 (hear_still (Or.inr ⟨by show (7 : Int) ≠ 2; decide, by show (7 : Int) ≠ 3; decide, by show (7 : Int) ≠ 5; decide⟩)) W)
    have heq : ∀ W, (Op.equalIn 10000 23 (.agg #[.int .i64 7, .int .i64 (-1), .string ⟨#[]⟩]) (.agg #[.int .i64 7, .int .i64 (-1), .string ⟨#[]⟩])).run Try.prog W = .ok true W := fun W => by
      have := equal_logins (⟨7, (-1), []⟩ : Lg) (⟨7, (-1), []⟩ : Lg) W
      rw [eqL_self] at this
      exact this
    go_enter Try.func9, Try.ntmps9
    go_wp2_with (first
        | (go_at_call 10; refine (AWK.out _ (E.below (B0.out))).mono ?_; rintro e w1 ⟨rfl, b1⟩; have B1 := Lib.hid (B0.out.trans (b1.mono B0.out.size)); have YL1 := Lib.hid (YL0.out.call b1); clear YL0)
        | (go_at_call 11; refine (HA1.out _ (YL1.out.alloc (.cells #[.int .i64 7, .int .i64 (-1), .string ⟨#[]⟩] 23))).mono ?_; rintro e w2 ⟨rfl, b2⟩; have B2 := Lib.hid (((B1.out).alloc B1.out.size (.cells #[.int .i64 7, .int .i64 (-1), .string ⟨#[]⟩] 23)).trans (b2.mono (by have := B1.out.size; simp <;> omega))); have LB2 := Lib.hid ((IsRow.made w1 23 #[.int .i64 7, .int .i64 (-1), .string ⟨#[]⟩]).call b2); have LBc0 : w2.cell? ⟨w1.heap.size, 0, none⟩ = some (.int .i64 7) := LB2.out.cell 0; have LBc1 : w2.cell? ⟨w1.heap.size, 1, none⟩ = some (.int .i64 (-1)) := LB2.out.cell 1; have LBc2 : w2.cell? ⟨w1.heap.size, 2, none⟩ = some (.string ⟨#[]⟩) := LB2.out.cell 2; have LBlt : w1.heap.size < w2.heap.size := LB2.out.lt; have YL2 := Lib.hid ((YL1.out.alloc (.cells #[.int .i64 7, .int .i64 (-1), .string ⟨#[]⟩] 23)).call b2); clear YL1; clear HA1)
        | (go_at_call 13; refine (HA2.out _).mono ?_; rintro e w3 ⟨rfl, b3⟩; have B3 := Lib.hid (((B2.out).alloc B2.out.size (.cells #[.int .i64 7, .int .i64 (-1), .string ⟨#[]⟩] 23)).trans (b3.mono (by have := B2.out.size; simp <;> omega))); have LB3 := Lib.hid ((LB2.out.alloc (.cells #[.int .i64 7, .int .i64 (-1), .string ⟨#[]⟩] 23)).call b3); have A13 := Lib.hid ((IsRow.made w2 23 #[.int .i64 7, .int .i64 (-1), .string ⟨#[]⟩]).call b3); clear LBc0 LBc1 LBc2 LBlt; have LBc0 : w3.cell? ⟨w1.heap.size, 0, none⟩ = some (.int .i64 7) := LB3.out.cell 0; have LBc1 : w3.cell? ⟨w1.heap.size, 1, none⟩ = some (.int .i64 (-1)) := LB3.out.cell 1; have LBc2 : w3.cell? ⟨w1.heap.size, 2, none⟩ = some (.string ⟨#[]⟩) := LB3.out.cell 2; have LBlt : w1.heap.size < w3.heap.size := LB3.out.lt; have YL3 := Lib.hid ((YL2.out.alloc (.cells #[.int .i64 7, .int .i64 (-1), .string ⟨#[]⟩] 23)).call b3); clear YL2; clear HA2; clear LB2)
        | (go_at_call 15; refine (HA3.out _).mono ?_; rintro e w4 ⟨rfl, b4⟩; have B4 := Lib.hid (((B3.out).alloc B3.out.size (.cells #[.int .i64 7, .int .i64 (-1), .string ⟨#[]⟩] 23)).trans (b4.mono (by have := B3.out.size; simp <;> omega))); have LB4 := Lib.hid ((LB3.out.alloc (.cells #[.int .i64 7, .int .i64 (-1), .string ⟨#[]⟩] 23)).call b4); have A14 := Lib.hid ((A13.out.alloc (.cells #[.int .i64 7, .int .i64 (-1), .string ⟨#[]⟩] 23)).call b4); have A24 := Lib.hid ((IsRow.made w3 23 #[.int .i64 7, .int .i64 (-1), .string ⟨#[]⟩]).call b4); clear LBc0 LBc1 LBc2 LBlt; have LBc0 : w4.cell? ⟨w1.heap.size, 0, none⟩ = some (.int .i64 7) := LB4.out.cell 0; have LBc1 : w4.cell? ⟨w1.heap.size, 1, none⟩ = some (.int .i64 (-1)) := LB4.out.cell 1; have LBc2 : w4.cell? ⟨w1.heap.size, 2, none⟩ = some (.string ⟨#[]⟩) := LB4.out.cell 2; have LBlt : w1.heap.size < w4.heap.size := LB4.out.lt; have YL4 := Lib.hid ((YL3.out.alloc (.cells #[.int .i64 7, .int .i64 (-1), .string ⟨#[]⟩] 23)).call b4); clear YL3; clear HA3; clear LB3 A13)
        | (go_at_call 17; refine (HA4.out _).mono ?_; rintro e w5 ⟨rfl, b5⟩; have B5 := Lib.hid (((B4.out).alloc B4.out.size (.cells #[.int .i64 7, .int .i64 (-1), .string ⟨#[]⟩] 23)).trans (b5.mono (by have := B4.out.size; simp <;> omega))); have LB5 := Lib.hid ((LB4.out.alloc (.cells #[.int .i64 7, .int .i64 (-1), .string ⟨#[]⟩] 23)).call b5); have A15 := Lib.hid ((A14.out.alloc (.cells #[.int .i64 7, .int .i64 (-1), .string ⟨#[]⟩] 23)).call b5); have A25 := Lib.hid ((A24.out.alloc (.cells #[.int .i64 7, .int .i64 (-1), .string ⟨#[]⟩] 23)).call b5); have A35 := Lib.hid ((IsRow.made w4 23 #[.int .i64 7, .int .i64 (-1), .string ⟨#[]⟩]).call b5); clear LBc0 LBc1 LBc2 LBlt; have LBc0 : w5.cell? ⟨w1.heap.size, 0, none⟩ = some (.int .i64 7) := LB5.out.cell 0; have LBc1 : w5.cell? ⟨w1.heap.size, 1, none⟩ = some (.int .i64 (-1)) := LB5.out.cell 1; have LBc2 : w5.cell? ⟨w1.heap.size, 2, none⟩ = some (.string ⟨#[]⟩) := LB5.out.cell 2; have LBlt : w1.heap.size < w5.heap.size := LB5.out.lt; have A1c0 : w5.cell? ⟨w2.heap.size, 0, none⟩ = some (.int .i64 7) := A15.out.cell 0; have A1c1 : w5.cell? ⟨w2.heap.size, 1, none⟩ = some (.int .i64 (-1)) := A15.out.cell 1; have A1c2 : w5.cell? ⟨w2.heap.size, 2, none⟩ = some (.string ⟨#[]⟩) := A15.out.cell 2; have A1lt : w2.heap.size < w5.heap.size := A15.out.lt; have A2c0 : w5.cell? ⟨w3.heap.size, 0, none⟩ = some (.int .i64 7) := A25.out.cell 0; have A2c1 : w5.cell? ⟨w3.heap.size, 1, none⟩ = some (.int .i64 (-1)) := A25.out.cell 1; have A2c2 : w5.cell? ⟨w3.heap.size, 2, none⟩ = some (.string ⟨#[]⟩) := A25.out.cell 2; have A2lt : w3.heap.size < w5.heap.size := A25.out.lt; have A3c0 : w5.cell? ⟨w4.heap.size, 0, none⟩ = some (.int .i64 7) := A35.out.cell 0; have A3c1 : w5.cell? ⟨w4.heap.size, 1, none⟩ = some (.int .i64 (-1)) := A35.out.cell 1; have A3c2 : w5.cell? ⟨w4.heap.size, 2, none⟩ = some (.string ⟨#[]⟩) := A35.out.cell 2; have A3lt : w4.heap.size < w5.heap.size := A35.out.lt; have YL5 := Lib.hid ((YL4.out.alloc (.cells #[.int .i64 7, .int .i64 (-1), .string ⟨#[]⟩] 23)).call b5); clear YL4; clear HA4; clear LB4 A14 A24))
    all_goals (go_ret; exact ⟨by first | rfl | (simp; done) | (simp; omega), (B5.out).alloc B5.out.size (.cells #[.int .i64 7, .int .i64 (-1), .string ⟨#[]⟩] 23)⟩)
  | true =>
    have HA1 := Lib.hid (fun W HR => user_of (⟨6, n1, s0⟩ : Lg) (⟨6, n1, s0⟩ : Lg) (.slice p n c) s3 s4 (by omega) 7 (user_odd (by show (6 : Int) ≠ 0; decide) s3 s4) W HR)
    have HA2 := Lib.hid (fun W => pass_of (⟨6, n1, s0⟩ : Lg) (⟨6, n1, s0⟩ : Lg) 7 rfl W)
    have HA3 := Lib.hid (fun W => dial_of (⟨6, n1, s0⟩ : Lg) (⟨6, n1, s0⟩ : Lg) true 7 rfl W)
    have HA4 := Lib.hid (fun W => heard_of (⟨6, n1, s0⟩ : Lg) (⟨6, n1, s0⟩ : Lg) n5 0 l5 h5 (hear_still (Or.inr ⟨by show (6 : Int) ≠ 2; decide, by show (6 : Int) ≠ 3; decide, by show (6 : Int) ≠ 5; decide⟩)) W)
    have heq : ∀ W, (Op.equalIn 10000 23 (.agg #[.int .i64 6, .int .i64 n1, .string ⟨s0.toArray⟩]) (.agg #[.int .i64 6, .int .i64 n1, .string ⟨s0.toArray⟩])).run Try.prog W = .ok true W := fun W => by
      have := equal_logins (⟨6, n1, s0⟩ : Lg) (⟨6, n1, s0⟩ : Lg) W
      rw [eqL_self] at this
      exact this
    go_enter Try.func9, Try.ntmps9
    go_wp2_with (first
        | (go_at_call 10; refine (AWK.out _ (E.below (B0.out))).mono ?_; rintro e w1 ⟨rfl, b1⟩; have B1 := Lib.hid (B0.out.trans (b1.mono B0.out.size)); have YL1 := Lib.hid (YL0.out.call b1); clear YL0)
        | (go_at_call 11; refine (HA1.out _ (YL1.out.alloc (.cells #[.int .i64 6, .int .i64 n1, .string ⟨s0.toArray⟩] 23))).mono ?_; rintro e w2 ⟨rfl, b2⟩; have B2 := Lib.hid (((B1.out).alloc B1.out.size (.cells #[.int .i64 6, .int .i64 n1, .string ⟨s0.toArray⟩] 23)).trans (b2.mono (by have := B1.out.size; simp <;> omega))); have LB2 := Lib.hid ((IsRow.made w1 23 #[.int .i64 6, .int .i64 n1, .string ⟨s0.toArray⟩]).call b2); have LBc0 : w2.cell? ⟨w1.heap.size, 0, none⟩ = some (.int .i64 6) := LB2.out.cell 0; have LBc1 : w2.cell? ⟨w1.heap.size, 1, none⟩ = some (.int .i64 n1) := LB2.out.cell 1; have LBc2 : w2.cell? ⟨w1.heap.size, 2, none⟩ = some (.string ⟨s0.toArray⟩) := LB2.out.cell 2; have LBlt : w1.heap.size < w2.heap.size := LB2.out.lt; have YL2 := Lib.hid ((YL1.out.alloc (.cells #[.int .i64 6, .int .i64 n1, .string ⟨s0.toArray⟩] 23)).call b2); clear YL1; clear HA1)
        | (go_at_call 13; refine (HA2.out _).mono ?_; rintro e w3 ⟨rfl, b3⟩; have B3 := Lib.hid (((B2.out).alloc B2.out.size (.cells #[.int .i64 6, .int .i64 n1, .string ⟨s0.toArray⟩] 23)).trans (b3.mono (by have := B2.out.size; simp <;> omega))); have LB3 := Lib.hid ((LB2.out.alloc (.cells #[.int .i64 6, .int .i64 n1, .string ⟨s0.toArray⟩] 23)).call b3); have A13 := Lib.hid ((IsRow.made w2 23 #[.int .i64 6, .int .i64 n1, .string ⟨s0.toArray⟩]).call b3); clear LBc0 LBc1 LBc2 LBlt; have LBc0 : w3.cell? ⟨w1.heap.size, 0, none⟩ = some (.int .i64 6) := LB3.out.cell 0; have LBc1 : w3.cell? ⟨w1.heap.size, 1, none⟩ = some (.int .i64 n1) := LB3.out.cell 1; have LBc2 : w3.cell? ⟨w1.heap.size, 2, none⟩ = some (.string ⟨s0.toArray⟩) := LB3.out.cell 2; have LBlt : w1.heap.size < w3.heap.size := LB3.out.lt; have YL3 := Lib.hid ((YL2.out.alloc (.cells #[.int .i64 6, .int .i64 n1, .string ⟨s0.toArray⟩] 23)).call b3); clear YL2; clear HA2; clear LB2)
        | (go_at_call 15; refine (HA3.out _).mono ?_; rintro e w4 ⟨rfl, b4⟩; have B4 := Lib.hid (((B3.out).alloc B3.out.size (.cells #[.int .i64 6, .int .i64 n1, .string ⟨s0.toArray⟩] 23)).trans (b4.mono (by have := B3.out.size; simp <;> omega))); have LB4 := Lib.hid ((LB3.out.alloc (.cells #[.int .i64 6, .int .i64 n1, .string ⟨s0.toArray⟩] 23)).call b4); have A14 := Lib.hid ((A13.out.alloc (.cells #[.int .i64 6, .int .i64 n1, .string ⟨s0.toArray⟩] 23)).call b4); have A24 := Lib.hid ((IsRow.made w3 23 #[.int .i64 6, .int .i64 n1, .string ⟨s0.toArray⟩]).call b4); clear LBc0 LBc1 LBc2 LBlt; have LBc0 : w4.cell? ⟨w1.heap.size, 0, none⟩ = some (.int .i64 6) := LB4.out.cell 0; have LBc1 : w4.cell? ⟨w1.heap.size, 1, none⟩ = some (.int .i64 n1) := LB4.out.cell 1; have LBc2 : w4.cell? ⟨w1.heap.size, 2, none⟩ = some (.string ⟨s0.toArray⟩) := LB4.out.cell 2; have LBlt : w1.heap.size < w4.heap.size := LB4.out.lt; have YL4 := Lib.hid ((YL3.out.alloc (.cells #[.int .i64 6, .int .i64 n1, .string ⟨s0.toArray⟩] 23)).call b4); clear YL3; clear HA3; clear LB3 A13)
        | (go_at_call 17; refine (HA4.out _).mono ?_; rintro e w5 ⟨rfl, b5⟩; have B5 := Lib.hid (((B4.out).alloc B4.out.size (.cells #[.int .i64 6, .int .i64 n1, .string ⟨s0.toArray⟩] 23)).trans (b5.mono (by have := B4.out.size; simp <;> omega))); have LB5 := Lib.hid ((LB4.out.alloc (.cells #[.int .i64 6, .int .i64 n1, .string ⟨s0.toArray⟩] 23)).call b5); have A15 := Lib.hid ((A14.out.alloc (.cells #[.int .i64 6, .int .i64 n1, .string ⟨s0.toArray⟩] 23)).call b5); have A25 := Lib.hid ((A24.out.alloc (.cells #[.int .i64 6, .int .i64 n1, .string ⟨s0.toArray⟩] 23)).call b5); have A35 := Lib.hid ((IsRow.made w4 23 #[.int .i64 6, .int .i64 n1, .string ⟨s0.toArray⟩]).call b5); clear LBc0 LBc1 LBc2 LBlt; have LBc0 : w5.cell? ⟨w1.heap.size, 0, none⟩ = some (.int .i64 6) := LB5.out.cell 0; have LBc1 : w5.cell? ⟨w1.heap.size, 1, none⟩ = some (.int .i64 n1) := LB5.out.cell 1; have LBc2 : w5.cell? ⟨w1.heap.size, 2, none⟩ = some (.string ⟨s0.toArray⟩) := LB5.out.cell 2; have LBlt : w1.heap.size < w5.heap.size := LB5.out.lt; have A1c0 : w5.cell? ⟨w2.heap.size, 0, none⟩ = some (.int .i64 6) := A15.out.cell 0; have A1c1 : w5.cell? ⟨w2.heap.size, 1, none⟩ = some (.int .i64 n1) := A15.out.cell 1; have A1c2 : w5.cell? ⟨w2.heap.size, 2, none⟩ = some (.string ⟨s0.toArray⟩) := A15.out.cell 2; have A1lt : w2.heap.size < w5.heap.size := A15.out.lt; have A2c0 : w5.cell? ⟨w3.heap.size, 0, none⟩ = some (.int .i64 6) := A25.out.cell 0; have A2c1 : w5.cell? ⟨w3.heap.size, 1, none⟩ = some (.int .i64 n1) := A25.out.cell 1; have A2c2 : w5.cell? ⟨w3.heap.size, 2, none⟩ = some (.string ⟨s0.toArray⟩) := A25.out.cell 2; have A2lt : w3.heap.size < w5.heap.size := A25.out.lt; have A3c0 : w5.cell? ⟨w4.heap.size, 0, none⟩ = some (.int .i64 6) := A35.out.cell 0; have A3c1 : w5.cell? ⟨w4.heap.size, 1, none⟩ = some (.int .i64 n1) := A35.out.cell 1; have A3c2 : w5.cell? ⟨w4.heap.size, 2, none⟩ = some (.string ⟨s0.toArray⟩) := A35.out.cell 2; have A3lt : w4.heap.size < w5.heap.size := A35.out.lt; have YL5 := Lib.hid ((YL4.out.alloc (.cells #[.int .i64 6, .int .i64 n1, .string ⟨s0.toArray⟩] 23)).call b5); clear YL4; clear HA4; clear LB4 A14 A24))
    all_goals (go_ret; exact ⟨by first | rfl | (simp; done) | (simp; omega), (B5.out).alloc B5.out.size (.cells #[.int .i64 6, .int .i64 n1, .string ⟨s0.toArray⟩] 23)⟩)

set_option maxRecDepth 100000 in
theorem lifted (os : Os) (started : os.Started) (H : Type) (enc : TypeId × Value → H) :
    ReturnsInHanded {} Try.checked os 9 .any (Rows.loginGoneSpec.pre6 enc Try.prog Try.f9 Rows.loginGoneRow.domain false) (Rows.loginGoneSpec.post enc Try.prog Try.f9 false true false false) := by
  refine returnsInHanded_of_change (C := Try.checked) ownKnobs started (by kernel_rfl) Try.func9
    (ChangeSpec.witness6 (enc := enc) (C := Try.checked) false ⟨#[], #[.string ⟨#[]⟩, .int .i64 0, .bool false, .slice none 0 0, .string ⟨#[]⟩, .int .i64 0], []⟩ 8 (by kernel_rfl) (by kernel_rfl) (by kernel_rfl) (by kernel_rfl)) ?_
  intro W base args ds gs before hval0 hW _ _
  have E : Env W := trivial
  have hval : ∀ (j : Nat) t v, Try.f9.params[j]? = some t → args[j]? = some v → Value.okWide Try.prog W .any base t v := hval0
  have hW' := hW
  obtain ⟨p, q, hA0, hV, rfl, _, _⟩ := hW
  have hA : DataW.TrodAll enc Try.prog W 0 (fun _ => true) true Try.f9.params.toList args.toList ds p := hA0
  rw [Try.params9] at hA hval
  obtain ⟨v0, vs0, d0, ds0, p0, q0, hargs, rfl, rfl, r0, t0⟩ := trodAll_cons hA
  obtain ⟨v1, vs1, d1, ds1, p1, q1, rfl, rfl, rfl, r1, t1⟩ := trodAll_cons t0
  obtain ⟨v2, vs2, d2, ds2, p2, q2, rfl, rfl, rfl, r2, t2⟩ := trodAll_cons t1
  obtain ⟨v3, vs3, d3, ds3, p3, q3, rfl, rfl, rfl, r3, t3⟩ := trodAll_cons t2
  obtain ⟨v4, vs4, d4, ds4, p4, q4, rfl, rfl, rfl, r4, t4⟩ := trodAll_cons t3
  obtain ⟨v5, vs5, d5, ds5, p5, q5, rfl, rfl, rfl, r5, t5⟩ := trodAll_cons t4
  obtain ⟨rfl, rfl, rfl⟩ := trodAll_nil t5
  obtain rfl : args = #[v0, v1, v2, v3, v4, v5] := by cases args; simp_all
  obtain ⟨rfl, rfl⟩ := trodVars_none hV
  obtain ⟨x0, rfl, rfl, rfl, w0⟩ := open_string Try.underlying9 (hval 0 9 v0 rfl rfl) r0
  obtain ⟨s0, rfl⟩ : ∃ l : List UInt8, x0 = ⟨l.toArray⟩ := ⟨x0.data.toList, by simp⟩
  obtain ⟨n1, rfl, rfl, rfl, w1⟩ := open_int Try.underlying3 (hval 1 3 v1 rfl rfl) r1
  obtain ⟨b2, rfl, rfl, rfl⟩ := open_bool Try.underlying4 (hval 2 4 v2 rfl rfl) r2
  obtain ⟨s3, y3⟩ := open_hosts (hval 3 24 v3 rfl rfl) r3
  obtain ⟨x4, rfl, rfl, rfl, w4⟩ := open_string Try.underlying9 (hval 4 9 v4 rfl rfl) r4
  obtain ⟨s4, rfl⟩ : ∃ l : List UInt8, x4 = ⟨l.toArray⟩ := ⟨x4.data.toList, by simp⟩
  obtain ⟨n5, rfl, rfl, rfl, w5⟩ := open_int Try.underlying3 (hval 5 3 v5 rfl rfl) r5
  clear hA0 hval0
  simp only [List.append_nil] at hW'
  refine (walk s0 (by have := w0; rw [size_mk] at this; unfold maxLen at this; exact this) n1 (int_wf w1).1 (int_wf w1).2 b2 v3 s3 s4 (by have := w4; rw [size_mk] at this; unfold maxLen at this; exact this) n5 (int_wf w5).1 (int_wf w5).2 W y3 E).mono fun e W' ⟨he, hb⟩ => ?_
  subst he
  have t3' := Below.trod laid_out (by kernel_rfl) (of_decide_eq_true (by kernel_rfl)) r3 hb (fun x hx => hW'.lt x (by simp [hx]))
  exact ⟨_, rfl, told hW' (fun _ _ _ => trodAll_cons_mk (shut_bool Try.underlying4 _) trodAll_mk0) (trodAll_cons_mk (shut_string Try.underlying9 w0) (trodAll_cons_mk (shut_int Try.underlying3 w1) (trodAll_cons_mk (shut_bool Try.underlying4 b2) (trodAll_cons_mk (t3') (trodAll_cons_mk (shut_string Try.underlying9 w4) (trodAll_cons_mk (shut_int Try.underlying3 w5) trodAll_mk0)))))) (fun _ => rfl) hb⟩

theorem over : Rows.loginGoneRow.holds Try.pinned (OpenSpec.ofChange Rows.loginGoneSpec) :=
  OpenClaim.holds_of_wide 9 Try.f9 rfl rfl rfl rfl rfl rfl rfl ⟨rfl, rfl, rfl, rfl, rfl⟩ rfl rfl rfl rfl rfl (by kernel_rfl) Try.func9 (by kernel_rfl)
    (of_decide_eq_true (by kernel_rfl)) (by unfold Func.isWrapper; first | (rw [if_pos (by decide +kernel)]; kernel_rfl) | (rw [if_neg (by decide +kernel)]; exact ⟨rfl, rfl⟩))
    (fun os started H enc _ => lifted os started H enc)

theorem proved : Rows.LoginGoneSaid :=
  over
#print axioms proved
end Go.Proofs.Ytkkajbnonfnbjaa.loginGone
