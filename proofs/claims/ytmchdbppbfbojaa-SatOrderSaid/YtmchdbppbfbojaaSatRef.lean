/- The contracts of the document's own answers for layer 1, and of the statements' 'awake'. -/
import Derived.Test.YtmchdbppbfbojaaSatPlain
namespace Go.Proofs.Ytmchdbppbfbojaa.Sat
open Go.ChangeShapes Go.WideShapes Go.ChangeAt Go.RowKit

theorem may_iff (n : Int) : may n = decide (0 ≤ n ∧ n ≤ 1099511627776) := by
  unfold may
  rcases tk_cases n with ⟨h, e⟩ | ⟨h, e⟩ | ⟨h, h', e⟩
  · rw [e]; rw [Bool.eq_iff_iff]; simp; omega
  · rw [e]; rw [Bool.eq_iff_iff]; simp; omega
  · rw [e]; simp; omega
theorem may_yes {n : Int} (h : 0 ≤ n) (h' : n ≤ 1099511627776) : may n = true := by rw [may_iff]; simp; omega
theorem may_no {n : Int} (h : n < 0 ∨ 1099511627776 < n) : may n = false := by rw [may_iff]; simp; omega

set_option maxHeartbeats 400000 in
theorem rtaken_any (n : Int) (w : World) :
    Calls Try.prog 19 #[.int .i64 n] w fun e w' => e = .returned (.int .i64 (tk n)) ∧ w = w' := by
  rcases tk_cases n with ⟨h, e⟩ | ⟨h, e⟩ | ⟨h, h', e⟩
  · have H := Lib.hid e; clear e
    go_enter Try.func19, Try.ntmps19
    go_wp2
    go_ret
    rw [H.out]; exact ⟨rfl, rfl⟩
  · have H := Lib.hid e; clear e
    have h3 : ¬ n < 0 := by omega
    go_enter Try.func19, Try.ntmps19
    go_wp2
    go_ret
    rw [H.out]; exact ⟨rfl, rfl⟩
  · have H := Lib.hid e; clear e
    have h2 : ¬ 1099511627776 < n := by omega
    have h3 : ¬ n < 0 := by omega
    go_enter Try.func19, Try.ntmps19
    go_wp2
    go_ret
    rw [H.out]; exact ⟨rfl, rfl⟩

set_option maxHeartbeats 400000 in
theorem rmay_any (n : Int) (w : World) :
    Calls Try.prog 12 #[.int .i64 n] w fun e w' => e = .returned (.bool (may n)) ∧ w = w' := by
  by_cases h0 : 0 ≤ n
  · by_cases h1 : n ≤ 1099511627776
    · have H := Lib.hid (may_yes h0 h1)
      go_enter Try.func12, Try.ntmps12
      go_wp2
      go_ret
      rw [H.out]; exact ⟨rfl, rfl⟩
    · have H := Lib.hid (may_no (n := n) (by omega))
      go_enter Try.func12, Try.ntmps12
      go_wp2
      go_ret
      rw [H.out]; exact ⟨rfl, rfl⟩
  · have H := Lib.hid (may_no (n := n) (by omega))
    go_enter Try.func12, Try.ntmps12
    go_wp2
    go_ret
    rw [H.out]; exact ⟨rfl, rfl⟩

set_option maxHeartbeats 400000 in
theorem radd_any (a b : Int) (w : World) :
    Calls Try.prog 15 #[.int .i64 a, .int .i64 b] w fun e w' => e = .returned (.int .i64 (add a b)) ∧ w = w' := by
  have a0 := tk_lo a
  have a1 := tk_hi a
  have b0 := tk_lo b
  have b1 := tk_hi b
  go_enter Try.func15, Try.ntmps15
  go_wp2_with (go_at_call 19; refine (rtaken_any _ _).mono ?_; rintro e w' ⟨rfl, rfl⟩)
  go_ret
  exact ⟨rfl, rfl⟩

set_option maxHeartbeats 400000 in
theorem rleft_any (a b : Int) (w : World) :
    Calls Try.prog 17 #[.int .i64 a, .int .i64 b] w fun e w' => e = .returned (.int .i64 (left a b)) ∧ w = w' := by
  have a0 := tk_lo a
  have a1 := tk_hi a
  have b0 := tk_lo b
  have b1 := tk_hi b
  go_enter Try.func17, Try.ntmps17
  go_wp2_with (go_at_call 19; refine (rtaken_any _ _).mono ?_; rintro e w' ⟨rfl, rfl⟩)
  go_ret
  exact ⟨rfl, rfl⟩

set_option maxHeartbeats 400000 in
theorem rspend_any (a b n : Int) (w : World) :
    Calls Try.prog 11 #[.int .i64 a, .int .i64 b, .int .i64 n] w fun e w' => e = .returned (.tuple #[.int .i64 (spend a b n), .int .i64 (add b (spend a b n))]) ∧ w = w' := by
  by_cases h : tk n ≤ left a b
  · have h' : ¬ left a b < tk n := by omega
    have e : spend a b n = tk n := by unfold spend; rw [if_pos h]
    have H := Lib.hid e; clear e
    go_enter Try.func11, Try.ntmps11
    go_wp2_with (first | (go_at_call 19; refine (rtaken_any _ _).mono ?_; rintro e w' ⟨rfl, rfl⟩) | (go_at_call 17; refine (rleft_any _ _ _).mono ?_; rintro e w' ⟨rfl, rfl⟩) | (go_at_call 15; refine (radd_any _ _ _).mono ?_; rintro e w' ⟨rfl, rfl⟩))
    go_ret2
    rw [H.out]; exact ⟨rfl, rfl⟩
  · have h' : left a b < tk n := by omega
    have e : spend a b n = left a b := by unfold spend; rw [if_neg h]
    have H := Lib.hid e; clear e
    go_enter Try.func11, Try.ntmps11
    go_wp2_with (first | (go_at_call 19; refine (rtaken_any _ _).mono ?_; rintro e w' ⟨rfl, rfl⟩) | (go_at_call 17; refine (rleft_any _ _ _).mono ?_; rintro e w' ⟨rfl, rfl⟩) | (go_at_call 15; refine (radd_any _ _ _).mono ?_; rintro e w' ⟨rfl, rfl⟩))
    go_ret2
    rw [H.out]; exact ⟨rfl, rfl⟩

set_option maxHeartbeats 400000 in
theorem awake_any (w : World) :
    Calls Try.prog 9 #[] w fun e w' => e = .returned (.bool true) ∧ w = w' := by
  have e1 : spend 10 7 5 = 3 := by decide
  have e2 : add 7 3 = 10 := by decide
  have e3 : left 10 7 = 3 := by decide
  have e4 : add 1099511627776 1 = 1099511627776 := by decide
  have e5 : may 0 = true := by decide
  have e6 : may (-1) = false := by decide
  go_enter Try.func9, Try.ntmps9
  go_wp2_with (first | (go_at_call 10; refine (spend_any _ _ _ _).mono ?_; rintro e w' ⟨rfl, rfl⟩) | (go_at_call 16; refine (left_any _ _ _).mono ?_; rintro e w' ⟨rfl, rfl⟩) | (go_at_call 14; refine (add_any _ _ _).mono ?_; rintro e w' ⟨rfl, rfl⟩) | (go_at_call 13; refine (may_any _ _).mono ?_; rintro e w' ⟨rfl, rfl⟩))
  go_ret
  exact ⟨rfl, rfl⟩
end Go.Proofs.Ytmchdbppbfbojaa.Sat
