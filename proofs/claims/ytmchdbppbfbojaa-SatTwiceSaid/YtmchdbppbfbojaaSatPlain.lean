/- Plain facts on numbers that stay from 0 to 2^40, and the contracts of package sat and of the document's answer of layer 1: each call leaves the world as it was. -/
import Derived.Test.YtmchdbppbfbojaaRows
import Derived.WalkKit
import Derived.ProofKit
import Derived.OpenShut
import Derived.Lib.Hide
namespace Go.Proofs.Ytmchdbppbfbojaa.Sat
open Go.ChangeShapes Go.WideShapes Go.ChangeAt Go.RowKit

/-- a number as it is taken -/
def tk (n : Int) : Int := if n < 0 then 0 else if 1099511627776 < n then 1099511627776 else n
def may (n : Int) : Bool := tk n == n
def add (a b : Int) : Int := tk (tk a + tk b)
def left (a b : Int) : Int := tk (tk a - tk b)
def spend (a b n : Int) : Int := if tk n ≤ left a b then tk n else left a b

theorem tk_lo (n : Int) : 0 ≤ tk n := by unfold tk; split <;> (try split) <;> omega
theorem tk_hi (n : Int) : tk n ≤ 1099511627776 := by unfold tk; split <;> (try split) <;> omega
theorem tk_neg {n : Int} (h : n < 0) : tk n = 0 := by unfold tk; rw [if_pos h]
theorem tk_big {n : Int} (h : 1099511627776 < n) : tk n = 1099511627776 := by unfold tk; rw [if_neg (by omega), if_pos h]
theorem tk_in {n : Int} (h0 : 0 ≤ n) (h : n ≤ 1099511627776) : tk n = n := by unfold tk; rw [if_neg (by omega), if_neg (by omega)]
theorem tk_cases (n : Int) : (n < 0 ∧ tk n = 0) ∨ (1099511627776 < n ∧ tk n = 1099511627776) ∨ (0 ≤ n ∧ n ≤ 1099511627776 ∧ tk n = n) := by
  unfold tk; split
  · exact Or.inl ⟨by assumption, rfl⟩
  · split
    · exact Or.inr (Or.inl ⟨by assumption, rfl⟩)
    · exact Or.inr (Or.inr ⟨by omega, by omega, rfl⟩)
theorem spend_lo (a b n : Int) : 0 ≤ spend a b n := by unfold spend left; split; exact tk_lo _; exact tk_lo _
theorem spend_hi (a b n : Int) : spend a b n ≤ 1099511627776 := by unfold spend left; split; exact tk_hi _; exact tk_hi _

set_option maxHeartbeats 400000 in
theorem taken_any (n : Int) (w : World) :
    Calls Try.prog 18 #[.int .i64 n] w fun e w' => e = .returned (.int .i64 (tk n)) ∧ w = w' := by
  rcases tk_cases n with ⟨h, e⟩ | ⟨h, e⟩ | ⟨h, h', e⟩
  · have H := Lib.hid e; clear e
    have h2 : ¬ 1099511627776 < n := by omega
    go_enter Try.func18, Try.ntmps18
    go_wp2
    go_ret
    rw [H.out]; exact ⟨rfl, rfl⟩
  · have H := Lib.hid e; clear e
    go_enter Try.func18, Try.ntmps18
    go_wp2
    go_ret
    rw [H.out]; exact ⟨rfl, rfl⟩
  · have H := Lib.hid e; clear e
    have h2 : ¬ 1099511627776 < n := by omega
    have h3 : ¬ n < 0 := by omega
    go_enter Try.func18, Try.ntmps18
    go_wp2
    go_ret
    rw [H.out]; exact ⟨rfl, rfl⟩

set_option maxHeartbeats 400000 in
theorem may_any (n : Int) (w : World) :
    Calls Try.prog 13 #[.int .i64 n] w fun e w' => e = .returned (.bool (may n)) ∧ w = w' := by
  go_enter Try.func13, Try.ntmps13
  go_wp2_with (go_at_call 18; refine (taken_any _ _).mono ?_; rintro e w' ⟨rfl, rfl⟩)
  go_ret
  exact ⟨rfl, rfl⟩

set_option maxHeartbeats 400000 in
theorem add_any (a b : Int) (w : World) :
    Calls Try.prog 14 #[.int .i64 a, .int .i64 b] w fun e w' => e = .returned (.int .i64 (add a b)) ∧ w = w' := by
  have a0 := tk_lo a
  have a1 := tk_hi a
  have b0 := tk_lo b
  have b1 := tk_hi b
  go_enter Try.func14, Try.ntmps14
  go_wp2_with (go_at_call 18; refine (taken_any _ _).mono ?_; rintro e w' ⟨rfl, rfl⟩)
  go_ret
  exact ⟨rfl, rfl⟩

set_option maxHeartbeats 400000 in
theorem left_any (a b : Int) (w : World) :
    Calls Try.prog 16 #[.int .i64 a, .int .i64 b] w fun e w' => e = .returned (.int .i64 (left a b)) ∧ w = w' := by
  have a0 := tk_lo a
  have a1 := tk_hi a
  have b0 := tk_lo b
  have b1 := tk_hi b
  go_enter Try.func16, Try.ntmps16
  go_wp2_with (go_at_call 18; refine (taken_any _ _).mono ?_; rintro e w' ⟨rfl, rfl⟩)
  go_ret
  exact ⟨rfl, rfl⟩

set_option maxHeartbeats 400000 in
theorem spend_any (a b n : Int) (w : World) :
    Calls Try.prog 10 #[.int .i64 a, .int .i64 b, .int .i64 n] w fun e w' => e = .returned (.tuple #[.int .i64 (spend a b n), .int .i64 (add b (spend a b n))]) ∧ w = w' := by
  by_cases h : tk n ≤ left a b
  · have e : spend a b n = tk n := by unfold spend; rw [if_pos h]
    have H := Lib.hid e; clear e
    go_enter Try.func10, Try.ntmps10
    go_wp2_with (first | (go_at_call 18; refine (taken_any _ _).mono ?_; rintro e w' ⟨rfl, rfl⟩) | (go_at_call 16; refine (left_any _ _ _).mono ?_; rintro e w' ⟨rfl, rfl⟩) | (go_at_call 14; refine (add_any _ _ _).mono ?_; rintro e w' ⟨rfl, rfl⟩))
    go_ret2
    rw [H.out]; exact ⟨rfl, rfl⟩
  · have e : spend a b n = left a b := by unfold spend; rw [if_neg h]
    have H := Lib.hid e; clear e
    go_enter Try.func10, Try.ntmps10
    go_wp2_with (first | (go_at_call 18; refine (taken_any _ _).mono ?_; rintro e w' ⟨rfl, rfl⟩) | (go_at_call 16; refine (left_any _ _ _).mono ?_; rintro e w' ⟨rfl, rfl⟩) | (go_at_call 14; refine (add_any _ _ _).mono ?_; rintro e w' ⟨rfl, rfl⟩))
    go_ret2
    rw [H.out]; exact ⟨rfl, rfl⟩
end Go.Proofs.Ytmchdbppbfbojaa.Sat
