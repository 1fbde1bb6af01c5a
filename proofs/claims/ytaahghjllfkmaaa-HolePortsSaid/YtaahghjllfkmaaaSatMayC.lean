/- The contract of sat.May, alone. -/
import Derived.Test.YtaahghjllfkmaaaQuotaPlain
import Derived.Test.YtaahghjllfkmaaaRows
import Derived.WalkKit
import Derived.ProofKit
import Derived.OpenShut
namespace Go.Proofs.Ytaahghjllfkmaaa.Qt
open Go.Proofs.Ytaahghjllfkmaaa
open Go Go.ChangeShapes Go.WideShapes Go.ChangeAt Go.RowKit

set_option maxHeartbeats 400000 in
theorem sat_taken (n : Int) (w : World) :
    Calls Try.prog 42 #[.int .i64 n] w fun e w' => e = .returned (.int .i64 (tk n)) ∧ w = w' := by
  by_cases h : n < 0
  · have H : Hid (tk n = 0) := Lib.hid (by unfold tk; rw [if_pos h])
    have h2 : ¬ 1099511627776 < n := by omega
    go_enter Try.func42, Try.ntmps42
    go_wp2
    go_ret
    rw [H.out]; exact ⟨rfl, rfl⟩
  · by_cases h2 : 1099511627776 < n
    · have H : Hid (tk n = 1099511627776) := Lib.hid (by unfold tk; rw [if_neg h, if_pos h2])
      go_enter Try.func42, Try.ntmps42
      go_wp2
      go_ret
      rw [H.out]; exact ⟨rfl, rfl⟩
    · have H : Hid (tk n = n) := Lib.hid (tk_in (by omega) (by omega))
      go_enter Try.func42, Try.ntmps42
      go_wp2
      go_ret
      rw [H.out]; exact ⟨rfl, rfl⟩

set_option maxHeartbeats 400000 in
theorem sat_may (n : Int) (w : World) :
    Calls Try.prog 38 #[.int .i64 n] w fun e w' => e = .returned (.bool (mayN n)) ∧ w = w' := by
  have H := Lib.hid (may_same n)
  go_enter Try.func38, Try.ntmps38
  go_wp2_with (go_at_call 42; refine (sat_taken _ _).mono ?_; rintro e w' ⟨rfl, rfl⟩)
  go_ret
  exact ⟨by rw [H.out] <;> rfl, rfl⟩

end Go.Proofs.Ytaahghjllfkmaaa.Qt
