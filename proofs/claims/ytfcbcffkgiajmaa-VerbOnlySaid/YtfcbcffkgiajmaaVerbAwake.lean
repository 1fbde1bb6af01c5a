/- The contract of awake, layer 7. -/
import Derived.Test.YtfcbcffkgiajmaaVerbCode
import Derived.Test.YtfcbcffkgiajmaaEnvBare
namespace Go.Proofs.Ytfcbcffkgiajmaa.Vb
open Go.Proofs.Ytfcbcffkgiajmaa
open Go.ChangeShapes Go.WideShapes Go.ChangeAt Go.RowKit
set_option linter.unusedSimpArgs false

set_option maxHeartbeats 4000000 in
set_option maxRecDepth 100000 in
theorem awake_any (w : World) : Calls Try.prog 8 #[] w fun e w' => e = .returned (.bool true) ∧ Below w.heap.size w w' := by
  have HF : Hid (∀ W, Calls Try.prog 9 #[.string ⟨#[114, 101, 116, 114]⟩] W fun e w' => e = .returned (.tuple #[.agg #[.string ⟨#[82, 69, 84, 82]⟩, .int .i64 3, .int .i64 2, .bool true], .bool true]) ∧ Below W.heap.size W w') := Lib.hid (fun W => by
    have h := find_any [114, 101, 116, 114] (by decide) W
    rw [show found [114, 101, 116, 114] = (⟨[82, 69, 84, 82], 3, 2, true⟩, true) from by decide] at h
    exact h)
  have HU : Hid (∀ W, Calls Try.prog 13 #[.string ⟨#[97, 90, 49]⟩] W fun e w' => e = .returned (.string ⟨#[65, 90, 49]⟩) ∧ Below W.heap.size W w') := Lib.hid (fun W => by
    have h := upper_any [97, 90, 49] (by decide) W
    rw [show upper [97, 90, 49] = [65, 90, 49] from by decide] at h
    exact h)
  have HA := Lib.hid (fun W => all_any W)
  have eqs : ∀ W, (Op.equalIn 10000 24 (.agg #[.string ⟨#[82, 69, 84, 82]⟩, .int .i64 3, .int .i64 2, .bool true]) (.agg #[.string ⟨#[82, 69, 84, 82]⟩, .int .i64 3, .int .i64 2, .bool true])).run Try.prog W = .ok true W := fun W => by
    have := equal_verbs ⟨[82, 69, 84, 82], 3, 2, true⟩ ⟨[82, 69, 84, 82], 3, 2, true⟩ W
    rw [decide_eq_true rfl] at this
    exact this
  go_enter Try.func8, Try.ntmps8
  go_wp2_with (first
    | (go_at_call 9; refine (HF.out _).mono ?_; rintro e w2 ⟨rfl, b2⟩; have B2 := Lib.hid (b2.alloc b2.size (.cells #[.string ⟨#[82, 69, 84, 82]⟩, .int .i64 3, .int .i64 2, .bool true] 24)); clear b2)
    | (go_at_call 13; refine (HU.out _).mono ?_; rintro e w3 ⟨rfl, b3⟩; have B3 := Lib.hid (B2.out.trans (b3.mono B2.out.size)); clear b3)
    | (go_at_call 11; refine (HA.out _).mono ?_; rintro e w4 ⟨p4, c4, rfl, h4, b4⟩; have B4 := Lib.hid (B3.out.trans (b4.mono B3.out.size)); clear b4 h4))
  go_ret
  exact ⟨by first | rfl | simp, B4.out⟩

#print axioms awake_any
end Go.Proofs.Ytfcbcffkgiajmaa.Vb
