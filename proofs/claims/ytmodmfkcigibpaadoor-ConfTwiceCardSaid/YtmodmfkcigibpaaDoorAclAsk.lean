/- Package acl: what a rule is asked (two function values, and the list that holds them), and whether a rule may have a text as its verb. -/
import Derived.Test.YtmodmfkcigibpaaDoorRuleArg
import Derived.Test.YtmodmfkcigibpaaDoorPathMayCode
import Derived.Test.YtmodmfkcigibpaaDoorVerbCode
import Derived.Test.YtmodmfkcigibpaaDoorEnvBare
import Derived.Laws.ByValue
namespace Go.Proofs.YtmodmfkcigibpaaDoor.Ac
open Go.Proofs.YtmodmfkcigibpaaDoor Go.Proofs.YtmodmfkcigibpaaDoor.Pt Go.Proofs.YtmodmfkcigibpaaDoor.Vb
open Go Go.ChangeShapes Go.WideShapes Go.ChangeAt Go.RowKit
set_option maxRecDepth 100000
set_option linter.unusedSimpArgs false
set_option linter.unusedVariables false





/-- a rule may have a text as its verb -/
def verbOk (s : List UInt8) : Bool := (s == []) || ((found s).2 && ((found s).1.name == s))
set_option maxHeartbeats 2000000 in
theorem mayVerb_any (s : List UInt8) (hs : s.length ≤ 100000) (w : World) :
    Calls Tryd.prog 54 #[.string ⟨s.toArray⟩] w fun e w' => e = .returned (.bool (verbOk s)) ∧ Below w.heap.size w w' := by
  have HF := Lib.hid (find_any s hs w)
  unfold verbOk
  generalize found s = q at *
  obtain ⟨⟨qn, qk, qa, qp⟩, z⟩ := q
  have HQ : Hid ((⟨qn, qk, qa, qp⟩ : Vb).name = qn) := Lib.hid rfl
  cases h1 : (s == []) with
  | true =>
    go_enter Tryd.func54, Tryd.ntmps54
    go_wp2_with (go_at_call 60; refine HF.out.mono ?_; rintro e w1 ⟨rfl, b1⟩; have B1 := Lib.hid b1; clear b1)
    go_ret
    exact ⟨by simp, B1.out.alloc B1.out.size _⟩
  | false =>
    cases z <;> cases h2 : (qn == s) <;> (
      go_enter Tryd.func54, Tryd.ntmps54
      go_wp2_with (go_at_call 60; refine HF.out.mono ?_; rintro e w1 ⟨rfl, b1⟩; have B1 := Lib.hid b1; clear b1)
      go_ret
      exact ⟨by simp [h2], B1.out.alloc B1.out.size _⟩)

#print axioms mayVerb_any
end Go.Proofs.YtmodmfkcigibpaaDoor.Ac
