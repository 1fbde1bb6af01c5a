/- The contract of the document's answer of layer 7: wharfingerref07.All. -/
import Derived.Test.YtmodmfkcigibpaaDoorVerbs
namespace Go.Proofs.YtmodmfkcigibpaaDoor.Vb
open Go.Proofs.YtmodmfkcigibpaaDoor
open Go.ChangeShapes Go.WideShapes Go.ChangeAt Go.RowKit
set_option maxRecDepth 100000
set_option linter.unusedSimpArgs false

/-- the verbs are told: they lie in the last world -/
def AllPost (w : World) (e : Ending) (w' : World) : Prop :=
  ∃ p c, e = .returned (.slice p 36 c) ∧ VerbsIs w' (.slice p 36 c) verbs ∧ Below w.heap.size w w'

set_option maxHeartbeats 4000000 in
set_option maxRecDepth 100000 in
theorem rall_any (w : World) : Calls Tryd.prog 56 #[] w (AllPost w) := by
  have hv : VerbsIs (w.alloc (.cells (verbs.flatMap verbCs).toArray 89)) (.slice (some ⟨w.heap.size, 0, none⟩) 36 36) verbs := verbs_row (l := verbs) (IsRow.made w 89 (verbs.flatMap verbCs).toArray)
  have HV := Lib.hid hv
  have HB := Lib.hid ((Below.refl w.heap.size w).alloc (Nat.le_refl _) (.cells (verbs.flatMap verbCs).toArray 89))
  clear hv
  go_enter Tryd.func56, Tryd.ntmps56
  go_wp2_with fail
  go_ret
  exact ⟨_, _, rfl, HV.out, HB.out⟩

#print axioms rall_any
end Go.Proofs.YtmodmfkcigibpaaDoor.Vb
