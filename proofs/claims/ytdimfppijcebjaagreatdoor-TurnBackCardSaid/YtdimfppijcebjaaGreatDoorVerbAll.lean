/- The contract of the document's answer of layer 7: wharfingerref07.All. -/
import Derived.Test.YtdimfppijcebjaaGreatDoorVerbs
namespace Go.Proofs.YtdimfppijcebjaaGreatDoor.Vb
open Go.Proofs.YtdimfppijcebjaaGreatDoor
open Go.ChangeShapes Go.WideShapes Go.ChangeAt Go.RowKit
set_option maxRecDepth 100000
set_option linter.unusedSimpArgs false

/-- the verbs are told: they lie in the last world -/
def AllPost (w : World) (e : Ending) (w' : World) : Prop :=
  ∃ p c, e = .returned (.slice p 36 c) ∧ VerbsIs w' (.slice p 36 c) verbs ∧ Below w.heap.size w w'


end Go.Proofs.YtdimfppijcebjaaGreatDoor.Vb
