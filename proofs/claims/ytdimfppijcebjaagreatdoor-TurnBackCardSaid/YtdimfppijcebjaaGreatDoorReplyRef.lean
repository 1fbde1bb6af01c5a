/- The contracts of the document's answer of layer 9: wharfingerref09's ends, May, Same, Texts. -/
import Derived.Test.YtdimfppijcebjaaGreatDoorPlains
import Derived.Test.YtdimfppijcebjaaGreatDoorTexts
import Derived.Test.YtdimfppijcebjaaGreatDoorReplyArg
import Derived.Test.YtdimfppijcebjaaGreatDoorClean
import Derived.Test.YtdimfppijcebjaaGreatDoorQuadRef
import Derived.Deep.RegionWith
import Derived.BigQuiet
namespace Go.Proofs.YtdimfppijcebjaaGreatDoor.Rp
open Go.Proofs.YtdimfppijcebjaaGreatDoor Go.Proofs.YtdimfppijcebjaaGreatDoor.Cm Go.Proofs.YtdimfppijcebjaaGreatDoor.Quad
open Go Go.ChangeShapes Go.WideShapes Go.ChangeAt Go.RowKit
set_option maxRecDepth 100000
set_option linter.unusedSimpArgs false


/-! may a reply be? -/
theorem may_upto {code : Int} {l : Ls} (h1 : 100 ≤ code) (h2 : code ≤ 599) (h3 : 1 ≤ l.length) (h4 : l.length ≤ 20) : mayB code l = okUpto code l l.length := by
  unfold mayB
  rw [decide_eq_true h1, decide_eq_true h2, decide_eq_true h3, decide_eq_true h4]
  rfl
theorem may_not {code : Int} {l : Ls} (h : ¬ (100 ≤ code ∧ code ≤ 599 ∧ 1 ≤ l.length ∧ l.length ≤ 20)) : mayB code l = false := by
  cases hm : mayB code l with
  | false => rfl
  | true => exact absurd ⟨(may_parts hm).lo, (may_parts hm).hi, (may_parts hm).one, (may_parts hm).few⟩ h


end Go.Proofs.YtdimfppijcebjaaGreatDoor.Rp
