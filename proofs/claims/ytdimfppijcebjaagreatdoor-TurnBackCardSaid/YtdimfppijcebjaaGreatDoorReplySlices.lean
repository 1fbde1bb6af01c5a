/- The contracts of what the code of layer 9 asks of the library's package slices, of lists of texts: Equal, Clone, Grow of none, Concat of two. -/
import Derived.Test.YtdimfppijcebjaaGreatDoorTexts
import Derived.Test.YtdimfppijcebjaaGreatDoorBlocks
import Derived.Laws.AppendOwnNone
import Derived.Lib.SliceRun
import Derived.Lib.AppendZerosOnto
import Derived.BigQuiet
import Derived.Deep.QuietTactic
import Derived.WalkKit
import Derived.WalkMore
import Derived.Lib.Hide
import Derived.LoopTactic
namespace Go.Proofs.YtdimfppijcebjaaGreatDoor.Rp
open Go.Proofs.YtdimfppijcebjaaGreatDoor
open Go Go.ChangeShapes Go.WideShapes Go.ChangeAt Go.RowKit
set_option maxRecDepth 100000
set_option linter.unusedSimpArgs false


theorem texts_cells {w : World} {a : Addr} {l : List (List UInt8)} (h : ∀ i (h : i < l.length), w.cell? (a.add i) = some (.string ⟨l[i].toArray⟩)) : ∀ j u, (l.map strV)[j]? = some u → w.cell? (a.add j) = some u := by
  intro j u hj
  have hjl : j < l.length := by have := (List.getElem?_eq_some_iff.1 hj).1; simpa using this
  rw [h j hjl]
  rw [List.getElem?_map, List.getElem?_eq_getElem hjl, Option.map_some] at hj
  exact hj
theorem texts_one {l : List (List UInt8)} : ∀ u ∈ l.map strV, u.oneCell' = true := by
  intro u hu
  obtain ⟨x, _, rfl⟩ := List.mem_map.1 hu
  rfl



end Go.Proofs.YtdimfppijcebjaaGreatDoor.Rp
