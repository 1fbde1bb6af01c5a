/- The law's Few, and the contracts of the document's answer of layer 11: wharfingerref11's May, Which, Allowed. -/
import Derived.Test.YtmodmfkcigibpaaDoorRules
import Derived.Test.YtmodmfkcigibpaaDoorPathRef
import Derived.Test.YtmodmfkcigibpaaDoorVerbRef
import Derived.BigQuiet
import Derived.Deep.QuietTactic
namespace Go.Proofs.YtmodmfkcigibpaaDoor.Ac
open Go.Proofs.YtmodmfkcigibpaaDoor Go.Proofs.YtmodmfkcigibpaaDoor.Pt Go.Proofs.YtmodmfkcigibpaaDoor.Vb
open Go Go.ChangeShapes Go.WideShapes Go.ChangeAt Go.RowKit
set_option maxRecDepth 100000
set_option linter.unusedSimpArgs false
set_option linter.unusedVariables false

abbrev okF (r : Rl) : Bool := decide (r.v.length ≤ 300) && decide (r.p.length ≤ 300)
theorem few_eq (l : List Rl) : fewL l = (decide (l.length ≤ 20) && l.all okF) := rfl
theorem every_next {α : Type} {l : List α} {f : α → Bool} {k : Nat} (h : k < l.length) : (l.take (k + 1)).all f = ((l.take k).all f && f l[k]) := by
  rw [List.take_succ_eq_append_getElem h, List.all_append, List.all_cons, List.all_nil, Bool.and_true]
theorem every_no {α : Type} {l : List α} {f : α → Bool} {k : Nat} (h : k < l.length) (ho : f l[k] = false) : l.all f = false := by
  cases hc : l.all f with
  | false => rfl
  | true => rw [List.all_eq_true.1 hc _ (List.getElem_mem h)] at ho; cases ho


/-! ### which rule tells -/
theorem which_no {l : List Rl} {v p : List UInt8} {n : Nat} (hn : n = l.length) (h : ∀ j (hj : j < l.length), j < n → tells v p l[j] = false) : which l v p = -1 := by
  refine which_none fun r hr => ?_
  obtain ⟨j, hj, rfl⟩ := List.mem_iff_getElem.1 hr
  exact h j hj (by omega)



end Go.Proofs.YtmodmfkcigibpaaDoor.Ac
