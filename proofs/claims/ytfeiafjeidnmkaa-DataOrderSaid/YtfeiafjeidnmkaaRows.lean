/-
  No cell of these rows narrows 'for every input' (looked for: loops, veiled, ifaces, maps, wideKeys, modest, calm, conditions, laid).
  DERIVED. THE GIVEN ROWS OF THIS SEAT. 5 by the template 'for every input the law returns true; each argument reads behind the call as it read before'; 0 by the template 'total and deterministic' (their statements: YtfeiafjeidnmkaaTotals.lean).
  GIVEN WITH THE SEED: the statements are not yours to turn. If you find one false, say at which input.
  Laid BY PROGRAM, IN A SANDBOX (cutbox-rows.mjs): the forced cells as the released guide's own fill.sh prints them over the translation 387a731164bd3b4c… (all of the seat's roots in one cut). By AI agents, Wed Nov 11 2026. No macro, syntax, notation, axiom, sorry.
-/
import Derived.Test.YtfeiafjeidnmkaaChecked
import GoSem.Claim
import GoSem.ClaimJoined
import GoSem.ClaimMapViews
import Derived.JoinedTies
import Derived.KernelRfl
namespace Go.Proofs.Ytfeiafjeidnmkaa
/- THE CELL 'sum', in the pinned program and in every row, IS THE sha256 OF THE DUMP (.gsa) THAT YtfeiafjeidnmkaaProg.lean LOADS. Nothing in Lean hashes anything: it is a label: what it is worth is what the hold of that sum in a sandbox is worth. -/
noncomputable def Try.pinned : Pinned := { name := "ytfeiafjeidnmkaa", sum := "387a731164bd3b4ca1e35532a3933ff8f4667d8c34e56449cefe3ce30ac55c79", checked := Try.checked }
namespace Rows
def none {H : Type} : Left H := { results := [], args := [] }

/-- 'wharfingerlaw21.DataTells': WHATEVER THE INPUT: true; the input reads as it did. -/
def dataTellsSpec : ChangeSpec := { name := "dataTells", fn := fun _ => fun
  | [d1, d2, d3, d4] => { results := [.lit (.bool true)], args := [d1, d2, d3, d4] }
  | _ => none }
def dataTellsRow : OpenClaim := { program := "ytfeiafjeidnmkaa", sum := "387a731164bd3b4ca1e35532a3933ff8f4667d8c34e56449cefe3ce30ac55c79", func := "wharfinger/wharfingerlaw21.DataTells", spec := "dataTells", unfollowed := true, recurses := true, apart := false }
def DataTellsSaid : Prop := dataTellsRow.holds Try.pinned (OpenSpec.ofChange dataTellsSpec)

/-- ITS FALSE NEIGHBOUR: 'it returns false'. Refute it at one input. -/
def dataTellsWrong : ChangeSpec := { name := "dataTells", fn := fun _ => fun
  | [d1, d2, d3, d4] => { results := [.lit (.bool false)], args := [d1, d2, d3, d4] }
  | _ => none }
def DataTellsWrongFalsely : Prop := dataTellsRow.holds Try.pinned (OpenSpec.ofChange dataTellsWrong)

/-- 'wharfingerlaw21.DataOrder': WHATEVER THE INPUT: true; the input reads as it did. -/
def dataOrderSpec : ChangeSpec := { name := "dataOrder", fn := fun _ => fun
  | [d1, d2] => { results := [.lit (.bool true)], args := [d1, d2] }
  | _ => none }
def dataOrderRow : OpenClaim := { program := "ytfeiafjeidnmkaa", sum := "387a731164bd3b4ca1e35532a3933ff8f4667d8c34e56449cefe3ce30ac55c79", func := "wharfinger/wharfingerlaw21.DataOrder", spec := "dataOrder", unfollowed := true, recurses := true, apart := false }
def DataOrderSaid : Prop := dataOrderRow.holds Try.pinned (OpenSpec.ofChange dataOrderSpec)

/-- ITS FALSE NEIGHBOUR: 'it returns false'. Refute it at one input. -/
def dataOrderWrong : ChangeSpec := { name := "dataOrder", fn := fun _ => fun
  | [d1, d2] => { results := [.lit (.bool false)], args := [d1, d2] }
  | _ => none }
def DataOrderWrongFalsely : Prop := dataOrderRow.holds Try.pinned (OpenSpec.ofChange dataOrderWrong)

/-- 'wharfingerlaw21.DataMay': WHATEVER THE INPUT: true; the input reads as it did. -/
def dataMaySpec : ChangeSpec := { name := "dataMay", fn := fun _ => fun
  | [d1, d2, d3] => { results := [.lit (.bool true)], args := [d1, d2, d3] }
  | _ => none }
def dataMayRow : OpenClaim := { program := "ytfeiafjeidnmkaa", sum := "387a731164bd3b4ca1e35532a3933ff8f4667d8c34e56449cefe3ce30ac55c79", func := "wharfinger/wharfingerlaw21.DataMay", spec := "dataMay", unfollowed := true, recurses := true, apart := false }
def DataMaySaid : Prop := dataMayRow.holds Try.pinned (OpenSpec.ofChange dataMaySpec)

/-- ITS FALSE NEIGHBOUR: 'it returns false'. Refute it at one input. -/
def dataMayWrong : ChangeSpec := { name := "dataMay", fn := fun _ => fun
  | [d1, d2, d3] => { results := [.lit (.bool false)], args := [d1, d2, d3] }
  | _ => none }
def DataMayWrongFalsely : Prop := dataMayRow.holds Try.pinned (OpenSpec.ofChange dataMayWrong)

/-- 'wharfingerlaw21.DataFull': WHATEVER THE INPUT: true; the input reads as it did. -/
def dataFullSpec : ChangeSpec := { name := "dataFull", fn := fun _ => fun
  | [d] => { results := [.lit (.bool true)], args := [d] }
  | _ => none }
def dataFullRow : OpenClaim := { program := "ytfeiafjeidnmkaa", sum := "387a731164bd3b4ca1e35532a3933ff8f4667d8c34e56449cefe3ce30ac55c79", func := "wharfinger/wharfingerlaw21.DataFull", spec := "dataFull", unfollowed := true, recurses := true, apart := false }
def DataFullSaid : Prop := dataFullRow.holds Try.pinned (OpenSpec.ofChange dataFullSpec)

/-- ITS FALSE NEIGHBOUR: 'it returns false'. Refute it at one input. -/
def dataFullWrong : ChangeSpec := { name := "dataFull", fn := fun _ => fun
  | [d] => { results := [.lit (.bool false)], args := [d] }
  | _ => none }
def DataFullWrongFalsely : Prop := dataFullRow.holds Try.pinned (OpenSpec.ofChange dataFullWrong)

/-- 'wharfingerlaw21.DataEnds': WHATEVER THE INPUT: true; the input reads as it did. -/
def dataEndsSpec : ChangeSpec := { name := "dataEnds", fn := fun _ => fun
  | [d] => { results := [.lit (.bool true)], args := [d] }
  | _ => none }
def dataEndsRow : OpenClaim := { program := "ytfeiafjeidnmkaa", sum := "387a731164bd3b4ca1e35532a3933ff8f4667d8c34e56449cefe3ce30ac55c79", func := "wharfinger/wharfingerlaw21.DataEnds", spec := "dataEnds", unfollowed := true, recurses := true, apart := false }
def DataEndsSaid : Prop := dataEndsRow.holds Try.pinned (OpenSpec.ofChange dataEndsSpec)

/-- ITS FALSE NEIGHBOUR: 'it returns false'. Refute it at one input. -/
def dataEndsWrong : ChangeSpec := { name := "dataEnds", fn := fun _ => fun
  | [d] => { results := [.lit (.bool false)], args := [d] }
  | _ => none }
def DataEndsWrongFalsely : Prop := dataEndsRow.holds Try.pinned (OpenSpec.ofChange dataEndsWrong)

/- THE SECOND FORM. 'bulk': how many values and letters a reading holds, each counted each time it is reached (what is shared counts as often as it is met; a slice's spare places count too). A statement '..UptoSaid' is the law's where the arguments, and the package variables that the reading takes, are together of bulk at most 1048576: NARROWER than '..Said'. Prove '..Said' where nothing that the law and all that it calls make is longer than what came in: it says more and counts as full. Else prove '..UptoSaid'. A law counts once. -/
mutual
def uptoBulk {H : Type} : DataW H → Nat
  | .lit (.string bytes) => bytes.length + 1
  | .lit _ => 1
  | .nil => 1
  | .ptr d => uptoBulk d + 1
  | .slice elems spare => uptoBulkAll elems + uptoBulkAll spare + 1
  | .agg parts => uptoBulkAll parts + 1
  | .iface _ d => uptoBulk d + 1
  | .map entries => uptoBulkEntries entries + 1
  | .held _ => 1
def uptoBulkAll {H : Type} : List (DataW H) → Nat
  | [] => 0
  | d :: r => uptoBulk d + uptoBulkAll r
def uptoBulkEntries {H : Type} : List (Lit × DataW H) → Nat
  | [] => 0
  | x :: r => uptoBulkEntry x + uptoBulkEntries r
def uptoBulkEntry {H : Type} : Lit × DataW H → Nat
  | (.string bytes, d) => bytes.length + uptoBulk d + 1
  | (_, d) => uptoBulk d + 1
 end
def uptoSmall : (H : Type) → List (DataW H) → Bool := fun _ ds => decide (uptoBulkAll ds ≤ 1048576)
def OpenSpec.upto (s : _root_.Go.ChangeSpec) : _root_.Go.OpenSpec := { _root_.Go.OpenSpec.ofChange s with cond := some uptoSmall }

/-- 'wharfingerlaw21.DataTells', WHERE WHAT IT READS IS OF BULK AT MOST 1048576: true; the input reads as it did. -/
def dataTellsUptoRow : OpenClaim := { program := "ytfeiafjeidnmkaa", sum := "387a731164bd3b4ca1e35532a3933ff8f4667d8c34e56449cefe3ce30ac55c79", func := "wharfinger/wharfingerlaw21.DataTells", spec := "dataTells", unfollowed := true, recurses := true, apart := false, narrowed := true }
def DataTellsUptoSaid : Prop := dataTellsUptoRow.holds Try.pinned (OpenSpec.upto dataTellsSpec)

/-- 'wharfingerlaw21.DataOrder', WHERE WHAT IT READS IS OF BULK AT MOST 1048576: true; the input reads as it did. -/
def dataOrderUptoRow : OpenClaim := { program := "ytfeiafjeidnmkaa", sum := "387a731164bd3b4ca1e35532a3933ff8f4667d8c34e56449cefe3ce30ac55c79", func := "wharfinger/wharfingerlaw21.DataOrder", spec := "dataOrder", unfollowed := true, recurses := true, apart := false, narrowed := true }
def DataOrderUptoSaid : Prop := dataOrderUptoRow.holds Try.pinned (OpenSpec.upto dataOrderSpec)

/-- 'wharfingerlaw21.DataMay', WHERE WHAT IT READS IS OF BULK AT MOST 1048576: true; the input reads as it did. -/
def dataMayUptoRow : OpenClaim := { program := "ytfeiafjeidnmkaa", sum := "387a731164bd3b4ca1e35532a3933ff8f4667d8c34e56449cefe3ce30ac55c79", func := "wharfinger/wharfingerlaw21.DataMay", spec := "dataMay", unfollowed := true, recurses := true, apart := false, narrowed := true }
def DataMayUptoSaid : Prop := dataMayUptoRow.holds Try.pinned (OpenSpec.upto dataMaySpec)

/-- 'wharfingerlaw21.DataFull', WHERE WHAT IT READS IS OF BULK AT MOST 1048576: true; the input reads as it did. -/
def dataFullUptoRow : OpenClaim := { program := "ytfeiafjeidnmkaa", sum := "387a731164bd3b4ca1e35532a3933ff8f4667d8c34e56449cefe3ce30ac55c79", func := "wharfinger/wharfingerlaw21.DataFull", spec := "dataFull", unfollowed := true, recurses := true, apart := false, narrowed := true }
def DataFullUptoSaid : Prop := dataFullUptoRow.holds Try.pinned (OpenSpec.upto dataFullSpec)

/-- 'wharfingerlaw21.DataEnds', WHERE WHAT IT READS IS OF BULK AT MOST 1048576: true; the input reads as it did. -/
def dataEndsUptoRow : OpenClaim := { program := "ytfeiafjeidnmkaa", sum := "387a731164bd3b4ca1e35532a3933ff8f4667d8c34e56449cefe3ce30ac55c79", func := "wharfinger/wharfingerlaw21.DataEnds", spec := "dataEnds", unfollowed := true, recurses := true, apart := false, narrowed := true }
def DataEndsUptoSaid : Prop := dataEndsUptoRow.holds Try.pinned (OpenSpec.upto dataEndsSpec)

end Rows
end Go.Proofs.Ytfeiafjeidnmkaa
