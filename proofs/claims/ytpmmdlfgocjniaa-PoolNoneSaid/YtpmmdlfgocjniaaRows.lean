/-
  No cell of these rows narrows 'for every input' (looked for: loops, veiled, ifaces, maps, wideKeys, modest, calm, conditions, laid).
  DERIVED. THE GIVEN ROWS OF THIS SEAT. 5 by the template 'for every input the law returns true; each argument reads behind the call as it read before'; 0 by the template 'total and deterministic' (their statements: YtpmmdlfgocjniaaTotals.lean).
  GIVEN WITH THE SEED: the statements are not yours to turn. If you find one false, say at which input.
  Laid BY PROGRAM, IN A SANDBOX (cutbox-rows.mjs): the forced cells as the released guide's own fill.sh prints them over the translation befe0150cab176ec… (all of the seat's roots in one cut). By AI agents, Wed Nov 11 2026. No macro, syntax, notation, axiom, sorry.
-/
import Derived.Test.YtpmmdlfgocjniaaChecked
import GoSem.Claim
import GoSem.ClaimJoined
import GoSem.ClaimMapViews
import Derived.JoinedTies
import Derived.KernelRfl
namespace Go.Proofs.Ytpmmdlfgocjniaa
/- THE CELL 'sum', in the pinned program and in every row, IS THE sha256 OF THE DUMP (.gsa) THAT YtpmmdlfgocjniaaProg.lean LOADS. Nothing in Lean hashes anything: it is a label: what it is worth is what the hold of that sum in a sandbox is worth. -/
noncomputable def Try.pinned : Pinned := { name := "ytpmmdlfgocjniaa", sum := "befe0150cab176ece24756a1c4cd09854ede6a7f4d15bb8269535919e28ee456", checked := Try.checked }
namespace Rows
def none {H : Type} : Left H := { results := [], args := [] }

/-- 'wharfingerlaw15.PoolPicks': WHATEVER THE INPUT: true; the input reads as it did. -/
def poolPicksSpec : ChangeSpec := { name := "poolPicks", fn := fun _ => fun
  | [d1, d2, d3, d4] => { results := [.lit (.bool true)], args := [d1, d2, d3, d4] }
  | _ => none }
def poolPicksRow : OpenClaim := { program := "ytpmmdlfgocjniaa", sum := "befe0150cab176ece24756a1c4cd09854ede6a7f4d15bb8269535919e28ee456", func := "wharfinger/wharfingerlaw15.PoolPicks", spec := "poolPicks", apart := false }
def PoolPicksSaid : Prop := poolPicksRow.holds Try.pinned (OpenSpec.ofChange poolPicksSpec)

/-- ITS FALSE NEIGHBOUR: 'it returns false'. Refute it at one input. -/
def poolPicksWrong : ChangeSpec := { name := "poolPicks", fn := fun _ => fun
  | [d1, d2, d3, d4] => { results := [.lit (.bool false)], args := [d1, d2, d3, d4] }
  | _ => none }
def PoolPicksWrongFalsely : Prop := poolPicksRow.holds Try.pinned (OpenSpec.ofChange poolPicksWrong)

/-- 'wharfingerlaw15.PoolFree': WHATEVER THE INPUT: true; the input reads as it did. -/
def poolFreeSpec : ChangeSpec := { name := "poolFree", fn := fun _ => fun
  | [d1, d2, d3, d4] => { results := [.lit (.bool true)], args := [d1, d2, d3, d4] }
  | _ => none }
def poolFreeRow : OpenClaim := { program := "ytpmmdlfgocjniaa", sum := "befe0150cab176ece24756a1c4cd09854ede6a7f4d15bb8269535919e28ee456", func := "wharfinger/wharfingerlaw15.PoolFree", spec := "poolFree", apart := false }
def PoolFreeSaid : Prop := poolFreeRow.holds Try.pinned (OpenSpec.ofChange poolFreeSpec)

/-- ITS FALSE NEIGHBOUR: 'it returns false'. Refute it at one input. -/
def poolFreeWrong : ChangeSpec := { name := "poolFree", fn := fun _ => fun
  | [d1, d2, d3, d4] => { results := [.lit (.bool false)], args := [d1, d2, d3, d4] }
  | _ => none }
def PoolFreeWrongFalsely : Prop := poolFreeRow.holds Try.pinned (OpenSpec.ofChange poolFreeWrong)

/-- 'wharfingerlaw15.PoolDraws': WHATEVER THE INPUT: true; the input reads as it did. -/
def poolDrawsSpec : ChangeSpec := { name := "poolDraws", fn := fun _ => fun
  | [d1, d2, d3, d4, d5] => { results := [.lit (.bool true)], args := [d1, d2, d3, d4, d5] }
  | _ => none }
def poolDrawsRow : OpenClaim := { program := "ytpmmdlfgocjniaa", sum := "befe0150cab176ece24756a1c4cd09854ede6a7f4d15bb8269535919e28ee456", func := "wharfinger/wharfingerlaw15.PoolDraws", spec := "poolDraws", apart := false }
def PoolDrawsSaid : Prop := poolDrawsRow.holds Try.pinned (OpenSpec.ofChange poolDrawsSpec)

/-- ITS FALSE NEIGHBOUR: 'it returns false'. Refute it at one input. -/
def poolDrawsWrong : ChangeSpec := { name := "poolDraws", fn := fun _ => fun
  | [d1, d2, d3, d4, d5] => { results := [.lit (.bool false)], args := [d1, d2, d3, d4, d5] }
  | _ => none }
def PoolDrawsWrongFalsely : Prop := poolDrawsRow.holds Try.pinned (OpenSpec.ofChange poolDrawsWrong)

/-- 'wharfingerlaw15.PoolFull': WHATEVER THE INPUT: true; the input reads as it did. -/
def poolFullSpec : ChangeSpec := { name := "poolFull", fn := fun _ => fun
  | [d1, d2, d3, d4] => { results := [.lit (.bool true)], args := [d1, d2, d3, d4] }
  | _ => none }
def poolFullRow : OpenClaim := { program := "ytpmmdlfgocjniaa", sum := "befe0150cab176ece24756a1c4cd09854ede6a7f4d15bb8269535919e28ee456", func := "wharfinger/wharfingerlaw15.PoolFull", spec := "poolFull", apart := false }
def PoolFullSaid : Prop := poolFullRow.holds Try.pinned (OpenSpec.ofChange poolFullSpec)

/-- ITS FALSE NEIGHBOUR: 'it returns false'. Refute it at one input. -/
def poolFullWrong : ChangeSpec := { name := "poolFull", fn := fun _ => fun
  | [d1, d2, d3, d4] => { results := [.lit (.bool false)], args := [d1, d2, d3, d4] }
  | _ => none }
def PoolFullWrongFalsely : Prop := poolFullRow.holds Try.pinned (OpenSpec.ofChange poolFullWrong)

/-- 'wharfingerlaw15.PoolNone': WHATEVER THE INPUT: true; the input reads as it did. -/
def poolNoneSpec : ChangeSpec := { name := "poolNone", fn := fun _ => fun
  | [d1, d2, d3, d4, d5] => { results := [.lit (.bool true)], args := [d1, d2, d3, d4, d5] }
  | _ => none }
def poolNoneRow : OpenClaim := { program := "ytpmmdlfgocjniaa", sum := "befe0150cab176ece24756a1c4cd09854ede6a7f4d15bb8269535919e28ee456", func := "wharfinger/wharfingerlaw15.PoolNone", spec := "poolNone", apart := false }
def PoolNoneSaid : Prop := poolNoneRow.holds Try.pinned (OpenSpec.ofChange poolNoneSpec)

/-- ITS FALSE NEIGHBOUR: 'it returns false'. Refute it at one input. -/
def poolNoneWrong : ChangeSpec := { name := "poolNone", fn := fun _ => fun
  | [d1, d2, d3, d4, d5] => { results := [.lit (.bool false)], args := [d1, d2, d3, d4, d5] }
  | _ => none }
def PoolNoneWrongFalsely : Prop := poolNoneRow.holds Try.pinned (OpenSpec.ofChange poolNoneWrong)

/- THE SECOND FORM. 'bulk': how many values and letters a reading holds, each counted each time it is reached (what is shared counts as often as it is met; a slice's spare places count too). A statement '..UptoSaid' is the law's where the arguments, and the package variables that the reading takes, are together of bulk at most 1048576: NARROWER than '..Said'. Prove '..Said' where nothing that the law and all that it calls make is longer than what came in: it says more and counts as full. Else prove '..UptoSaid'. A law counts once. -/
mutual
def uptoBulk {H : Type} : DataW H → Nat
  | .lit (.string bytes) => bytes.length + 1
  | .lit _ => 1
  | .nil => 1
  | .ptr d => uptoBulk d + 1
  | .slice elems spare => uptoBulkAll elems + uptoBulkAll spare + 1
  | .agg parts => uptoBulkAll parts + 1
  | .iface _ d => uptoBulk d + 1
  | .map entries => uptoBulkEntries entries + 1
  | .held _ => 1
def uptoBulkAll {H : Type} : List (DataW H) → Nat
  | [] => 0
  | d :: r => uptoBulk d + uptoBulkAll r
def uptoBulkEntries {H : Type} : List (Lit × DataW H) → Nat
  | [] => 0
  | x :: r => uptoBulkEntry x + uptoBulkEntries r
def uptoBulkEntry {H : Type} : Lit × DataW H → Nat
  | (.string bytes, d) => bytes.length + uptoBulk d + 1
  | (_, d) => uptoBulk d + 1
 end
def uptoSmall : (H : Type) → List (DataW H) → Bool := fun _ ds => decide (uptoBulkAll ds ≤ 1048576)
def OpenSpec.upto (s : _root_.Go.ChangeSpec) : _root_.Go.OpenSpec := { _root_.Go.OpenSpec.ofChange s with cond := some uptoSmall }

/-- 'wharfingerlaw15.PoolPicks', WHERE WHAT IT READS IS OF BULK AT MOST 1048576: true; the input reads as it did. -/
def poolPicksUptoRow : OpenClaim := { program := "ytpmmdlfgocjniaa", sum := "befe0150cab176ece24756a1c4cd09854ede6a7f4d15bb8269535919e28ee456", func := "wharfinger/wharfingerlaw15.PoolPicks", spec := "poolPicks", apart := false, narrowed := true }
def PoolPicksUptoSaid : Prop := poolPicksUptoRow.holds Try.pinned (OpenSpec.upto poolPicksSpec)

/-- 'wharfingerlaw15.PoolFree', WHERE WHAT IT READS IS OF BULK AT MOST 1048576: true; the input reads as it did. -/
def poolFreeUptoRow : OpenClaim := { program := "ytpmmdlfgocjniaa", sum := "befe0150cab176ece24756a1c4cd09854ede6a7f4d15bb8269535919e28ee456", func := "wharfinger/wharfingerlaw15.PoolFree", spec := "poolFree", apart := false, narrowed := true }
def PoolFreeUptoSaid : Prop := poolFreeUptoRow.holds Try.pinned (OpenSpec.upto poolFreeSpec)

/-- 'wharfingerlaw15.PoolDraws', WHERE WHAT IT READS IS OF BULK AT MOST 1048576: true; the input reads as it did. -/
def poolDrawsUptoRow : OpenClaim := { program := "ytpmmdlfgocjniaa", sum := "befe0150cab176ece24756a1c4cd09854ede6a7f4d15bb8269535919e28ee456", func := "wharfinger/wharfingerlaw15.PoolDraws", spec := "poolDraws", apart := false, narrowed := true }
def PoolDrawsUptoSaid : Prop := poolDrawsUptoRow.holds Try.pinned (OpenSpec.upto poolDrawsSpec)

/-- 'wharfingerlaw15.PoolFull', WHERE WHAT IT READS IS OF BULK AT MOST 1048576: true; the input reads as it did. -/
def poolFullUptoRow : OpenClaim := { program := "ytpmmdlfgocjniaa", sum := "befe0150cab176ece24756a1c4cd09854ede6a7f4d15bb8269535919e28ee456", func := "wharfinger/wharfingerlaw15.PoolFull", spec := "poolFull", apart := false, narrowed := true }
def PoolFullUptoSaid : Prop := poolFullUptoRow.holds Try.pinned (OpenSpec.upto poolFullSpec)

/-- 'wharfingerlaw15.PoolNone', WHERE WHAT IT READS IS OF BULK AT MOST 1048576: true; the input reads as it did. -/
def poolNoneUptoRow : OpenClaim := { program := "ytpmmdlfgocjniaa", sum := "befe0150cab176ece24756a1c4cd09854ede6a7f4d15bb8269535919e28ee456", func := "wharfinger/wharfingerlaw15.PoolNone", spec := "poolNone", apart := false, narrowed := true }
def PoolNoneUptoSaid : Prop := poolNoneUptoRow.holds Try.pinned (OpenSpec.upto poolNoneSpec)

end Rows
end Go.Proofs.Ytpmmdlfgocjniaa
