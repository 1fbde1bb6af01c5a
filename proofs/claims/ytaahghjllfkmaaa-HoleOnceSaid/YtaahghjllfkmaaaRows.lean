/-
  No cell of these rows narrows 'for every input' (looked for: loops, veiled, ifaces, maps, wideKeys, modest, calm, conditions, laid).
  DERIVED. THE GIVEN ROWS OF THIS SEAT. 7 by the template 'for every input the law returns true; each argument reads behind the call as it read before'; 0 by the template 'total and deterministic' (their statements: YtaahghjllfkmaaaTotals.lean).
  GIVEN WITH THE SEED: the statements are not yours to turn. If you find one false, say at which input.
  Laid BY PROGRAM, IN A SANDBOX (cutbox-rows.mjs): the forced cells as the released guide's own fill.sh prints them over the translation fa0e1043fe6498e2… (all of the seat's roots in one cut). By AI agents, Wed Nov 11 2026. No macro, syntax, notation, axiom, sorry.
-/
import Derived.Test.YtaahghjllfkmaaaChecked
import GoSem.Claim
import GoSem.ClaimJoined
import GoSem.ClaimMapViews
import Derived.JoinedTies
import Derived.KernelRfl
namespace Go.Proofs.Ytaahghjllfkmaaa
/- THE CELL 'sum', in the pinned program and in every row, IS THE sha256 OF THE DUMP (.gsa) THAT YtaahghjllfkmaaaProg.lean LOADS. Nothing in Lean hashes anything: it is a label: what it is worth is what the hold of that sum in a sandbox is worth. -/
noncomputable def Try.pinned : Pinned := { name := "ytaahghjllfkmaaa", sum := "fa0e1043fe6498e2bc0e76a0bc1d9c19b16915acaea8524f9109bc42647c5acd", checked := Try.checked }
namespace Rows
def none {H : Type} : Left H := { results := [], args := [] }

/-- 'wharfingerlaw16.HoleTells': WHATEVER THE INPUT: true; the input reads as it did. -/
def holeTellsSpec : ChangeSpec := { name := "holeTells", fn := fun _ => fun
  | [d1, d2, d3, d4] => { results := [.lit (.bool true)], args := [d1, d2, d3, d4] }
  | _ => none }
def holeTellsRow : OpenClaim := { program := "ytaahghjllfkmaaa", sum := "fa0e1043fe6498e2bc0e76a0bc1d9c19b16915acaea8524f9109bc42647c5acd", func := "wharfinger/wharfingerlaw16.HoleTells", spec := "holeTells", unfollowed := true, recurses := true, apart := false }
def HoleTellsSaid : Prop := holeTellsRow.holds Try.pinned (OpenSpec.ofChange holeTellsSpec)

/-- ITS FALSE NEIGHBOUR: 'it returns false'. Refute it at one input. -/
def holeTellsWrong : ChangeSpec := { name := "holeTells", fn := fun _ => fun
  | [d1, d2, d3, d4] => { results := [.lit (.bool false)], args := [d1, d2, d3, d4] }
  | _ => none }
def HoleTellsWrongFalsely : Prop := holeTellsRow.holds Try.pinned (OpenSpec.ofChange holeTellsWrong)

/-- 'wharfingerlaw16.HoleOnce': WHATEVER THE INPUT: true; the input reads as it did. -/
def holeOnceSpec : ChangeSpec := { name := "holeOnce", fn := fun _ => fun
  | [d1, d2, d3, d4, d5] => { results := [.lit (.bool true)], args := [d1, d2, d3, d4, d5] }
  | _ => none }
def holeOnceRow : OpenClaim := { program := "ytaahghjllfkmaaa", sum := "fa0e1043fe6498e2bc0e76a0bc1d9c19b16915acaea8524f9109bc42647c5acd", func := "wharfinger/wharfingerlaw16.HoleOnce", spec := "holeOnce", unfollowed := true, recurses := true, apart := false }
def HoleOnceSaid : Prop := holeOnceRow.holds Try.pinned (OpenSpec.ofChange holeOnceSpec)

/-- ITS FALSE NEIGHBOUR: 'it returns false'. Refute it at one input. -/
def holeOnceWrong : ChangeSpec := { name := "holeOnce", fn := fun _ => fun
  | [d1, d2, d3, d4, d5] => { results := [.lit (.bool false)], args := [d1, d2, d3, d4, d5] }
  | _ => none }
def HoleOnceWrongFalsely : Prop := holeOnceRow.holds Try.pinned (OpenSpec.ofChange holeOnceWrong)

/-- 'wharfingerlaw16.HoleOver': WHATEVER THE INPUT: true; the input reads as it did. -/
def holeOverSpec : ChangeSpec := { name := "holeOver", fn := fun _ => fun
  | [d1, d2, d3] => { results := [.lit (.bool true)], args := [d1, d2, d3] }
  | _ => none }
def holeOverRow : OpenClaim := { program := "ytaahghjllfkmaaa", sum := "fa0e1043fe6498e2bc0e76a0bc1d9c19b16915acaea8524f9109bc42647c5acd", func := "wharfinger/wharfingerlaw16.HoleOver", spec := "holeOver", unfollowed := true, recurses := true, apart := false }
def HoleOverSaid : Prop := holeOverRow.holds Try.pinned (OpenSpec.ofChange holeOverSpec)

/-- ITS FALSE NEIGHBOUR: 'it returns false'. Refute it at one input. -/
def holeOverWrong : ChangeSpec := { name := "holeOver", fn := fun _ => fun
  | [d1, d2, d3] => { results := [.lit (.bool false)], args := [d1, d2, d3] }
  | _ => none }
def HoleOverWrongFalsely : Prop := holeOverRow.holds Try.pinned (OpenSpec.ofChange holeOverWrong)

/-- 'wharfingerlaw16.HoleBounds': WHATEVER THE INPUT: true; the input reads as it did. -/
def holeBoundsSpec : ChangeSpec := { name := "holeBounds", fn := fun _ => fun
  | [d1, d2, d3] => { results := [.lit (.bool true)], args := [d1, d2, d3] }
  | _ => none }
def holeBoundsRow : OpenClaim := { program := "ytaahghjllfkmaaa", sum := "fa0e1043fe6498e2bc0e76a0bc1d9c19b16915acaea8524f9109bc42647c5acd", func := "wharfinger/wharfingerlaw16.HoleBounds", spec := "holeBounds", unfollowed := true, recurses := true, apart := false }
def HoleBoundsSaid : Prop := holeBoundsRow.holds Try.pinned (OpenSpec.ofChange holeBoundsSpec)

/-- ITS FALSE NEIGHBOUR: 'it returns false'. Refute it at one input. -/
def holeBoundsWrong : ChangeSpec := { name := "holeBounds", fn := fun _ => fun
  | [d1, d2, d3] => { results := [.lit (.bool false)], args := [d1, d2, d3] }
  | _ => none }
def HoleBoundsWrongFalsely : Prop := holeBoundsRow.holds Try.pinned (OpenSpec.ofChange holeBoundsWrong)

/-- 'wharfingerlaw16.HoleOther': WHATEVER THE INPUT: true; the input reads as it did. -/
def holeOtherSpec : ChangeSpec := { name := "holeOther", fn := fun _ => fun
  | [d1, d2, d3, d4, d5, d6] => { results := [.lit (.bool true)], args := [d1, d2, d3, d4, d5, d6] }
  | _ => none }
def holeOtherRow : OpenClaim := { program := "ytaahghjllfkmaaa", sum := "fa0e1043fe6498e2bc0e76a0bc1d9c19b16915acaea8524f9109bc42647c5acd", func := "wharfinger/wharfingerlaw16.HoleOther", spec := "holeOther", unfollowed := true, recurses := true, apart := false }
def HoleOtherSaid : Prop := holeOtherRow.holds Try.pinned (OpenSpec.ofChange holeOtherSpec)

/-- ITS FALSE NEIGHBOUR: 'it returns false'. Refute it at one input. -/
def holeOtherWrong : ChangeSpec := { name := "holeOther", fn := fun _ => fun
  | [d1, d2, d3, d4, d5, d6] => { results := [.lit (.bool false)], args := [d1, d2, d3, d4, d5, d6] }
  | _ => none }
def HoleOtherWrongFalsely : Prop := holeOtherRow.holds Try.pinned (OpenSpec.ofChange holeOtherWrong)

/-- 'wharfingerlaw16.HolePorts': WHATEVER THE INPUT: true; the input reads as it did. -/
def holePortsSpec : ChangeSpec := { name := "holePorts", fn := fun _ => fun
  | [d1, d2] => { results := [.lit (.bool true)], args := [d1, d2] }
  | _ => none }
def holePortsRow : OpenClaim := { program := "ytaahghjllfkmaaa", sum := "fa0e1043fe6498e2bc0e76a0bc1d9c19b16915acaea8524f9109bc42647c5acd", func := "wharfinger/wharfingerlaw16.HolePorts", spec := "holePorts", unfollowed := true, recurses := true, apart := false }
def HolePortsSaid : Prop := holePortsRow.holds Try.pinned (OpenSpec.ofChange holePortsSpec)

/-- ITS FALSE NEIGHBOUR: 'it returns false'. Refute it at one input. -/
def holePortsWrong : ChangeSpec := { name := "holePorts", fn := fun _ => fun
  | [d1, d2] => { results := [.lit (.bool false)], args := [d1, d2] }
  | _ => none }
def HolePortsWrongFalsely : Prop := holePortsRow.holds Try.pinned (OpenSpec.ofChange holePortsWrong)

/-- 'wharfingerlaw16.HoleLater': WHATEVER THE INPUT: true; the input reads as it did. -/
def holeLaterSpec : ChangeSpec := { name := "holeLater", fn := fun _ => fun
  | [d1, d2, d3, d4, d5] => { results := [.lit (.bool true)], args := [d1, d2, d3, d4, d5] }
  | _ => none }
def holeLaterRow : OpenClaim := { program := "ytaahghjllfkmaaa", sum := "fa0e1043fe6498e2bc0e76a0bc1d9c19b16915acaea8524f9109bc42647c5acd", func := "wharfinger/wharfingerlaw16.HoleLater", spec := "holeLater", unfollowed := true, recurses := true, apart := false }
def HoleLaterSaid : Prop := holeLaterRow.holds Try.pinned (OpenSpec.ofChange holeLaterSpec)

/-- ITS FALSE NEIGHBOUR: 'it returns false'. Refute it at one input. -/
def holeLaterWrong : ChangeSpec := { name := "holeLater", fn := fun _ => fun
  | [d1, d2, d3, d4, d5] => { results := [.lit (.bool false)], args := [d1, d2, d3, d4, d5] }
  | _ => none }
def HoleLaterWrongFalsely : Prop := holeLaterRow.holds Try.pinned (OpenSpec.ofChange holeLaterWrong)

/- THE SECOND FORM. 'bulk': how many values and letters a reading holds, each counted each time it is reached (what is shared counts as often as it is met; a slice's spare places count too). A statement '..UptoSaid' is the law's where the arguments, and the package variables that the reading takes, are together of bulk at most 1048576: NARROWER than '..Said'. Prove '..Said' where nothing that the law and all that it calls make is longer than what came in: it says more and counts as full. Else prove '..UptoSaid'. A law counts once. -/
mutual
def uptoBulk {H : Type} : DataW H → Nat
  | .lit (.string bytes) => bytes.length + 1
  | .lit _ => 1
  | .nil => 1
  | .ptr d => uptoBulk d + 1
  | .slice elems spare => uptoBulkAll elems + uptoBulkAll spare + 1
  | .agg parts => uptoBulkAll parts + 1
  | .iface _ d => uptoBulk d + 1
  | .map entries => uptoBulkEntries entries + 1
  | .held _ => 1
def uptoBulkAll {H : Type} : List (DataW H) → Nat
  | [] => 0
  | d :: r => uptoBulk d + uptoBulkAll r
def uptoBulkEntries {H : Type} : List (Lit × DataW H) → Nat
  | [] => 0
  | x :: r => uptoBulkEntry x + uptoBulkEntries r
def uptoBulkEntry {H : Type} : Lit × DataW H → Nat
  | (.string bytes, d) => bytes.length + uptoBulk d + 1
  | (_, d) => uptoBulk d + 1
 end
def uptoSmall : (H : Type) → List (DataW H) → Bool := fun _ ds => decide (uptoBulkAll ds ≤ 1048576)
def OpenSpec.upto (s : _root_.Go.ChangeSpec) : _root_.Go.OpenSpec := { _root_.Go.OpenSpec.ofChange s with cond := some uptoSmall }

/-- 'wharfingerlaw16.HoleTells', WHERE WHAT IT READS IS OF BULK AT MOST 1048576: true; the input reads as it did. -/
def holeTellsUptoRow : OpenClaim := { program := "ytaahghjllfkmaaa", sum := "fa0e1043fe6498e2bc0e76a0bc1d9c19b16915acaea8524f9109bc42647c5acd", func := "wharfinger/wharfingerlaw16.HoleTells", spec := "holeTells", unfollowed := true, recurses := true, apart := false, narrowed := true }
def HoleTellsUptoSaid : Prop := holeTellsUptoRow.holds Try.pinned (OpenSpec.upto holeTellsSpec)

/-- 'wharfingerlaw16.HoleOnce', WHERE WHAT IT READS IS OF BULK AT MOST 1048576: true; the input reads as it did. -/
def holeOnceUptoRow : OpenClaim := { program := "ytaahghjllfkmaaa", sum := "fa0e1043fe6498e2bc0e76a0bc1d9c19b16915acaea8524f9109bc42647c5acd", func := "wharfinger/wharfingerlaw16.HoleOnce", spec := "holeOnce", unfollowed := true, recurses := true, apart := false, narrowed := true }
def HoleOnceUptoSaid : Prop := holeOnceUptoRow.holds Try.pinned (OpenSpec.upto holeOnceSpec)

/-- 'wharfingerlaw16.HoleOver', WHERE WHAT IT READS IS OF BULK AT MOST 1048576: true; the input reads as it did. -/
def holeOverUptoRow : OpenClaim := { program := "ytaahghjllfkmaaa", sum := "fa0e1043fe6498e2bc0e76a0bc1d9c19b16915acaea8524f9109bc42647c5acd", func := "wharfinger/wharfingerlaw16.HoleOver", spec := "holeOver", unfollowed := true, recurses := true, apart := false, narrowed := true }
def HoleOverUptoSaid : Prop := holeOverUptoRow.holds Try.pinned (OpenSpec.upto holeOverSpec)

/-- 'wharfingerlaw16.HoleBounds', WHERE WHAT IT READS IS OF BULK AT MOST 1048576: true; the input reads as it did. -/
def holeBoundsUptoRow : OpenClaim := { program := "ytaahghjllfkmaaa", sum := "fa0e1043fe6498e2bc0e76a0bc1d9c19b16915acaea8524f9109bc42647c5acd", func := "wharfinger/wharfingerlaw16.HoleBounds", spec := "holeBounds", unfollowed := true, recurses := true, apart := false, narrowed := true }
def HoleBoundsUptoSaid : Prop := holeBoundsUptoRow.holds Try.pinned (OpenSpec.upto holeBoundsSpec)

/-- 'wharfingerlaw16.HoleOther', WHERE WHAT IT READS IS OF BULK AT MOST 1048576: true; the input reads as it did. -/
def holeOtherUptoRow : OpenClaim := { program := "ytaahghjllfkmaaa", sum := "fa0e1043fe6498e2bc0e76a0bc1d9c19b16915acaea8524f9109bc42647c5acd", func := "wharfinger/wharfingerlaw16.HoleOther", spec := "holeOther", unfollowed := true, recurses := true, apart := false, narrowed := true }
def HoleOtherUptoSaid : Prop := holeOtherUptoRow.holds Try.pinned (OpenSpec.upto holeOtherSpec)

/-- 'wharfingerlaw16.HolePorts', WHERE WHAT IT READS IS OF BULK AT MOST 1048576: true; the input reads as it did. -/
def holePortsUptoRow : OpenClaim := { program := "ytaahghjllfkmaaa", sum := "fa0e1043fe6498e2bc0e76a0bc1d9c19b16915acaea8524f9109bc42647c5acd", func := "wharfinger/wharfingerlaw16.HolePorts", spec := "holePorts", unfollowed := true, recurses := true, apart := false, narrowed := true }
def HolePortsUptoSaid : Prop := holePortsUptoRow.holds Try.pinned (OpenSpec.upto holePortsSpec)

/-- 'wharfingerlaw16.HoleLater', WHERE WHAT IT READS IS OF BULK AT MOST 1048576: true; the input reads as it did. -/
def holeLaterUptoRow : OpenClaim := { program := "ytaahghjllfkmaaa", sum := "fa0e1043fe6498e2bc0e76a0bc1d9c19b16915acaea8524f9109bc42647c5acd", func := "wharfinger/wharfingerlaw16.HoleLater", spec := "holeLater", unfollowed := true, recurses := true, apart := false, narrowed := true }
def HoleLaterUptoSaid : Prop := holeLaterUptoRow.holds Try.pinned (OpenSpec.upto holeLaterSpec)

end Rows
end Go.Proofs.Ytaahghjllfkmaaa
