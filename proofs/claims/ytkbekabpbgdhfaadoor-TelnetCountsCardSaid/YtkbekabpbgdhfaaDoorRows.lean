/-
  NARROWER THAN 'FOR EVERY INPUT', by the rows' own cells (each row's printed sentence says how): TelnetStrips: laid · TelnetParts: laid · TelnetLess: laid · TelnetCounts: laid · TelnetNone: laid.
  DERIVED. THE GIVEN ROWS OF THIS SEAT. 5 by the template 'for every input the law returns true; each argument reads behind the call as it read before'; 0 by the template 'total and deterministic' (their statements: YtkbekabpbgdhfaaDoorTotals.lean).
  GIVEN WITH THE SEED: the statements are not yours to turn. If you find one false, say at which input.
  Laid BY PROGRAM, IN A SANDBOX (cutbox-rows.mjs): the forced cells as the released guide's own fill.sh prints them over the translation beb061089a6e3618… (all of the seat's roots in one cut). By AI agents, Wed Nov 11 2026. No macro, syntax, notation, axiom, sorry.
-/
import Derived.Test.YtkbekabpbgdhfaaDoorChecked
import GoSem.PinnedTables
import GoSem.Claim
import GoSem.ClaimJoined
import GoSem.ClaimMapViews
import Derived.JoinedTies
import Derived.KernelRfl
namespace Go.Proofs.YtkbekabpbgdhfaaDoor
/- THE CELL 'sum', in the pinned program and in every row, IS THE sha256 OF THE DUMP (.gsa) THAT YtkbekabpbgdhfaaDoorProg.lean LOADS. Nothing in Lean hashes anything: it is a label: what it is worth is what the hold of that sum in a sandbox is worth. -/
noncomputable def Tryd.pinned : Pinned := { name := "ytkbekabpbgdhfaadoor", sum := "beb061089a6e36188f51f6cb8f2421591de609af10f1192fe43d07a7416f9e08", checked := Tryd.checked }
namespace Rows
def none {H : Type} : Left H := { results := [], args := [] }

/- WHAT THE LISTED PACKAGE-LEVEL VARIABLES READ AS WHEN THE CALL BEGINS. Each datum BY PROGRAM (the guide's laid-datum.mjs) off the statement by which the dump's own 'gosem.cut.vars' lays the variable. In a bare row this is a premise. The card (YtkbekabpbgdhfaaDoorCards.lean) ties it to the program's text. -/
def laid_unicode_utf8_acceptRanges {H : Type} : DataW H := .agg [.agg [.lit (.int .u8 128), .lit (.int .u8 191)], .agg [.lit (.int .u8 160), .lit (.int .u8 191)], .agg [.lit (.int .u8 128), .lit (.int .u8 159)], .agg [.lit (.int .u8 144), .lit (.int .u8 191)], .agg [.lit (.int .u8 128), .lit (.int .u8 143)], .agg [.lit (.int .u8 0), .lit (.int .u8 0)], .agg [.lit (.int .u8 0), .lit (.int .u8 0)], .agg [.lit (.int .u8 0), .lit (.int .u8 0)], .agg [.lit (.int .u8 0), .lit (.int .u8 0)], .agg [.lit (.int .u8 0), .lit (.int .u8 0)], .agg [.lit (.int .u8 0), .lit (.int .u8 0)], .agg [.lit (.int .u8 0), .lit (.int .u8 0)], .agg [.lit (.int .u8 0), .lit (.int .u8 0)], .agg [.lit (.int .u8 0), .lit (.int .u8 0)], .agg [.lit (.int .u8 0), .lit (.int .u8 0)], .agg [.lit (.int .u8 0), .lit (.int .u8 0)]]
/-- One of Go's own tables, pinned by name: the form's constant. -/
def laid_unicode_utf8_first : DataW Unit := Go.Pinned.utf8First

/-- 'wharfingerlaw05.TelnetStrips': WHATEVER THE INPUT: true; the input reads as it did. -/
def telnetStripsSpec : ChangeSpec := { name := "telnetStrips", fn := fun _ => fun
  | [d1, d2] => { results := [.lit (.bool true)], args := [d1, d2] }
  | _ => none }
def telnetStripsRow : OpenClaim := { program := "ytkbekabpbgdhfaadoor", sum := "beb061089a6e36188f51f6cb8f2421591de609af10f1192fe43d07a7416f9e08", func := "wharfinger/wharfingerlaw05.TelnetStrips", spec := "telnetStrips", inPlace := ["internal/bytealg.Count", "internal/bytealg.IndexByte", "internal/bytealg.Index"], named := ["internal/bytealg.MaxLen", "unicode/utf8.first", "unicode/utf8.acceptRanges"], apart := false, laid := [("unicode/utf8.acceptRanges", laid_unicode_utf8_acceptRanges), ("unicode/utf8.first", laid_unicode_utf8_first)] }
def TelnetStripsSaid : Prop := telnetStripsRow.holds Tryd.pinned (OpenSpec.ofChange telnetStripsSpec)

/-- ITS FALSE NEIGHBOUR: 'it returns false'. Refute it at one input. -/
def telnetStripsWrong : ChangeSpec := { name := "telnetStrips", fn := fun _ => fun
  | [d1, d2] => { results := [.lit (.bool false)], args := [d1, d2] }
  | _ => none }
def TelnetStripsWrongFalsely : Prop := telnetStripsRow.holds Tryd.pinned (OpenSpec.ofChange telnetStripsWrong)

/-- 'wharfingerlaw05.TelnetParts': WHATEVER THE INPUT: true; the input reads as it did. -/
def telnetPartsSpec : ChangeSpec := { name := "telnetParts", fn := fun _ => fun
  | [d1, d2, d3] => { results := [.lit (.bool true)], args := [d1, d2, d3] }
  | _ => none }
def telnetPartsRow : OpenClaim := { program := "ytkbekabpbgdhfaadoor", sum := "beb061089a6e36188f51f6cb8f2421591de609af10f1192fe43d07a7416f9e08", func := "wharfinger/wharfingerlaw05.TelnetParts", spec := "telnetParts", inPlace := ["internal/bytealg.Count", "internal/bytealg.IndexByte", "internal/bytealg.Index"], named := ["internal/bytealg.MaxLen", "unicode/utf8.first", "unicode/utf8.acceptRanges"], apart := false, laid := [("unicode/utf8.acceptRanges", laid_unicode_utf8_acceptRanges), ("unicode/utf8.first", laid_unicode_utf8_first)] }
def TelnetPartsSaid : Prop := telnetPartsRow.holds Tryd.pinned (OpenSpec.ofChange telnetPartsSpec)

/-- ITS FALSE NEIGHBOUR: 'it returns false'. Refute it at one input. -/
def telnetPartsWrong : ChangeSpec := { name := "telnetParts", fn := fun _ => fun
  | [d1, d2, d3] => { results := [.lit (.bool false)], args := [d1, d2, d3] }
  | _ => none }
def TelnetPartsWrongFalsely : Prop := telnetPartsRow.holds Tryd.pinned (OpenSpec.ofChange telnetPartsWrong)

/-- 'wharfingerlaw05.TelnetLess': WHATEVER THE INPUT: true; the input reads as it did. -/
def telnetLessSpec : ChangeSpec := { name := "telnetLess", fn := fun _ => fun
  | [d1, d2] => { results := [.lit (.bool true)], args := [d1, d2] }
  | _ => none }
def telnetLessRow : OpenClaim := { program := "ytkbekabpbgdhfaadoor", sum := "beb061089a6e36188f51f6cb8f2421591de609af10f1192fe43d07a7416f9e08", func := "wharfinger/wharfingerlaw05.TelnetLess", spec := "telnetLess", inPlace := ["internal/bytealg.Count", "internal/bytealg.IndexByte", "internal/bytealg.Index"], named := ["internal/bytealg.MaxLen", "unicode/utf8.first", "unicode/utf8.acceptRanges"], apart := false, laid := [("unicode/utf8.acceptRanges", laid_unicode_utf8_acceptRanges), ("unicode/utf8.first", laid_unicode_utf8_first)] }
def TelnetLessSaid : Prop := telnetLessRow.holds Tryd.pinned (OpenSpec.ofChange telnetLessSpec)

/-- ITS FALSE NEIGHBOUR: 'it returns false'. Refute it at one input. -/
def telnetLessWrong : ChangeSpec := { name := "telnetLess", fn := fun _ => fun
  | [d1, d2] => { results := [.lit (.bool false)], args := [d1, d2] }
  | _ => none }
def TelnetLessWrongFalsely : Prop := telnetLessRow.holds Tryd.pinned (OpenSpec.ofChange telnetLessWrong)

/-- 'wharfingerlaw05.TelnetCounts': WHATEVER THE INPUT: true; the input reads as it did. -/
def telnetCountsSpec : ChangeSpec := { name := "telnetCounts", fn := fun _ => fun
  | [d1, d2, d3] => { results := [.lit (.bool true)], args := [d1, d2, d3] }
  | _ => none }
def telnetCountsRow : OpenClaim := { program := "ytkbekabpbgdhfaadoor", sum := "beb061089a6e36188f51f6cb8f2421591de609af10f1192fe43d07a7416f9e08", func := "wharfinger/wharfingerlaw05.TelnetCounts", spec := "telnetCounts", inPlace := ["internal/bytealg.Count", "internal/bytealg.IndexByte", "internal/bytealg.Index"], named := ["internal/bytealg.MaxLen", "unicode/utf8.first", "unicode/utf8.acceptRanges"], apart := false, laid := [("unicode/utf8.acceptRanges", laid_unicode_utf8_acceptRanges), ("unicode/utf8.first", laid_unicode_utf8_first)] }
def TelnetCountsSaid : Prop := telnetCountsRow.holds Tryd.pinned (OpenSpec.ofChange telnetCountsSpec)

/-- ITS FALSE NEIGHBOUR: 'it returns false'. Refute it at one input. -/
def telnetCountsWrong : ChangeSpec := { name := "telnetCounts", fn := fun _ => fun
  | [d1, d2, d3] => { results := [.lit (.bool false)], args := [d1, d2, d3] }
  | _ => none }
def TelnetCountsWrongFalsely : Prop := telnetCountsRow.holds Tryd.pinned (OpenSpec.ofChange telnetCountsWrong)

/-- 'wharfingerlaw05.TelnetNone': WHATEVER THE INPUT: true; the input reads as it did. -/
def telnetNoneSpec : ChangeSpec := { name := "telnetNone", fn := fun _ => fun
  | [d] => { results := [.lit (.bool true)], args := [d] }
  | _ => none }
def telnetNoneRow : OpenClaim := { program := "ytkbekabpbgdhfaadoor", sum := "beb061089a6e36188f51f6cb8f2421591de609af10f1192fe43d07a7416f9e08", func := "wharfinger/wharfingerlaw05.TelnetNone", spec := "telnetNone", inPlace := ["internal/bytealg.Count", "internal/bytealg.IndexByte", "internal/bytealg.Index"], named := ["internal/bytealg.MaxLen", "unicode/utf8.first", "unicode/utf8.acceptRanges"], apart := false, laid := [("unicode/utf8.acceptRanges", laid_unicode_utf8_acceptRanges), ("unicode/utf8.first", laid_unicode_utf8_first)] }
def TelnetNoneSaid : Prop := telnetNoneRow.holds Tryd.pinned (OpenSpec.ofChange telnetNoneSpec)

/-- ITS FALSE NEIGHBOUR: 'it returns false'. Refute it at one input. -/
def telnetNoneWrong : ChangeSpec := { name := "telnetNone", fn := fun _ => fun
  | [d] => { results := [.lit (.bool false)], args := [d] }
  | _ => none }
def TelnetNoneWrongFalsely : Prop := telnetNoneRow.holds Tryd.pinned (OpenSpec.ofChange telnetNoneWrong)

/- THE SECOND FORM. 'bulk': how many values and letters a reading holds, each counted each time it is reached (what is shared counts as often as it is met; a slice's spare places count too). A statement '..UptoSaid' is the law's where the arguments, and the package variables that the reading takes, are together of bulk at most 1048576: NARROWER than '..Said'. Prove '..Said' where nothing that the law and all that it calls make is longer than what came in: it says more and counts as full. Else prove '..UptoSaid'. A law counts once. -/
mutual
def uptoBulk {H : Type} : DataW H → Nat
  | .lit (.string bytes) => bytes.length + 1
  | .lit _ => 1
  | .nil => 1
  | .ptr d => uptoBulk d + 1
  | .slice elems spare => uptoBulkAll elems + uptoBulkAll spare + 1
  | .agg parts => uptoBulkAll parts + 1
  | .iface _ d => uptoBulk d + 1
  | .map entries => uptoBulkEntries entries + 1
  | .held _ => 1
def uptoBulkAll {H : Type} : List (DataW H) → Nat
  | [] => 0
  | d :: r => uptoBulk d + uptoBulkAll r
def uptoBulkEntries {H : Type} : List (Lit × DataW H) → Nat
  | [] => 0
  | x :: r => uptoBulkEntry x + uptoBulkEntries r
def uptoBulkEntry {H : Type} : Lit × DataW H → Nat
  | (.string bytes, d) => bytes.length + uptoBulk d + 1
  | (_, d) => uptoBulk d + 1
 end
def uptoSmall : (H : Type) → List (DataW H) → Bool := fun _ ds => decide (uptoBulkAll ds ≤ 1048576)
def OpenSpec.upto (s : _root_.Go.ChangeSpec) : _root_.Go.OpenSpec := { _root_.Go.OpenSpec.ofChange s with cond := some uptoSmall }

/-- 'wharfingerlaw05.TelnetStrips', WHERE WHAT IT READS IS OF BULK AT MOST 1048576: true; the input reads as it did. -/
def telnetStripsUptoRow : OpenClaim := { program := "ytkbekabpbgdhfaadoor", sum := "beb061089a6e36188f51f6cb8f2421591de609af10f1192fe43d07a7416f9e08", func := "wharfinger/wharfingerlaw05.TelnetStrips", spec := "telnetStrips", inPlace := ["internal/bytealg.Count", "internal/bytealg.IndexByte", "internal/bytealg.Index"], named := ["internal/bytealg.MaxLen", "unicode/utf8.first", "unicode/utf8.acceptRanges"], apart := false, laid := [("unicode/utf8.acceptRanges", laid_unicode_utf8_acceptRanges), ("unicode/utf8.first", laid_unicode_utf8_first)], narrowed := true }
def TelnetStripsUptoSaid : Prop := telnetStripsUptoRow.holds Tryd.pinned (OpenSpec.upto telnetStripsSpec)

/-- 'wharfingerlaw05.TelnetParts', WHERE WHAT IT READS IS OF BULK AT MOST 1048576: true; the input reads as it did. -/
def telnetPartsUptoRow : OpenClaim := { program := "ytkbekabpbgdhfaadoor", sum := "beb061089a6e36188f51f6cb8f2421591de609af10f1192fe43d07a7416f9e08", func := "wharfinger/wharfingerlaw05.TelnetParts", spec := "telnetParts", inPlace := ["internal/bytealg.Count", "internal/bytealg.IndexByte", "internal/bytealg.Index"], named := ["internal/bytealg.MaxLen", "unicode/utf8.first", "unicode/utf8.acceptRanges"], apart := false, laid := [("unicode/utf8.acceptRanges", laid_unicode_utf8_acceptRanges), ("unicode/utf8.first", laid_unicode_utf8_first)], narrowed := true }
def TelnetPartsUptoSaid : Prop := telnetPartsUptoRow.holds Tryd.pinned (OpenSpec.upto telnetPartsSpec)

/-- 'wharfingerlaw05.TelnetLess', WHERE WHAT IT READS IS OF BULK AT MOST 1048576: true; the input reads as it did. -/
def telnetLessUptoRow : OpenClaim := { program := "ytkbekabpbgdhfaadoor", sum := "beb061089a6e36188f51f6cb8f2421591de609af10f1192fe43d07a7416f9e08", func := "wharfinger/wharfingerlaw05.TelnetLess", spec := "telnetLess", inPlace := ["internal/bytealg.Count", "internal/bytealg.IndexByte", "internal/bytealg.Index"], named := ["internal/bytealg.MaxLen", "unicode/utf8.first", "unicode/utf8.acceptRanges"], apart := false, laid := [("unicode/utf8.acceptRanges", laid_unicode_utf8_acceptRanges), ("unicode/utf8.first", laid_unicode_utf8_first)], narrowed := true }
def TelnetLessUptoSaid : Prop := telnetLessUptoRow.holds Tryd.pinned (OpenSpec.upto telnetLessSpec)

/-- 'wharfingerlaw05.TelnetCounts', WHERE WHAT IT READS IS OF BULK AT MOST 1048576: true; the input reads as it did. -/
def telnetCountsUptoRow : OpenClaim := { program := "ytkbekabpbgdhfaadoor", sum := "beb061089a6e36188f51f6cb8f2421591de609af10f1192fe43d07a7416f9e08", func := "wharfinger/wharfingerlaw05.TelnetCounts", spec := "telnetCounts", inPlace := ["internal/bytealg.Count", "internal/bytealg.IndexByte", "internal/bytealg.Index"], named := ["internal/bytealg.MaxLen", "unicode/utf8.first", "unicode/utf8.acceptRanges"], apart := false, laid := [("unicode/utf8.acceptRanges", laid_unicode_utf8_acceptRanges), ("unicode/utf8.first", laid_unicode_utf8_first)], narrowed := true }
def TelnetCountsUptoSaid : Prop := telnetCountsUptoRow.holds Tryd.pinned (OpenSpec.upto telnetCountsSpec)

/-- 'wharfingerlaw05.TelnetNone', WHERE WHAT IT READS IS OF BULK AT MOST 1048576: true; the input reads as it did. -/
def telnetNoneUptoRow : OpenClaim := { program := "ytkbekabpbgdhfaadoor", sum := "beb061089a6e36188f51f6cb8f2421591de609af10f1192fe43d07a7416f9e08", func := "wharfinger/wharfingerlaw05.TelnetNone", spec := "telnetNone", inPlace := ["internal/bytealg.Count", "internal/bytealg.IndexByte", "internal/bytealg.Index"], named := ["internal/bytealg.MaxLen", "unicode/utf8.first", "unicode/utf8.acceptRanges"], apart := false, laid := [("unicode/utf8.acceptRanges", laid_unicode_utf8_acceptRanges), ("unicode/utf8.first", laid_unicode_utf8_first)], narrowed := true }
def TelnetNoneUptoSaid : Prop := telnetNoneUptoRow.holds Tryd.pinned (OpenSpec.upto telnetNoneSpec)

end Rows
end Go.Proofs.YtkbekabpbgdhfaaDoor
