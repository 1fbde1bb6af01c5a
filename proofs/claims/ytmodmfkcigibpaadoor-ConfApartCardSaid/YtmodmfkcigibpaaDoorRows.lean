/-
  NARROWER THAN 'FOR EVERY INPUT', by the rows' own cells (each row's printed sentence says how): ConfTells: laid · ConfErrors: laid · ConfApart: laid · ConfFirst: laid · ConfTwice: laid · ConfPorts: laid.
  DERIVED. THE GIVEN ROWS OF THIS SEAT. 6 by the template 'for every input the law returns true; each argument reads behind the call as it read before'; 0 by the template 'total and deterministic' (their statements: YtmodmfkcigibpaaDoorTotals.lean).
  GIVEN WITH THE SEED: the statements are not yours to turn. If you find one false, say at which input.
  Laid BY PROGRAM, IN A SANDBOX (cutbox-rows.mjs): the forced cells as the released guide's own fill.sh prints them over the translation 9a6b1b442f594cee… (all of the seat's roots in one cut). By AI agents, Wed Nov 11 2026. No macro, syntax, notation, axiom, sorry.
-/
import Derived.Test.YtmodmfkcigibpaaDoorChecked
import GoSem.PinnedTables
import GoSem.Claim
import GoSem.ClaimJoined
import GoSem.ClaimMapViews
import Derived.JoinedTies
import Derived.KernelRfl
namespace Go.Proofs.YtmodmfkcigibpaaDoor
/- THE CELL 'sum', in the pinned program and in every row, IS THE sha256 OF THE DUMP (.gsa) THAT YtmodmfkcigibpaaDoorProg.lean LOADS. Nothing in Lean hashes anything: it is a label: what it is worth is what the hold of that sum in a sandbox is worth. -/
noncomputable def Tryd.pinned : Pinned := { name := "ytmodmfkcigibpaadoor", sum := "9a6b1b442f594cee35bcc96f3e44f53a7d7d4e5625e7aafd81a3b455d7edc2ea", checked := Tryd.checked }
namespace Rows
def none {H : Type} : Left H := { results := [], args := [] }

/- WHAT THE LISTED PACKAGE-LEVEL VARIABLES READ AS WHEN THE CALL BEGINS. Each datum BY PROGRAM (the guide's laid-datum.mjs) off the statement by which the dump's own 'gosem.cut.vars' lays the variable. In a bare row this is a premise. The card (YtmodmfkcigibpaaDoorCards.lean) ties it to the program's text. -/
def laid_unicode_utf8_acceptRanges {H : Type} : DataW H := .agg [.agg [.lit (.int .u8 128), .lit (.int .u8 191)], .agg [.lit (.int .u8 160), .lit (.int .u8 191)], .agg [.lit (.int .u8 128), .lit (.int .u8 159)], .agg [.lit (.int .u8 144), .lit (.int .u8 191)], .agg [.lit (.int .u8 128), .lit (.int .u8 143)], .agg [.lit (.int .u8 0), .lit (.int .u8 0)], .agg [.lit (.int .u8 0), .lit (.int .u8 0)], .agg [.lit (.int .u8 0), .lit (.int .u8 0)], .agg [.lit (.int .u8 0), .lit (.int .u8 0)], .agg [.lit (.int .u8 0), .lit (.int .u8 0)], .agg [.lit (.int .u8 0), .lit (.int .u8 0)], .agg [.lit (.int .u8 0), .lit (.int .u8 0)], .agg [.lit (.int .u8 0), .lit (.int .u8 0)], .agg [.lit (.int .u8 0), .lit (.int .u8 0)], .agg [.lit (.int .u8 0), .lit (.int .u8 0)], .agg [.lit (.int .u8 0), .lit (.int .u8 0)]]
def laid_errors_errorType {H : Type} : DataW H := .iface "internal/reflectlite.rtype" (.agg [.ptr (.lit (.string [101, 114, 114, 111, 114]))])
def laid_wharfinger_api_ErrConf {H : Type} : DataW H := .iface "*errors.errorString" (.ptr (.agg [.lit (.string [99, 111, 110, 102])]))
def laid_wharfinger_api_ErrTenant {H : Type} : DataW H := .iface "*errors.errorString" (.ptr (.agg [.lit (.string [116, 101, 110, 97, 110, 116])]))
def laid_wharfinger_api_ErrPorts {H : Type} : DataW H := .iface "*errors.errorString" (.ptr (.agg [.lit (.string [112, 111, 114, 116, 115])]))
/-- One of Go's own tables, pinned by name: the form's constant. -/
def laid_unicode_utf8_first : DataW Unit := Go.Pinned.utf8First

/-- 'wharfingerlaw13.ConfTells': WHATEVER THE INPUT: true; the input reads as it did. -/
def confTellsSpec : ChangeSpec := { name := "confTells", fn := fun _ => fun
  | [d] => { results := [.lit (.bool true)], args := [d] }
  | _ => none }
def confTellsRow : OpenClaim := { program := "ytmodmfkcigibpaadoor", sum := "9a6b1b442f594cee35bcc96f3e44f53a7d7d4e5625e7aafd81a3b455d7edc2ea", func := "wharfinger/wharfingerlaw13.ConfTells", spec := "confTells", inPlace := ["internal/bytealg.IndexByteString", "internal/bytealg.IndexString", "internal/bytealg.CountString", "internal/reflectlite.ValueOf", "(internal/reflectlite.Value).Type", "(internal/reflectlite.Value).IsNil", "internal/reflectlite.TypeOf", "(internal/reflectlite.Value).Elem", "(internal/reflectlite.Value).Set"], unfollowed := true, recurses := true, named := ["wharfinger/api.ErrConf", "wharfinger/api.ErrTenant", "wharfinger/api.ErrPorts", "internal/bytealg.MaxLen", "unicode/utf8.first", "unicode/utf8.acceptRanges", "errors.errorType"], apart := false, laid := [("unicode/utf8.acceptRanges", laid_unicode_utf8_acceptRanges), ("errors.errorType", laid_errors_errorType), ("wharfinger/api.ErrConf", laid_wharfinger_api_ErrConf), ("wharfinger/api.ErrTenant", laid_wharfinger_api_ErrTenant), ("wharfinger/api.ErrPorts", laid_wharfinger_api_ErrPorts), ("unicode/utf8.first", laid_unicode_utf8_first)] }
def ConfTellsSaid : Prop := confTellsRow.holds Tryd.pinned (OpenSpec.ofChange confTellsSpec)

/-- ITS FALSE NEIGHBOUR: 'it returns false'. Refute it at one input. -/
def confTellsWrong : ChangeSpec := { name := "confTells", fn := fun _ => fun
  | [d] => { results := [.lit (.bool false)], args := [d] }
  | _ => none }
def ConfTellsWrongFalsely : Prop := confTellsRow.holds Tryd.pinned (OpenSpec.ofChange confTellsWrong)

/-- 'wharfingerlaw13.ConfErrors': WHATEVER THE INPUT: true; the input reads as it did. -/
def confErrorsSpec : ChangeSpec := { name := "confErrors", fn := fun _ => fun
  | [d1, d2] => { results := [.lit (.bool true)], args := [d1, d2] }
  | _ => none }
def confErrorsRow : OpenClaim := { program := "ytmodmfkcigibpaadoor", sum := "9a6b1b442f594cee35bcc96f3e44f53a7d7d4e5625e7aafd81a3b455d7edc2ea", func := "wharfinger/wharfingerlaw13.ConfErrors", spec := "confErrors", inPlace := ["internal/bytealg.IndexByteString", "internal/bytealg.IndexString", "internal/bytealg.CountString", "internal/reflectlite.ValueOf", "(internal/reflectlite.Value).Type", "(internal/reflectlite.Value).IsNil", "internal/reflectlite.TypeOf", "(internal/reflectlite.Value).Elem", "(internal/reflectlite.Value).Set"], unfollowed := true, recurses := true, named := ["wharfinger/api.ErrConf", "wharfinger/api.ErrTenant", "wharfinger/api.ErrPorts", "internal/bytealg.MaxLen", "unicode/utf8.first", "unicode/utf8.acceptRanges", "errors.errorType"], apart := false, laid := [("unicode/utf8.acceptRanges", laid_unicode_utf8_acceptRanges), ("errors.errorType", laid_errors_errorType), ("wharfinger/api.ErrConf", laid_wharfinger_api_ErrConf), ("wharfinger/api.ErrTenant", laid_wharfinger_api_ErrTenant), ("wharfinger/api.ErrPorts", laid_wharfinger_api_ErrPorts), ("unicode/utf8.first", laid_unicode_utf8_first)] }
def ConfErrorsSaid : Prop := confErrorsRow.holds Tryd.pinned (OpenSpec.ofChange confErrorsSpec)

/-- ITS FALSE NEIGHBOUR: 'it returns false'. Refute it at one input. -/
def confErrorsWrong : ChangeSpec := { name := "confErrors", fn := fun _ => fun
  | [d1, d2] => { results := [.lit (.bool false)], args := [d1, d2] }
  | _ => none }
def ConfErrorsWrongFalsely : Prop := confErrorsRow.holds Tryd.pinned (OpenSpec.ofChange confErrorsWrong)

/-- 'wharfingerlaw13.ConfApart': WHATEVER THE INPUT: true; the input reads as it did. -/
def confApartSpec : ChangeSpec := { name := "confApart", fn := fun _ => fun
  | [d1, d2] => { results := [.lit (.bool true)], args := [d1, d2] }
  | _ => none }
def confApartRow : OpenClaim := { program := "ytmodmfkcigibpaadoor", sum := "9a6b1b442f594cee35bcc96f3e44f53a7d7d4e5625e7aafd81a3b455d7edc2ea", func := "wharfinger/wharfingerlaw13.ConfApart", spec := "confApart", inPlace := ["internal/bytealg.IndexByteString", "internal/bytealg.IndexString", "internal/bytealg.CountString", "internal/reflectlite.ValueOf", "(internal/reflectlite.Value).Type", "(internal/reflectlite.Value).IsNil", "internal/reflectlite.TypeOf", "(internal/reflectlite.Value).Elem", "(internal/reflectlite.Value).Set"], unfollowed := true, recurses := true, named := ["wharfinger/api.ErrConf", "wharfinger/api.ErrTenant", "wharfinger/api.ErrPorts", "internal/bytealg.MaxLen", "unicode/utf8.first", "unicode/utf8.acceptRanges", "errors.errorType"], apart := false, laid := [("unicode/utf8.acceptRanges", laid_unicode_utf8_acceptRanges), ("errors.errorType", laid_errors_errorType), ("wharfinger/api.ErrConf", laid_wharfinger_api_ErrConf), ("wharfinger/api.ErrTenant", laid_wharfinger_api_ErrTenant), ("wharfinger/api.ErrPorts", laid_wharfinger_api_ErrPorts), ("unicode/utf8.first", laid_unicode_utf8_first)] }
def ConfApartSaid : Prop := confApartRow.holds Tryd.pinned (OpenSpec.ofChange confApartSpec)

/-- ITS FALSE NEIGHBOUR: 'it returns false'. Refute it at one input. -/
def confApartWrong : ChangeSpec := { name := "confApart", fn := fun _ => fun
  | [d1, d2] => { results := [.lit (.bool false)], args := [d1, d2] }
  | _ => none }
def ConfApartWrongFalsely : Prop := confApartRow.holds Tryd.pinned (OpenSpec.ofChange confApartWrong)

/-- 'wharfingerlaw13.ConfFirst': WHATEVER THE INPUT: true; the input reads as it did. -/
def confFirstSpec : ChangeSpec := { name := "confFirst", fn := fun _ => fun
  | [d] => { results := [.lit (.bool true)], args := [d] }
  | _ => none }
def confFirstRow : OpenClaim := { program := "ytmodmfkcigibpaadoor", sum := "9a6b1b442f594cee35bcc96f3e44f53a7d7d4e5625e7aafd81a3b455d7edc2ea", func := "wharfinger/wharfingerlaw13.ConfFirst", spec := "confFirst", inPlace := ["internal/bytealg.IndexByteString", "internal/bytealg.IndexString", "internal/bytealg.CountString", "internal/reflectlite.ValueOf", "(internal/reflectlite.Value).Type", "(internal/reflectlite.Value).IsNil", "internal/reflectlite.TypeOf", "(internal/reflectlite.Value).Elem", "(internal/reflectlite.Value).Set"], unfollowed := true, recurses := true, named := ["wharfinger/api.ErrConf", "wharfinger/api.ErrTenant", "wharfinger/api.ErrPorts", "internal/bytealg.MaxLen", "unicode/utf8.first", "unicode/utf8.acceptRanges", "errors.errorType"], apart := false, laid := [("unicode/utf8.acceptRanges", laid_unicode_utf8_acceptRanges), ("errors.errorType", laid_errors_errorType), ("wharfinger/api.ErrConf", laid_wharfinger_api_ErrConf), ("wharfinger/api.ErrTenant", laid_wharfinger_api_ErrTenant), ("wharfinger/api.ErrPorts", laid_wharfinger_api_ErrPorts), ("unicode/utf8.first", laid_unicode_utf8_first)] }
def ConfFirstSaid : Prop := confFirstRow.holds Tryd.pinned (OpenSpec.ofChange confFirstSpec)

/-- ITS FALSE NEIGHBOUR: 'it returns false'. Refute it at one input. -/
def confFirstWrong : ChangeSpec := { name := "confFirst", fn := fun _ => fun
  | [d] => { results := [.lit (.bool false)], args := [d] }
  | _ => none }
def ConfFirstWrongFalsely : Prop := confFirstRow.holds Tryd.pinned (OpenSpec.ofChange confFirstWrong)

/-- 'wharfingerlaw13.ConfTwice': WHATEVER THE INPUT: true; the input reads as it did. -/
def confTwiceSpec : ChangeSpec := { name := "confTwice", fn := fun _ => fun
  | [d1, d2, d3, d4] => { results := [.lit (.bool true)], args := [d1, d2, d3, d4] }
  | _ => none }
def confTwiceRow : OpenClaim := { program := "ytmodmfkcigibpaadoor", sum := "9a6b1b442f594cee35bcc96f3e44f53a7d7d4e5625e7aafd81a3b455d7edc2ea", func := "wharfinger/wharfingerlaw13.ConfTwice", spec := "confTwice", inPlace := ["internal/bytealg.IndexByteString", "internal/bytealg.IndexString", "internal/bytealg.CountString", "internal/reflectlite.ValueOf", "(internal/reflectlite.Value).Type", "(internal/reflectlite.Value).IsNil", "internal/reflectlite.TypeOf", "(internal/reflectlite.Value).Elem", "(internal/reflectlite.Value).Set"], unfollowed := true, recurses := true, named := ["wharfinger/api.ErrConf", "wharfinger/api.ErrTenant", "wharfinger/api.ErrPorts", "internal/bytealg.MaxLen", "unicode/utf8.first", "unicode/utf8.acceptRanges", "errors.errorType"], apart := false, laid := [("unicode/utf8.acceptRanges", laid_unicode_utf8_acceptRanges), ("errors.errorType", laid_errors_errorType), ("wharfinger/api.ErrConf", laid_wharfinger_api_ErrConf), ("wharfinger/api.ErrTenant", laid_wharfinger_api_ErrTenant), ("wharfinger/api.ErrPorts", laid_wharfinger_api_ErrPorts), ("unicode/utf8.first", laid_unicode_utf8_first)] }
def ConfTwiceSaid : Prop := confTwiceRow.holds Tryd.pinned (OpenSpec.ofChange confTwiceSpec)

/-- ITS FALSE NEIGHBOUR: 'it returns false'. Refute it at one input. -/
def confTwiceWrong : ChangeSpec := { name := "confTwice", fn := fun _ => fun
  | [d1, d2, d3, d4] => { results := [.lit (.bool false)], args := [d1, d2, d3, d4] }
  | _ => none }
def ConfTwiceWrongFalsely : Prop := confTwiceRow.holds Tryd.pinned (OpenSpec.ofChange confTwiceWrong)

/-- 'wharfingerlaw13.ConfPorts': WHATEVER THE INPUT: true; the input reads as it did. -/
def confPortsSpec : ChangeSpec := { name := "confPorts", fn := fun _ => fun
  | [d1, d2, d3, d4] => { results := [.lit (.bool true)], args := [d1, d2, d3, d4] }
  | _ => none }
def confPortsRow : OpenClaim := { program := "ytmodmfkcigibpaadoor", sum := "9a6b1b442f594cee35bcc96f3e44f53a7d7d4e5625e7aafd81a3b455d7edc2ea", func := "wharfinger/wharfingerlaw13.ConfPorts", spec := "confPorts", inPlace := ["internal/bytealg.IndexByteString", "internal/bytealg.IndexString", "internal/bytealg.CountString", "internal/reflectlite.ValueOf", "(internal/reflectlite.Value).Type", "(internal/reflectlite.Value).IsNil", "internal/reflectlite.TypeOf", "(internal/reflectlite.Value).Elem", "(internal/reflectlite.Value).Set"], unfollowed := true, recurses := true, named := ["wharfinger/api.ErrConf", "wharfinger/api.ErrTenant", "wharfinger/api.ErrPorts", "internal/bytealg.MaxLen", "unicode/utf8.first", "unicode/utf8.acceptRanges", "errors.errorType"], apart := false, laid := [("unicode/utf8.acceptRanges", laid_unicode_utf8_acceptRanges), ("errors.errorType", laid_errors_errorType), ("wharfinger/api.ErrConf", laid_wharfinger_api_ErrConf), ("wharfinger/api.ErrTenant", laid_wharfinger_api_ErrTenant), ("wharfinger/api.ErrPorts", laid_wharfinger_api_ErrPorts), ("unicode/utf8.first", laid_unicode_utf8_first)] }
def ConfPortsSaid : Prop := confPortsRow.holds Tryd.pinned (OpenSpec.ofChange confPortsSpec)

/-- ITS FALSE NEIGHBOUR: 'it returns false'. Refute it at one input. -/
def confPortsWrong : ChangeSpec := { name := "confPorts", fn := fun _ => fun
  | [d1, d2, d3, d4] => { results := [.lit (.bool false)], args := [d1, d2, d3, d4] }
  | _ => none }
def ConfPortsWrongFalsely : Prop := confPortsRow.holds Tryd.pinned (OpenSpec.ofChange confPortsWrong)

/- THE SECOND FORM. 'bulk': how many values and letters a reading holds, each counted each time it is reached (what is shared counts as often as it is met; a slice's spare places count too). A statement '..UptoSaid' is the law's where the arguments, and the package variables that the reading takes, are together of bulk at most 1048576: NARROWER than '..Said'. Prove '..Said' where nothing that the law and all that it calls make is longer than what came in: it says more and counts as full. Else prove '..UptoSaid'. A law counts once. -/
mutual
def uptoBulk {H : Type} : DataW H → Nat
  | .lit (.string bytes) => bytes.length + 1
  | .lit _ => 1
  | .nil => 1
  | .ptr d => uptoBulk d + 1
  | .slice elems spare => uptoBulkAll elems + uptoBulkAll spare + 1
  | .agg parts => uptoBulkAll parts + 1
  | .iface _ d => uptoBulk d + 1
  | .map entries => uptoBulkEntries entries + 1
  | .held _ => 1
def uptoBulkAll {H : Type} : List (DataW H) → Nat
  | [] => 0
  | d :: r => uptoBulk d + uptoBulkAll r
def uptoBulkEntries {H : Type} : List (Lit × DataW H) → Nat
  | [] => 0
  | x :: r => uptoBulkEntry x + uptoBulkEntries r
def uptoBulkEntry {H : Type} : Lit × DataW H → Nat
  | (.string bytes, d) => bytes.length + uptoBulk d + 1
  | (_, d) => uptoBulk d + 1
 end
def uptoSmall : (H : Type) → List (DataW H) → Bool := fun _ ds => decide (uptoBulkAll ds ≤ 1048576)
def OpenSpec.upto (s : _root_.Go.ChangeSpec) : _root_.Go.OpenSpec := { _root_.Go.OpenSpec.ofChange s with cond := some uptoSmall }

/-- 'wharfingerlaw13.ConfTells', WHERE WHAT IT READS IS OF BULK AT MOST 1048576: true; the input reads as it did. -/
def confTellsUptoRow : OpenClaim := { program := "ytmodmfkcigibpaadoor", sum := "9a6b1b442f594cee35bcc96f3e44f53a7d7d4e5625e7aafd81a3b455d7edc2ea", func := "wharfinger/wharfingerlaw13.ConfTells", spec := "confTells", inPlace := ["internal/bytealg.IndexByteString", "internal/bytealg.IndexString", "internal/bytealg.CountString", "internal/reflectlite.ValueOf", "(internal/reflectlite.Value).Type", "(internal/reflectlite.Value).IsNil", "internal/reflectlite.TypeOf", "(internal/reflectlite.Value).Elem", "(internal/reflectlite.Value).Set"], unfollowed := true, recurses := true, named := ["wharfinger/api.ErrConf", "wharfinger/api.ErrTenant", "wharfinger/api.ErrPorts", "internal/bytealg.MaxLen", "unicode/utf8.first", "unicode/utf8.acceptRanges", "errors.errorType"], apart := false, laid := [("unicode/utf8.acceptRanges", laid_unicode_utf8_acceptRanges), ("errors.errorType", laid_errors_errorType), ("wharfinger/api.ErrConf", laid_wharfinger_api_ErrConf), ("wharfinger/api.ErrTenant", laid_wharfinger_api_ErrTenant), ("wharfinger/api.ErrPorts", laid_wharfinger_api_ErrPorts), ("unicode/utf8.first", laid_unicode_utf8_first)], narrowed := true }
def ConfTellsUptoSaid : Prop := confTellsUptoRow.holds Tryd.pinned (OpenSpec.upto confTellsSpec)

/-- 'wharfingerlaw13.ConfErrors', WHERE WHAT IT READS IS OF BULK AT MOST 1048576: true; the input reads as it did. -/
def confErrorsUptoRow : OpenClaim := { program := "ytmodmfkcigibpaadoor", sum := "9a6b1b442f594cee35bcc96f3e44f53a7d7d4e5625e7aafd81a3b455d7edc2ea", func := "wharfinger/wharfingerlaw13.ConfErrors", spec := "confErrors", inPlace := ["internal/bytealg.IndexByteString", "internal/bytealg.IndexString", "internal/bytealg.CountString", "internal/reflectlite.ValueOf", "(internal/reflectlite.Value).Type", "(internal/reflectlite.Value).IsNil", "internal/reflectlite.TypeOf", "(internal/reflectlite.Value).Elem", "(internal/reflectlite.Value).Set"], unfollowed := true, recurses := true, named := ["wharfinger/api.ErrConf", "wharfinger/api.ErrTenant", "wharfinger/api.ErrPorts", "internal/bytealg.MaxLen", "unicode/utf8.first", "unicode/utf8.acceptRanges", "errors.errorType"], apart := false, laid := [("unicode/utf8.acceptRanges", laid_unicode_utf8_acceptRanges), ("errors.errorType", laid_errors_errorType), ("wharfinger/api.ErrConf", laid_wharfinger_api_ErrConf), ("wharfinger/api.ErrTenant", laid_wharfinger_api_ErrTenant), ("wharfinger/api.ErrPorts", laid_wharfinger_api_ErrPorts), ("unicode/utf8.first", laid_unicode_utf8_first)], narrowed := true }
def ConfErrorsUptoSaid : Prop := confErrorsUptoRow.holds Tryd.pinned (OpenSpec.upto confErrorsSpec)

/-- 'wharfingerlaw13.ConfApart', WHERE WHAT IT READS IS OF BULK AT MOST 1048576: true; the input reads as it did. -/
def confApartUptoRow : OpenClaim := { program := "ytmodmfkcigibpaadoor", sum := "9a6b1b442f594cee35bcc96f3e44f53a7d7d4e5625e7aafd81a3b455d7edc2ea", func := "wharfinger/wharfingerlaw13.ConfApart", spec := "confApart", inPlace := ["internal/bytealg.IndexByteString", "internal/bytealg.IndexString", "internal/bytealg.CountString", "internal/reflectlite.ValueOf", "(internal/reflectlite.Value).Type", "(internal/reflectlite.Value).IsNil", "internal/reflectlite.TypeOf", "(internal/reflectlite.Value).Elem", "(internal/reflectlite.Value).Set"], unfollowed := true, recurses := true, named := ["wharfinger/api.ErrConf", "wharfinger/api.ErrTenant", "wharfinger/api.ErrPorts", "internal/bytealg.MaxLen", "unicode/utf8.first", "unicode/utf8.acceptRanges", "errors.errorType"], apart := false, laid := [("unicode/utf8.acceptRanges", laid_unicode_utf8_acceptRanges), ("errors.errorType", laid_errors_errorType), ("wharfinger/api.ErrConf", laid_wharfinger_api_ErrConf), ("wharfinger/api.ErrTenant", laid_wharfinger_api_ErrTenant), ("wharfinger/api.ErrPorts", laid_wharfinger_api_ErrPorts), ("unicode/utf8.first", laid_unicode_utf8_first)], narrowed := true }
def ConfApartUptoSaid : Prop := confApartUptoRow.holds Tryd.pinned (OpenSpec.upto confApartSpec)

/-- 'wharfingerlaw13.ConfFirst', WHERE WHAT IT READS IS OF BULK AT MOST 1048576: true; the input reads as it did. -/
def confFirstUptoRow : OpenClaim := { program := "ytmodmfkcigibpaadoor", sum := "9a6b1b442f594cee35bcc96f3e44f53a7d7d4e5625e7aafd81a3b455d7edc2ea", func := "wharfinger/wharfingerlaw13.ConfFirst", spec := "confFirst", inPlace := ["internal/bytealg.IndexByteString", "internal/bytealg.IndexString", "internal/bytealg.CountString", "internal/reflectlite.ValueOf", "(internal/reflectlite.Value).Type", "(internal/reflectlite.Value).IsNil", "internal/reflectlite.TypeOf", "(internal/reflectlite.Value).Elem", "(internal/reflectlite.Value).Set"], unfollowed := true, recurses := true, named := ["wharfinger/api.ErrConf", "wharfinger/api.ErrTenant", "wharfinger/api.ErrPorts", "internal/bytealg.MaxLen", "unicode/utf8.first", "unicode/utf8.acceptRanges", "errors.errorType"], apart := false, laid := [("unicode/utf8.acceptRanges", laid_unicode_utf8_acceptRanges), ("errors.errorType", laid_errors_errorType), ("wharfinger/api.ErrConf", laid_wharfinger_api_ErrConf), ("wharfinger/api.ErrTenant", laid_wharfinger_api_ErrTenant), ("wharfinger/api.ErrPorts", laid_wharfinger_api_ErrPorts), ("unicode/utf8.first", laid_unicode_utf8_first)], narrowed := true }
def ConfFirstUptoSaid : Prop := confFirstUptoRow.holds Tryd.pinned (OpenSpec.upto confFirstSpec)

/-- 'wharfingerlaw13.ConfTwice', WHERE WHAT IT READS IS OF BULK AT MOST 1048576: true; the input reads as it did. -/
def confTwiceUptoRow : OpenClaim := { program := "ytmodmfkcigibpaadoor", sum := "9a6b1b442f594cee35bcc96f3e44f53a7d7d4e5625e7aafd81a3b455d7edc2ea", func := "wharfinger/wharfingerlaw13.ConfTwice", spec := "confTwice", inPlace := ["internal/bytealg.IndexByteString", "internal/bytealg.IndexString", "internal/bytealg.CountString", "internal/reflectlite.ValueOf", "(internal/reflectlite.Value).Type", "(internal/reflectlite.Value).IsNil", "internal/reflectlite.TypeOf", "(internal/reflectlite.Value).Elem", "(internal/reflectlite.Value).Set"], unfollowed := true, recurses := true, named := ["wharfinger/api.ErrConf", "wharfinger/api.ErrTenant", "wharfinger/api.ErrPorts", "internal/bytealg.MaxLen", "unicode/utf8.first", "unicode/utf8.acceptRanges", "errors.errorType"], apart := false, laid := [("unicode/utf8.acceptRanges", laid_unicode_utf8_acceptRanges), ("errors.errorType", laid_errors_errorType), ("wharfinger/api.ErrConf", laid_wharfinger_api_ErrConf), ("wharfinger/api.ErrTenant", laid_wharfinger_api_ErrTenant), ("wharfinger/api.ErrPorts", laid_wharfinger_api_ErrPorts), ("unicode/utf8.first", laid_unicode_utf8_first)], narrowed := true }
def ConfTwiceUptoSaid : Prop := confTwiceUptoRow.holds Tryd.pinned (OpenSpec.upto confTwiceSpec)

/-- 'wharfingerlaw13.ConfPorts', WHERE WHAT IT READS IS OF BULK AT MOST 1048576: true; the input reads as it did. -/
def confPortsUptoRow : OpenClaim := { program := "ytmodmfkcigibpaadoor", sum := "9a6b1b442f594cee35bcc96f3e44f53a7d7d4e5625e7aafd81a3b455d7edc2ea", func := "wharfinger/wharfingerlaw13.ConfPorts", spec := "confPorts", inPlace := ["internal/bytealg.IndexByteString", "internal/bytealg.IndexString", "internal/bytealg.CountString", "internal/reflectlite.ValueOf", "(internal/reflectlite.Value).Type", "(internal/reflectlite.Value).IsNil", "internal/reflectlite.TypeOf", "(internal/reflectlite.Value).Elem", "(internal/reflectlite.Value).Set"], unfollowed := true, recurses := true, named := ["wharfinger/api.ErrConf", "wharfinger/api.ErrTenant", "wharfinger/api.ErrPorts", "internal/bytealg.MaxLen", "unicode/utf8.first", "unicode/utf8.acceptRanges", "errors.errorType"], apart := false, laid := [("unicode/utf8.acceptRanges", laid_unicode_utf8_acceptRanges), ("errors.errorType", laid_errors_errorType), ("wharfinger/api.ErrConf", laid_wharfinger_api_ErrConf), ("wharfinger/api.ErrTenant", laid_wharfinger_api_ErrTenant), ("wharfinger/api.ErrPorts", laid_wharfinger_api_ErrPorts), ("unicode/utf8.first", laid_unicode_utf8_first)], narrowed := true }
def ConfPortsUptoSaid : Prop := confPortsUptoRow.holds Tryd.pinned (OpenSpec.upto confPortsSpec)

end Rows
end Go.Proofs.YtmodmfkcigibpaaDoor
