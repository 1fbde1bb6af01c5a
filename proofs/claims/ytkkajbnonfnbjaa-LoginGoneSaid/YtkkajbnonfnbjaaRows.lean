/-
  No cell of these rows narrows 'for every input' (looked for: loops, veiled, ifaces, maps, wideKeys, modest, calm, conditions, laid).
  DERIVED. THE GIVEN ROWS OF THIS SEAT. 7 by the template 'for every input the law returns true; each argument reads behind the call as it read before'; 0 by the template 'total and deterministic' (their statements: YtkkajbnonfnbjaaTotals.lean).
  GIVEN WITH THE SEED: the statements are not yours to turn. If you find one false, say at which input.
  Laid BY PROGRAM, IN A SANDBOX (cutbox-rows.mjs): the forced cells as the released guide's own fill.sh prints them over the translation 313871c3d4732fa6… (all of the seat's roots in one cut). By AI agents, Wed Nov 11 2026. No macro, syntax, notation, axiom, sorry.
-/
import Derived.Test.YtkkajbnonfnbjaaChecked
import GoSem.Claim
import GoSem.ClaimJoined
import GoSem.ClaimMapViews
import Derived.JoinedTies
import Derived.KernelRfl
namespace Go.Proofs.Ytkkajbnonfnbjaa
/- THE CELL 'sum', in the pinned program and in every row, IS THE sha256 OF THE DUMP (.gsa) THAT YtkkajbnonfnbjaaProg.lean LOADS. Nothing in Lean hashes anything: it is a label: what it is worth is what the hold of that sum in a sandbox is worth. -/
noncomputable def Try.pinned : Pinned := { name := "ytkkajbnonfnbjaa", sum := "313871c3d4732fa668266177401296954dd0c942036984ee0cec025adae1b7e3", checked := Try.checked }
namespace Rows
def none {H : Type} : Left H := { results := [], args := [] }

/-- 'wharfingerlaw17.LoginGoes': WHATEVER THE INPUT: true; the input reads as it did. -/
def loginGoesSpec : ChangeSpec := { name := "loginGoes", fn := fun _ => fun
  | [d1, d2, d3, d4, d5] => { results := [.lit (.bool true)], args := [d1, d2, d3, d4, d5] }
  | _ => none }
def loginGoesRow : OpenClaim := { program := "ytkkajbnonfnbjaa", sum := "313871c3d4732fa668266177401296954dd0c942036984ee0cec025adae1b7e3", func := "wharfinger/wharfingerlaw17.LoginGoes", spec := "loginGoes", inPlace := ["internal/bytealg.IndexByteString", "internal/bytealg.IndexString"], named := ["internal/bytealg.MaxLen"], plainKeys := false, apart := false }
def LoginGoesSaid : Prop := loginGoesRow.holds Try.pinned (OpenSpec.ofChange loginGoesSpec)

/-- ITS FALSE NEIGHBOUR: 'it returns false'. Refute it at one input. -/
def loginGoesWrong : ChangeSpec := { name := "loginGoes", fn := fun _ => fun
  | [d1, d2, d3, d4, d5] => { results := [.lit (.bool false)], args := [d1, d2, d3, d4, d5] }
  | _ => none }
def LoginGoesWrongFalsely : Prop := loginGoesRow.holds Try.pinned (OpenSpec.ofChange loginGoesWrong)

/-- 'wharfingerlaw17.LoginMay': WHATEVER THE INPUT: true; the input reads as it did. -/
def loginMaySpec : ChangeSpec := { name := "loginMay", fn := fun _ => fun
  | [d1, d2, d3, d4, d5] => { results := [.lit (.bool true)], args := [d1, d2, d3, d4, d5] }
  | _ => none }
def loginMayRow : OpenClaim := { program := "ytkkajbnonfnbjaa", sum := "313871c3d4732fa668266177401296954dd0c942036984ee0cec025adae1b7e3", func := "wharfinger/wharfingerlaw17.LoginMay", spec := "loginMay", inPlace := ["internal/bytealg.IndexByteString", "internal/bytealg.IndexString"], named := ["internal/bytealg.MaxLen"], plainKeys := false, apart := false }
def LoginMaySaid : Prop := loginMayRow.holds Try.pinned (OpenSpec.ofChange loginMaySpec)

/-- ITS FALSE NEIGHBOUR: 'it returns false'. Refute it at one input. -/
def loginMayWrong : ChangeSpec := { name := "loginMay", fn := fun _ => fun
  | [d1, d2, d3, d4, d5] => { results := [.lit (.bool false)], args := [d1, d2, d3, d4, d5] }
  | _ => none }
def LoginMayWrongFalsely : Prop := loginMayRow.holds Try.pinned (OpenSpec.ofChange loginMayWrong)

/-- 'wharfingerlaw17.LoginIn': WHATEVER THE INPUT: true; the input reads as it did. -/
def loginInSpec : ChangeSpec := { name := "loginIn", fn := fun _ => fun
  | [d1, d2] => { results := [.lit (.bool true)], args := [d1, d2] }
  | _ => none }
def loginInRow : OpenClaim := { program := "ytkkajbnonfnbjaa", sum := "313871c3d4732fa668266177401296954dd0c942036984ee0cec025adae1b7e3", func := "wharfinger/wharfingerlaw17.LoginIn", spec := "loginIn", inPlace := ["internal/bytealg.IndexByteString", "internal/bytealg.IndexString"], named := ["internal/bytealg.MaxLen"], plainKeys := false, apart := false }
def LoginInSaid : Prop := loginInRow.holds Try.pinned (OpenSpec.ofChange loginInSpec)

/-- ITS FALSE NEIGHBOUR: 'it returns false'. Refute it at one input. -/
def loginInWrong : ChangeSpec := { name := "loginIn", fn := fun _ => fun
  | [d1, d2] => { results := [.lit (.bool false)], args := [d1, d2] }
  | _ => none }
def LoginInWrongFalsely : Prop := loginInRow.holds Try.pinned (OpenSpec.ofChange loginInWrong)

/-- 'wharfingerlaw17.LoginWhom': WHATEVER THE INPUT: true; the input reads as it did. -/
def loginWhomSpec : ChangeSpec := { name := "loginWhom", fn := fun _ => fun
  | [d1, d2, d3] => { results := [.lit (.bool true)], args := [d1, d2, d3] }
  | _ => none }
def loginWhomRow : OpenClaim := { program := "ytkkajbnonfnbjaa", sum := "313871c3d4732fa668266177401296954dd0c942036984ee0cec025adae1b7e3", func := "wharfinger/wharfingerlaw17.LoginWhom", spec := "loginWhom", inPlace := ["internal/bytealg.IndexByteString", "internal/bytealg.IndexString"], named := ["internal/bytealg.MaxLen"], plainKeys := false, apart := false }
def LoginWhomSaid : Prop := loginWhomRow.holds Try.pinned (OpenSpec.ofChange loginWhomSpec)

/-- ITS FALSE NEIGHBOUR: 'it returns false'. Refute it at one input. -/
def loginWhomWrong : ChangeSpec := { name := "loginWhom", fn := fun _ => fun
  | [d1, d2, d3] => { results := [.lit (.bool false)], args := [d1, d2, d3] }
  | _ => none }
def LoginWhomWrongFalsely : Prop := loginWhomRow.holds Try.pinned (OpenSpec.ofChange loginWhomWrong)

/-- 'wharfingerlaw17.LoginOut': WHATEVER THE INPUT: true; the input reads as it did. -/
def loginOutSpec : ChangeSpec := { name := "loginOut", fn := fun _ => fun
  | [d1, d2, d3, d4] => { results := [.lit (.bool true)], args := [d1, d2, d3, d4] }
  | _ => none }
def loginOutRow : OpenClaim := { program := "ytkkajbnonfnbjaa", sum := "313871c3d4732fa668266177401296954dd0c942036984ee0cec025adae1b7e3", func := "wharfinger/wharfingerlaw17.LoginOut", spec := "loginOut", inPlace := ["internal/bytealg.IndexByteString", "internal/bytealg.IndexString"], named := ["internal/bytealg.MaxLen"], plainKeys := false, apart := false }
def LoginOutSaid : Prop := loginOutRow.holds Try.pinned (OpenSpec.ofChange loginOutSpec)

/-- ITS FALSE NEIGHBOUR: 'it returns false'. Refute it at one input. -/
def loginOutWrong : ChangeSpec := { name := "loginOut", fn := fun _ => fun
  | [d1, d2, d3, d4] => { results := [.lit (.bool false)], args := [d1, d2, d3, d4] }
  | _ => none }
def LoginOutWrongFalsely : Prop := loginOutRow.holds Try.pinned (OpenSpec.ofChange loginOutWrong)

/-- 'wharfingerlaw17.LoginWaits': WHATEVER THE INPUT: true; the input reads as it did. -/
def loginWaitsSpec : ChangeSpec := { name := "loginWaits", fn := fun _ => fun
  | [d1, d2, d3, d4] => { results := [.lit (.bool true)], args := [d1, d2, d3, d4] }
  | _ => none }
def loginWaitsRow : OpenClaim := { program := "ytkkajbnonfnbjaa", sum := "313871c3d4732fa668266177401296954dd0c942036984ee0cec025adae1b7e3", func := "wharfinger/wharfingerlaw17.LoginWaits", spec := "loginWaits", inPlace := ["internal/bytealg.IndexByteString", "internal/bytealg.IndexString"], named := ["internal/bytealg.MaxLen"], plainKeys := false, apart := false }
def LoginWaitsSaid : Prop := loginWaitsRow.holds Try.pinned (OpenSpec.ofChange loginWaitsSpec)

/-- ITS FALSE NEIGHBOUR: 'it returns false'. Refute it at one input. -/
def loginWaitsWrong : ChangeSpec := { name := "loginWaits", fn := fun _ => fun
  | [d1, d2, d3, d4] => { results := [.lit (.bool false)], args := [d1, d2, d3, d4] }
  | _ => none }
def LoginWaitsWrongFalsely : Prop := loginWaitsRow.holds Try.pinned (OpenSpec.ofChange loginWaitsWrong)

/-- 'wharfingerlaw17.LoginGone': WHATEVER THE INPUT: true; the input reads as it did. -/
def loginGoneSpec : ChangeSpec := { name := "loginGone", fn := fun _ => fun
  | [d1, d2, d3, d4, d5, d6] => { results := [.lit (.bool true)], args := [d1, d2, d3, d4, d5, d6] }
  | _ => none }
def loginGoneRow : OpenClaim := { program := "ytkkajbnonfnbjaa", sum := "313871c3d4732fa668266177401296954dd0c942036984ee0cec025adae1b7e3", func := "wharfinger/wharfingerlaw17.LoginGone", spec := "loginGone", inPlace := ["internal/bytealg.IndexByteString", "internal/bytealg.IndexString"], named := ["internal/bytealg.MaxLen"], plainKeys := false, apart := false }
def LoginGoneSaid : Prop := loginGoneRow.holds Try.pinned (OpenSpec.ofChange loginGoneSpec)

/-- ITS FALSE NEIGHBOUR: 'it returns false'. Refute it at one input. -/
def loginGoneWrong : ChangeSpec := { name := "loginGone", fn := fun _ => fun
  | [d1, d2, d3, d4, d5, d6] => { results := [.lit (.bool false)], args := [d1, d2, d3, d4, d5, d6] }
  | _ => none }
def LoginGoneWrongFalsely : Prop := loginGoneRow.holds Try.pinned (OpenSpec.ofChange loginGoneWrong)

/- THE SECOND FORM. 'bulk': how many values and letters a reading holds, each counted each time it is reached (what is shared counts as often as it is met; a slice's spare places count too). A statement '..UptoSaid' is the law's where the arguments, and the package variables that the reading takes, are together of bulk at most 1048576: NARROWER than '..Said'. Prove '..Said' where nothing that the law and all that it calls make is longer than what came in: it says more and counts as full. Else prove '..UptoSaid'. A law counts once. -/
mutual
def uptoBulk {H : Type} : DataW H → Nat
  | .lit (.string bytes) => bytes.length + 1
  | .lit _ => 1
  | .nil => 1
  | .ptr d => uptoBulk d + 1
  | .slice elems spare => uptoBulkAll elems + uptoBulkAll spare + 1
  | .agg parts => uptoBulkAll parts + 1
  | .iface _ d => uptoBulk d + 1
  | .map entries => uptoBulkEntries entries + 1
  | .held _ => 1
def uptoBulkAll {H : Type} : List (DataW H) → Nat
  | [] => 0
  | d :: r => uptoBulk d + uptoBulkAll r
def uptoBulkEntries {H : Type} : List (Lit × DataW H) → Nat
  | [] => 0
  | x :: r => uptoBulkEntry x + uptoBulkEntries r
def uptoBulkEntry {H : Type} : Lit × DataW H → Nat
  | (.string bytes, d) => bytes.length + uptoBulk d + 1
  | (_, d) => uptoBulk d + 1
 end
def uptoSmall : (H : Type) → List (DataW H) → Bool := fun _ ds => decide (uptoBulkAll ds ≤ 1048576)
def OpenSpec.upto (s : _root_.Go.ChangeSpec) : _root_.Go.OpenSpec := { _root_.Go.OpenSpec.ofChange s with cond := some uptoSmall }

/-- 'wharfingerlaw17.LoginGoes', WHERE WHAT IT READS IS OF BULK AT MOST 1048576: true; the input reads as it did. -/
def loginGoesUptoRow : OpenClaim := { program := "ytkkajbnonfnbjaa", sum := "313871c3d4732fa668266177401296954dd0c942036984ee0cec025adae1b7e3", func := "wharfinger/wharfingerlaw17.LoginGoes", spec := "loginGoes", inPlace := ["internal/bytealg.IndexByteString", "internal/bytealg.IndexString"], named := ["internal/bytealg.MaxLen"], plainKeys := false, apart := false, narrowed := true }
def LoginGoesUptoSaid : Prop := loginGoesUptoRow.holds Try.pinned (OpenSpec.upto loginGoesSpec)

/-- 'wharfingerlaw17.LoginMay', WHERE WHAT IT READS IS OF BULK AT MOST 1048576: true; the input reads as it did. -/
def loginMayUptoRow : OpenClaim := { program := "ytkkajbnonfnbjaa", sum := "313871c3d4732fa668266177401296954dd0c942036984ee0cec025adae1b7e3", func := "wharfinger/wharfingerlaw17.LoginMay", spec := "loginMay", inPlace := ["internal/bytealg.IndexByteString", "internal/bytealg.IndexString"], named := ["internal/bytealg.MaxLen"], plainKeys := false, apart := false, narrowed := true }
def LoginMayUptoSaid : Prop := loginMayUptoRow.holds Try.pinned (OpenSpec.upto loginMaySpec)

/-- 'wharfingerlaw17.LoginIn', WHERE WHAT IT READS IS OF BULK AT MOST 1048576: true; the input reads as it did. -/
def loginInUptoRow : OpenClaim := { program := "ytkkajbnonfnbjaa", sum := "313871c3d4732fa668266177401296954dd0c942036984ee0cec025adae1b7e3", func := "wharfinger/wharfingerlaw17.LoginIn", spec := "loginIn", inPlace := ["internal/bytealg.IndexByteString", "internal/bytealg.IndexString"], named := ["internal/bytealg.MaxLen"], plainKeys := false, apart := false, narrowed := true }
def LoginInUptoSaid : Prop := loginInUptoRow.holds Try.pinned (OpenSpec.upto loginInSpec)

/-- 'wharfingerlaw17.LoginWhom', WHERE WHAT IT READS IS OF BULK AT MOST 1048576: true; the input reads as it did. -/
def loginWhomUptoRow : OpenClaim := { program := "ytkkajbnonfnbjaa", sum := "313871c3d4732fa668266177401296954dd0c942036984ee0cec025adae1b7e3", func := "wharfinger/wharfingerlaw17.LoginWhom", spec := "loginWhom", inPlace := ["internal/bytealg.IndexByteString", "internal/bytealg.IndexString"], named := ["internal/bytealg.MaxLen"], plainKeys := false, apart := false, narrowed := true }
def LoginWhomUptoSaid : Prop := loginWhomUptoRow.holds Try.pinned (OpenSpec.upto loginWhomSpec)

/-- 'wharfingerlaw17.LoginOut', WHERE WHAT IT READS IS OF BULK AT MOST 1048576: true; the input reads as it did. -/
def loginOutUptoRow : OpenClaim := { program := "ytkkajbnonfnbjaa", sum := "313871c3d4732fa668266177401296954dd0c942036984ee0cec025adae1b7e3", func := "wharfinger/wharfingerlaw17.LoginOut", spec := "loginOut", inPlace := ["internal/bytealg.IndexByteString", "internal/bytealg.IndexString"], named := ["internal/bytealg.MaxLen"], plainKeys := false, apart := false, narrowed := true }
def LoginOutUptoSaid : Prop := loginOutUptoRow.holds Try.pinned (OpenSpec.upto loginOutSpec)

/-- 'wharfingerlaw17.LoginWaits', WHERE WHAT IT READS IS OF BULK AT MOST 1048576: true; the input reads as it did. -/
def loginWaitsUptoRow : OpenClaim := { program := "ytkkajbnonfnbjaa", sum := "313871c3d4732fa668266177401296954dd0c942036984ee0cec025adae1b7e3", func := "wharfinger/wharfingerlaw17.LoginWaits", spec := "loginWaits", inPlace := ["internal/bytealg.IndexByteString", "internal/bytealg.IndexString"], named := ["internal/bytealg.MaxLen"], plainKeys := false, apart := false, narrowed := true }
def LoginWaitsUptoSaid : Prop := loginWaitsUptoRow.holds Try.pinned (OpenSpec.upto loginWaitsSpec)

/-- 'wharfingerlaw17.LoginGone', WHERE WHAT IT READS IS OF BULK AT MOST 1048576: true; the input reads as it did. -/
def loginGoneUptoRow : OpenClaim := { program := "ytkkajbnonfnbjaa", sum := "313871c3d4732fa668266177401296954dd0c942036984ee0cec025adae1b7e3", func := "wharfinger/wharfingerlaw17.LoginGone", spec := "loginGone", inPlace := ["internal/bytealg.IndexByteString", "internal/bytealg.IndexString"], named := ["internal/bytealg.MaxLen"], plainKeys := false, apart := false, narrowed := true }
def LoginGoneUptoSaid : Prop := loginGoneUptoRow.holds Try.pinned (OpenSpec.upto loginGoneSpec)

end Rows
end Go.Proofs.Ytkkajbnonfnbjaa
