/-
  No cell of these rows narrows 'for every input' (looked for: loops, veiled, ifaces, maps, wideKeys, modest, calm, conditions, laid).
  DERIVED. THE GIVEN ROWS OF THIS SEAT. 5 by the template 'for every input the law returns true; each argument reads behind the call as it read before'; 0 by the template 'total and deterministic' (their statements: YtipagdnkmeaicaaTotals.lean).
  GIVEN WITH THE SEED: the statements are not yours to turn. If you find one false, say at which input.
  Laid BY PROGRAM, IN A SANDBOX (cutbox-rows.mjs): the forced cells as the released guide's own fill.sh prints them over the translation bc8a4318b452105c… (all of the seat's roots in one cut). By AI agents, Wed Nov 11 2026. No macro, syntax, notation, axiom, sorry.
-/
import Derived.Test.YtipagdnkmeaicaaChecked
import GoSem.Claim
import GoSem.ClaimJoined
import GoSem.ClaimMapViews
import Derived.JoinedTies
import Derived.KernelRfl
namespace Go.Proofs.Ytipagdnkmeaicaa
/- THE CELL 'sum', in the pinned program and in every row, IS THE sha256 OF THE DUMP (.gsa) THAT YtipagdnkmeaicaaProg.lean LOADS. Nothing in Lean hashes anything: it is a label: what it is worth is what the hold of that sum in a sandbox is worth. -/
noncomputable def Try.pinned : Pinned := { name := "ytipagdnkmeaicaa", sum := "bc8a4318b452105c1b094f6f62e174e247910f95fc65f3296c0ffcc9cc2e3c81", checked := Try.checked }
namespace Rows
def none {H : Type} : Left H := { results := [], args := [] }

/-- 'wharfingerlaw14.QuotaTakes': WHATEVER THE INPUT: true; the input reads as it did. -/
def quotaTakesSpec : ChangeSpec := { name := "quotaTakes", fn := fun _ => fun
  | [d1, d2, d3, d4, d5, d6] => { results := [.lit (.bool true)], args := [d1, d2, d3, d4, d5, d6] }
  | _ => none }
def quotaTakesRow : OpenClaim := { program := "ytipagdnkmeaicaa", sum := "bc8a4318b452105c1b094f6f62e174e247910f95fc65f3296c0ffcc9cc2e3c81", func := "wharfinger/wharfingerlaw14.QuotaTakes", spec := "quotaTakes", apart := false }
def QuotaTakesSaid : Prop := quotaTakesRow.holds Try.pinned (OpenSpec.ofChange quotaTakesSpec)

/-- ITS FALSE NEIGHBOUR: 'it returns false'. Refute it at one input. -/
def quotaTakesWrong : ChangeSpec := { name := "quotaTakes", fn := fun _ => fun
  | [d1, d2, d3, d4, d5, d6] => { results := [.lit (.bool false)], args := [d1, d2, d3, d4, d5, d6] }
  | _ => none }
def QuotaTakesWrongFalsely : Prop := quotaTakesRow.holds Try.pinned (OpenSpec.ofChange quotaTakesWrong)

/-- 'wharfingerlaw14.QuotaBounds': WHATEVER THE INPUT: true; the input reads as it did. -/
def quotaBoundsSpec : ChangeSpec := { name := "quotaBounds", fn := fun _ => fun
  | [d1, d2, d3, d4, d5] => { results := [.lit (.bool true)], args := [d1, d2, d3, d4, d5] }
  | _ => none }
def quotaBoundsRow : OpenClaim := { program := "ytipagdnkmeaicaa", sum := "bc8a4318b452105c1b094f6f62e174e247910f95fc65f3296c0ffcc9cc2e3c81", func := "wharfinger/wharfingerlaw14.QuotaBounds", spec := "quotaBounds", apart := false }
def QuotaBoundsSaid : Prop := quotaBoundsRow.holds Try.pinned (OpenSpec.ofChange quotaBoundsSpec)

/-- ITS FALSE NEIGHBOUR: 'it returns false'. Refute it at one input. -/
def quotaBoundsWrong : ChangeSpec := { name := "quotaBounds", fn := fun _ => fun
  | [d1, d2, d3, d4, d5] => { results := [.lit (.bool false)], args := [d1, d2, d3, d4, d5] }
  | _ => none }
def QuotaBoundsWrongFalsely : Prop := quotaBoundsRow.holds Try.pinned (OpenSpec.ofChange quotaBoundsWrong)

/-- 'wharfingerlaw14.QuotaTwice': WHATEVER THE INPUT: true; the input reads as it did. -/
def quotaTwiceSpec : ChangeSpec := { name := "quotaTwice", fn := fun _ => fun
  | [d1, d2, d3, d4, d5, d6] => { results := [.lit (.bool true)], args := [d1, d2, d3, d4, d5, d6] }
  | _ => none }
def quotaTwiceRow : OpenClaim := { program := "ytipagdnkmeaicaa", sum := "bc8a4318b452105c1b094f6f62e174e247910f95fc65f3296c0ffcc9cc2e3c81", func := "wharfinger/wharfingerlaw14.QuotaTwice", spec := "quotaTwice", apart := false }
def QuotaTwiceSaid : Prop := quotaTwiceRow.holds Try.pinned (OpenSpec.ofChange quotaTwiceSpec)

/-- ITS FALSE NEIGHBOUR: 'it returns false'. Refute it at one input. -/
def quotaTwiceWrong : ChangeSpec := { name := "quotaTwice", fn := fun _ => fun
  | [d1, d2, d3, d4, d5, d6] => { results := [.lit (.bool false)], args := [d1, d2, d3, d4, d5, d6] }
  | _ => none }
def QuotaTwiceWrongFalsely : Prop := quotaTwiceRow.holds Try.pinned (OpenSpec.ofChange quotaTwiceWrong)

/-- 'wharfingerlaw14.QuotaCuts': WHATEVER THE INPUT: true; the input reads as it did. -/
def quotaCutsSpec : ChangeSpec := { name := "quotaCuts", fn := fun _ => fun
  | [d1, d2] => { results := [.lit (.bool true)], args := [d1, d2] }
  | _ => none }
def quotaCutsRow : OpenClaim := { program := "ytipagdnkmeaicaa", sum := "bc8a4318b452105c1b094f6f62e174e247910f95fc65f3296c0ffcc9cc2e3c81", func := "wharfinger/wharfingerlaw14.QuotaCuts", spec := "quotaCuts", apart := false }
def QuotaCutsSaid : Prop := quotaCutsRow.holds Try.pinned (OpenSpec.ofChange quotaCutsSpec)

/-- ITS FALSE NEIGHBOUR: 'it returns false'. Refute it at one input. -/
def quotaCutsWrong : ChangeSpec := { name := "quotaCuts", fn := fun _ => fun
  | [d1, d2] => { results := [.lit (.bool false)], args := [d1, d2] }
  | _ => none }
def QuotaCutsWrongFalsely : Prop := quotaCutsRow.holds Try.pinned (OpenSpec.ofChange quotaCutsWrong)

/-- 'wharfingerlaw14.QuotaNone': WHATEVER THE INPUT: true; the input reads as it did. -/
def quotaNoneSpec : ChangeSpec := { name := "quotaNone", fn := fun _ => fun
  | [d1, d2, d3, d4] => { results := [.lit (.bool true)], args := [d1, d2, d3, d4] }
  | _ => none }
def quotaNoneRow : OpenClaim := { program := "ytipagdnkmeaicaa", sum := "bc8a4318b452105c1b094f6f62e174e247910f95fc65f3296c0ffcc9cc2e3c81", func := "wharfinger/wharfingerlaw14.QuotaNone", spec := "quotaNone", apart := false }
def QuotaNoneSaid : Prop := quotaNoneRow.holds Try.pinned (OpenSpec.ofChange quotaNoneSpec)

/-- ITS FALSE NEIGHBOUR: 'it returns false'. Refute it at one input. -/
def quotaNoneWrong : ChangeSpec := { name := "quotaNone", fn := fun _ => fun
  | [d1, d2, d3, d4] => { results := [.lit (.bool false)], args := [d1, d2, d3, d4] }
  | _ => none }
def QuotaNoneWrongFalsely : Prop := quotaNoneRow.holds Try.pinned (OpenSpec.ofChange quotaNoneWrong)

/- THE SECOND FORM. 'bulk': how many values and letters a reading holds, each counted each time it is reached (what is shared counts as often as it is met; a slice's spare places count too). A statement '..UptoSaid' is the law's where the arguments, and the package variables that the reading takes, are together of bulk at most 1048576: NARROWER than '..Said'. Prove '..Said' where nothing that the law and all that it calls make is longer than what came in: it says more and counts as full. Else prove '..UptoSaid'. A law counts once. -/
mutual
def uptoBulk {H : Type} : DataW H → Nat
  | .lit (.string bytes) => bytes.length + 1
  | .lit _ => 1
  | .nil => 1
  | .ptr d => uptoBulk d + 1
  | .slice elems spare => uptoBulkAll elems + uptoBulkAll spare + 1
  | .agg parts => uptoBulkAll parts + 1
  | .iface _ d => uptoBulk d + 1
  | .map entries => uptoBulkEntries entries + 1
  | .held _ => 1
def uptoBulkAll {H : Type} : List (DataW H) → Nat
  | [] => 0
  | d :: r => uptoBulk d + uptoBulkAll r
def uptoBulkEntries {H : Type} : List (Lit × DataW H) → Nat
  | [] => 0
  | x :: r => uptoBulkEntry x + uptoBulkEntries r
def uptoBulkEntry {H : Type} : Lit × DataW H → Nat
  | (.string bytes, d) => bytes.length + uptoBulk d + 1
  | (_, d) => uptoBulk d + 1
 end
def uptoSmall : (H : Type) → List (DataW H) → Bool := fun _ ds => decide (uptoBulkAll ds ≤ 1048576)
def OpenSpec.upto (s : _root_.Go.ChangeSpec) : _root_.Go.OpenSpec := { _root_.Go.OpenSpec.ofChange s with cond := some uptoSmall }

/-- 'wharfingerlaw14.QuotaTakes', WHERE WHAT IT READS IS OF BULK AT MOST 1048576: true; the input reads as it did. -/
def quotaTakesUptoRow : OpenClaim := { program := "ytipagdnkmeaicaa", sum := "bc8a4318b452105c1b094f6f62e174e247910f95fc65f3296c0ffcc9cc2e3c81", func := "wharfinger/wharfingerlaw14.QuotaTakes", spec := "quotaTakes", apart := false, narrowed := true }
def QuotaTakesUptoSaid : Prop := quotaTakesUptoRow.holds Try.pinned (OpenSpec.upto quotaTakesSpec)

/-- 'wharfingerlaw14.QuotaBounds', WHERE WHAT IT READS IS OF BULK AT MOST 1048576: true; the input reads as it did. -/
def quotaBoundsUptoRow : OpenClaim := { program := "ytipagdnkmeaicaa", sum := "bc8a4318b452105c1b094f6f62e174e247910f95fc65f3296c0ffcc9cc2e3c81", func := "wharfinger/wharfingerlaw14.QuotaBounds", spec := "quotaBounds", apart := false, narrowed := true }
def QuotaBoundsUptoSaid : Prop := quotaBoundsUptoRow.holds Try.pinned (OpenSpec.upto quotaBoundsSpec)

/-- 'wharfingerlaw14.QuotaTwice', WHERE WHAT IT READS IS OF BULK AT MOST 1048576: true; the input reads as it did. -/
def quotaTwiceUptoRow : OpenClaim := { program := "ytipagdnkmeaicaa", sum := "bc8a4318b452105c1b094f6f62e174e247910f95fc65f3296c0ffcc9cc2e3c81", func := "wharfinger/wharfingerlaw14.QuotaTwice", spec := "quotaTwice", apart := false, narrowed := true }
def QuotaTwiceUptoSaid : Prop := quotaTwiceUptoRow.holds Try.pinned (OpenSpec.upto quotaTwiceSpec)

/-- 'wharfingerlaw14.QuotaCuts', WHERE WHAT IT READS IS OF BULK AT MOST 1048576: true; the input reads as it did. -/
def quotaCutsUptoRow : OpenClaim := { program := "ytipagdnkmeaicaa", sum := "bc8a4318b452105c1b094f6f62e174e247910f95fc65f3296c0ffcc9cc2e3c81", func := "wharfinger/wharfingerlaw14.QuotaCuts", spec := "quotaCuts", apart := false, narrowed := true }
def QuotaCutsUptoSaid : Prop := quotaCutsUptoRow.holds Try.pinned (OpenSpec.upto quotaCutsSpec)

/-- 'wharfingerlaw14.QuotaNone', WHERE WHAT IT READS IS OF BULK AT MOST 1048576: true; the input reads as it did. -/
def quotaNoneUptoRow : OpenClaim := { program := "ytipagdnkmeaicaa", sum := "bc8a4318b452105c1b094f6f62e174e247910f95fc65f3296c0ffcc9cc2e3c81", func := "wharfinger/wharfingerlaw14.QuotaNone", spec := "quotaNone", apart := false, narrowed := true }
def QuotaNoneUptoSaid : Prop := quotaNoneUptoRow.holds Try.pinned (OpenSpec.upto quotaNoneSpec)

end Rows
end Go.Proofs.Ytipagdnkmeaicaa
