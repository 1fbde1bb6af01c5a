/-
  DERIVED. GIVEN WITH THE SEED: THE CARDS: each row of YtmodmfkcigibpaaDoorRows.lean that lists a variable, with what it lists TIED to the program's text (the seventh form; the later family's looks); each row that meets fmt, with fmt's text TOLD by the authors' own Lean function (tested against real Go, not proved from fmt's source: count such statements apart). THE CARD IS WHAT COUNTS. Prove the row's statement (the work); the ties are given (YtmodmfkcigibpaaDoorTie.lean); close each card by the builder's one call (the guide's Derived/Test/ToyasCard.lean, 'card_holds'). Laid BY PROGRAM, IN A SANDBOX (cutbox-door.mjs). By AI agents, Wed Nov 11 2026. No macro, syntax, notation, axiom, sorry.
-/
import Derived.Test.YtmodmfkcigibpaaDoorRows
import GoSem.ClaimSeven
namespace Go.Proofs.YtmodmfkcigibpaaDoor
namespace Rows

/-- THE TIED CARD OF 'wharfingerlaw13.ConfTells'. -/
def confTellsCard : Claim7 := { stood := { row := confTellsRow, standIns := [], harness := (true, "2dae12b8fcac41fc0b1365f05a74233dc510f5c9ce75781a62de5661d9a0eb89"), looks := true }, kinds := [], alts := [], laidByText := true, laidKinds := [.data, .handle, .sentinel, .sentinel, .sentinel, .pinned], laidTests := true, laidLooks := .later }
def ConfTellsCardSaid : Prop := Claim7.holds Tryd.pinned (.plain (OpenSpec.ofChange confTellsSpec)) confTellsCard

/-- THE TIED CARD OF 'wharfingerlaw13.ConfErrors'. -/
def confErrorsCard : Claim7 := { stood := { row := confErrorsRow, standIns := [], harness := (true, "2dae12b8fcac41fc0b1365f05a74233dc510f5c9ce75781a62de5661d9a0eb89"), looks := true }, kinds := [], alts := [], laidByText := true, laidKinds := [.data, .handle, .sentinel, .sentinel, .sentinel, .pinned], laidTests := true, laidLooks := .later }
def ConfErrorsCardSaid : Prop := Claim7.holds Tryd.pinned (.plain (OpenSpec.ofChange confErrorsSpec)) confErrorsCard

/-- THE TIED CARD OF 'wharfingerlaw13.ConfApart'. -/
def confApartCard : Claim7 := { stood := { row := confApartRow, standIns := [], harness := (true, "2dae12b8fcac41fc0b1365f05a74233dc510f5c9ce75781a62de5661d9a0eb89"), looks := true }, kinds := [], alts := [], laidByText := true, laidKinds := [.data, .handle, .sentinel, .sentinel, .sentinel, .pinned], laidTests := true, laidLooks := .later }
def ConfApartCardSaid : Prop := Claim7.holds Tryd.pinned (.plain (OpenSpec.ofChange confApartSpec)) confApartCard

/-- THE TIED CARD OF 'wharfingerlaw13.ConfFirst'. -/
def confFirstCard : Claim7 := { stood := { row := confFirstRow, standIns := [], harness := (true, "2dae12b8fcac41fc0b1365f05a74233dc510f5c9ce75781a62de5661d9a0eb89"), looks := true }, kinds := [], alts := [], laidByText := true, laidKinds := [.data, .handle, .sentinel, .sentinel, .sentinel, .pinned], laidTests := true, laidLooks := .later }
def ConfFirstCardSaid : Prop := Claim7.holds Tryd.pinned (.plain (OpenSpec.ofChange confFirstSpec)) confFirstCard

/-- THE TIED CARD OF 'wharfingerlaw13.ConfTwice'. -/
def confTwiceCard : Claim7 := { stood := { row := confTwiceRow, standIns := [], harness := (true, "2dae12b8fcac41fc0b1365f05a74233dc510f5c9ce75781a62de5661d9a0eb89"), looks := true }, kinds := [], alts := [], laidByText := true, laidKinds := [.data, .handle, .sentinel, .sentinel, .sentinel, .pinned], laidTests := true, laidLooks := .later }
def ConfTwiceCardSaid : Prop := Claim7.holds Tryd.pinned (.plain (OpenSpec.ofChange confTwiceSpec)) confTwiceCard

/-- THE TIED CARD OF 'wharfingerlaw13.ConfPorts'. -/
def confPortsCard : Claim7 := { stood := { row := confPortsRow, standIns := [], harness := (true, "2dae12b8fcac41fc0b1365f05a74233dc510f5c9ce75781a62de5661d9a0eb89"), looks := true }, kinds := [], alts := [], laidByText := true, laidKinds := [.data, .handle, .sentinel, .sentinel, .sentinel, .pinned], laidTests := true, laidLooks := .later }
def ConfPortsCardSaid : Prop := Claim7.holds Tryd.pinned (.plain (OpenSpec.ofChange confPortsSpec)) confPortsCard

/-- THE SECOND FORM's CARD OF 'wharfingerlaw13.ConfTells'. -/
def confTellsUptoCard : Claim7 := { stood := { row := confTellsUptoRow, standIns := [], harness := (true, "2dae12b8fcac41fc0b1365f05a74233dc510f5c9ce75781a62de5661d9a0eb89"), looks := true }, kinds := [], alts := [], laidByText := true, laidKinds := [.data, .handle, .sentinel, .sentinel, .sentinel, .pinned], laidTests := true, laidLooks := .later }
def ConfTellsUptoCardSaid : Prop := Claim7.holds Tryd.pinned (.plain (OpenSpec.upto confTellsSpec)) confTellsUptoCard

/-- THE SECOND FORM's CARD OF 'wharfingerlaw13.ConfErrors'. -/
def confErrorsUptoCard : Claim7 := { stood := { row := confErrorsUptoRow, standIns := [], harness := (true, "2dae12b8fcac41fc0b1365f05a74233dc510f5c9ce75781a62de5661d9a0eb89"), looks := true }, kinds := [], alts := [], laidByText := true, laidKinds := [.data, .handle, .sentinel, .sentinel, .sentinel, .pinned], laidTests := true, laidLooks := .later }
def ConfErrorsUptoCardSaid : Prop := Claim7.holds Tryd.pinned (.plain (OpenSpec.upto confErrorsSpec)) confErrorsUptoCard

/-- THE SECOND FORM's CARD OF 'wharfingerlaw13.ConfApart'. -/
def confApartUptoCard : Claim7 := { stood := { row := confApartUptoRow, standIns := [], harness := (true, "2dae12b8fcac41fc0b1365f05a74233dc510f5c9ce75781a62de5661d9a0eb89"), looks := true }, kinds := [], alts := [], laidByText := true, laidKinds := [.data, .handle, .sentinel, .sentinel, .sentinel, .pinned], laidTests := true, laidLooks := .later }
def ConfApartUptoCardSaid : Prop := Claim7.holds Tryd.pinned (.plain (OpenSpec.upto confApartSpec)) confApartUptoCard

/-- THE SECOND FORM's CARD OF 'wharfingerlaw13.ConfFirst'. -/
def confFirstUptoCard : Claim7 := { stood := { row := confFirstUptoRow, standIns := [], harness := (true, "2dae12b8fcac41fc0b1365f05a74233dc510f5c9ce75781a62de5661d9a0eb89"), looks := true }, kinds := [], alts := [], laidByText := true, laidKinds := [.data, .handle, .sentinel, .sentinel, .sentinel, .pinned], laidTests := true, laidLooks := .later }
def ConfFirstUptoCardSaid : Prop := Claim7.holds Tryd.pinned (.plain (OpenSpec.upto confFirstSpec)) confFirstUptoCard

/-- THE SECOND FORM's CARD OF 'wharfingerlaw13.ConfTwice'. -/
def confTwiceUptoCard : Claim7 := { stood := { row := confTwiceUptoRow, standIns := [], harness := (true, "2dae12b8fcac41fc0b1365f05a74233dc510f5c9ce75781a62de5661d9a0eb89"), looks := true }, kinds := [], alts := [], laidByText := true, laidKinds := [.data, .handle, .sentinel, .sentinel, .sentinel, .pinned], laidTests := true, laidLooks := .later }
def ConfTwiceUptoCardSaid : Prop := Claim7.holds Tryd.pinned (.plain (OpenSpec.upto confTwiceSpec)) confTwiceUptoCard

/-- THE SECOND FORM's CARD OF 'wharfingerlaw13.ConfPorts'. -/
def confPortsUptoCard : Claim7 := { stood := { row := confPortsUptoRow, standIns := [], harness := (true, "2dae12b8fcac41fc0b1365f05a74233dc510f5c9ce75781a62de5661d9a0eb89"), looks := true }, kinds := [], alts := [], laidByText := true, laidKinds := [.data, .handle, .sentinel, .sentinel, .sentinel, .pinned], laidTests := true, laidLooks := .later }
def ConfPortsUptoCardSaid : Prop := Claim7.holds Tryd.pinned (.plain (OpenSpec.upto confPortsSpec)) confPortsUptoCard
end Rows
end Go.Proofs.YtmodmfkcigibpaaDoor
