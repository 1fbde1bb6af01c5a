/-
  DERIVED. GIVEN WITH THE SEED: THE CARDS: each row of YtdimfppijcebjaaGreatDoorRows.lean that lists a variable, with what it lists TIED to the program's text (the seventh form; the later family's looks); each row that meets fmt, with fmt's text TOLD by the authors' own Lean function (tested against real Go, not proved from fmt's source: count such statements apart). THE CARD IS WHAT COUNTS. Prove the row's statement (the work); the ties are given (YtdimfppijcebjaaGreatDoorTie.lean); close each card by the builder's one call (the guide's Derived/Test/ToyasCard.lean, 'card_holds'). Laid BY PROGRAM, IN A SANDBOX (cutbox-door.mjs). By AI agents, Wed Nov 11 2026. No macro, syntax, notation, axiom, sorry.
-/
import Derived.Test.YtdimfppijcebjaaGreatDoorRows
import GoSem.ClaimSeven
namespace Go.Proofs.YtdimfppijcebjaaGreatDoor
namespace Rows

/-- THE TIED CARD OF 'wharfingerlaw19.TurnTells'. -/
def turnTellsCard : Claim7 := { stood := { row := turnTellsRow, standIns := [], harness := (true, "fede3d410e652c04e2e78a11bb7e676d865ee77342d49a8ca4940e20993939eb"), looks := true }, kinds := [], alts := [], laidByText := true, laidKinds := [.data, .data, .data, .data, .handle, .sentinel, .sentinel, .sentinel, .sentinel, .sentinel, .sentinel, .sentinel, .sentinel, .pinned], laidTests := true, laidLooks := .later }
def TurnTellsCardSaid : Prop := Claim7.holds Tryz.pinned (.plain (OpenSpec.ofChange turnTellsSpec)) turnTellsCard

/-- THE TIED CARD OF 'wharfingerlaw19.TurnBack'. -/
def turnBackCard : Claim7 := { stood := { row := turnBackRow, standIns := [], harness := (true, "fede3d410e652c04e2e78a11bb7e676d865ee77342d49a8ca4940e20993939eb"), looks := true }, kinds := [], alts := [], laidByText := true, laidKinds := [.data, .data, .data, .data, .handle, .sentinel, .sentinel, .sentinel, .sentinel, .sentinel, .sentinel, .sentinel, .sentinel, .pinned], laidTests := true, laidLooks := .later }
def TurnBackCardSaid : Prop := Claim7.holds Tryz.pinned (.plain (OpenSpec.ofChange turnBackSpec)) turnBackCard

/-- THE TIED CARD OF 'wharfingerlaw19.TurnOwn'. -/
def turnOwnCard : Claim7 := { stood := { row := turnOwnRow, standIns := [], harness := (true, "fede3d410e652c04e2e78a11bb7e676d865ee77342d49a8ca4940e20993939eb"), looks := true }, kinds := [], alts := [], laidByText := true, laidKinds := [.data, .data, .data, .data, .handle, .sentinel, .sentinel, .sentinel, .sentinel, .sentinel, .sentinel, .sentinel, .sentinel, .pinned], laidTests := true, laidLooks := .later }
def TurnOwnCardSaid : Prop := Claim7.holds Tryz.pinned (.plain (OpenSpec.ofChange turnOwnSpec)) turnOwnCard

/-- THE TIED CARD OF 'wharfingerlaw19.TurnOnly'. -/
def turnOnlyCard : Claim7 := { stood := { row := turnOnlyRow, standIns := [], harness := (true, "fede3d410e652c04e2e78a11bb7e676d865ee77342d49a8ca4940e20993939eb"), looks := true }, kinds := [], alts := [], laidByText := true, laidKinds := [.data, .data, .data, .data, .handle, .sentinel, .sentinel, .sentinel, .sentinel, .sentinel, .sentinel, .sentinel, .sentinel, .pinned], laidTests := true, laidLooks := .later }
def TurnOnlyCardSaid : Prop := Claim7.holds Tryz.pinned (.plain (OpenSpec.ofChange turnOnlySpec)) turnOnlyCard

/-- THE TIED CARD OF 'wharfingerlaw19.TurnLines'. -/
def turnLinesCard : Claim7 := { stood := { row := turnLinesRow, standIns := [], harness := (true, "fede3d410e652c04e2e78a11bb7e676d865ee77342d49a8ca4940e20993939eb"), looks := true }, kinds := [], alts := [], laidByText := true, laidKinds := [.data, .data, .data, .data, .handle, .sentinel, .sentinel, .sentinel, .sentinel, .sentinel, .sentinel, .sentinel, .sentinel, .pinned], laidTests := true, laidLooks := .later }
def TurnLinesCardSaid : Prop := Claim7.holds Tryz.pinned (.plain (OpenSpec.ofChange turnLinesSpec)) turnLinesCard

/-- THE SECOND FORM's CARD OF 'wharfingerlaw19.TurnTells'. -/
def turnTellsUptoCard : Claim7 := { stood := { row := turnTellsUptoRow, standIns := [], harness := (true, "fede3d410e652c04e2e78a11bb7e676d865ee77342d49a8ca4940e20993939eb"), looks := true }, kinds := [], alts := [], laidByText := true, laidKinds := [.data, .data, .data, .data, .handle, .sentinel, .sentinel, .sentinel, .sentinel, .sentinel, .sentinel, .sentinel, .sentinel, .pinned], laidTests := true, laidLooks := .later }
def TurnTellsUptoCardSaid : Prop := Claim7.holds Tryz.pinned (.plain (OpenSpec.upto turnTellsSpec)) turnTellsUptoCard

/-- THE SECOND FORM's CARD OF 'wharfingerlaw19.TurnBack'. -/
def turnBackUptoCard : Claim7 := { stood := { row := turnBackUptoRow, standIns := [], harness := (true, "fede3d410e652c04e2e78a11bb7e676d865ee77342d49a8ca4940e20993939eb"), looks := true }, kinds := [], alts := [], laidByText := true, laidKinds := [.data, .data, .data, .data, .handle, .sentinel, .sentinel, .sentinel, .sentinel, .sentinel, .sentinel, .sentinel, .sentinel, .pinned], laidTests := true, laidLooks := .later }
def TurnBackUptoCardSaid : Prop := Claim7.holds Tryz.pinned (.plain (OpenSpec.upto turnBackSpec)) turnBackUptoCard

/-- THE SECOND FORM's CARD OF 'wharfingerlaw19.TurnOwn'. -/
def turnOwnUptoCard : Claim7 := { stood := { row := turnOwnUptoRow, standIns := [], harness := (true, "fede3d410e652c04e2e78a11bb7e676d865ee77342d49a8ca4940e20993939eb"), looks := true }, kinds := [], alts := [], laidByText := true, laidKinds := [.data, .data, .data, .data, .handle, .sentinel, .sentinel, .sentinel, .sentinel, .sentinel, .sentinel, .sentinel, .sentinel, .pinned], laidTests := true, laidLooks := .later }
def TurnOwnUptoCardSaid : Prop := Claim7.holds Tryz.pinned (.plain (OpenSpec.upto turnOwnSpec)) turnOwnUptoCard

/-- THE SECOND FORM's CARD OF 'wharfingerlaw19.TurnOnly'. -/
def turnOnlyUptoCard : Claim7 := { stood := { row := turnOnlyUptoRow, standIns := [], harness := (true, "fede3d410e652c04e2e78a11bb7e676d865ee77342d49a8ca4940e20993939eb"), looks := true }, kinds := [], alts := [], laidByText := true, laidKinds := [.data, .data, .data, .data, .handle, .sentinel, .sentinel, .sentinel, .sentinel, .sentinel, .sentinel, .sentinel, .sentinel, .pinned], laidTests := true, laidLooks := .later }
def TurnOnlyUptoCardSaid : Prop := Claim7.holds Tryz.pinned (.plain (OpenSpec.upto turnOnlySpec)) turnOnlyUptoCard

/-- THE SECOND FORM's CARD OF 'wharfingerlaw19.TurnLines'. -/
def turnLinesUptoCard : Claim7 := { stood := { row := turnLinesUptoRow, standIns := [], harness := (true, "fede3d410e652c04e2e78a11bb7e676d865ee77342d49a8ca4940e20993939eb"), looks := true }, kinds := [], alts := [], laidByText := true, laidKinds := [.data, .data, .data, .data, .handle, .sentinel, .sentinel, .sentinel, .sentinel, .sentinel, .sentinel, .sentinel, .sentinel, .pinned], laidTests := true, laidLooks := .later }
def TurnLinesUptoCardSaid : Prop := Claim7.holds Tryz.pinned (.plain (OpenSpec.upto turnLinesSpec)) turnLinesUptoCard
end Rows
end Go.Proofs.YtdimfppijcebjaaGreatDoor
