/-
  DERIVED. GIVEN WITH THE SEED: THE CARDS: each row of YtojpahnfhhbnoaaDoorRows.lean that lists a variable, with what it lists TIED to the program's text (the seventh form; the later family's looks); each row that meets fmt, with fmt's text TOLD by the authors' own Lean function (tested against real Go, not proved from fmt's source: count such statements apart). THE CARD IS WHAT COUNTS. Prove the row's statement (the work); the ties are given (YtojpahnfhhbnoaaDoorTie.lean); close each card by the builder's one call (the guide's Derived/Test/ToyasCard.lean, 'card_holds'). Laid BY PROGRAM, IN A SANDBOX (cutbox-door.mjs). By AI agents, Wed Nov 11 2026. No macro, syntax, notation, axiom, sorry.
-/
import Derived.Test.YtojpahnfhhbnoaaDoorRows
import GoSem.ClaimSeven
namespace Go.Proofs.YtojpahnfhhbnoaaDoor
namespace Rows

/-- THE TIED CARD OF 'wharfingerlaw11.AclTells'. -/
def aclTellsCard : Claim7 := { stood := { row := aclTellsRow, standIns := [], harness := (true, "325ecf2b9a0227312cf82b5a36903903eb175572bbb345fec500a1d0effd249f"), looks := false }, kinds := [], alts := [], laidByText := true, laidKinds := [.data, .pinned], laidTests := true, laidLooks := .later }
def AclTellsCardSaid : Prop := Claim7.holds Tryd.pinned (.plain (OpenSpec.ofChange aclTellsSpec)) aclTellsCard

/-- THE TIED CARD OF 'wharfingerlaw11.AclFirst'. -/
def aclFirstCard : Claim7 := { stood := { row := aclFirstRow, standIns := [], harness := (true, "325ecf2b9a0227312cf82b5a36903903eb175572bbb345fec500a1d0effd249f"), looks := false }, kinds := [], alts := [], laidByText := true, laidKinds := [.data, .pinned], laidTests := true, laidLooks := .later }
def AclFirstCardSaid : Prop := Claim7.holds Tryd.pinned (.plain (OpenSpec.ofChange aclFirstSpec)) aclFirstCard

/-- THE TIED CARD OF 'wharfingerlaw11.AclBelow'. -/
def aclBelowCard : Claim7 := { stood := { row := aclBelowRow, standIns := [], harness := (true, "325ecf2b9a0227312cf82b5a36903903eb175572bbb345fec500a1d0effd249f"), looks := false }, kinds := [], alts := [], laidByText := true, laidKinds := [.data, .pinned], laidTests := true, laidLooks := .later }
def AclBelowCardSaid : Prop := Claim7.holds Tryd.pinned (.plain (OpenSpec.ofChange aclBelowSpec)) aclBelowCard

/-- THE TIED CARD OF 'wharfingerlaw11.AclVerb'. -/
def aclVerbCard : Claim7 := { stood := { row := aclVerbRow, standIns := [], harness := (true, "325ecf2b9a0227312cf82b5a36903903eb175572bbb345fec500a1d0effd249f"), looks := false }, kinds := [], alts := [], laidByText := true, laidKinds := [.data, .pinned], laidTests := true, laidLooks := .later }
def AclVerbCardSaid : Prop := Claim7.holds Tryd.pinned (.plain (OpenSpec.ofChange aclVerbSpec)) aclVerbCard

/-- THE SECOND FORM's CARD OF 'wharfingerlaw11.AclTells'. -/
def aclTellsUptoCard : Claim7 := { stood := { row := aclTellsUptoRow, standIns := [], harness := (true, "325ecf2b9a0227312cf82b5a36903903eb175572bbb345fec500a1d0effd249f"), looks := false }, kinds := [], alts := [], laidByText := true, laidKinds := [.data, .pinned], laidTests := true, laidLooks := .later }
def AclTellsUptoCardSaid : Prop := Claim7.holds Tryd.pinned (.plain (OpenSpec.upto aclTellsSpec)) aclTellsUptoCard

/-- THE SECOND FORM's CARD OF 'wharfingerlaw11.AclFirst'. -/
def aclFirstUptoCard : Claim7 := { stood := { row := aclFirstUptoRow, standIns := [], harness := (true, "325ecf2b9a0227312cf82b5a36903903eb175572bbb345fec500a1d0effd249f"), looks := false }, kinds := [], alts := [], laidByText := true, laidKinds := [.data, .pinned], laidTests := true, laidLooks := .later }
def AclFirstUptoCardSaid : Prop := Claim7.holds Tryd.pinned (.plain (OpenSpec.upto aclFirstSpec)) aclFirstUptoCard

/-- THE SECOND FORM's CARD OF 'wharfingerlaw11.AclBelow'. -/
def aclBelowUptoCard : Claim7 := { stood := { row := aclBelowUptoRow, standIns := [], harness := (true, "325ecf2b9a0227312cf82b5a36903903eb175572bbb345fec500a1d0effd249f"), looks := false }, kinds := [], alts := [], laidByText := true, laidKinds := [.data, .pinned], laidTests := true, laidLooks := .later }
def AclBelowUptoCardSaid : Prop := Claim7.holds Tryd.pinned (.plain (OpenSpec.upto aclBelowSpec)) aclBelowUptoCard

/-- THE SECOND FORM's CARD OF 'wharfingerlaw11.AclVerb'. -/
def aclVerbUptoCard : Claim7 := { stood := { row := aclVerbUptoRow, standIns := [], harness := (true, "325ecf2b9a0227312cf82b5a36903903eb175572bbb345fec500a1d0effd249f"), looks := false }, kinds := [], alts := [], laidByText := true, laidKinds := [.data, .pinned], laidTests := true, laidLooks := .later }
def AclVerbUptoCardSaid : Prop := Claim7.holds Tryd.pinned (.plain (OpenSpec.upto aclVerbSpec)) aclVerbUptoCard
end Rows
end Go.Proofs.YtojpahnfhhbnoaaDoor
