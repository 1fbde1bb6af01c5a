/-
  DERIVED. GIVEN WITH THE SEED: THE CARDS: each row of YtbojjbnmjhblfaaDoorRows.lean that lists a variable, with what it lists TIED to the program's text (the seventh form; the later family's looks); each row that meets fmt, with fmt's text TOLD by the authors' own Lean function (tested against real Go, not proved from fmt's source: count such statements apart). THE CARD IS WHAT COUNTS. Prove the row's statement (the work); the ties are given (YtbojjbnmjhblfaaDoorTie.lean); close each card by the builder's one call (the guide's Derived/Test/ToyasCard.lean, 'card_holds'). Laid BY PROGRAM, IN A SANDBOX (cutbox-door.mjs). By AI agents, Wed Nov 11 2026. No macro, syntax, notation, axiom, sorry.
-/
import Derived.Test.YtbojjbnmjhblfaaDoorRows
import GoSem.ClaimSeven
namespace Go.Proofs.YtbojjbnmjhblfaaDoor
namespace Rows

/-- THE TIED CARD OF 'wharfingerlaw09.ReplyTells'. -/
def replyTellsCard : Claim7 := { stood := { row := replyTellsRow, standIns := [], harness := (true, "a24f0d33fc40c68d61c1a170cc289eb76eb63aa14001165b67b6a5610062a70f"), looks := true }, kinds := [], alts := [], laidByText := true, laidKinds := [.data, .data, .data, .sentinel, .sentinel], laidTests := true, laidLooks := .later }
def ReplyTellsCardSaid : Prop := Claim7.holds Tryd.pinned (.plain (OpenSpec.ofChange replyTellsSpec)) replyTellsCard

/-- THE TIED CARD OF 'wharfingerlaw09.ReplyBack'. -/
def replyBackCard : Claim7 := { stood := { row := replyBackRow, standIns := [], harness := (true, "a24f0d33fc40c68d61c1a170cc289eb76eb63aa14001165b67b6a5610062a70f"), looks := true }, kinds := [], alts := [], laidByText := true, laidKinds := [.data, .data, .data, .sentinel, .sentinel], laidTests := true, laidLooks := .later }
def ReplyBackCardSaid : Prop := Claim7.holds Tryd.pinned (.plain (OpenSpec.ofChange replyBackSpec)) replyBackCard

/-- THE TIED CARD OF 'wharfingerlaw09.ReplyOne'. -/
def replyOneCard : Claim7 := { stood := { row := replyOneRow, standIns := [], harness := (true, "a24f0d33fc40c68d61c1a170cc289eb76eb63aa14001165b67b6a5610062a70f"), looks := true }, kinds := [], alts := [], laidByText := true, laidKinds := [.data, .data, .data, .sentinel, .sentinel], laidTests := true, laidLooks := .later }
def ReplyOneCardSaid : Prop := Claim7.holds Tryd.pinned (.plain (OpenSpec.ofChange replyOneSpec)) replyOneCard

/-- THE TIED CARD OF 'wharfingerlaw09.ReplyOpen'. -/
def replyOpenCard : Claim7 := { stood := { row := replyOpenRow, standIns := [], harness := (true, "a24f0d33fc40c68d61c1a170cc289eb76eb63aa14001165b67b6a5610062a70f"), looks := true }, kinds := [], alts := [], laidByText := true, laidKinds := [.data, .data, .data, .sentinel, .sentinel], laidTests := true, laidLooks := .later }
def ReplyOpenCardSaid : Prop := Claim7.holds Tryd.pinned (.plain (OpenSpec.ofChange replyOpenSpec)) replyOpenCard

/-- THE TIED CARD OF 'wharfingerlaw09.ReplyOnly'. -/
def replyOnlyCard : Claim7 := { stood := { row := replyOnlyRow, standIns := [], harness := (true, "a24f0d33fc40c68d61c1a170cc289eb76eb63aa14001165b67b6a5610062a70f"), looks := true }, kinds := [], alts := [], laidByText := true, laidKinds := [.data, .data, .data, .sentinel, .sentinel], laidTests := true, laidLooks := .later }
def ReplyOnlyCardSaid : Prop := Claim7.holds Tryd.pinned (.plain (OpenSpec.ofChange replyOnlySpec)) replyOnlyCard

/-- THE SECOND FORM's CARD OF 'wharfingerlaw09.ReplyTells'. -/
def replyTellsUptoCard : Claim7 := { stood := { row := replyTellsUptoRow, standIns := [], harness := (true, "a24f0d33fc40c68d61c1a170cc289eb76eb63aa14001165b67b6a5610062a70f"), looks := true }, kinds := [], alts := [], laidByText := true, laidKinds := [.data, .data, .data, .sentinel, .sentinel], laidTests := true, laidLooks := .later }
def ReplyTellsUptoCardSaid : Prop := Claim7.holds Tryd.pinned (.plain (OpenSpec.upto replyTellsSpec)) replyTellsUptoCard

/-- THE SECOND FORM's CARD OF 'wharfingerlaw09.ReplyBack'. -/
def replyBackUptoCard : Claim7 := { stood := { row := replyBackUptoRow, standIns := [], harness := (true, "a24f0d33fc40c68d61c1a170cc289eb76eb63aa14001165b67b6a5610062a70f"), looks := true }, kinds := [], alts := [], laidByText := true, laidKinds := [.data, .data, .data, .sentinel, .sentinel], laidTests := true, laidLooks := .later }
def ReplyBackUptoCardSaid : Prop := Claim7.holds Tryd.pinned (.plain (OpenSpec.upto replyBackSpec)) replyBackUptoCard

/-- THE SECOND FORM's CARD OF 'wharfingerlaw09.ReplyOne'. -/
def replyOneUptoCard : Claim7 := { stood := { row := replyOneUptoRow, standIns := [], harness := (true, "a24f0d33fc40c68d61c1a170cc289eb76eb63aa14001165b67b6a5610062a70f"), looks := true }, kinds := [], alts := [], laidByText := true, laidKinds := [.data, .data, .data, .sentinel, .sentinel], laidTests := true, laidLooks := .later }
def ReplyOneUptoCardSaid : Prop := Claim7.holds Tryd.pinned (.plain (OpenSpec.upto replyOneSpec)) replyOneUptoCard

/-- THE SECOND FORM's CARD OF 'wharfingerlaw09.ReplyOpen'. -/
def replyOpenUptoCard : Claim7 := { stood := { row := replyOpenUptoRow, standIns := [], harness := (true, "a24f0d33fc40c68d61c1a170cc289eb76eb63aa14001165b67b6a5610062a70f"), looks := true }, kinds := [], alts := [], laidByText := true, laidKinds := [.data, .data, .data, .sentinel, .sentinel], laidTests := true, laidLooks := .later }
def ReplyOpenUptoCardSaid : Prop := Claim7.holds Tryd.pinned (.plain (OpenSpec.upto replyOpenSpec)) replyOpenUptoCard

/-- THE SECOND FORM's CARD OF 'wharfingerlaw09.ReplyOnly'. -/
def replyOnlyUptoCard : Claim7 := { stood := { row := replyOnlyUptoRow, standIns := [], harness := (true, "a24f0d33fc40c68d61c1a170cc289eb76eb63aa14001165b67b6a5610062a70f"), looks := true }, kinds := [], alts := [], laidByText := true, laidKinds := [.data, .data, .data, .sentinel, .sentinel], laidTests := true, laidLooks := .later }
def ReplyOnlyUptoCardSaid : Prop := Claim7.holds Tryd.pinned (.plain (OpenSpec.upto replyOnlySpec)) replyOnlyUptoCard
end Rows
end Go.Proofs.YtbojjbnmjhblfaaDoor
