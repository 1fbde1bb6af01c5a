/-
  DERIVED. GIVEN WITH THE SEED: THE CARDS: each row of YtajdlaijdgfhhaaDoorRows.lean that lists a variable, with what it lists TIED to the program's text (the seventh form; the later family's looks); each row that meets fmt, with fmt's text TOLD by the authors' own Lean function (tested against real Go, not proved from fmt's source: count such statements apart). THE CARD IS WHAT COUNTS. Prove the row's statement (the work); the ties are given (YtajdlaijdgfhhaaDoorTie.lean); close each card by the builder's one call (the guide's Derived/Test/ToyasCard.lean, 'card_holds'). Laid BY PROGRAM, IN A SANDBOX (cutbox-door.mjs). By AI agents, Wed Nov 11 2026. No macro, syntax, notation, axiom, sorry.
-/
import Derived.Test.YtajdlaijdgfhhaaDoorRows
import GoSem.ClaimSeven
namespace Go.Proofs.YtajdlaijdgfhhaaDoor
namespace Rows

/-- THE TIED CARD OF 'wharfingerlaw10.PathTells'. -/
def pathTellsCard : Claim7 := { stood := { row := pathTellsRow, standIns := [], harness := (true, "77634add082cefd4758c7ebc886f1ee5dd6d127a699c76bb6c31fe51f4cf4cae"), looks := false }, kinds := [], alts := [], laidByText := true, laidKinds := [.data, .pinned], laidTests := true, laidLooks := .later }
def PathTellsCardSaid : Prop := Claim7.holds Tryd.pinned (.plain (OpenSpec.ofChange pathTellsSpec)) pathTellsCard

/-- THE TIED CARD OF 'wharfingerlaw10.PathMay'. -/
def pathMayCard : Claim7 := { stood := { row := pathMayRow, standIns := [], harness := (true, "77634add082cefd4758c7ebc886f1ee5dd6d127a699c76bb6c31fe51f4cf4cae"), looks := false }, kinds := [], alts := [], laidByText := true, laidKinds := [.data, .pinned], laidTests := true, laidLooks := .later }
def PathMayCardSaid : Prop := Claim7.holds Tryd.pinned (.plain (OpenSpec.ofChange pathMaySpec)) pathMayCard

/-- THE TIED CARD OF 'wharfingerlaw10.PathUp'. -/
def pathUpCard : Claim7 := { stood := { row := pathUpRow, standIns := [], harness := (true, "77634add082cefd4758c7ebc886f1ee5dd6d127a699c76bb6c31fe51f4cf4cae"), looks := false }, kinds := [], alts := [], laidByText := true, laidKinds := [.data, .pinned], laidTests := true, laidLooks := .later }
def PathUpCardSaid : Prop := Claim7.holds Tryd.pinned (.plain (OpenSpec.ofChange pathUpSpec)) pathUpCard

/-- THE TIED CARD OF 'wharfingerlaw10.PathUnder'. -/
def pathUnderCard : Claim7 := { stood := { row := pathUnderRow, standIns := [], harness := (true, "77634add082cefd4758c7ebc886f1ee5dd6d127a699c76bb6c31fe51f4cf4cae"), looks := false }, kinds := [], alts := [], laidByText := true, laidKinds := [.data, .pinned], laidTests := true, laidLooks := .later }
def PathUnderCardSaid : Prop := Claim7.holds Tryd.pinned (.plain (OpenSpec.ofChange pathUnderSpec)) pathUnderCard

/-- THE TIED CARD OF 'wharfingerlaw10.PathTwice'. -/
def pathTwiceCard : Claim7 := { stood := { row := pathTwiceRow, standIns := [], harness := (true, "77634add082cefd4758c7ebc886f1ee5dd6d127a699c76bb6c31fe51f4cf4cae"), looks := false }, kinds := [], alts := [], laidByText := true, laidKinds := [.data, .pinned], laidTests := true, laidLooks := .later }
def PathTwiceCardSaid : Prop := Claim7.holds Tryd.pinned (.plain (OpenSpec.ofChange pathTwiceSpec)) pathTwiceCard

/-- THE TIED CARD OF 'wharfingerlaw10.PathLong'. -/
def pathLongCard : Claim7 := { stood := { row := pathLongRow, standIns := [], harness := (true, "77634add082cefd4758c7ebc886f1ee5dd6d127a699c76bb6c31fe51f4cf4cae"), looks := false }, kinds := [], alts := [], laidByText := true, laidKinds := [.data, .pinned], laidTests := true, laidLooks := .later }
def PathLongCardSaid : Prop := Claim7.holds Tryd.pinned (.plain (OpenSpec.ofChange pathLongSpec)) pathLongCard

/-- THE TIED CARD OF 'wharfingerlaw10.PathDown'. -/
def pathDownCard : Claim7 := { stood := { row := pathDownRow, standIns := [], harness := (true, "77634add082cefd4758c7ebc886f1ee5dd6d127a699c76bb6c31fe51f4cf4cae"), looks := false }, kinds := [], alts := [], laidByText := true, laidKinds := [.data, .pinned], laidTests := true, laidLooks := .later }
def PathDownCardSaid : Prop := Claim7.holds Tryd.pinned (.plain (OpenSpec.ofChange pathDownSpec)) pathDownCard

/-- THE SECOND FORM's CARD OF 'wharfingerlaw10.PathTells'. -/
def pathTellsUptoCard : Claim7 := { stood := { row := pathTellsUptoRow, standIns := [], harness := (true, "77634add082cefd4758c7ebc886f1ee5dd6d127a699c76bb6c31fe51f4cf4cae"), looks := false }, kinds := [], alts := [], laidByText := true, laidKinds := [.data, .pinned], laidTests := true, laidLooks := .later }
def PathTellsUptoCardSaid : Prop := Claim7.holds Tryd.pinned (.plain (OpenSpec.upto pathTellsSpec)) pathTellsUptoCard

/-- THE SECOND FORM's CARD OF 'wharfingerlaw10.PathMay'. -/
def pathMayUptoCard : Claim7 := { stood := { row := pathMayUptoRow, standIns := [], harness := (true, "77634add082cefd4758c7ebc886f1ee5dd6d127a699c76bb6c31fe51f4cf4cae"), looks := false }, kinds := [], alts := [], laidByText := true, laidKinds := [.data, .pinned], laidTests := true, laidLooks := .later }
def PathMayUptoCardSaid : Prop := Claim7.holds Tryd.pinned (.plain (OpenSpec.upto pathMaySpec)) pathMayUptoCard

/-- THE SECOND FORM's CARD OF 'wharfingerlaw10.PathUp'. -/
def pathUpUptoCard : Claim7 := { stood := { row := pathUpUptoRow, standIns := [], harness := (true, "77634add082cefd4758c7ebc886f1ee5dd6d127a699c76bb6c31fe51f4cf4cae"), looks := false }, kinds := [], alts := [], laidByText := true, laidKinds := [.data, .pinned], laidTests := true, laidLooks := .later }
def PathUpUptoCardSaid : Prop := Claim7.holds Tryd.pinned (.plain (OpenSpec.upto pathUpSpec)) pathUpUptoCard

/-- THE SECOND FORM's CARD OF 'wharfingerlaw10.PathUnder'. -/
def pathUnderUptoCard : Claim7 := { stood := { row := pathUnderUptoRow, standIns := [], harness := (true, "77634add082cefd4758c7ebc886f1ee5dd6d127a699c76bb6c31fe51f4cf4cae"), looks := false }, kinds := [], alts := [], laidByText := true, laidKinds := [.data, .pinned], laidTests := true, laidLooks := .later }
def PathUnderUptoCardSaid : Prop := Claim7.holds Tryd.pinned (.plain (OpenSpec.upto pathUnderSpec)) pathUnderUptoCard

/-- THE SECOND FORM's CARD OF 'wharfingerlaw10.PathTwice'. -/
def pathTwiceUptoCard : Claim7 := { stood := { row := pathTwiceUptoRow, standIns := [], harness := (true, "77634add082cefd4758c7ebc886f1ee5dd6d127a699c76bb6c31fe51f4cf4cae"), looks := false }, kinds := [], alts := [], laidByText := true, laidKinds := [.data, .pinned], laidTests := true, laidLooks := .later }
def PathTwiceUptoCardSaid : Prop := Claim7.holds Tryd.pinned (.plain (OpenSpec.upto pathTwiceSpec)) pathTwiceUptoCard

/-- THE SECOND FORM's CARD OF 'wharfingerlaw10.PathLong'. -/
def pathLongUptoCard : Claim7 := { stood := { row := pathLongUptoRow, standIns := [], harness := (true, "77634add082cefd4758c7ebc886f1ee5dd6d127a699c76bb6c31fe51f4cf4cae"), looks := false }, kinds := [], alts := [], laidByText := true, laidKinds := [.data, .pinned], laidTests := true, laidLooks := .later }
def PathLongUptoCardSaid : Prop := Claim7.holds Tryd.pinned (.plain (OpenSpec.upto pathLongSpec)) pathLongUptoCard

/-- THE SECOND FORM's CARD OF 'wharfingerlaw10.PathDown'. -/
def pathDownUptoCard : Claim7 := { stood := { row := pathDownUptoRow, standIns := [], harness := (true, "77634add082cefd4758c7ebc886f1ee5dd6d127a699c76bb6c31fe51f4cf4cae"), looks := false }, kinds := [], alts := [], laidByText := true, laidKinds := [.data, .pinned], laidTests := true, laidLooks := .later }
def PathDownUptoCardSaid : Prop := Claim7.holds Tryd.pinned (.plain (OpenSpec.upto pathDownSpec)) pathDownUptoCard
end Rows
end Go.Proofs.YtajdlaijdgfhhaaDoor
