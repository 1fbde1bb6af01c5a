/-
  DERIVED. GIVEN WITH THE SEED: THE CARDS: each row of YtkbekabpbgdhfaaDoorRows.lean that lists a variable, with what it lists TIED to the program's text (the seventh form; the later family's looks); each row that meets fmt, with fmt's text TOLD by the authors' own Lean function (tested against real Go, not proved from fmt's source: count such statements apart). THE CARD IS WHAT COUNTS. Prove the row's statement (the work); the ties are given (YtkbekabpbgdhfaaDoorTie.lean); close each card by the builder's one call (the guide's Derived/Test/ToyasCard.lean, 'card_holds'). Laid BY PROGRAM, IN A SANDBOX (cutbox-door.mjs). By AI agents, Wed Nov 11 2026. No macro, syntax, notation, axiom, sorry.
-/
import Derived.Test.YtkbekabpbgdhfaaDoorRows
import GoSem.ClaimSeven
namespace Go.Proofs.YtkbekabpbgdhfaaDoor
namespace Rows

/-- THE TIED CARD OF 'wharfingerlaw05.TelnetStrips'. -/
def telnetStripsCard : Claim7 := { stood := { row := telnetStripsRow, standIns := [], harness := (true, "d6136b5228d752824bea8abd9b578dfa74fe6be0dd600a7a1f28abdc75a7a6b2"), looks := false }, kinds := [], alts := [], laidByText := true, laidKinds := [.data, .pinned], laidTests := true, laidLooks := .later }
def TelnetStripsCardSaid : Prop := Claim7.holds Tryd.pinned (.plain (OpenSpec.ofChange telnetStripsSpec)) telnetStripsCard

/-- THE TIED CARD OF 'wharfingerlaw05.TelnetParts'. -/
def telnetPartsCard : Claim7 := { stood := { row := telnetPartsRow, standIns := [], harness := (true, "d6136b5228d752824bea8abd9b578dfa74fe6be0dd600a7a1f28abdc75a7a6b2"), looks := false }, kinds := [], alts := [], laidByText := true, laidKinds := [.data, .pinned], laidTests := true, laidLooks := .later }
def TelnetPartsCardSaid : Prop := Claim7.holds Tryd.pinned (.plain (OpenSpec.ofChange telnetPartsSpec)) telnetPartsCard

/-- THE TIED CARD OF 'wharfingerlaw05.TelnetLess'. -/
def telnetLessCard : Claim7 := { stood := { row := telnetLessRow, standIns := [], harness := (true, "d6136b5228d752824bea8abd9b578dfa74fe6be0dd600a7a1f28abdc75a7a6b2"), looks := false }, kinds := [], alts := [], laidByText := true, laidKinds := [.data, .pinned], laidTests := true, laidLooks := .later }
def TelnetLessCardSaid : Prop := Claim7.holds Tryd.pinned (.plain (OpenSpec.ofChange telnetLessSpec)) telnetLessCard

/-- THE TIED CARD OF 'wharfingerlaw05.TelnetCounts'. -/
def telnetCountsCard : Claim7 := { stood := { row := telnetCountsRow, standIns := [], harness := (true, "d6136b5228d752824bea8abd9b578dfa74fe6be0dd600a7a1f28abdc75a7a6b2"), looks := false }, kinds := [], alts := [], laidByText := true, laidKinds := [.data, .pinned], laidTests := true, laidLooks := .later }
def TelnetCountsCardSaid : Prop := Claim7.holds Tryd.pinned (.plain (OpenSpec.ofChange telnetCountsSpec)) telnetCountsCard

/-- THE TIED CARD OF 'wharfingerlaw05.TelnetNone'. -/
def telnetNoneCard : Claim7 := { stood := { row := telnetNoneRow, standIns := [], harness := (true, "d6136b5228d752824bea8abd9b578dfa74fe6be0dd600a7a1f28abdc75a7a6b2"), looks := false }, kinds := [], alts := [], laidByText := true, laidKinds := [.data, .pinned], laidTests := true, laidLooks := .later }
def TelnetNoneCardSaid : Prop := Claim7.holds Tryd.pinned (.plain (OpenSpec.ofChange telnetNoneSpec)) telnetNoneCard

/-- THE SECOND FORM's CARD OF 'wharfingerlaw05.TelnetStrips'. -/
def telnetStripsUptoCard : Claim7 := { stood := { row := telnetStripsUptoRow, standIns := [], harness := (true, "d6136b5228d752824bea8abd9b578dfa74fe6be0dd600a7a1f28abdc75a7a6b2"), looks := false }, kinds := [], alts := [], laidByText := true, laidKinds := [.data, .pinned], laidTests := true, laidLooks := .later }
def TelnetStripsUptoCardSaid : Prop := Claim7.holds Tryd.pinned (.plain (OpenSpec.upto telnetStripsSpec)) telnetStripsUptoCard

/-- THE SECOND FORM's CARD OF 'wharfingerlaw05.TelnetParts'. -/
def telnetPartsUptoCard : Claim7 := { stood := { row := telnetPartsUptoRow, standIns := [], harness := (true, "d6136b5228d752824bea8abd9b578dfa74fe6be0dd600a7a1f28abdc75a7a6b2"), looks := false }, kinds := [], alts := [], laidByText := true, laidKinds := [.data, .pinned], laidTests := true, laidLooks := .later }
def TelnetPartsUptoCardSaid : Prop := Claim7.holds Tryd.pinned (.plain (OpenSpec.upto telnetPartsSpec)) telnetPartsUptoCard

/-- THE SECOND FORM's CARD OF 'wharfingerlaw05.TelnetLess'. -/
def telnetLessUptoCard : Claim7 := { stood := { row := telnetLessUptoRow, standIns := [], harness := (true, "d6136b5228d752824bea8abd9b578dfa74fe6be0dd600a7a1f28abdc75a7a6b2"), looks := false }, kinds := [], alts := [], laidByText := true, laidKinds := [.data, .pinned], laidTests := true, laidLooks := .later }
def TelnetLessUptoCardSaid : Prop := Claim7.holds Tryd.pinned (.plain (OpenSpec.upto telnetLessSpec)) telnetLessUptoCard

/-- THE SECOND FORM's CARD OF 'wharfingerlaw05.TelnetCounts'. -/
def telnetCountsUptoCard : Claim7 := { stood := { row := telnetCountsUptoRow, standIns := [], harness := (true, "d6136b5228d752824bea8abd9b578dfa74fe6be0dd600a7a1f28abdc75a7a6b2"), looks := false }, kinds := [], alts := [], laidByText := true, laidKinds := [.data, .pinned], laidTests := true, laidLooks := .later }
def TelnetCountsUptoCardSaid : Prop := Claim7.holds Tryd.pinned (.plain (OpenSpec.upto telnetCountsSpec)) telnetCountsUptoCard

/-- THE SECOND FORM's CARD OF 'wharfingerlaw05.TelnetNone'. -/
def telnetNoneUptoCard : Claim7 := { stood := { row := telnetNoneUptoRow, standIns := [], harness := (true, "d6136b5228d752824bea8abd9b578dfa74fe6be0dd600a7a1f28abdc75a7a6b2"), looks := false }, kinds := [], alts := [], laidByText := true, laidKinds := [.data, .pinned], laidTests := true, laidLooks := .later }
def TelnetNoneUptoCardSaid : Prop := Claim7.holds Tryd.pinned (.plain (OpenSpec.upto telnetNoneSpec)) telnetNoneUptoCard
end Rows
end Go.Proofs.YtkbekabpbgdhfaaDoor
