/-
  DERIVED. GIVEN WITH THE SEED: THE CARDS: each row of YtnbfddjaonlmaaaGreatDoorRows.lean that lists a variable, with what it lists TIED to the program's text (the seventh form; the later family's looks); each row that meets fmt, with fmt's text TOLD by the authors' own Lean function (tested against real Go, not proved from fmt's source: count such statements apart). THE CARD IS WHAT COUNTS. Prove the row's statement (the work); the ties are given (YtnbfddjaonlmaaaGreatDoorTie.lean); close each card by the builder's one call (the guide's Derived/Test/ToyasCard.lean, 'card_holds'). Laid BY PROGRAM, IN A SANDBOX (cutbox-door.mjs). By AI agents, Wed Nov 11 2026. No macro, syntax, notation, axiom, sorry.
-/
import Derived.Test.YtnbfddjaonlmaaaGreatDoorRows
import GoSem.ClaimSeven
namespace Go.Proofs.YtnbfddjaonlmaaaGreatDoor
namespace Rows

/-- THE TIED CARD OF 'trawlkeep.Choice'. -/
def choiceCard : Claim7 := { stood := { row := choiceRow, standIns := [], harness := (true, "9c208266f137cf85812f5db784917d22e92b0ba69487c2fb95cf6f0d4dfc460e"), looks := false }, kinds := [], alts := [], laidByText := true, laidKinds := [.data, .pinned, .pinned], laidTests := true, laidLooks := .later }
def ChoiceCardSaid : Prop := Claim7.holds Tryz.pinned (.plain (OpenSpec.ofChange choiceSpec)) choiceCard

/-- THE TIED CARD OF 'trawlkeep.Rows'. -/
def rowsCard : Claim7 := { stood := { row := rowsRow, standIns := [], harness := (true, "9c208266f137cf85812f5db784917d22e92b0ba69487c2fb95cf6f0d4dfc460e"), looks := false }, kinds := [], alts := [], laidByText := true, laidKinds := [.data, .pinned, .pinned], laidTests := true, laidLooks := .later }
def RowsCardSaid : Prop := Claim7.holds Tryz.pinned (.plain (OpenSpec.ofChange rowsSpec)) rowsCard

/-- THE TIED CARD OF 'trawlkeep.Worded'. -/
def wordedCard : Claim7 := { stood := { row := wordedRow, standIns := [], harness := (true, "9c208266f137cf85812f5db784917d22e92b0ba69487c2fb95cf6f0d4dfc460e"), looks := false }, kinds := [], alts := [], laidByText := true, laidKinds := [.data, .pinned, .pinned], laidTests := true, laidLooks := .later }
def WordedCardSaid : Prop := Claim7.holds Tryz.pinned (.plain (OpenSpec.ofChange wordedSpec)) wordedCard

/-- THE TIED CARD OF 'trawlkeep.Apart'. -/
def apartCard : Claim7 := { stood := { row := apartRow, standIns := [], harness := (true, "9c208266f137cf85812f5db784917d22e92b0ba69487c2fb95cf6f0d4dfc460e"), looks := false }, kinds := [], alts := [], laidByText := true, laidKinds := [.data, .pinned, .pinned], laidTests := true, laidLooks := .later }
def ApartCardSaid : Prop := Claim7.holds Tryz.pinned (.plain (OpenSpec.ofChange apartSpec)) apartCard

/-- THE SECOND FORM's CARD OF 'trawlkeep.Choice'. -/
def choiceUptoCard : Claim7 := { stood := { row := choiceUptoRow, standIns := [], harness := (true, "9c208266f137cf85812f5db784917d22e92b0ba69487c2fb95cf6f0d4dfc460e"), looks := false }, kinds := [], alts := [], laidByText := true, laidKinds := [.data, .pinned, .pinned], laidTests := true, laidLooks := .later }
def ChoiceUptoCardSaid : Prop := Claim7.holds Tryz.pinned (.plain (OpenSpec.upto choiceSpec)) choiceUptoCard

/-- THE SECOND FORM's CARD OF 'trawlkeep.Rows'. -/
def rowsUptoCard : Claim7 := { stood := { row := rowsUptoRow, standIns := [], harness := (true, "9c208266f137cf85812f5db784917d22e92b0ba69487c2fb95cf6f0d4dfc460e"), looks := false }, kinds := [], alts := [], laidByText := true, laidKinds := [.data, .pinned, .pinned], laidTests := true, laidLooks := .later }
def RowsUptoCardSaid : Prop := Claim7.holds Tryz.pinned (.plain (OpenSpec.upto rowsSpec)) rowsUptoCard

/-- THE SECOND FORM's CARD OF 'trawlkeep.Worded'. -/
def wordedUptoCard : Claim7 := { stood := { row := wordedUptoRow, standIns := [], harness := (true, "9c208266f137cf85812f5db784917d22e92b0ba69487c2fb95cf6f0d4dfc460e"), looks := false }, kinds := [], alts := [], laidByText := true, laidKinds := [.data, .pinned, .pinned], laidTests := true, laidLooks := .later }
def WordedUptoCardSaid : Prop := Claim7.holds Tryz.pinned (.plain (OpenSpec.upto wordedSpec)) wordedUptoCard

/-- THE SECOND FORM's CARD OF 'trawlkeep.Apart'. -/
def apartUptoCard : Claim7 := { stood := { row := apartUptoRow, standIns := [], harness := (true, "9c208266f137cf85812f5db784917d22e92b0ba69487c2fb95cf6f0d4dfc460e"), looks := false }, kinds := [], alts := [], laidByText := true, laidKinds := [.data, .pinned, .pinned], laidTests := true, laidLooks := .later }
def ApartUptoCardSaid : Prop := Claim7.holds Tryz.pinned (.plain (OpenSpec.upto apartSpec)) apartUptoCard
end Rows
end Go.Proofs.YtnbfddjaonlmaaaGreatDoor
