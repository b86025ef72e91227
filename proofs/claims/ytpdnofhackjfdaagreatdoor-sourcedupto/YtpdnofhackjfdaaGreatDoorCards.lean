/-
  DERIVED. GIVEN WITH THE SEED: THE CARDS: each row of YtpdnofhackjfdaaGreatDoorRows.lean that lists a variable, with what it lists TIED to the program's text (the seventh form; the later family's looks); each row that meets fmt, with fmt's text TOLD by the authors' own Lean function (tested against real Go, not proved from fmt's source: count such statements apart). THE CARD IS WHAT COUNTS. Prove the row's statement (the work); the ties are given (YtpdnofhackjfdaaGreatDoorTie.lean); close each card by the builder's one call (the guide's Derived/Test/ToyasCard.lean, 'card_holds'). Laid BY PROGRAM, IN A SANDBOX (cutbox-door.mjs). By AI agents, Wed Nov 11 2026. No macro, syntax, notation, axiom, sorry.
-/
import Derived.Test.YtpdnofhackjfdaaGreatDoorRows
import GoSem.ClaimSeven
namespace Go.Proofs.YtpdnofhackjfdaaGreatDoor
namespace Rows

/-- THE TIED CARD OF 'trawlkeep.Cuts'. -/
def cutsCard : Claim7 := { stood := { row := cutsRow, standIns := [], harness := (true, "209234c894f1bec6c95b50adbc13b3ad2259ec70473e7017f02d194af60b0ea0"), looks := false }, kinds := [], alts := [], laidByText := true, laidKinds := [.data, .pinned, .pinned], laidTests := true, laidLooks := .later }
def CutsCardSaid : Prop := Claim7.holds Tryz.pinned (.plain (OpenSpec.ofChange cutsSpec)) cutsCard

/-- THE TIED CARD OF 'trawlkeep.Little'. -/
def littleCard : Claim7 := { stood := { row := littleRow, standIns := [], harness := (true, "209234c894f1bec6c95b50adbc13b3ad2259ec70473e7017f02d194af60b0ea0"), looks := false }, kinds := [], alts := [], laidByText := true, laidKinds := [.data, .pinned, .pinned], laidTests := true, laidLooks := .later }
def LittleCardSaid : Prop := Claim7.holds Tryz.pinned (.plain (OpenSpec.ofChange littleSpec)) littleCard

/-- THE TIED CARD OF 'trawlkeep.Sourced'. -/
def sourcedCard : Claim7 := { stood := { row := sourcedRow, standIns := [], harness := (true, "209234c894f1bec6c95b50adbc13b3ad2259ec70473e7017f02d194af60b0ea0"), looks := false }, kinds := [], alts := [], laidByText := true, laidKinds := [.data, .pinned, .pinned], laidTests := true, laidLooks := .later }
def SourcedCardSaid : Prop := Claim7.holds Tryz.pinned (.plain (OpenSpec.ofChange sourcedSpec)) sourcedCard

/-- THE SECOND FORM's CARD OF 'trawlkeep.Cuts'. -/
def cutsUptoCard : Claim7 := { stood := { row := cutsUptoRow, standIns := [], harness := (true, "209234c894f1bec6c95b50adbc13b3ad2259ec70473e7017f02d194af60b0ea0"), looks := false }, kinds := [], alts := [], laidByText := true, laidKinds := [.data, .pinned, .pinned], laidTests := true, laidLooks := .later }
def CutsUptoCardSaid : Prop := Claim7.holds Tryz.pinned (.plain (OpenSpec.upto cutsSpec)) cutsUptoCard

/-- THE SECOND FORM's CARD OF 'trawlkeep.Little'. -/
def littleUptoCard : Claim7 := { stood := { row := littleUptoRow, standIns := [], harness := (true, "209234c894f1bec6c95b50adbc13b3ad2259ec70473e7017f02d194af60b0ea0"), looks := false }, kinds := [], alts := [], laidByText := true, laidKinds := [.data, .pinned, .pinned], laidTests := true, laidLooks := .later }
def LittleUptoCardSaid : Prop := Claim7.holds Tryz.pinned (.plain (OpenSpec.upto littleSpec)) littleUptoCard

/-- THE SECOND FORM's CARD OF 'trawlkeep.Sourced'. -/
def sourcedUptoCard : Claim7 := { stood := { row := sourcedUptoRow, standIns := [], harness := (true, "209234c894f1bec6c95b50adbc13b3ad2259ec70473e7017f02d194af60b0ea0"), looks := false }, kinds := [], alts := [], laidByText := true, laidKinds := [.data, .pinned, .pinned], laidTests := true, laidLooks := .later }
def SourcedUptoCardSaid : Prop := Claim7.holds Tryz.pinned (.plain (OpenSpec.upto sourcedSpec)) sourcedUptoCard
end Rows
end Go.Proofs.YtpdnofhackjfdaaGreatDoor
