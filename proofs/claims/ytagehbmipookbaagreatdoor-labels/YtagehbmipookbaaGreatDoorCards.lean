/-
  DERIVED. GIVEN WITH THE SEED: THE CARDS: each row of YtagehbmipookbaaGreatDoorRows.lean that lists a variable, with what it lists TIED to the program's text (the seventh form; the later family's looks); each row that meets fmt, with fmt's text TOLD by the authors' own Lean function (tested against real Go, not proved from fmt's source: count such statements apart). THE CARD IS WHAT COUNTS. Prove the row's statement (the work); the ties are given (YtagehbmipookbaaGreatDoorTie.lean); close each card by the builder's one call (the guide's Derived/Test/ToyasCard.lean, 'card_holds'). Laid BY PROGRAM, IN A SANDBOX (cutbox-door.mjs). By AI agents, Wed Nov 11 2026. No macro, syntax, notation, axiom, sorry.
-/
import Derived.Test.YtagehbmipookbaaGreatDoorRows
import GoSem.ClaimSeven
namespace Go.Proofs.YtagehbmipookbaaGreatDoor
namespace Rows

/-- THE TIED CARD OF 'trawllaw.Checks'. -/
def checksCard : Claim7 := { stood := { row := checksRow, standIns := [], harness := (true, "0eb9c074c002360d96639431b85e3853d6ae2c1adbd2f11787ba79db1690deac"), looks := false }, kinds := [], alts := [], laidByText := true, laidKinds := [.pinned], laidTests := true, laidLooks := .later }
def ChecksCardSaid : Prop := Claim7.holds Tryz.pinned (.plain (OpenSpec.ofChange checksSpec)) checksCard

/-- THE TIED CARD OF 'trawllaw.Labels'. -/
def labelsCard : Claim7 := { stood := { row := labelsRow, standIns := [], harness := (true, "0eb9c074c002360d96639431b85e3853d6ae2c1adbd2f11787ba79db1690deac"), looks := false }, kinds := [], alts := [], laidByText := true, laidKinds := [.pinned], laidTests := true, laidLooks := .later }
def LabelsCardSaid : Prop := Claim7.holds Tryz.pinned (.plain (OpenSpec.ofChange labelsSpec)) labelsCard

/-- THE SECOND FORM's CARD OF 'trawllaw.Checks'. -/
def checksUptoCard : Claim7 := { stood := { row := checksUptoRow, standIns := [], harness := (true, "0eb9c074c002360d96639431b85e3853d6ae2c1adbd2f11787ba79db1690deac"), looks := false }, kinds := [], alts := [], laidByText := true, laidKinds := [.pinned], laidTests := true, laidLooks := .later }
def ChecksUptoCardSaid : Prop := Claim7.holds Tryz.pinned (.plain (OpenSpec.upto checksSpec)) checksUptoCard

/-- THE SECOND FORM's CARD OF 'trawllaw.Labels'. -/
def labelsUptoCard : Claim7 := { stood := { row := labelsUptoRow, standIns := [], harness := (true, "0eb9c074c002360d96639431b85e3853d6ae2c1adbd2f11787ba79db1690deac"), looks := false }, kinds := [], alts := [], laidByText := true, laidKinds := [.pinned], laidTests := true, laidLooks := .later }
def LabelsUptoCardSaid : Prop := Claim7.holds Tryz.pinned (.plain (OpenSpec.upto labelsSpec)) labelsUptoCard
end Rows
end Go.Proofs.YtagehbmipookbaaGreatDoor
