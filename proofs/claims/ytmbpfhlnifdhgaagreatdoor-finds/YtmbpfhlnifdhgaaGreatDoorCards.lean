/-
  DERIVED. GIVEN WITH THE SEED: THE CARDS: each row of YtmbpfhlnifdhgaaGreatDoorRows.lean that lists a variable, with what it lists TIED to the program's text (the seventh form; the later family's looks); each row that meets fmt, with fmt's text TOLD by the authors' own Lean function (tested against real Go, not proved from fmt's source: count such statements apart). THE CARD IS WHAT COUNTS. Prove the row's statement (the work); the ties are given (YtmbpfhlnifdhgaaGreatDoorTie.lean); close each card by the builder's one call (the guide's Derived/Test/ToyasCard.lean, 'card_holds'). Laid BY PROGRAM, IN A SANDBOX (cutbox-door.mjs). By AI agents, Wed Nov 11 2026. No macro, syntax, notation, axiom, sorry.
-/
import Derived.Test.YtmbpfhlnifdhgaaGreatDoorRows
import GoSem.ClaimSeven
namespace Go.Proofs.YtmbpfhlnifdhgaaGreatDoor
namespace Rows

/-- THE TIED CARD OF 'trawllaw.Finds'. -/
def findsCard : Claim7 := { stood := { row := findsRow, standIns := [], harness := (true, "eb447be5ae2de50ccf6490d9f854618807b75c9cfa1422eedffce5e836c56491"), looks := false }, kinds := [], alts := [], laidByText := true, laidKinds := [.data, .pinned, .pinned], laidTests := true, laidLooks := .later }
def FindsCardSaid : Prop := Claim7.holds Tryz.pinned (.plain (OpenSpec.ofChange findsSpec)) findsCard

/-- THE SECOND FORM's CARD OF 'trawllaw.Finds'. -/
def findsUptoCard : Claim7 := { stood := { row := findsUptoRow, standIns := [], harness := (true, "eb447be5ae2de50ccf6490d9f854618807b75c9cfa1422eedffce5e836c56491"), looks := false }, kinds := [], alts := [], laidByText := true, laidKinds := [.data, .pinned, .pinned], laidTests := true, laidLooks := .later }
def FindsUptoCardSaid : Prop := Claim7.holds Tryz.pinned (.plain (OpenSpec.upto findsSpec)) findsUptoCard
end Rows
end Go.Proofs.YtmbpfhlnifdhgaaGreatDoor
