/-
  DERIVED. GIVEN WITH THE SEED: THE CARDS: each row of YtmeclkmmgbndkaaGreatDoorRows.lean that lists a variable, with what it lists TIED to the program's text (the seventh form; the later family's looks); each row that meets fmt, with fmt's text TOLD by the authors' own Lean function (tested against real Go, not proved from fmt's source: count such statements apart). THE CARD IS WHAT COUNTS. Prove the row's statement (the work); the ties are given (YtmeclkmmgbndkaaGreatDoorTie.lean); close each card by the builder's one call (the guide's Derived/Test/ToyasCard.lean, 'card_holds'). Laid BY PROGRAM, IN A SANDBOX (cutbox-door.mjs). By AI agents, Wed Nov 11 2026. No macro, syntax, notation, axiom, sorry.
-/
import Derived.Test.YtmeclkmmgbndkaaGreatDoorRows
import GoSem.ClaimSeven
namespace Go.Proofs.YtmeclkmmgbndkaaGreatDoor
namespace Rows

/-- THE TIED CARD OF 'laceworklaw08.NestTells'. -/
def nestTellsCard : Claim7 := { stood := { row := nestTellsRow, standIns := [], harness := (true, "8512f8788959a8195074b7c502557632baed971cfc32995dac87b7193521a3f1"), looks := false }, kinds := [], alts := [], laidByText := true, laidKinds := [.data], laidTests := true, laidLooks := .later }
def NestTellsCardSaid : Prop := Claim7.holds Tryz.pinned (.plain (OpenSpec.ofChange nestTellsSpec)) nestTellsCard

/-- THE SECOND FORM's CARD OF 'laceworklaw08.NestTells'. -/
def nestTellsUptoCard : Claim7 := { stood := { row := nestTellsUptoRow, standIns := [], harness := (true, "8512f8788959a8195074b7c502557632baed971cfc32995dac87b7193521a3f1"), looks := false }, kinds := [], alts := [], laidByText := true, laidKinds := [.data], laidTests := true, laidLooks := .later }
def NestTellsUptoCardSaid : Prop := Claim7.holds Tryz.pinned (.plain (OpenSpec.upto nestTellsSpec)) nestTellsUptoCard
end Rows
end Go.Proofs.YtmeclkmmgbndkaaGreatDoor
