/-
  DERIVED. GIVEN WITH THE SEED: THE CARDS: each row of YtgpagellhfjmdaaDoorRows.lean that lists a variable, with what it lists TIED to the program's text (the seventh form; the later family's looks); each row that meets fmt, with fmt's text TOLD by the authors' own Lean function (tested against real Go, not proved from fmt's source: count such statements apart). THE CARD IS WHAT COUNTS. Prove the row's statement (the work); the ties are given (YtgpagellhfjmdaaDoorTie.lean); close each card by the builder's one call (the guide's Derived/Test/ToyasCard.lean, 'card_holds'). Laid BY PROGRAM, IN A SANDBOX (cutbox-door.mjs). By AI agents, Wed Nov 11 2026. No macro, syntax, notation, axiom, sorry.
-/
import Derived.Test.YtgpagellhfjmdaaDoorRows
import GoSem.ClaimSeven
namespace Go.Proofs.YtgpagellhfjmdaaDoor
namespace Rows

/-- THE TIED CARD OF 'laceworklaw04.ChooseFinds'. -/
def chooseFindsCard : Claim7 := { stood := { row := chooseFindsRow, standIns := [], harness := (true, "98572716c81374635b0ac9179b12fd82b41d790c8fae1c0bd51ab56dbf81f2c6"), looks := false }, kinds := [], alts := [], laidByText := true, laidKinds := [.data], laidTests := true, laidLooks := .later }
def ChooseFindsCardSaid : Prop := Claim7.holds Tryd.pinned (.plain (OpenSpec.ofChange chooseFindsSpec)) chooseFindsCard

/-- THE TIED CARD OF 'laceworklaw04.ChooseEach'. -/
def chooseEachCard : Claim7 := { stood := { row := chooseEachRow, standIns := [], harness := (true, "98572716c81374635b0ac9179b12fd82b41d790c8fae1c0bd51ab56dbf81f2c6"), looks := false }, kinds := [], alts := [], laidByText := true, laidKinds := [.data], laidTests := true, laidLooks := .later }
def ChooseEachCardSaid : Prop := Claim7.holds Tryd.pinned (.plain (OpenSpec.ofChange chooseEachSpec)) chooseEachCard

/-- THE TIED CARD OF 'laceworklaw04.ChooseLong'. -/
def chooseLongCard : Claim7 := { stood := { row := chooseLongRow, standIns := [], harness := (true, "98572716c81374635b0ac9179b12fd82b41d790c8fae1c0bd51ab56dbf81f2c6"), looks := false }, kinds := [], alts := [], laidByText := true, laidKinds := [.data], laidTests := true, laidLooks := .later }
def ChooseLongCardSaid : Prop := Claim7.holds Tryd.pinned (.plain (OpenSpec.ofChange chooseLongSpec)) chooseLongCard

/-- THE TIED CARD OF 'laceworklaw04.ChooseTurned'. -/
def chooseTurnedCard : Claim7 := { stood := { row := chooseTurnedRow, standIns := [], harness := (true, "98572716c81374635b0ac9179b12fd82b41d790c8fae1c0bd51ab56dbf81f2c6"), looks := false }, kinds := [], alts := [], laidByText := true, laidKinds := [.data], laidTests := true, laidLooks := .later }
def ChooseTurnedCardSaid : Prop := Claim7.holds Tryd.pinned (.plain (OpenSpec.ofChange chooseTurnedSpec)) chooseTurnedCard

/-- THE SECOND FORM's CARD OF 'laceworklaw04.ChooseFinds'. -/
def chooseFindsUptoCard : Claim7 := { stood := { row := chooseFindsUptoRow, standIns := [], harness := (true, "98572716c81374635b0ac9179b12fd82b41d790c8fae1c0bd51ab56dbf81f2c6"), looks := false }, kinds := [], alts := [], laidByText := true, laidKinds := [.data], laidTests := true, laidLooks := .later }
def ChooseFindsUptoCardSaid : Prop := Claim7.holds Tryd.pinned (.plain (OpenSpec.upto chooseFindsSpec)) chooseFindsUptoCard

/-- THE SECOND FORM's CARD OF 'laceworklaw04.ChooseEach'. -/
def chooseEachUptoCard : Claim7 := { stood := { row := chooseEachUptoRow, standIns := [], harness := (true, "98572716c81374635b0ac9179b12fd82b41d790c8fae1c0bd51ab56dbf81f2c6"), looks := false }, kinds := [], alts := [], laidByText := true, laidKinds := [.data], laidTests := true, laidLooks := .later }
def ChooseEachUptoCardSaid : Prop := Claim7.holds Tryd.pinned (.plain (OpenSpec.upto chooseEachSpec)) chooseEachUptoCard

/-- THE SECOND FORM's CARD OF 'laceworklaw04.ChooseLong'. -/
def chooseLongUptoCard : Claim7 := { stood := { row := chooseLongUptoRow, standIns := [], harness := (true, "98572716c81374635b0ac9179b12fd82b41d790c8fae1c0bd51ab56dbf81f2c6"), looks := false }, kinds := [], alts := [], laidByText := true, laidKinds := [.data], laidTests := true, laidLooks := .later }
def ChooseLongUptoCardSaid : Prop := Claim7.holds Tryd.pinned (.plain (OpenSpec.upto chooseLongSpec)) chooseLongUptoCard

/-- THE SECOND FORM's CARD OF 'laceworklaw04.ChooseTurned'. -/
def chooseTurnedUptoCard : Claim7 := { stood := { row := chooseTurnedUptoRow, standIns := [], harness := (true, "98572716c81374635b0ac9179b12fd82b41d790c8fae1c0bd51ab56dbf81f2c6"), looks := false }, kinds := [], alts := [], laidByText := true, laidKinds := [.data], laidTests := true, laidLooks := .later }
def ChooseTurnedUptoCardSaid : Prop := Claim7.holds Tryd.pinned (.plain (OpenSpec.upto chooseTurnedSpec)) chooseTurnedUptoCard
end Rows
end Go.Proofs.YtgpagellhfjmdaaDoor
