/-
  DERIVED. GIVEN WITH THE SEED: THE CARDS: each row of YtfohldojcdhnhaaDoorRows.lean that lists a variable, with what it lists TIED to the program's text (the seventh form; the later family's looks); each row that meets fmt, with fmt's text TOLD by the authors' own Lean function (tested against real Go, not proved from fmt's source: count such statements apart). THE CARD IS WHAT COUNTS. Prove the row's statement (the work); the ties are given (YtfohldojcdhnhaaDoorTie.lean); close each card by the builder's one call (the guide's Derived/Test/ToyasCard.lean, 'card_holds'). Laid BY PROGRAM, IN A SANDBOX (cutbox-door.mjs). By AI agents, Wed Nov 11 2026. No macro, syntax, notation, axiom, sorry.
-/
import Derived.Test.YtfohldojcdhnhaaDoorRows
import GoSem.ClaimSeven
namespace Go.Proofs.YtfohldojcdhnhaaDoor
namespace Rows

/-- THE TIED CARD OF 'laceworklaw05.FanoMakes'. -/
def fanoMakesCard : Claim7 := { stood := { row := fanoMakesRow, standIns := [], harness := (true, "c4ce8c2f97443d33ef01aa1e1d84e1a48f312b91005bfdac4fa36f4da79d9e80"), looks := false }, kinds := [], alts := [], laidByText := true, laidKinds := [.data], laidTests := true, laidLooks := .later }
def FanoMakesCardSaid : Prop := Claim7.holds Tryd.pinned (.plain (OpenSpec.ofChange fanoMakesSpec)) fanoMakesCard

/-- THE TIED CARD OF 'laceworklaw05.FanoAsks'. -/
def fanoAsksCard : Claim7 := { stood := { row := fanoAsksRow, standIns := [], harness := (true, "c4ce8c2f97443d33ef01aa1e1d84e1a48f312b91005bfdac4fa36f4da79d9e80"), looks := false }, kinds := [], alts := [], laidByText := true, laidKinds := [.data], laidTests := true, laidLooks := .later }
def FanoAsksCardSaid : Prop := Claim7.holds Tryd.pinned (.plain (OpenSpec.ofChange fanoAsksSpec)) fanoAsksCard

/-- THE TIED CARD OF 'laceworklaw05.FanoBytes'. -/
def fanoBytesCard : Claim7 := { stood := { row := fanoBytesRow, standIns := [], harness := (true, "c4ce8c2f97443d33ef01aa1e1d84e1a48f312b91005bfdac4fa36f4da79d9e80"), looks := false }, kinds := [], alts := [], laidByText := true, laidKinds := [.data], laidTests := true, laidLooks := .later }
def FanoBytesCardSaid : Prop := Claim7.holds Tryd.pinned (.plain (OpenSpec.ofChange fanoBytesSpec)) fanoBytesCard

/-- THE TIED CARD OF 'laceworklaw05.FanoOf'. -/
def fanoOfCard : Claim7 := { stood := { row := fanoOfRow, standIns := [], harness := (true, "c4ce8c2f97443d33ef01aa1e1d84e1a48f312b91005bfdac4fa36f4da79d9e80"), looks := false }, kinds := [], alts := [], laidByText := true, laidKinds := [.data], laidTests := true, laidLooks := .later }
def FanoOfCardSaid : Prop := Claim7.holds Tryd.pinned (.plain (OpenSpec.ofChange fanoOfSpec)) fanoOfCard

/-- THE TIED CARD OF 'laceworklaw05.FanoEach'. -/
def fanoEachCard : Claim7 := { stood := { row := fanoEachRow, standIns := [], harness := (true, "c4ce8c2f97443d33ef01aa1e1d84e1a48f312b91005bfdac4fa36f4da79d9e80"), looks := false }, kinds := [], alts := [], laidByText := true, laidKinds := [.data], laidTests := true, laidLooks := .later }
def FanoEachCardSaid : Prop := Claim7.holds Tryd.pinned (.plain (OpenSpec.ofChange fanoEachSpec)) fanoEachCard

/-- THE TIED CARD OF 'laceworklaw05.FanoMore'. -/
def fanoMoreCard : Claim7 := { stood := { row := fanoMoreRow, standIns := [], harness := (true, "c4ce8c2f97443d33ef01aa1e1d84e1a48f312b91005bfdac4fa36f4da79d9e80"), looks := false }, kinds := [], alts := [], laidByText := true, laidKinds := [.data], laidTests := true, laidLooks := .later }
def FanoMoreCardSaid : Prop := Claim7.holds Tryd.pinned (.plain (OpenSpec.ofChange fanoMoreSpec)) fanoMoreCard

/-- THE TIED CARD OF 'laceworklaw05.FanoBetween'. -/
def fanoBetweenCard : Claim7 := { stood := { row := fanoBetweenRow, standIns := [], harness := (true, "c4ce8c2f97443d33ef01aa1e1d84e1a48f312b91005bfdac4fa36f4da79d9e80"), looks := false }, kinds := [], alts := [], laidByText := true, laidKinds := [.data], laidTests := true, laidLooks := .later }
def FanoBetweenCardSaid : Prop := Claim7.holds Tryd.pinned (.plain (OpenSpec.ofChange fanoBetweenSpec)) fanoBetweenCard

/-- THE SECOND FORM's CARD OF 'laceworklaw05.FanoMakes'. -/
def fanoMakesUptoCard : Claim7 := { stood := { row := fanoMakesUptoRow, standIns := [], harness := (true, "c4ce8c2f97443d33ef01aa1e1d84e1a48f312b91005bfdac4fa36f4da79d9e80"), looks := false }, kinds := [], alts := [], laidByText := true, laidKinds := [.data], laidTests := true, laidLooks := .later }
def FanoMakesUptoCardSaid : Prop := Claim7.holds Tryd.pinned (.plain (OpenSpec.upto fanoMakesSpec)) fanoMakesUptoCard

/-- THE SECOND FORM's CARD OF 'laceworklaw05.FanoAsks'. -/
def fanoAsksUptoCard : Claim7 := { stood := { row := fanoAsksUptoRow, standIns := [], harness := (true, "c4ce8c2f97443d33ef01aa1e1d84e1a48f312b91005bfdac4fa36f4da79d9e80"), looks := false }, kinds := [], alts := [], laidByText := true, laidKinds := [.data], laidTests := true, laidLooks := .later }
def FanoAsksUptoCardSaid : Prop := Claim7.holds Tryd.pinned (.plain (OpenSpec.upto fanoAsksSpec)) fanoAsksUptoCard

/-- THE SECOND FORM's CARD OF 'laceworklaw05.FanoBytes'. -/
def fanoBytesUptoCard : Claim7 := { stood := { row := fanoBytesUptoRow, standIns := [], harness := (true, "c4ce8c2f97443d33ef01aa1e1d84e1a48f312b91005bfdac4fa36f4da79d9e80"), looks := false }, kinds := [], alts := [], laidByText := true, laidKinds := [.data], laidTests := true, laidLooks := .later }
def FanoBytesUptoCardSaid : Prop := Claim7.holds Tryd.pinned (.plain (OpenSpec.upto fanoBytesSpec)) fanoBytesUptoCard

/-- THE SECOND FORM's CARD OF 'laceworklaw05.FanoOf'. -/
def fanoOfUptoCard : Claim7 := { stood := { row := fanoOfUptoRow, standIns := [], harness := (true, "c4ce8c2f97443d33ef01aa1e1d84e1a48f312b91005bfdac4fa36f4da79d9e80"), looks := false }, kinds := [], alts := [], laidByText := true, laidKinds := [.data], laidTests := true, laidLooks := .later }
def FanoOfUptoCardSaid : Prop := Claim7.holds Tryd.pinned (.plain (OpenSpec.upto fanoOfSpec)) fanoOfUptoCard

/-- THE SECOND FORM's CARD OF 'laceworklaw05.FanoEach'. -/
def fanoEachUptoCard : Claim7 := { stood := { row := fanoEachUptoRow, standIns := [], harness := (true, "c4ce8c2f97443d33ef01aa1e1d84e1a48f312b91005bfdac4fa36f4da79d9e80"), looks := false }, kinds := [], alts := [], laidByText := true, laidKinds := [.data], laidTests := true, laidLooks := .later }
def FanoEachUptoCardSaid : Prop := Claim7.holds Tryd.pinned (.plain (OpenSpec.upto fanoEachSpec)) fanoEachUptoCard

/-- THE SECOND FORM's CARD OF 'laceworklaw05.FanoMore'. -/
def fanoMoreUptoCard : Claim7 := { stood := { row := fanoMoreUptoRow, standIns := [], harness := (true, "c4ce8c2f97443d33ef01aa1e1d84e1a48f312b91005bfdac4fa36f4da79d9e80"), looks := false }, kinds := [], alts := [], laidByText := true, laidKinds := [.data], laidTests := true, laidLooks := .later }
def FanoMoreUptoCardSaid : Prop := Claim7.holds Tryd.pinned (.plain (OpenSpec.upto fanoMoreSpec)) fanoMoreUptoCard

/-- THE SECOND FORM's CARD OF 'laceworklaw05.FanoBetween'. -/
def fanoBetweenUptoCard : Claim7 := { stood := { row := fanoBetweenUptoRow, standIns := [], harness := (true, "c4ce8c2f97443d33ef01aa1e1d84e1a48f312b91005bfdac4fa36f4da79d9e80"), looks := false }, kinds := [], alts := [], laidByText := true, laidKinds := [.data], laidTests := true, laidLooks := .later }
def FanoBetweenUptoCardSaid : Prop := Claim7.holds Tryd.pinned (.plain (OpenSpec.upto fanoBetweenSpec)) fanoBetweenUptoCard
end Rows
end Go.Proofs.YtfohldojcdhnhaaDoor
