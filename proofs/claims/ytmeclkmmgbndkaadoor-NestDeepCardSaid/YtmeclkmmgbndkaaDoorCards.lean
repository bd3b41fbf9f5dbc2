/-
  DERIVED. GIVEN WITH THE SEED: THE CARDS: each row of YtmeclkmmgbndkaaDoorRows.lean that lists a variable, with what it lists TIED to the program's text (the seventh form; the later family's looks); each row that meets fmt, with fmt's text TOLD by the authors' own Lean function (tested against real Go, not proved from fmt's source: count such statements apart). THE CARD IS WHAT COUNTS. Prove the row's statement (the work); the ties are given (YtmeclkmmgbndkaaDoorTie.lean); close each card by the builder's one call (the guide's Derived/Test/ToyasCard.lean, 'card_holds'). Laid BY PROGRAM, IN A SANDBOX (cutbox-door.mjs). By AI agents, Wed Nov 11 2026. No macro, syntax, notation, axiom, sorry.
-/
import Derived.Test.YtmeclkmmgbndkaaDoorRows
import GoSem.ClaimSeven
namespace Go.Proofs.YtmeclkmmgbndkaaDoor
namespace Rows

/-- THE TIED CARD OF 'laceworklaw08.NestWalks'. -/
def nestWalksCard : Claim7 := { stood := { row := nestWalksRow, standIns := [], harness := (true, "5075b4dc6190b7c3db613a912019c4aa6d626b7ef9d904a165d206a8e3e6bf8c"), looks := false }, kinds := [], alts := [], laidByText := true, laidKinds := [.data], laidTests := true, laidLooks := .later }
def NestWalksCardSaid : Prop := Claim7.holds Tryd.pinned (.plain (OpenSpec.ofChange nestWalksSpec)) nestWalksCard

/-- THE TIED CARD OF 'laceworklaw08.NestDeep'. -/
def nestDeepCard : Claim7 := { stood := { row := nestDeepRow, standIns := [], harness := (true, "5075b4dc6190b7c3db613a912019c4aa6d626b7ef9d904a165d206a8e3e6bf8c"), looks := false }, kinds := [], alts := [], laidByText := true, laidKinds := [.data], laidTests := true, laidLooks := .later }
def NestDeepCardSaid : Prop := Claim7.holds Tryd.pinned (.plain (OpenSpec.ofChange nestDeepSpec)) nestDeepCard

/-- THE TIED CARD OF 'laceworklaw08.NestInside'. -/
def nestInsideCard : Claim7 := { stood := { row := nestInsideRow, standIns := [], harness := (true, "5075b4dc6190b7c3db613a912019c4aa6d626b7ef9d904a165d206a8e3e6bf8c"), looks := false }, kinds := [], alts := [], laidByText := true, laidKinds := [.data], laidTests := true, laidLooks := .later }
def NestInsideCardSaid : Prop := Claim7.holds Tryd.pinned (.plain (OpenSpec.ofChange nestInsideSpec)) nestInsideCard

/-- THE TIED CARD OF 'laceworklaw08.NestSums'. -/
def nestSumsCard : Claim7 := { stood := { row := nestSumsRow, standIns := [], harness := (true, "5075b4dc6190b7c3db613a912019c4aa6d626b7ef9d904a165d206a8e3e6bf8c"), looks := false }, kinds := [], alts := [], laidByText := true, laidKinds := [.data], laidTests := true, laidLooks := .later }
def NestSumsCardSaid : Prop := Claim7.holds Tryd.pinned (.plain (OpenSpec.ofChange nestSumsSpec)) nestSumsCard

/-- THE SECOND FORM's CARD OF 'laceworklaw08.NestWalks'. -/
def nestWalksUptoCard : Claim7 := { stood := { row := nestWalksUptoRow, standIns := [], harness := (true, "5075b4dc6190b7c3db613a912019c4aa6d626b7ef9d904a165d206a8e3e6bf8c"), looks := false }, kinds := [], alts := [], laidByText := true, laidKinds := [.data], laidTests := true, laidLooks := .later }
def NestWalksUptoCardSaid : Prop := Claim7.holds Tryd.pinned (.plain (OpenSpec.upto nestWalksSpec)) nestWalksUptoCard

/-- THE SECOND FORM's CARD OF 'laceworklaw08.NestDeep'. -/
def nestDeepUptoCard : Claim7 := { stood := { row := nestDeepUptoRow, standIns := [], harness := (true, "5075b4dc6190b7c3db613a912019c4aa6d626b7ef9d904a165d206a8e3e6bf8c"), looks := false }, kinds := [], alts := [], laidByText := true, laidKinds := [.data], laidTests := true, laidLooks := .later }
def NestDeepUptoCardSaid : Prop := Claim7.holds Tryd.pinned (.plain (OpenSpec.upto nestDeepSpec)) nestDeepUptoCard

/-- THE SECOND FORM's CARD OF 'laceworklaw08.NestInside'. -/
def nestInsideUptoCard : Claim7 := { stood := { row := nestInsideUptoRow, standIns := [], harness := (true, "5075b4dc6190b7c3db613a912019c4aa6d626b7ef9d904a165d206a8e3e6bf8c"), looks := false }, kinds := [], alts := [], laidByText := true, laidKinds := [.data], laidTests := true, laidLooks := .later }
def NestInsideUptoCardSaid : Prop := Claim7.holds Tryd.pinned (.plain (OpenSpec.upto nestInsideSpec)) nestInsideUptoCard

/-- THE SECOND FORM's CARD OF 'laceworklaw08.NestSums'. -/
def nestSumsUptoCard : Claim7 := { stood := { row := nestSumsUptoRow, standIns := [], harness := (true, "5075b4dc6190b7c3db613a912019c4aa6d626b7ef9d904a165d206a8e3e6bf8c"), looks := false }, kinds := [], alts := [], laidByText := true, laidKinds := [.data], laidTests := true, laidLooks := .later }
def NestSumsUptoCardSaid : Prop := Claim7.holds Tryd.pinned (.plain (OpenSpec.upto nestSumsSpec)) nestSumsUptoCard
end Rows
end Go.Proofs.YtmeclkmmgbndkaaDoor
