/-
  No cell of these rows narrows 'for every input' (looked for: loops, veiled, ifaces, maps, wideKeys, modest, calm, conditions, laid).
  DERIVED. THE GIVEN ROWS OF THIS SEAT. 5 by the template 'for every input the law returns true; each argument reads behind the call as it read before'; 0 by the template 'total and deterministic' (their statements: YtdphkenpjndklaaTotals.lean).
  GIVEN WITH THE SEED: the statements are not yours to turn. If you find one false, say at which input.
  Laid BY PROGRAM, IN A SANDBOX (cutbox-rows.mjs): the forced cells as the released guide's own fill.sh prints them over the translation ba53b8ef772d15b4… (all of the seat's roots in one cut). By AI agents, Wed Nov 11 2026. No macro, syntax, notation, axiom, sorry.
-/
import Derived.Test.YtdphkenpjndklaaChecked
import GoSem.Claim
import GoSem.ClaimJoined
import GoSem.ClaimMapViews
import Derived.JoinedTies
import Derived.KernelRfl
namespace Go.Proofs.Ytdphkenpjndklaa
/- THE CELL 'sum', in the pinned program and in every row, IS THE sha256 OF THE DUMP (.gsa) THAT YtdphkenpjndklaaProg.lean LOADS. Nothing in Lean hashes anything: it is a label: what it is worth is what the hold of that sum in a sandbox is worth. -/
noncomputable def Try.pinned : Pinned := { name := "ytdphkenpjndklaa", sum := "ba53b8ef772d15b43256c8c434155f90052a1f08f0b4905647998df712e8c5bf", checked := Try.checked }
namespace Rows
def none {H : Type} : Left H := { results := [], args := [] }

/-- 'laceworklaw03.RankCounts': WHATEVER THE INPUT: true; the input reads as it did. -/
def rankCountsSpec : ChangeSpec := { name := "rankCounts", fn := fun _ => fun
  | [d1, d2] => { results := [.lit (.bool true)], args := [d1, d2] }
  | _ => none }
def rankCountsRow : OpenClaim := { program := "ytdphkenpjndklaa", sum := "ba53b8ef772d15b43256c8c434155f90052a1f08f0b4905647998df712e8c5bf", func := "lacework/laceworklaw03.RankCounts", spec := "rankCounts", apart := false }
def RankCountsSaid : Prop := rankCountsRow.holds Try.pinned (OpenSpec.ofChange rankCountsSpec)

/-- ITS FALSE NEIGHBOUR: 'it returns false'. Refute it at one input. -/
def rankCountsWrong : ChangeSpec := { name := "rankCounts", fn := fun _ => fun
  | [d1, d2] => { results := [.lit (.bool false)], args := [d1, d2] }
  | _ => none }
def RankCountsWrongFalsely : Prop := rankCountsRow.holds Try.pinned (OpenSpec.ofChange rankCountsWrong)

/-- 'laceworklaw03.RankEach': WHATEVER THE INPUT: true; the input reads as it did. -/
def rankEachSpec : ChangeSpec := { name := "rankEach", fn := fun _ => fun
  | [d] => { results := [.lit (.bool true)], args := [d] }
  | _ => none }
def rankEachRow : OpenClaim := { program := "ytdphkenpjndklaa", sum := "ba53b8ef772d15b43256c8c434155f90052a1f08f0b4905647998df712e8c5bf", func := "lacework/laceworklaw03.RankEach", spec := "rankEach", apart := false }
def RankEachSaid : Prop := rankEachRow.holds Try.pinned (OpenSpec.ofChange rankEachSpec)

/-- ITS FALSE NEIGHBOUR: 'it returns false'. Refute it at one input. -/
def rankEachWrong : ChangeSpec := { name := "rankEach", fn := fun _ => fun
  | [d] => { results := [.lit (.bool false)], args := [d] }
  | _ => none }
def RankEachWrongFalsely : Prop := rankEachRow.holds Try.pinned (OpenSpec.ofChange rankEachWrong)

/-- 'laceworklaw03.RankLong': WHATEVER THE INPUT: true; the input reads as it did. -/
def rankLongSpec : ChangeSpec := { name := "rankLong", fn := fun _ => fun
  | [d1, d2, d3] => { results := [.lit (.bool true)], args := [d1, d2, d3] }
  | _ => none }
def rankLongRow : OpenClaim := { program := "ytdphkenpjndklaa", sum := "ba53b8ef772d15b43256c8c434155f90052a1f08f0b4905647998df712e8c5bf", func := "lacework/laceworklaw03.RankLong", spec := "rankLong", apart := false }
def RankLongSaid : Prop := rankLongRow.holds Try.pinned (OpenSpec.ofChange rankLongSpec)

/-- ITS FALSE NEIGHBOUR: 'it returns false'. Refute it at one input. -/
def rankLongWrong : ChangeSpec := { name := "rankLong", fn := fun _ => fun
  | [d1, d2, d3] => { results := [.lit (.bool false)], args := [d1, d2, d3] }
  | _ => none }
def RankLongWrongFalsely : Prop := rankLongRow.holds Try.pinned (OpenSpec.ofChange rankLongWrong)

/-- 'laceworklaw03.RankParts': WHATEVER THE INPUT: true; the input reads as it did. -/
def rankPartsSpec : ChangeSpec := { name := "rankParts", fn := fun _ => fun
  | [d1, d2, d3] => { results := [.lit (.bool true)], args := [d1, d2, d3] }
  | _ => none }
def rankPartsRow : OpenClaim := { program := "ytdphkenpjndklaa", sum := "ba53b8ef772d15b43256c8c434155f90052a1f08f0b4905647998df712e8c5bf", func := "lacework/laceworklaw03.RankParts", spec := "rankParts", apart := false }
def RankPartsSaid : Prop := rankPartsRow.holds Try.pinned (OpenSpec.ofChange rankPartsSpec)

/-- ITS FALSE NEIGHBOUR: 'it returns false'. Refute it at one input. -/
def rankPartsWrong : ChangeSpec := { name := "rankParts", fn := fun _ => fun
  | [d1, d2, d3] => { results := [.lit (.bool false)], args := [d1, d2, d3] }
  | _ => none }
def RankPartsWrongFalsely : Prop := rankPartsRow.holds Try.pinned (OpenSpec.ofChange rankPartsWrong)

/-- 'laceworklaw03.RankTurned': WHATEVER THE INPUT: true; the input reads as it did. -/
def rankTurnedSpec : ChangeSpec := { name := "rankTurned", fn := fun _ => fun
  | [d1, d2] => { results := [.lit (.bool true)], args := [d1, d2] }
  | _ => none }
def rankTurnedRow : OpenClaim := { program := "ytdphkenpjndklaa", sum := "ba53b8ef772d15b43256c8c434155f90052a1f08f0b4905647998df712e8c5bf", func := "lacework/laceworklaw03.RankTurned", spec := "rankTurned", apart := false }
def RankTurnedSaid : Prop := rankTurnedRow.holds Try.pinned (OpenSpec.ofChange rankTurnedSpec)

/-- ITS FALSE NEIGHBOUR: 'it returns false'. Refute it at one input. -/
def rankTurnedWrong : ChangeSpec := { name := "rankTurned", fn := fun _ => fun
  | [d1, d2] => { results := [.lit (.bool false)], args := [d1, d2] }
  | _ => none }
def RankTurnedWrongFalsely : Prop := rankTurnedRow.holds Try.pinned (OpenSpec.ofChange rankTurnedWrong)

/- THE SECOND FORM. 'bulk': how many values and letters a reading holds, each counted each time it is reached (what is shared counts as often as it is met; a slice's spare places count too). A statement '..UptoSaid' is the law's where the arguments, and the package variables that the reading takes, are together of bulk at most 1048576: NARROWER than '..Said'. Prove '..Said' where nothing that the law and all that it calls make is longer than what came in: it says more and counts as full. Else prove '..UptoSaid'. A law counts once. -/
mutual
def uptoBulk {H : Type} : DataW H → Nat
  | .lit (.string bytes) => bytes.length + 1
  | .lit _ => 1
  | .nil => 1
  | .ptr d => uptoBulk d + 1
  | .slice elems spare => uptoBulkAll elems + uptoBulkAll spare + 1
  | .agg parts => uptoBulkAll parts + 1
  | .iface _ d => uptoBulk d + 1
  | .map entries => uptoBulkEntries entries + 1
  | .held _ => 1
def uptoBulkAll {H : Type} : List (DataW H) → Nat
  | [] => 0
  | d :: r => uptoBulk d + uptoBulkAll r
def uptoBulkEntries {H : Type} : List (Lit × DataW H) → Nat
  | [] => 0
  | x :: r => uptoBulkEntry x + uptoBulkEntries r
def uptoBulkEntry {H : Type} : Lit × DataW H → Nat
  | (.string bytes, d) => bytes.length + uptoBulk d + 1
  | (_, d) => uptoBulk d + 1
 end
def uptoSmall : (H : Type) → List (DataW H) → Bool := fun _ ds => decide (uptoBulkAll ds ≤ 1048576)
def OpenSpec.upto (s : _root_.Go.ChangeSpec) : _root_.Go.OpenSpec := { _root_.Go.OpenSpec.ofChange s with cond := some uptoSmall }

/-- 'laceworklaw03.RankCounts', WHERE WHAT IT READS IS OF BULK AT MOST 1048576: true; the input reads as it did. -/
def rankCountsUptoRow : OpenClaim := { program := "ytdphkenpjndklaa", sum := "ba53b8ef772d15b43256c8c434155f90052a1f08f0b4905647998df712e8c5bf", func := "lacework/laceworklaw03.RankCounts", spec := "rankCounts", apart := false, narrowed := true }
def RankCountsUptoSaid : Prop := rankCountsUptoRow.holds Try.pinned (OpenSpec.upto rankCountsSpec)

/-- 'laceworklaw03.RankEach', WHERE WHAT IT READS IS OF BULK AT MOST 1048576: true; the input reads as it did. -/
def rankEachUptoRow : OpenClaim := { program := "ytdphkenpjndklaa", sum := "ba53b8ef772d15b43256c8c434155f90052a1f08f0b4905647998df712e8c5bf", func := "lacework/laceworklaw03.RankEach", spec := "rankEach", apart := false, narrowed := true }
def RankEachUptoSaid : Prop := rankEachUptoRow.holds Try.pinned (OpenSpec.upto rankEachSpec)

/-- 'laceworklaw03.RankLong', WHERE WHAT IT READS IS OF BULK AT MOST 1048576: true; the input reads as it did. -/
def rankLongUptoRow : OpenClaim := { program := "ytdphkenpjndklaa", sum := "ba53b8ef772d15b43256c8c434155f90052a1f08f0b4905647998df712e8c5bf", func := "lacework/laceworklaw03.RankLong", spec := "rankLong", apart := false, narrowed := true }
def RankLongUptoSaid : Prop := rankLongUptoRow.holds Try.pinned (OpenSpec.upto rankLongSpec)

/-- 'laceworklaw03.RankParts', WHERE WHAT IT READS IS OF BULK AT MOST 1048576: true; the input reads as it did. -/
def rankPartsUptoRow : OpenClaim := { program := "ytdphkenpjndklaa", sum := "ba53b8ef772d15b43256c8c434155f90052a1f08f0b4905647998df712e8c5bf", func := "lacework/laceworklaw03.RankParts", spec := "rankParts", apart := false, narrowed := true }
def RankPartsUptoSaid : Prop := rankPartsUptoRow.holds Try.pinned (OpenSpec.upto rankPartsSpec)

/-- 'laceworklaw03.RankTurned', WHERE WHAT IT READS IS OF BULK AT MOST 1048576: true; the input reads as it did. -/
def rankTurnedUptoRow : OpenClaim := { program := "ytdphkenpjndklaa", sum := "ba53b8ef772d15b43256c8c434155f90052a1f08f0b4905647998df712e8c5bf", func := "lacework/laceworklaw03.RankTurned", spec := "rankTurned", apart := false, narrowed := true }
def RankTurnedUptoSaid : Prop := rankTurnedUptoRow.holds Try.pinned (OpenSpec.upto rankTurnedSpec)

end Rows
end Go.Proofs.Ytdphkenpjndklaa
