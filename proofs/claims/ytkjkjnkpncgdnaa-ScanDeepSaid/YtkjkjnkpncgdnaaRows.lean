/-
  No cell of these rows narrows 'for every input' (looked for: loops, veiled, ifaces, maps, wideKeys, modest, calm, conditions, laid).
  DERIVED. THE GIVEN ROWS OF THIS SEAT. 6 by the template 'for every input the law returns true; each argument reads behind the call as it read before'; 0 by the template 'total and deterministic' (their statements: YtkjkjnkpncgdnaaTotals.lean).
  GIVEN WITH THE SEED: the statements are not yours to turn. If you find one false, say at which input.
  Laid BY PROGRAM, IN A SANDBOX (cutbox-rows.mjs): the forced cells as the released guide's own fill.sh prints them over the translation 7416d4ecb95d7757… (all of the seat's roots in one cut). By AI agents, Wed Nov 11 2026. No macro, syntax, notation, axiom, sorry.
-/
import Derived.Test.YtkjkjnkpncgdnaaChecked
import GoSem.Claim
import GoSem.ClaimJoined
import GoSem.ClaimMapViews
import Derived.JoinedTies
import Derived.KernelRfl
namespace Go.Proofs.Ytkjkjnkpncgdnaa
/- THE CELL 'sum', in the pinned program and in every row, IS THE sha256 OF THE DUMP (.gsa) THAT YtkjkjnkpncgdnaaProg.lean LOADS. Nothing in Lean hashes anything: it is a label: what it is worth is what the hold of that sum in a sandbox is worth. -/
noncomputable def Try.pinned : Pinned := { name := "ytkjkjnkpncgdnaa", sum := "7416d4ecb95d7757c34c7ff7a7d335aa3f39b6fcf228780915dfe947f3912226", checked := Try.checked }
namespace Rows
def none {H : Type} : Left H := { results := [], args := [] }

/-- 'laceworklaw12.ScanValidates': WHATEVER THE INPUT: true; the input reads as it did. -/
def scanValidatesSpec : ChangeSpec := { name := "scanValidates", fn := fun _ => fun
  | [d1, d2] => { results := [.lit (.bool true)], args := [d1, d2] }
  | _ => none }
def scanValidatesRow : OpenClaim := { program := "ytkjkjnkpncgdnaa", sum := "7416d4ecb95d7757c34c7ff7a7d335aa3f39b6fcf228780915dfe947f3912226", func := "lacework/laceworklaw12.ScanValidates", spec := "scanValidates", recurses := true, apart := false }
def ScanValidatesSaid : Prop := scanValidatesRow.holds Try.pinned (OpenSpec.ofChange scanValidatesSpec)

/-- ITS FALSE NEIGHBOUR: 'it returns false'. Refute it at one input. -/
def scanValidatesWrong : ChangeSpec := { name := "scanValidates", fn := fun _ => fun
  | [d1, d2] => { results := [.lit (.bool false)], args := [d1, d2] }
  | _ => none }
def ScanValidatesWrongFalsely : Prop := scanValidatesRow.holds Try.pinned (OpenSpec.ofChange scanValidatesWrong)

/-- 'laceworklaw12.ScanAlive': WHATEVER THE INPUT: true; the input reads as it did. -/
def scanAliveSpec : ChangeSpec := { name := "scanAlive", fn := fun _ => fun
  | [d1, d2] => { results := [.lit (.bool true)], args := [d1, d2] }
  | _ => none }
def scanAliveRow : OpenClaim := { program := "ytkjkjnkpncgdnaa", sum := "7416d4ecb95d7757c34c7ff7a7d335aa3f39b6fcf228780915dfe947f3912226", func := "lacework/laceworklaw12.ScanAlive", spec := "scanAlive", apart := false }
def ScanAliveSaid : Prop := scanAliveRow.holds Try.pinned (OpenSpec.ofChange scanAliveSpec)

/-- ITS FALSE NEIGHBOUR: 'it returns false'. Refute it at one input. -/
def scanAliveWrong : ChangeSpec := { name := "scanAlive", fn := fun _ => fun
  | [d1, d2] => { results := [.lit (.bool false)], args := [d1, d2] }
  | _ => none }
def ScanAliveWrongFalsely : Prop := scanAliveRow.holds Try.pinned (OpenSpec.ofChange scanAliveWrong)

/-- 'laceworklaw12.ScanNests': WHATEVER THE INPUT: true; the input reads as it did. -/
def scanNestsSpec : ChangeSpec := { name := "scanNests", fn := fun _ => fun
  | [d1, d2, d3] => { results := [.lit (.bool true)], args := [d1, d2, d3] }
  | _ => none }
def scanNestsRow : OpenClaim := { program := "ytkjkjnkpncgdnaa", sum := "7416d4ecb95d7757c34c7ff7a7d335aa3f39b6fcf228780915dfe947f3912226", func := "lacework/laceworklaw12.ScanNests", spec := "scanNests", apart := false }
def ScanNestsSaid : Prop := scanNestsRow.holds Try.pinned (OpenSpec.ofChange scanNestsSpec)

/-- ITS FALSE NEIGHBOUR: 'it returns false'. Refute it at one input. -/
def scanNestsWrong : ChangeSpec := { name := "scanNests", fn := fun _ => fun
  | [d1, d2, d3] => { results := [.lit (.bool false)], args := [d1, d2, d3] }
  | _ => none }
def ScanNestsWrongFalsely : Prop := scanNestsRow.holds Try.pinned (OpenSpec.ofChange scanNestsWrong)

/-- 'laceworklaw12.ScanDeep': WHATEVER THE INPUT: true; the input reads as it did. -/
def scanDeepSpec : ChangeSpec := { name := "scanDeep", fn := fun _ => fun
  | [d1, d2, d3] => { results := [.lit (.bool true)], args := [d1, d2, d3] }
  | _ => none }
def scanDeepRow : OpenClaim := { program := "ytkjkjnkpncgdnaa", sum := "7416d4ecb95d7757c34c7ff7a7d335aa3f39b6fcf228780915dfe947f3912226", func := "lacework/laceworklaw12.ScanDeep", spec := "scanDeep", apart := false }
def ScanDeepSaid : Prop := scanDeepRow.holds Try.pinned (OpenSpec.ofChange scanDeepSpec)

/-- ITS FALSE NEIGHBOUR: 'it returns false'. Refute it at one input. -/
def scanDeepWrong : ChangeSpec := { name := "scanDeep", fn := fun _ => fun
  | [d1, d2, d3] => { results := [.lit (.bool false)], args := [d1, d2, d3] }
  | _ => none }
def ScanDeepWrongFalsely : Prop := scanDeepRow.holds Try.pinned (OpenSpec.ofChange scanDeepWrong)

/-- 'laceworklaw12.ScanLarge': WHATEVER THE INPUT: true; the input reads as it did. -/
def scanLargeSpec : ChangeSpec := { name := "scanLarge", fn := fun _ => fun
  | [d1, d2] => { results := [.lit (.bool true)], args := [d1, d2] }
  | _ => none }
def scanLargeRow : OpenClaim := { program := "ytkjkjnkpncgdnaa", sum := "7416d4ecb95d7757c34c7ff7a7d335aa3f39b6fcf228780915dfe947f3912226", func := "lacework/laceworklaw12.ScanLarge", spec := "scanLarge", apart := false }
def ScanLargeSaid : Prop := scanLargeRow.holds Try.pinned (OpenSpec.ofChange scanLargeSpec)

/-- ITS FALSE NEIGHBOUR: 'it returns false'. Refute it at one input. -/
def scanLargeWrong : ChangeSpec := { name := "scanLarge", fn := fun _ => fun
  | [d1, d2] => { results := [.lit (.bool false)], args := [d1, d2] }
  | _ => none }
def ScanLargeWrongFalsely : Prop := scanLargeRow.holds Try.pinned (OpenSpec.ofChange scanLargeWrong)

/-- 'laceworklaw12.ScanBlanks': WHATEVER THE INPUT: true; the input reads as it did. -/
def scanBlanksSpec : ChangeSpec := { name := "scanBlanks", fn := fun _ => fun
  | [d1, d2, d3] => { results := [.lit (.bool true)], args := [d1, d2, d3] }
  | _ => none }
def scanBlanksRow : OpenClaim := { program := "ytkjkjnkpncgdnaa", sum := "7416d4ecb95d7757c34c7ff7a7d335aa3f39b6fcf228780915dfe947f3912226", func := "lacework/laceworklaw12.ScanBlanks", spec := "scanBlanks", apart := false }
def ScanBlanksSaid : Prop := scanBlanksRow.holds Try.pinned (OpenSpec.ofChange scanBlanksSpec)

/-- ITS FALSE NEIGHBOUR: 'it returns false'. Refute it at one input. -/
def scanBlanksWrong : ChangeSpec := { name := "scanBlanks", fn := fun _ => fun
  | [d1, d2, d3] => { results := [.lit (.bool false)], args := [d1, d2, d3] }
  | _ => none }
def ScanBlanksWrongFalsely : Prop := scanBlanksRow.holds Try.pinned (OpenSpec.ofChange scanBlanksWrong)

/- THE SECOND FORM. 'bulk': how many values and letters a reading holds, each counted each time it is reached (what is shared counts as often as it is met; a slice's spare places count too). A statement '..UptoSaid' is the law's where the arguments, and the package variables that the reading takes, are together of bulk at most 1048576: NARROWER than '..Said'. Prove '..Said' where nothing that the law and all that it calls make is longer than what came in: it says more and counts as full. Else prove '..UptoSaid'. A law counts once. -/
mutual
def uptoBulk {H : Type} : DataW H → Nat
  | .lit (.string bytes) => bytes.length + 1
  | .lit _ => 1
  | .nil => 1
  | .ptr d => uptoBulk d + 1
  | .slice elems spare => uptoBulkAll elems + uptoBulkAll spare + 1
  | .agg parts => uptoBulkAll parts + 1
  | .iface _ d => uptoBulk d + 1
  | .map entries => uptoBulkEntries entries + 1
  | .held _ => 1
def uptoBulkAll {H : Type} : List (DataW H) → Nat
  | [] => 0
  | d :: r => uptoBulk d + uptoBulkAll r
def uptoBulkEntries {H : Type} : List (Lit × DataW H) → Nat
  | [] => 0
  | x :: r => uptoBulkEntry x + uptoBulkEntries r
def uptoBulkEntry {H : Type} : Lit × DataW H → Nat
  | (.string bytes, d) => bytes.length + uptoBulk d + 1
  | (_, d) => uptoBulk d + 1
 end
def uptoSmall : (H : Type) → List (DataW H) → Bool := fun _ ds => decide (uptoBulkAll ds ≤ 1048576)
def OpenSpec.upto (s : _root_.Go.ChangeSpec) : _root_.Go.OpenSpec := { _root_.Go.OpenSpec.ofChange s with cond := some uptoSmall }

/-- 'laceworklaw12.ScanValidates', WHERE WHAT IT READS IS OF BULK AT MOST 1048576: true; the input reads as it did. -/
def scanValidatesUptoRow : OpenClaim := { program := "ytkjkjnkpncgdnaa", sum := "7416d4ecb95d7757c34c7ff7a7d335aa3f39b6fcf228780915dfe947f3912226", func := "lacework/laceworklaw12.ScanValidates", spec := "scanValidates", recurses := true, apart := false, narrowed := true }
def ScanValidatesUptoSaid : Prop := scanValidatesUptoRow.holds Try.pinned (OpenSpec.upto scanValidatesSpec)

/-- 'laceworklaw12.ScanAlive', WHERE WHAT IT READS IS OF BULK AT MOST 1048576: true; the input reads as it did. -/
def scanAliveUptoRow : OpenClaim := { program := "ytkjkjnkpncgdnaa", sum := "7416d4ecb95d7757c34c7ff7a7d335aa3f39b6fcf228780915dfe947f3912226", func := "lacework/laceworklaw12.ScanAlive", spec := "scanAlive", apart := false, narrowed := true }
def ScanAliveUptoSaid : Prop := scanAliveUptoRow.holds Try.pinned (OpenSpec.upto scanAliveSpec)

/-- 'laceworklaw12.ScanNests', WHERE WHAT IT READS IS OF BULK AT MOST 1048576: true; the input reads as it did. -/
def scanNestsUptoRow : OpenClaim := { program := "ytkjkjnkpncgdnaa", sum := "7416d4ecb95d7757c34c7ff7a7d335aa3f39b6fcf228780915dfe947f3912226", func := "lacework/laceworklaw12.ScanNests", spec := "scanNests", apart := false, narrowed := true }
def ScanNestsUptoSaid : Prop := scanNestsUptoRow.holds Try.pinned (OpenSpec.upto scanNestsSpec)

/-- 'laceworklaw12.ScanDeep', WHERE WHAT IT READS IS OF BULK AT MOST 1048576: true; the input reads as it did. -/
def scanDeepUptoRow : OpenClaim := { program := "ytkjkjnkpncgdnaa", sum := "7416d4ecb95d7757c34c7ff7a7d335aa3f39b6fcf228780915dfe947f3912226", func := "lacework/laceworklaw12.ScanDeep", spec := "scanDeep", apart := false, narrowed := true }
def ScanDeepUptoSaid : Prop := scanDeepUptoRow.holds Try.pinned (OpenSpec.upto scanDeepSpec)

/-- 'laceworklaw12.ScanLarge', WHERE WHAT IT READS IS OF BULK AT MOST 1048576: true; the input reads as it did. -/
def scanLargeUptoRow : OpenClaim := { program := "ytkjkjnkpncgdnaa", sum := "7416d4ecb95d7757c34c7ff7a7d335aa3f39b6fcf228780915dfe947f3912226", func := "lacework/laceworklaw12.ScanLarge", spec := "scanLarge", apart := false, narrowed := true }
def ScanLargeUptoSaid : Prop := scanLargeUptoRow.holds Try.pinned (OpenSpec.upto scanLargeSpec)

/-- 'laceworklaw12.ScanBlanks', WHERE WHAT IT READS IS OF BULK AT MOST 1048576: true; the input reads as it did. -/
def scanBlanksUptoRow : OpenClaim := { program := "ytkjkjnkpncgdnaa", sum := "7416d4ecb95d7757c34c7ff7a7d335aa3f39b6fcf228780915dfe947f3912226", func := "lacework/laceworklaw12.ScanBlanks", spec := "scanBlanks", apart := false, narrowed := true }
def ScanBlanksUptoSaid : Prop := scanBlanksUptoRow.holds Try.pinned (OpenSpec.upto scanBlanksSpec)

end Rows
end Go.Proofs.Ytkjkjnkpncgdnaa
