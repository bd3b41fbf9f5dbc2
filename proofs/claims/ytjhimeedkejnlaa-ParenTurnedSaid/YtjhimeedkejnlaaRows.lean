/-
  No cell of these rows narrows 'for every input' (looked for: loops, veiled, ifaces, maps, wideKeys, modest, calm, conditions, laid).
  DERIVED. THE GIVEN ROWS OF THIS SEAT. 5 by the template 'for every input the law returns true; each argument reads behind the call as it read before'; 0 by the template 'total and deterministic' (their statements: YtjhimeedkejnlaaTotals.lean).
  GIVEN WITH THE SEED: the statements are not yours to turn. If you find one false, say at which input.
  Laid BY PROGRAM, IN A SANDBOX (cutbox-rows.mjs): the forced cells as the released guide's own fill.sh prints them over the translation 51d83a45d93ca97e… (all of the seat's roots in one cut). By AI agents, Wed Nov 11 2026. No macro, syntax, notation, axiom, sorry.
-/
import Derived.Test.YtjhimeedkejnlaaChecked
import GoSem.Claim
import GoSem.ClaimJoined
import GoSem.ClaimMapViews
import Derived.JoinedTies
import Derived.KernelRfl
namespace Go.Proofs.Ytjhimeedkejnlaa
/- THE CELL 'sum', in the pinned program and in every row, IS THE sha256 OF THE DUMP (.gsa) THAT YtjhimeedkejnlaaProg.lean LOADS. Nothing in Lean hashes anything: it is a label: what it is worth is what the hold of that sum in a sandbox is worth. -/
noncomputable def Try.pinned : Pinned := { name := "ytjhimeedkejnlaa", sum := "51d83a45d93ca97eb93c8714ca2c04f084fbf3585f594e97584e211e358b3803", checked := Try.checked }
namespace Rows
def none {H : Type} : Left H := { results := [], args := [] }

/-- 'laceworklaw06.ParenCounts': WHATEVER THE INPUT: true; the input reads as it did. -/
def parenCountsSpec : ChangeSpec := { name := "parenCounts", fn := fun _ => fun
  | [d1, d2, d3] => { results := [.lit (.bool true)], args := [d1, d2, d3] }
  | _ => none }
def parenCountsRow : OpenClaim := { program := "ytjhimeedkejnlaa", sum := "51d83a45d93ca97eb93c8714ca2c04f084fbf3585f594e97584e211e358b3803", func := "lacework/laceworklaw06.ParenCounts", spec := "parenCounts", unfollowed := true, recurses := true, apart := false }
def ParenCountsSaid : Prop := parenCountsRow.holds Try.pinned (OpenSpec.ofChange parenCountsSpec)

/-- ITS FALSE NEIGHBOUR: 'it returns false'. Refute it at one input. -/
def parenCountsWrong : ChangeSpec := { name := "parenCounts", fn := fun _ => fun
  | [d1, d2, d3] => { results := [.lit (.bool false)], args := [d1, d2, d3] }
  | _ => none }
def ParenCountsWrongFalsely : Prop := parenCountsRow.holds Try.pinned (OpenSpec.ofChange parenCountsWrong)

/-- 'laceworklaw06.ParenFinds': WHATEVER THE INPUT: true; the input reads as it did. -/
def parenFindsSpec : ChangeSpec := { name := "parenFinds", fn := fun _ => fun
  | [d1, d2] => { results := [.lit (.bool true)], args := [d1, d2] }
  | _ => none }
def parenFindsRow : OpenClaim := { program := "ytjhimeedkejnlaa", sum := "51d83a45d93ca97eb93c8714ca2c04f084fbf3585f594e97584e211e358b3803", func := "lacework/laceworklaw06.ParenFinds", spec := "parenFinds", unfollowed := true, recurses := true, apart := false }
def ParenFindsSaid : Prop := parenFindsRow.holds Try.pinned (OpenSpec.ofChange parenFindsSpec)

/-- ITS FALSE NEIGHBOUR: 'it returns false'. Refute it at one input. -/
def parenFindsWrong : ChangeSpec := { name := "parenFinds", fn := fun _ => fun
  | [d1, d2] => { results := [.lit (.bool false)], args := [d1, d2] }
  | _ => none }
def ParenFindsWrongFalsely : Prop := parenFindsRow.holds Try.pinned (OpenSpec.ofChange parenFindsWrong)

/-- 'laceworklaw06.ParenBalanced': WHATEVER THE INPUT: true; the input reads as it did. -/
def parenBalancedSpec : ChangeSpec := { name := "parenBalanced", fn := fun _ => fun
  | [d] => { results := [.lit (.bool true)], args := [d] }
  | _ => none }
def parenBalancedRow : OpenClaim := { program := "ytjhimeedkejnlaa", sum := "51d83a45d93ca97eb93c8714ca2c04f084fbf3585f594e97584e211e358b3803", func := "lacework/laceworklaw06.ParenBalanced", spec := "parenBalanced", unfollowed := true, recurses := true, apart := false }
def ParenBalancedSaid : Prop := parenBalancedRow.holds Try.pinned (OpenSpec.ofChange parenBalancedSpec)

/-- ITS FALSE NEIGHBOUR: 'it returns false'. Refute it at one input. -/
def parenBalancedWrong : ChangeSpec := { name := "parenBalanced", fn := fun _ => fun
  | [d] => { results := [.lit (.bool false)], args := [d] }
  | _ => none }
def ParenBalancedWrongFalsely : Prop := parenBalancedRow.holds Try.pinned (OpenSpec.ofChange parenBalancedWrong)

/-- 'laceworklaw06.ParenTwo': WHATEVER THE INPUT: true; the input reads as it did. -/
def parenTwoSpec : ChangeSpec := { name := "parenTwo", fn := fun _ => fun
  | [d1, d2, d3] => { results := [.lit (.bool true)], args := [d1, d2, d3] }
  | _ => none }
def parenTwoRow : OpenClaim := { program := "ytjhimeedkejnlaa", sum := "51d83a45d93ca97eb93c8714ca2c04f084fbf3585f594e97584e211e358b3803", func := "lacework/laceworklaw06.ParenTwo", spec := "parenTwo", unfollowed := true, recurses := true, apart := false }
def ParenTwoSaid : Prop := parenTwoRow.holds Try.pinned (OpenSpec.ofChange parenTwoSpec)

/-- ITS FALSE NEIGHBOUR: 'it returns false'. Refute it at one input. -/
def parenTwoWrong : ChangeSpec := { name := "parenTwo", fn := fun _ => fun
  | [d1, d2, d3] => { results := [.lit (.bool false)], args := [d1, d2, d3] }
  | _ => none }
def ParenTwoWrongFalsely : Prop := parenTwoRow.holds Try.pinned (OpenSpec.ofChange parenTwoWrong)

/-- 'laceworklaw06.ParenTurned': WHATEVER THE INPUT: true; the input reads as it did. -/
def parenTurnedSpec : ChangeSpec := { name := "parenTurned", fn := fun _ => fun
  | [d1, d2] => { results := [.lit (.bool true)], args := [d1, d2] }
  | _ => none }
def parenTurnedRow : OpenClaim := { program := "ytjhimeedkejnlaa", sum := "51d83a45d93ca97eb93c8714ca2c04f084fbf3585f594e97584e211e358b3803", func := "lacework/laceworklaw06.ParenTurned", spec := "parenTurned", unfollowed := true, recurses := true, apart := false }
def ParenTurnedSaid : Prop := parenTurnedRow.holds Try.pinned (OpenSpec.ofChange parenTurnedSpec)

/-- ITS FALSE NEIGHBOUR: 'it returns false'. Refute it at one input. -/
def parenTurnedWrong : ChangeSpec := { name := "parenTurned", fn := fun _ => fun
  | [d1, d2] => { results := [.lit (.bool false)], args := [d1, d2] }
  | _ => none }
def ParenTurnedWrongFalsely : Prop := parenTurnedRow.holds Try.pinned (OpenSpec.ofChange parenTurnedWrong)

/- THE SECOND FORM. 'bulk': how many values and letters a reading holds, each counted each time it is reached (what is shared counts as often as it is met; a slice's spare places count too). A statement '..UptoSaid' is the law's where the arguments, and the package variables that the reading takes, are together of bulk at most 1048576: NARROWER than '..Said'. Prove '..Said' where nothing that the law and all that it calls make is longer than what came in: it says more and counts as full. Else prove '..UptoSaid'. A law counts once. -/
mutual
def uptoBulk {H : Type} : DataW H → Nat
  | .lit (.string bytes) => bytes.length + 1
  | .lit _ => 1
  | .nil => 1
  | .ptr d => uptoBulk d + 1
  | .slice elems spare => uptoBulkAll elems + uptoBulkAll spare + 1
  | .agg parts => uptoBulkAll parts + 1
  | .iface _ d => uptoBulk d + 1
  | .map entries => uptoBulkEntries entries + 1
  | .held _ => 1
def uptoBulkAll {H : Type} : List (DataW H) → Nat
  | [] => 0
  | d :: r => uptoBulk d + uptoBulkAll r
def uptoBulkEntries {H : Type} : List (Lit × DataW H) → Nat
  | [] => 0
  | x :: r => uptoBulkEntry x + uptoBulkEntries r
def uptoBulkEntry {H : Type} : Lit × DataW H → Nat
  | (.string bytes, d) => bytes.length + uptoBulk d + 1
  | (_, d) => uptoBulk d + 1
 end
def uptoSmall : (H : Type) → List (DataW H) → Bool := fun _ ds => decide (uptoBulkAll ds ≤ 1048576)
def OpenSpec.upto (s : _root_.Go.ChangeSpec) : _root_.Go.OpenSpec := { _root_.Go.OpenSpec.ofChange s with cond := some uptoSmall }

/-- 'laceworklaw06.ParenCounts', WHERE WHAT IT READS IS OF BULK AT MOST 1048576: true; the input reads as it did. -/
def parenCountsUptoRow : OpenClaim := { program := "ytjhimeedkejnlaa", sum := "51d83a45d93ca97eb93c8714ca2c04f084fbf3585f594e97584e211e358b3803", func := "lacework/laceworklaw06.ParenCounts", spec := "parenCounts", unfollowed := true, recurses := true, apart := false, narrowed := true }
def ParenCountsUptoSaid : Prop := parenCountsUptoRow.holds Try.pinned (OpenSpec.upto parenCountsSpec)

/-- 'laceworklaw06.ParenFinds', WHERE WHAT IT READS IS OF BULK AT MOST 1048576: true; the input reads as it did. -/
def parenFindsUptoRow : OpenClaim := { program := "ytjhimeedkejnlaa", sum := "51d83a45d93ca97eb93c8714ca2c04f084fbf3585f594e97584e211e358b3803", func := "lacework/laceworklaw06.ParenFinds", spec := "parenFinds", unfollowed := true, recurses := true, apart := false, narrowed := true }
def ParenFindsUptoSaid : Prop := parenFindsUptoRow.holds Try.pinned (OpenSpec.upto parenFindsSpec)

/-- 'laceworklaw06.ParenBalanced', WHERE WHAT IT READS IS OF BULK AT MOST 1048576: true; the input reads as it did. -/
def parenBalancedUptoRow : OpenClaim := { program := "ytjhimeedkejnlaa", sum := "51d83a45d93ca97eb93c8714ca2c04f084fbf3585f594e97584e211e358b3803", func := "lacework/laceworklaw06.ParenBalanced", spec := "parenBalanced", unfollowed := true, recurses := true, apart := false, narrowed := true }
def ParenBalancedUptoSaid : Prop := parenBalancedUptoRow.holds Try.pinned (OpenSpec.upto parenBalancedSpec)

/-- 'laceworklaw06.ParenTwo', WHERE WHAT IT READS IS OF BULK AT MOST 1048576: true; the input reads as it did. -/
def parenTwoUptoRow : OpenClaim := { program := "ytjhimeedkejnlaa", sum := "51d83a45d93ca97eb93c8714ca2c04f084fbf3585f594e97584e211e358b3803", func := "lacework/laceworklaw06.ParenTwo", spec := "parenTwo", unfollowed := true, recurses := true, apart := false, narrowed := true }
def ParenTwoUptoSaid : Prop := parenTwoUptoRow.holds Try.pinned (OpenSpec.upto parenTwoSpec)

/-- 'laceworklaw06.ParenTurned', WHERE WHAT IT READS IS OF BULK AT MOST 1048576: true; the input reads as it did. -/
def parenTurnedUptoRow : OpenClaim := { program := "ytjhimeedkejnlaa", sum := "51d83a45d93ca97eb93c8714ca2c04f084fbf3585f594e97584e211e358b3803", func := "lacework/laceworklaw06.ParenTurned", spec := "parenTurned", unfollowed := true, recurses := true, apart := false, narrowed := true }
def ParenTurnedUptoSaid : Prop := parenTurnedUptoRow.holds Try.pinned (OpenSpec.upto parenTurnedSpec)

end Rows
end Go.Proofs.Ytjhimeedkejnlaa
