/-
  A scope whose code goes straight to a label and from there on jumps back to it alone: what holds whenever the label is come to, and a number that each pass lowers. Of no program.
-/
import Derived.WalkMore
import Derived.ScopeJumps
namespace Go.Proofs.YtoipliflphbeiaaGreatDoor
open Go
section
variable {P : Program} {a : Act} {w : World} {Q : Exit → Act → World → Prop}

theorem wp_scope_label {pre rest : Code} (l : Nat) (J : Act → World → Prop) (μ : Act → World → Nat) (hf : findLabel (pre.seq ((Code.label l).seq rest)) l = some (Code.skip.seq rest))
    (ahead : pre.wp P (Exit.then J (Exit.noGoto Q)) a w)
    (pass : ∀ a w, J a w → rest.wp P (Exit.jump l (fun a' w' => J a' w' ∧ μ a' w' < μ a w) Q) a w) : (Code.scope (pre.seq ((Code.label l).seq rest))).wp P Q a w := by
  refine wp_scope_jumps l J μ hf ?_ (fun a w h => wp_seq (wp_skip (pass a w h)))
  apply wp_seq
  refine wp_mono ahead ?_
  intro e a w h
  cases e with
  | normal =>
    refine wp_seq (wp_label ?_)
    refine wp_mono (pass a w h) ?_
    intro e' a' w' h'
    cases e' with
    | goto l' => exact ⟨h'.1, h'.2.1⟩
    | normal => exact h'
    | exit id => exact h'
    | ret => exact h'
    | panic ch => exact h'
    | outgrown => exact h'
  | goto l' => exact absurd h id
  | exit id => exact h
  | ret => exact h
  | panic ch => exact h
  | outgrown => exact h

end
end Go.Proofs.YtoipliflphbeiaaGreatDoor
