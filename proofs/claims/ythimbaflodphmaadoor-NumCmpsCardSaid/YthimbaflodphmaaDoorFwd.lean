/-
  A scope whose gotos go forward alone: from each label on, the code behind it is walked as it is come to. Of no program.
-/
import Derived.WalkMore
import Derived.ScopeJumps
namespace Go.Proofs.YthimbaflodphmaaDoor
open Go
/-- By a goto to a label of the list: the code behind it, from which later labels alone are gone to; else Q. -/
def fwd (P : Program) (c : Code) (Q : Exit → Act → World → Prop) : List Nat → Exit → Act → World → Prop
  | [], .goto _, _, _ => False
  | l0 :: ls, .goto l, a, w => (l = l0 ∧ ∃ r, findLabel c l0 = some r ∧ r.wp P (fwd P c Q ls) a w) ∨ fwd P c Q ls (.goto l) a w
  | _, .normal, a, w => Q .normal a w
  | _, .exit id, a, w => Q (.exit id) a w
  | _, .ret, a, w => Q .ret a w
  | _, .panic ch, a, w => Q (.panic ch) a w
  | _, .outgrown, a, w => Q .outgrown a w
section
variable {P : Program} {Q : Exit → Act → World → Prop}
theorem fwd_normal {c : Code} {ls : List Nat} {a : Act} {w : World} (h : fwd P c Q ls .normal a w) : Q .normal a w := by cases ls <;> exact h
theorem fwd_exit {c : Code} {ls : List Nat} {id : Nat} {a : Act} {w : World} (h : fwd P c Q ls (.exit id) a w) : Q (.exit id) a w := by cases ls <;> exact h
theorem fwd_ret {c : Code} {ls : List Nat} {a : Act} {w : World} (h : fwd P c Q ls .ret a w) : Q .ret a w := by cases ls <;> exact h
theorem fwd_out {c : Code} {ls : List Nat} {a : Act} {w : World} (h : fwd P c Q ls .outgrown a w) : Q .outgrown a w := by cases ls <;> exact h
theorem to_ret {c : Code} {ls : List Nat} {a : Act} {w : World} (h : Q .ret a w) : fwd P c Q ls .ret a w := by cases ls <;> exact h
theorem fwd_goto (c : Code) : ∀ (ls : List Nat) (l : Nat) (a : Act) (w : World) (b : Frame) (k : List Item) (cs : List Frame), fwd P c Q ls (.goto l) a w →
    ∃ r, findLabel c l = some r ∧ ∃ e a' w', Q e a' w' ∧ Arrives P (lone (b.at a (.code r :: .inScope c :: k)) cs w) b k cs e a' w' := by
  intro ls
  induction ls with
  | nil => intro l a w b k cs h; exact h.elim
  | cons l0 ls ih =>
    intro l a w b k cs h
    rcases h with ⟨rfl, r, hr, h⟩ | h
    · refine ⟨r, hr, ?_⟩
      obtain ⟨e, a₁, w₁, hq, harr⟩ := h b (.inScope c :: k) cs
      cases e with
      | normal => exact ⟨.normal, a₁, w₁, fwd_normal hq, Steps.trans harr (.one step_inScope)⟩
      | exit id => exact ⟨.exit id, a₁, w₁, fwd_exit hq, fun k' hk => harr k' (by simp [exitTo, hk])⟩
      | goto l' =>
        obtain ⟨r2, hr2, e₂, a₂, w₂, hq₂, harr₂⟩ := ih l' a₁ w₁ b k cs hq
        exact ⟨e₂, a₂, w₂, hq₂, .of_steps (harr _ (by simp [gotoIn, hr2])) harr₂⟩
      | ret => exact ⟨_, a₁, w₁, fwd_ret hq, harr⟩
      | panic ch => exact ⟨.panic ch, a₁, w₁, by cases ls <;> exact hq, harr⟩
      | outgrown => exact ⟨_, a₁, w₁, fwd_out hq, harr⟩
    · exact ih l a w b k cs h
theorem wp_scope_fwd {c : Code} {a : Act} {w : World} (ls : List Nat) (h : c.wp P (fwd P c Q ls) a w) : (Code.scope c).wp P Q a w := by
  intro b k cs
  obtain ⟨e, a₁, w₁, hq, harr⟩ := h b (.inScope c :: k) cs
  cases e with
  | normal => exact ⟨.normal, a₁, w₁, fwd_normal hq, .head step_scope (Steps.trans harr (.one step_inScope))⟩
  | exit id => exact ⟨.exit id, a₁, w₁, fwd_exit hq, fun k' hk => .head step_scope (harr k' (by simp [exitTo, hk]))⟩
  | goto l' =>
    obtain ⟨r2, hr2, e₂, a₂, w₂, hq₂, harr₂⟩ := fwd_goto c ls l' a₁ w₁ b k cs hq
    exact ⟨e₂, a₂, w₂, hq₂, .of_steps (.head step_scope (harr _ (by simp [gotoIn, hr2]))) harr₂⟩
  | ret => exact ⟨_, a₁, w₁, fwd_ret hq, .of_steps (.one step_scope) harr⟩
  | panic ch => exact ⟨.panic ch, a₁, w₁, by cases ls <;> exact hq, .of_steps (.one step_scope) harr⟩
  | outgrown => exact ⟨_, a₁, w₁, fwd_out hq, .of_steps (.one step_scope) harr⟩
end
end Go.Proofs.YthimbaflodphmaaDoor
