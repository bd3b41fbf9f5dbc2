/-
  A scope with two labels that are each gone back to: from the first one the run ends, jumps back to it, or jumps to the second one; from the second one it ends or jumps back to that: what holds at each, and a number that each pass lowers. Of no program.
-/
import Derived.Test.YtdjhpfojbnikdaaScopeTwo
namespace Go.Proofs.Ytdjhpfojbnikdaa
open Go
section
variable {P : Program} {a : Act} {w : World} {Q : Exit → Act → World → Prop}
theorem wp_scope_down {p R N : Code} (l0 l1 : Nat) (J0 J1 : Act → World → Prop) (μ0 μ1 : Act → World → Nat)
    (hf0 : findLabel (p.seq ((Code.label l0).seq R)) l0 = some (Code.skip.seq R))
    (hf1 : findLabel (p.seq ((Code.label l0).seq R)) l1 = some (Code.skip.seq N))
    (ahead : p.wp P (Exit.then J0 (Exit.noGoto Q)) a w)
    (up : ∀ a w, J0 a w → R.wp P (jump2 l0 l1 (fun a' w' => J0 a' w' ∧ μ0 a' w' < μ0 a w) J1 Q) a w)
    (down : ∀ a w, J1 a w → N.wp P (jump2 l0 l1 (fun _ _ => False) (fun a' w' => J1 a' w' ∧ μ1 a' w' < μ1 a w) Q) a w) :
    (Code.scope (p.seq ((Code.label l0).seq R))).wp P Q a w := by
  intro b k cs
  generalize hc : p.seq ((Code.label l0).seq R) = c at *
  have hg0 : gotoIn l0 (.inScope c :: k) = some (.code (Code.skip.seq R) :: .inScope c :: k) := by simp [gotoIn, hf0]
  have hg1 : gotoIn l1 (.inScope c :: k) = some (.code (Code.skip.seq N) :: .inScope c :: k) := by simp [gotoIn, hf1]
  have key1 : ∀ n a w, μ1 a w = n → J1 a w → ∃ e a' w', Q e a' w' ∧ Arrives P (lone (b.at a (.code (Code.skip.seq N) :: .inScope c :: k)) cs w) b k cs e a' w' := by
    intro n
    induction n using Nat.strongRecOn with
    | _ n ih =>
      intro a w hn hJ
      obtain ⟨e, a₁, w₁, hq, harr⟩ := (wp_seq (wp_skip (down a w hJ))) b (.inScope c :: k) cs
      cases e with
      | normal => exact ⟨.normal, a₁, w₁, hq, Steps.trans harr (.one step_inScope)⟩
      | exit id => exact ⟨.exit id, a₁, w₁, hq, fun k' hk => harr k' (by simp [exitTo, hk])⟩
      | goto l' =>
        rcases hq with ⟨_, h⟩ | ⟨rfl, hJ', hlt⟩
        · exact h.elim
        · obtain ⟨e₂, a₂, w₂, hq₂, harr₂⟩ := ih _ (by omega) a₁ w₁ rfl hJ'
          exact ⟨e₂, a₂, w₂, hq₂, .of_steps (harr _ hg1) harr₂⟩
      | ret => exact ⟨_, a₁, w₁, hq, harr⟩
      | panic ch => exact ⟨_, a₁, w₁, hq, harr⟩
      | outgrown => exact ⟨_, a₁, w₁, hq, harr⟩
  have key0 : ∀ n a w, μ0 a w = n → J0 a w → ∃ e a' w', Q e a' w' ∧ Arrives P (lone (b.at a (.code (Code.skip.seq R) :: .inScope c :: k)) cs w) b k cs e a' w' := by
    intro n
    induction n using Nat.strongRecOn with
    | _ n ih =>
      intro a w hn hJ
      obtain ⟨e, a₁, w₁, hq, harr⟩ := (wp_seq (wp_skip (up a w hJ))) b (.inScope c :: k) cs
      cases e with
      | normal => exact ⟨.normal, a₁, w₁, hq, Steps.trans harr (.one step_inScope)⟩
      | exit id => exact ⟨.exit id, a₁, w₁, hq, fun k' hk => harr k' (by simp [exitTo, hk])⟩
      | goto l' =>
        rcases hq with ⟨rfl, hJ', hlt⟩ | ⟨rfl, hJ'⟩
        · obtain ⟨e₂, a₂, w₂, hq₂, harr₂⟩ := ih _ (by omega) a₁ w₁ rfl hJ'
          exact ⟨e₂, a₂, w₂, hq₂, .of_steps (harr _ hg0) harr₂⟩
        · obtain ⟨e₂, a₂, w₂, hq₂, harr₂⟩ := key1 _ a₁ w₁ rfl hJ'
          exact ⟨e₂, a₂, w₂, hq₂, .of_steps (harr _ hg1) harr₂⟩
      | ret => exact ⟨_, a₁, w₁, hq, harr⟩
      | panic ch => exact ⟨_, a₁, w₁, hq, harr⟩
      | outgrown => exact ⟨_, a₁, w₁, hq, harr⟩
  have first : c.wp P (jump2 l0 l1 J0 J1 Q) a w := by
    rw [← hc]
    apply wp_seq
    refine wp_mono ahead ?_
    intro e a w h
    cases e with
    | normal =>
      refine wp_seq (wp_label ?_)
      refine wp_mono (up a w h) ?_
      intro e' a' w' h'
      cases e' with
      | goto l' =>
        rcases h' with ⟨h1, h2, _⟩ | ⟨h1, h2⟩
        · exact .inl ⟨h1, h2⟩
        · exact .inr ⟨h1, h2⟩
      | normal => exact h'
      | exit id => exact h'
      | ret => exact h'
      | panic ch => exact h'
      | outgrown => exact h'
    | goto l' => exact absurd h id
    | exit id => exact h
    | ret => exact h
    | panic ch => exact h
    | outgrown => exact h
  obtain ⟨e, a₁, w₁, hq, harr⟩ := first b (.inScope c :: k) cs
  cases e with
  | normal => exact ⟨.normal, a₁, w₁, hq, .head step_scope (Steps.trans harr (.one step_inScope))⟩
  | exit id => exact ⟨.exit id, a₁, w₁, hq, fun k' hk => .head step_scope (harr k' (by simp [exitTo, hk]))⟩
  | goto l' =>
    rcases hq with ⟨rfl, hJ'⟩ | ⟨rfl, hJ'⟩
    · obtain ⟨e₂, a₂, w₂, hq₂, harr₂⟩ := key0 _ a₁ w₁ rfl hJ'
      exact ⟨e₂, a₂, w₂, hq₂, .of_steps (.head step_scope (harr _ hg0)) harr₂⟩
    · obtain ⟨e₂, a₂, w₂, hq₂, harr₂⟩ := key1 _ a₁ w₁ rfl hJ'
      exact ⟨e₂, a₂, w₂, hq₂, .of_steps (.head step_scope (harr _ hg1)) harr₂⟩
  | ret => exact ⟨_, a₁, w₁, hq, .of_steps (.one step_scope) harr⟩
  | panic ch => exact ⟨_, a₁, w₁, hq, .of_steps (.one step_scope) harr⟩
  | outgrown => exact ⟨_, a₁, w₁, hq, .of_steps (.one step_scope) harr⟩
end
end Go.Proofs.Ytdjhpfojbnikdaa
