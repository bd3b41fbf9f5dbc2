/-
  A scope whose code goes straight to a label and from there on jumps back to it alone: what holds whenever the label is come to, and a number that each pass lowers. Of no program.
  A scope with two labels: code goes straight to the first one, from there on to the second one, or jumps to it, and from the second one the run ends or jumps back to the first one: what holds at each, and a number that each pass from the second one lowers and no pass from the first one raises. Of no program.
  A scope with two labels that are each gone back to: from the first one the run ends, jumps back to it, or jumps to the second one; from the second one it ends or jumps back to that: what holds at each, and a number that each pass lowers. Of no program.
-/
import Derived.WalkMore
import Derived.ScopeJumps
namespace Go.Proofs.YtmeclkmmgbndkaaGreatDoor
open Go
section
variable {P : Program} {a : Act} {w : World} {Q : Exit → Act → World → Prop}

theorem wp_scope_label {pre rest : Code} (l : Nat) (J : Act → World → Prop) (μ : Act → World → Nat) (hf : findLabel (pre.seq ((Code.label l).seq rest)) l = some (Code.skip.seq rest))
    (ahead : pre.wp P (Exit.then J (Exit.noGoto Q)) a w)
    (pass : ∀ a w, J a w → rest.wp P (Exit.jump l (fun a' w' => J a' w' ∧ μ a' w' < μ a w) Q) a w) : (Code.scope (pre.seq ((Code.label l).seq rest))).wp P Q a w := by
  refine wp_scope_jumps l J μ hf ?_ (fun a w h => wp_seq (wp_skip (pass a w h)))
  apply wp_seq
  refine wp_mono ahead ?_
  intro e a w h
  cases e with
  | normal =>
    refine wp_seq (wp_label ?_)
    refine wp_mono (pass a w h) ?_
    intro e' a' w' h'
    cases e' with
    | goto l' => exact ⟨h'.1, h'.2.1⟩
    | normal => exact h'
    | exit id => exact h'
    | ret => exact h'
    | panic ch => exact h'
    | outgrown => exact h'
  | goto l' => exact absurd h id
  | exit id => exact h
  | ret => exact h
  | panic ch => exact h
  | outgrown => exact h

/-- The same, where two pieces of code stand ahead of the label. -/
theorem wp_scope_label2 {p1 p2 rest : Code} (l : Nat) (J : Act → World → Prop) (μ : Act → World → Nat) (hf : findLabel (p1.seq (p2.seq ((Code.label l).seq rest))) l = some (Code.skip.seq rest))
    (ahead : p1.wp P (Exit.then (fun a w => p2.wp P (Exit.then J (Exit.noGoto Q)) a w) (Exit.noGoto Q)) a w)
    (pass : ∀ a w, J a w → rest.wp P (Exit.jump l (fun a' w' => J a' w' ∧ μ a' w' < μ a w) Q) a w) : (Code.scope (p1.seq (p2.seq ((Code.label l).seq rest)))).wp P Q a w := by
  refine wp_scope_jumps l J μ hf ?_ (fun a w h => wp_seq (wp_skip (pass a w h)))
  apply wp_seq
  refine wp_mono ahead ?_
  intro e a w h
  cases e with
  | normal =>
    apply wp_seq
    refine wp_mono h ?_
    intro e a w h
    cases e with
    | normal =>
      refine wp_seq (wp_label ?_)
      refine wp_mono (pass a w h) ?_
      intro e' a' w' h'
      cases e' with
      | goto l' => exact ⟨h'.1, h'.2.1⟩
      | normal => exact h'
      | exit id => exact h'
      | ret => exact h'
      | panic ch => exact h'
      | outgrown => exact h'
    | goto l' => exact absurd h id
    | exit id => exact h
    | ret => exact h
    | panic ch => exact h
    | outgrown => exact h
  | goto l' => exact absurd h id
  | exit id => exact h
  | ret => exact h
  | panic ch => exact h
  | outgrown => exact h
end
end Go.Proofs.YtmeclkmmgbndkaaGreatDoor
namespace Go.Proofs.YtmeclkmmgbndkaaGreatDoor
open Go
section
variable {P : Program} {a : Act} {w : World} {Q : Exit → Act → World → Prop}

/-- By a goto to l0: J0; by one to l1: J1; else Q. -/
def jump2 (l0 l1 : Nat) (J0 J1 : Act → World → Prop) (Q : Exit → Act → World → Prop) : Exit → Act → World → Prop
  | .goto l, a, w => (l = l0 ∧ J0 a w) ∨ (l = l1 ∧ J1 a w)
  | e, a, w => Q e a w

theorem wp_scope_jumps2 {c r0 r1 : Code} (l0 l1 : Nat) (J0 J1 : Act → World → Prop) (μ : Act → World → Nat) (hf0 : findLabel c l0 = some r0) (hf1 : findLabel c l1 = some r1)
    (first : c.wp P (jump2 l0 l1 J0 J1 Q) a w)
    (pass1 : ∀ a w, J1 a w → r1.wp P (jump2 l0 l1 (fun a' w' => J0 a' w' ∧ μ a' w' ≤ μ a w) (fun a' w' => J1 a' w' ∧ μ a' w' < μ a w) Q) a w)
    (pass0 : ∀ a w, J0 a w → r0.wp P (jump2 l0 l1 (fun _ _ => False) (fun a' w' => J1 a' w' ∧ μ a' w' < μ a w) Q) a w) : (Code.scope c).wp P Q a w := by
  intro b k cs
  have hg0 : gotoIn l0 (.inScope c :: k) = some (.code r0 :: .inScope c :: k) := by simp [gotoIn, hf0]
  have hg1 : gotoIn l1 (.inScope c :: k) = some (.code r1 :: .inScope c :: k) := by simp [gotoIn, hf1]
  have key : ∀ n, (∀ a w, μ a w = n → J0 a w → ∃ e a' w', Q e a' w' ∧ Arrives P (lone (b.at a (.code r0 :: .inScope c :: k)) cs w) b k cs e a' w') ∧
      (∀ a w, μ a w = n → J1 a w → ∃ e a' w', Q e a' w' ∧ Arrives P (lone (b.at a (.code r1 :: .inScope c :: k)) cs w) b k cs e a' w') := by
    intro n
    induction n using Nat.strongRecOn with
    | _ n ih =>
      have at0 : ∀ a w, μ a w = n → J0 a w → ∃ e a' w', Q e a' w' ∧ Arrives P (lone (b.at a (.code r0 :: .inScope c :: k)) cs w) b k cs e a' w' := by
        intro a w hn hJ
        obtain ⟨e, a₁, w₁, hq, harr⟩ := pass0 a w hJ b (.inScope c :: k) cs
        cases e with
        | normal => exact ⟨.normal, a₁, w₁, hq, Steps.trans harr (.one step_inScope)⟩
        | exit id => exact ⟨.exit id, a₁, w₁, hq, fun k' hk => harr k' (by simp [exitTo, hk])⟩
        | goto l' =>
          rcases hq with ⟨_, h⟩ | ⟨rfl, hJ', hlt⟩
          · exact h.elim
          · obtain ⟨e₂, a₂, w₂, hq₂, harr₂⟩ := (ih _ (by omega)).2 a₁ w₁ rfl hJ'
            exact ⟨e₂, a₂, w₂, hq₂, .of_steps (harr _ hg1) harr₂⟩
        | ret => exact ⟨_, a₁, w₁, hq, harr⟩
        | panic ch => exact ⟨_, a₁, w₁, hq, harr⟩
        | outgrown => exact ⟨_, a₁, w₁, hq, harr⟩
      refine ⟨at0, ?_⟩
      intro a w hn hJ
      obtain ⟨e, a₁, w₁, hq, harr⟩ := pass1 a w hJ b (.inScope c :: k) cs
      cases e with
      | normal => exact ⟨.normal, a₁, w₁, hq, Steps.trans harr (.one step_inScope)⟩
      | exit id => exact ⟨.exit id, a₁, w₁, hq, fun k' hk => harr k' (by simp [exitTo, hk])⟩
      | goto l' =>
        rcases hq with ⟨rfl, hJ', hle⟩ | ⟨rfl, hJ', hlt⟩
        · rcases Nat.lt_or_ge (μ a₁ w₁) n with h | h
          · obtain ⟨e₂, a₂, w₂, hq₂, harr₂⟩ := (ih _ h).1 a₁ w₁ rfl hJ'
            exact ⟨e₂, a₂, w₂, hq₂, .of_steps (harr _ hg0) harr₂⟩
          · obtain ⟨e₂, a₂, w₂, hq₂, harr₂⟩ := at0 a₁ w₁ (by omega) hJ'
            exact ⟨e₂, a₂, w₂, hq₂, .of_steps (harr _ hg0) harr₂⟩
        · obtain ⟨e₂, a₂, w₂, hq₂, harr₂⟩ := (ih _ (by omega)).2 a₁ w₁ rfl hJ'
          exact ⟨e₂, a₂, w₂, hq₂, .of_steps (harr _ hg1) harr₂⟩
      | ret => exact ⟨_, a₁, w₁, hq, harr⟩
      | panic ch => exact ⟨_, a₁, w₁, hq, harr⟩
      | outgrown => exact ⟨_, a₁, w₁, hq, harr⟩
  obtain ⟨e, a₁, w₁, hq, harr⟩ := first b (.inScope c :: k) cs
  cases e with
  | normal => exact ⟨.normal, a₁, w₁, hq, .head step_scope (Steps.trans harr (.one step_inScope))⟩
  | exit id => exact ⟨.exit id, a₁, w₁, hq, fun k' hk => .head step_scope (harr k' (by simp [exitTo, hk]))⟩
  | goto l' =>
    rcases hq with ⟨rfl, hJ'⟩ | ⟨rfl, hJ'⟩
    · obtain ⟨e₂, a₂, w₂, hq₂, harr₂⟩ := (key _).1 a₁ w₁ rfl hJ'
      exact ⟨e₂, a₂, w₂, hq₂, .of_steps (.head step_scope (harr _ hg0)) harr₂⟩
    · obtain ⟨e₂, a₂, w₂, hq₂, harr₂⟩ := (key _).2 a₁ w₁ rfl hJ'
      exact ⟨e₂, a₂, w₂, hq₂, .of_steps (.head step_scope (harr _ hg1)) harr₂⟩
  | ret => exact ⟨_, a₁, w₁, hq, .of_steps (.one step_scope) harr⟩
  | panic ch => exact ⟨_, a₁, w₁, hq, .of_steps (.one step_scope) harr⟩
  | outgrown => exact ⟨_, a₁, w₁, hq, .of_steps (.one step_scope) harr⟩

/-- Two pieces ahead of the first label; the code up to the second one; the code behind it. -/
theorem wp_scope_two {p1 p2 L N : Code} (l0 l1 : Nat) (J0 J1 : Act → World → Prop) (μ : Act → World → Nat)
    (hf0 : findLabel (p1.seq (p2.seq ((Code.label l1).seq (L.seq ((Code.label l0).seq N))))) l0 = some (Code.skip.seq N))
    (hf1 : findLabel (p1.seq (p2.seq ((Code.label l1).seq (L.seq ((Code.label l0).seq N))))) l1 = some (Code.skip.seq (L.seq ((Code.label l0).seq N))))
    (ahead : p1.wp P (Exit.then (fun a w => p2.wp P (Exit.then J1 (Exit.noGoto Q)) a w) (Exit.noGoto Q)) a w)
    (whole : ∀ a w, J1 a w → L.wp P (Exit.then (fun a' w' => J0 a' w' ∧ μ a' w' ≤ μ a w) (Exit.jump l0 (fun a' w' => J0 a' w' ∧ μ a' w' ≤ μ a w) Q)) a w)
    (near : ∀ a w, J0 a w → N.wp P (Exit.jump l1 (fun a' w' => J1 a' w' ∧ μ a' w' < μ a w) Q) a w) :
    (Code.scope (p1.seq (p2.seq ((Code.label l1).seq (L.seq ((Code.label l0).seq N)))))).wp P Q a w := by
  have pass1 : ∀ a w, J1 a w → (L.seq ((Code.label l0).seq N)).wp P (jump2 l0 l1 (fun a' w' => J0 a' w' ∧ μ a' w' ≤ μ a w) (fun a' w' => J1 a' w' ∧ μ a' w' < μ a w) Q) a w := by
    intro a w h
    apply wp_seq
    refine wp_mono (whole a w h) ?_
    intro e a' w' h'
    cases e with
    | normal =>
      refine wp_seq (wp_label ?_)
      refine wp_mono (near a' w' h'.1) ?_
      intro e2 a2 w2 h2
      cases e2 with
      | goto l => exact .inr ⟨h2.1, h2.2.1, Nat.lt_of_lt_of_le h2.2.2 h'.2⟩
      | normal => exact h2
      | exit id => exact h2
      | ret => exact h2
      | panic ch => exact h2
      | outgrown => exact h2
    | goto l => exact .inl h'
    | exit id => exact h'
    | ret => exact h'
    | panic ch => exact h'
    | outgrown => exact h'
  refine wp_scope_jumps2 l0 l1 J0 J1 μ hf0 hf1 ?_ (fun a w h => wp_seq (wp_skip (pass1 a w h))) (fun a w h => wp_seq (wp_skip (wp_mono (near a w h) ?_)))
  · apply wp_seq
    refine wp_mono ahead ?_
    intro e a w h
    cases e with
    | normal =>
      apply wp_seq
      refine wp_mono h ?_
      intro e a w h
      cases e with
      | normal =>
        refine wp_seq (wp_label ?_)
        refine wp_mono (pass1 a w h) ?_
        intro e' a' w' h'
        cases e' with
        | goto l' =>
          rcases h' with ⟨h1, h2, _⟩ | ⟨h1, h2, _⟩
          · exact .inl ⟨h1, h2⟩
          · exact .inr ⟨h1, h2⟩
        | normal => exact h'
        | exit id => exact h'
        | ret => exact h'
        | panic ch => exact h'
        | outgrown => exact h'
      | goto l' => exact absurd h id
      | exit id => exact h
      | ret => exact h
      | panic ch => exact h
      | outgrown => exact h
    | goto l' => exact absurd h id
    | exit id => exact h
    | ret => exact h
    | panic ch => exact h
    | outgrown => exact h
  · intro e a' w' h'
    cases e with
    | goto l => exact .inr h'
    | normal => exact h'
    | exit id => exact h'
    | ret => exact h'
    | panic ch => exact h'
    | outgrown => exact h'
end
end Go.Proofs.YtmeclkmmgbndkaaGreatDoor
namespace Go.Proofs.YtmeclkmmgbndkaaGreatDoor
open Go
section
variable {P : Program} {a : Act} {w : World} {Q : Exit → Act → World → Prop}
theorem wp_scope_down {p R N : Code} (l0 l1 : Nat) (J0 J1 : Act → World → Prop) (μ0 μ1 : Act → World → Nat)
    (hf0 : findLabel (p.seq ((Code.label l0).seq R)) l0 = some (Code.skip.seq R))
    (hf1 : findLabel (p.seq ((Code.label l0).seq R)) l1 = some (Code.skip.seq N))
    (ahead : p.wp P (Exit.then J0 (Exit.noGoto Q)) a w)
    (up : ∀ a w, J0 a w → R.wp P (jump2 l0 l1 (fun a' w' => J0 a' w' ∧ μ0 a' w' < μ0 a w) J1 Q) a w)
    (down : ∀ a w, J1 a w → N.wp P (jump2 l0 l1 (fun _ _ => False) (fun a' w' => J1 a' w' ∧ μ1 a' w' < μ1 a w) Q) a w) :
    (Code.scope (p.seq ((Code.label l0).seq R))).wp P Q a w := by
  intro b k cs
  generalize hc : p.seq ((Code.label l0).seq R) = c at *
  have hg0 : gotoIn l0 (.inScope c :: k) = some (.code (Code.skip.seq R) :: .inScope c :: k) := by simp [gotoIn, hf0]
  have hg1 : gotoIn l1 (.inScope c :: k) = some (.code (Code.skip.seq N) :: .inScope c :: k) := by simp [gotoIn, hf1]
  have key1 : ∀ n a w, μ1 a w = n → J1 a w → ∃ e a' w', Q e a' w' ∧ Arrives P (lone (b.at a (.code (Code.skip.seq N) :: .inScope c :: k)) cs w) b k cs e a' w' := by
    intro n
    induction n using Nat.strongRecOn with
    | _ n ih =>
      intro a w hn hJ
      obtain ⟨e, a₁, w₁, hq, harr⟩ := (wp_seq (wp_skip (down a w hJ))) b (.inScope c :: k) cs
      cases e with
      | normal => exact ⟨.normal, a₁, w₁, hq, Steps.trans harr (.one step_inScope)⟩
      | exit id => exact ⟨.exit id, a₁, w₁, hq, fun k' hk => harr k' (by simp [exitTo, hk])⟩
      | goto l' =>
        rcases hq with ⟨_, h⟩ | ⟨rfl, hJ', hlt⟩
        · exact h.elim
        · obtain ⟨e₂, a₂, w₂, hq₂, harr₂⟩ := ih _ (by omega) a₁ w₁ rfl hJ'
          exact ⟨e₂, a₂, w₂, hq₂, .of_steps (harr _ hg1) harr₂⟩
      | ret => exact ⟨_, a₁, w₁, hq, harr⟩
      | panic ch => exact ⟨_, a₁, w₁, hq, harr⟩
      | outgrown => exact ⟨_, a₁, w₁, hq, harr⟩
  have key0 : ∀ n a w, μ0 a w = n → J0 a w → ∃ e a' w', Q e a' w' ∧ Arrives P (lone (b.at a (.code (Code.skip.seq R) :: .inScope c :: k)) cs w) b k cs e a' w' := by
    intro n
    induction n using Nat.strongRecOn with
    | _ n ih =>
      intro a w hn hJ
      obtain ⟨e, a₁, w₁, hq, harr⟩ := (wp_seq (wp_skip (up a w hJ))) b (.inScope c :: k) cs
      cases e with
      | normal => exact ⟨.normal, a₁, w₁, hq, Steps.trans harr (.one step_inScope)⟩
      | exit id => exact ⟨.exit id, a₁, w₁, hq, fun k' hk => harr k' (by simp [exitTo, hk])⟩
      | goto l' =>
        rcases hq with ⟨rfl, hJ', hlt⟩ | ⟨rfl, hJ'⟩
        · obtain ⟨e₂, a₂, w₂, hq₂, harr₂⟩ := ih _ (by omega) a₁ w₁ rfl hJ'
          exact ⟨e₂, a₂, w₂, hq₂, .of_steps (harr _ hg0) harr₂⟩
        · obtain ⟨e₂, a₂, w₂, hq₂, harr₂⟩ := key1 _ a₁ w₁ rfl hJ'
          exact ⟨e₂, a₂, w₂, hq₂, .of_steps (harr _ hg1) harr₂⟩
      | ret => exact ⟨_, a₁, w₁, hq, harr⟩
      | panic ch => exact ⟨_, a₁, w₁, hq, harr⟩
      | outgrown => exact ⟨_, a₁, w₁, hq, harr⟩
  have first : c.wp P (jump2 l0 l1 J0 J1 Q) a w := by
    rw [← hc]
    apply wp_seq
    refine wp_mono ahead ?_
    intro e a w h
    cases e with
    | normal =>
      refine wp_seq (wp_label ?_)
      refine wp_mono (up a w h) ?_
      intro e' a' w' h'
      cases e' with
      | goto l' =>
        rcases h' with ⟨h1, h2, _⟩ | ⟨h1, h2⟩
        · exact .inl ⟨h1, h2⟩
        · exact .inr ⟨h1, h2⟩
      | normal => exact h'
      | exit id => exact h'
      | ret => exact h'
      | panic ch => exact h'
      | outgrown => exact h'
    | goto l' => exact absurd h id
    | exit id => exact h
    | ret => exact h
    | panic ch => exact h
    | outgrown => exact h
  obtain ⟨e, a₁, w₁, hq, harr⟩ := first b (.inScope c :: k) cs
  cases e with
  | normal => exact ⟨.normal, a₁, w₁, hq, .head step_scope (Steps.trans harr (.one step_inScope))⟩
  | exit id => exact ⟨.exit id, a₁, w₁, hq, fun k' hk => .head step_scope (harr k' (by simp [exitTo, hk]))⟩
  | goto l' =>
    rcases hq with ⟨rfl, hJ'⟩ | ⟨rfl, hJ'⟩
    · obtain ⟨e₂, a₂, w₂, hq₂, harr₂⟩ := key0 _ a₁ w₁ rfl hJ'
      exact ⟨e₂, a₂, w₂, hq₂, .of_steps (.head step_scope (harr _ hg0)) harr₂⟩
    · obtain ⟨e₂, a₂, w₂, hq₂, harr₂⟩ := key1 _ a₁ w₁ rfl hJ'
      exact ⟨e₂, a₂, w₂, hq₂, .of_steps (.head step_scope (harr _ hg1)) harr₂⟩
  | ret => exact ⟨_, a₁, w₁, hq, .of_steps (.one step_scope) harr⟩
  | panic ch => exact ⟨_, a₁, w₁, hq, .of_steps (.one step_scope) harr⟩
  | outgrown => exact ⟨_, a₁, w₁, hq, .of_steps (.one step_scope) harr⟩
end
end Go.Proofs.YtmeclkmmgbndkaaGreatDoor
