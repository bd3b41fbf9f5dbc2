/-
  JSON texts, by mathematics alone: what the machine does at a number, from joint to joint.
-/
import Derived.Test.YtifkemcjificcaaJsStep
namespace Go.Proofs.Ytifkemcjificcaa
namespace Js
theorem T_digits (l : List UInt8) (m : Nat) (st : List Bool) (d i n : Nat) (hm : m = 22 ∨ m = 24 ∨ m = 27) (h : ∀ j, i ≤ j → j < i + n → ∃ hj : j < l.length, isD (l[j]).toNat = true) : T l (cN m st d) i = T l (cN m st d) (i + n) := by
  induction n with
  | zero => rfl
  | succ n ih =>
    obtain ⟨hj, hd⟩ := h (i + n) (by omega) (by omega)
    rw [ih (fun j h1 h2 => h j h1 (by omega)), T_digit l m st d (i + n) hm hj hd]
    rfl
theorem T_point (l : List UInt8) (m : Nat) (st : List Bool) (d i : Nat) (hm : m = 21 ∨ m = 22) (hi : i < l.length) (h : (l[i]).toNat = 46) : T l (cN m st d) i = T l (cN 23 st d) (i + 1) := by
  refine T_next l _ _ i hi ?_
  rw [h]
  rcases hm with rfl | rfl <;> rfl
theorem T_exp (l : List UInt8) (m : Nat) (st : List Bool) (d i : Nat) (hm : m = 21 ∨ m = 22 ∨ m = 24) (hi : i < l.length) (h : (l[i]).toNat = 101 ∨ (l[i]).toNat = 69) : T l (cN m st d) i = T l (cN 25 st d) (i + 1) := by
  refine T_next l _ _ i hi ?_
  rcases h with h | h <;> rw [h] <;> rcases hm with rfl | rfl | rfl <;> rfl
theorem T_expsign (l : List UInt8) (st : List Bool) (d i : Nat) (hi : i < l.length) (h : (l[i]).toNat = 43 ∨ (l[i]).toNat = 45) : T l (cN 25 st d) i = T l (cN 26 st d) (i + 1) := by
  refine T_next l _ _ i hi ?_
  rcases h with h | h <;> rw [h] <;> rfl
theorem T_pointdigit (l : List UInt8) (st : List Bool) (d i : Nat) (hi : i < l.length) (h : isD (l[i]).toNat = true) : T l (cN 23 st d) i = T l (cN 24 st d) (i + 1) := by
  refine T_next l _ _ i hi ?_
  show (if isD _ then _ else none) = _
  rw [if_pos h]
  rfl
theorem T_expdigit (l : List UInt8) (m : Nat) (st : List Bool) (d i : Nat) (hm : m = 25 ∨ m = 26) (hi : i < l.length) (h : isD (l[i]).toNat = true) : T l (cN m st d) i = T l (cN 27 st d) (i + 1) := by
  refine T_next l _ _ i hi ?_
  have h2 := (isD_iff _).1 h
  rcases hm with rfl | rfl
  · show (if _ then _ else if isD _ then _ else none) = _
    rw [if_neg (by omega), if_pos h]
    rfl
  · show (if isD _ then _ else none) = _
    rw [if_pos h]
    rfl
theorem step_sign (st : List Bool) (d b : Nat) : step (cN 20 st d) b = (if b = 48 then some (cN 21 st d) else if isD b then some (cN 22 st d) else none) := rfl
/-- A value that begins with none of the other signs. -/
def plain (b : Nat) : Prop := isB b = false ∧ b ≠ 34 ∧ b ≠ 91 ∧ b ≠ 123 ∧ b ≠ 110 ∧ b ≠ 116 ∧ b ≠ 102
theorem step_plain (st : List Bool) (d b : Nat) (h : plain b) : step (cV st d) b = (if b = 45 then some (cN 20 st d) else if b = 48 then some (cN 21 st d) else if isD b then some (cN 22 st d) else none) := by
  obtain ⟨h0, h1, h2, h3, h4, h5, h6⟩ := h
  rw [step_V st d b h0]
  unfold stV
  rw [if_neg h1, if_neg h2, if_neg h3, if_neg h4, if_neg h5, if_neg h6]
/-- Where a number's digits may begin: what they lead to. -/
structure Begun (l : List UInt8) (i a : Nat) : Prop where
  zero : ∀ st d (h : a < l.length), (l[a]).toNat = 48 → T l (cV st d) i = T l (cN 21 st d) (a + 1)
  digit : ∀ st d (h : a < l.length), isD (l[a]).toNat = true → (l[a]).toNat ≠ 48 → T l (cV st d) i = T l (cN 22 st d) (a + 1)
  no : ∀ st d, (∀ h : a < l.length, isD (l[a]).toNat = false) → T l (cV st d) i = (none, a)
theorem begun_minus (l : List UInt8) (i : Nat) (hi : i < l.length) (h : (l[i]).toNat = 45) : Begun l i (i + 1) := by
  have e : ∀ st d, T l (cV st d) i = T l (cN 20 st d) (i + 1) := fun st d => T_next l _ _ i hi (by rw [h]; rfl)
  refine ⟨fun st d h1 h2 => ?_, fun st d h1 h2 h3 => ?_, fun st d h1 => ?_⟩
  · rw [e]
    refine T_next l _ _ _ h1 ?_
    rw [step_sign, if_pos h2]
  · rw [e]
    refine T_next l _ _ _ h1 ?_
    rw [step_sign, if_neg h3, if_pos h2]
  · rw [e]
    exact T_number_no l 20 st d (i + 1) (.inl rfl) hi fun h2 => ⟨h1 h2, fun h3 => absurd h3 (by decide)⟩
theorem begun_plain (l : List UInt8) (i : Nat) (hi : i < l.length) (h : plain (l[i]).toNat) (h45 : (l[i]).toNat ≠ 45) : Begun l i i := by
  refine ⟨fun st d h1 h2 => ?_, fun st d h1 h2 h3 => ?_, fun st d h1 => ?_⟩
  · refine T_next l _ _ _ h1 ?_
    rw [step_plain st d _ h, if_neg h45, if_pos h2]
  · refine T_next l _ _ _ h1 ?_
    rw [step_plain st d _ h, if_neg h45, if_neg h3, if_pos h2]
  · refine T_dead l _ i hi ?_
    have h0 := h1 hi
    have h48 : (l[i]).toNat ≠ 48 := fun h2 => by
      rw [h2] at h0
      exact absurd h0 (by decide)
    rw [step_plain st d _ h, if_neg h45, if_neg h48, h0]
    rfl
/-- From a number's whole part on: the mode m at the place p. -/
structure Whole (l : List UInt8) (i p m : Nat) : Prop where
  mode : m = 21 ∨ m = 22
  far : i < p
  le : p ≤ l.length
  rest : m ≠ 21 → ∀ h : p < l.length, isD (l[p]).toNat = false
  tells : ∀ st d, T l (cV st d) i = T l (cN m st d) p
theorem whole_zero {l : List UInt8} {i a : Nat} (hb : Begun l i a) (hia : i ≤ a) (ha : a < l.length) (h : (l[a]).toNat = 48) : Whole l i (a + 1) 21 :=
  ⟨.inl rfl, by omega, ha, fun h1 => absurd rfl h1, fun st d => hb.zero st d ha h⟩
theorem whole_digits {l : List UInt8} {i a n : Nat} (hb : Begun l i a) (hia : i ≤ a) (hn : 0 < n) (hl : a + n ≤ l.length) (h : ∀ j, a ≤ j → j < a + n → ∃ hj : j < l.length, isD (l[j]).toNat = true) (hr : ∀ hj : a + n < l.length, isD (l[a + n]).toNat = false) (h48 : ∀ ha : a < l.length, (l[a]).toNat ≠ 48) : Whole l i (a + n) 22 := by
  refine ⟨.inr rfl, by omega, hl, fun _ => hr, fun st d => ?_⟩
  obtain ⟨ha, hd⟩ := h a (Nat.le_refl _) (by omega)
  rw [hb.digit st d ha hd (h48 ha), T_digits l 22 st d (a + 1) (n - 1) (.inl rfl) (fun j h1 h2 => h j (by omega) (by omega)), show a + 1 + (n - 1) = a + n by omega]
/-- Behind a number's point and its digits, if there are any. -/
structure Frac (l : List UInt8) (i p m : Nat) : Prop where
  mode : m = 21 ∨ m = 22 ∨ m = 24
  far : i < p
  le : p ≤ l.length
  rest : ∀ h : p < l.length, (m ≠ 21 → isD (l[p]).toNat = false) ∧ (m = 21 ∨ m = 22 → (l[p]).toNat ≠ 46)
  tells : ∀ st d, T l (cV st d) i = T l (cN m st d) p
theorem frac_none {l : List UInt8} {i p m : Nat} (hw : Whole l i p m) (h : ∀ h : p < l.length, (l[p]).toNat ≠ 46) : Frac l i p m :=
  ⟨hw.mode.elim .inl (fun h => .inr (.inl h)), hw.far, hw.le, fun h1 => ⟨fun h2 => hw.rest h2 h1, fun _ => h h1⟩, hw.tells⟩
theorem frac_no {l : List UInt8} {i p m : Nat} (hw : Whole l i p m) (hp : p < l.length) (h : (l[p]).toNat = 46) (hr : ∀ hj : p + 1 < l.length, isD (l[p + 1]).toNat = false) (st : List Bool) (d : Nat) : T l (cV st d) i = (none, p + 1) := by
  rw [hw.tells, T_point l m st d p hw.mode hp h]
  exact T_number_no l 23 st d (p + 1) (.inr (.inl rfl)) hp fun h1 => ⟨hr h1, fun h2 => absurd h2 (by decide)⟩
theorem frac_some {l : List UInt8} {i p m n : Nat} (hw : Whole l i p m) (hp : p < l.length) (h : (l[p]).toNat = 46) (hn : 0 < n) (hl : p + 1 + n ≤ l.length) (hd : ∀ j, p + 1 ≤ j → j < p + 1 + n → ∃ hj : j < l.length, isD (l[j]).toNat = true) (hr : ∀ hj : p + 1 + n < l.length, isD (l[p + 1 + n]).toNat = false) : Frac l i (p + 1 + n) 24 := by
  have := hw.far
  refine ⟨.inr (.inr rfl), by omega, hl, fun h1 => ⟨fun _ => hr h1, fun h2 => absurd h2 (by decide)⟩, fun st d => ?_⟩
  obtain ⟨ha, hd1⟩ := hd (p + 1) (Nat.le_refl _) (by omega)
  rw [hw.tells, T_point l m st d p hw.mode hp h, T_pointdigit l st d (p + 1) ha hd1, T_digits l 24 st d (p + 1 + 1) (n - 1) (.inr (.inl rfl)) (fun j h1 h2 => hd j (by omega) (by omega)), show p + 1 + 1 + (n - 1) = p + 1 + n by omega]
theorem frac_end {l : List UInt8} {i p m : Nat} (hf : Frac l i p m) (h : ∀ h : p < l.length, (l[p]).toNat ≠ 101 ∧ (l[p]).toNat ≠ 69) (st : List Bool) (d : Nat) : T l (cV st d) i = T l (cE st d) p := by
  rw [hf.tells]
  refine T_number_end l m st d p (hf.mode.elim .inl (fun h => h.elim (fun h => .inr (.inl h)) (fun h => .inr (.inr (.inl h))))) fun h1 => ⟨(hf.rest h1).1, (hf.rest h1).2, fun _ => h h1⟩
/-- Behind a number's e, and its sign if there is one. -/
structure Expo (l : List UInt8) (i p m : Nat) : Prop where
  mode : m = 25 ∨ m = 26
  far : i < p
  le : p ≤ l.length
  rest : ∀ h : p < l.length, m = 25 → (l[p]).toNat ≠ 43 ∧ (l[p]).toNat ≠ 45
  tells : ∀ st d, T l (cV st d) i = T l (cN m st d) p
theorem expo_sign {l : List UInt8} {i p m : Nat} (hf : Frac l i p m) (hp : p < l.length) (h : (l[p]).toNat = 101 ∨ (l[p]).toNat = 69) (hp1 : p + 1 < l.length) (h1 : (l[p + 1]).toNat = 43 ∨ (l[p + 1]).toNat = 45) : Expo l i (p + 2) 26 := by
  have := hf.far
  refine ⟨.inr rfl, by omega, hp1, fun _ h2 => absurd h2 (by decide), fun st d => ?_⟩
  rw [hf.tells, T_exp l m st d p hf.mode hp h, T_expsign l st d (p + 1) hp1 h1]
theorem expo_none {l : List UInt8} {i p m : Nat} (hf : Frac l i p m) (hp : p < l.length) (h : (l[p]).toNat = 101 ∨ (l[p]).toNat = 69) (h1 : ∀ hp1 : p + 1 < l.length, (l[p + 1]).toNat ≠ 43 ∧ (l[p + 1]).toNat ≠ 45) : Expo l i (p + 1) 25 := by
  have := hf.far
  refine ⟨.inl rfl, by omega, hp, fun h2 _ => h1 h2, fun st d => ?_⟩
  rw [hf.tells, T_exp l m st d p hf.mode hp h]
theorem expo_no {l : List UInt8} {i p m : Nat} (he : Expo l i p m) (hr : ∀ hj : p < l.length, isD (l[p]).toNat = false) (st : List Bool) (d : Nat) : T l (cV st d) i = (none, p) := by
  rw [he.tells]
  exact T_number_no l m st d p (he.mode.elim (fun h => .inr (.inr (.inl h))) (fun h => .inr (.inr (.inr h)))) he.le fun h1 => ⟨hr h1, he.rest h1⟩
theorem expo_end {l : List UInt8} {i p m n : Nat} (he : Expo l i p m) (hn : 0 < n) (hd : ∀ j, p ≤ j → j < p + n → ∃ hj : j < l.length, isD (l[j]).toNat = true) (hr : ∀ hj : p + n < l.length, isD (l[p + n]).toNat = false) (st : List Bool) (d : Nat) : T l (cV st d) i = T l (cE st d) (p + n) := by
  obtain ⟨ha, hd1⟩ := hd p (Nat.le_refl _) (by omega)
  rw [he.tells, T_expdigit l m st d p he.mode ha hd1, T_digits l 27 st d (p + 1) (n - 1) (.inr (.inr rfl)) (fun j h1 h2 => hd j (by omega) (by omega)), show p + 1 + (n - 1) = p + n by omega]
  exact T_number_end l 27 st d (p + n) (.inr (.inr (.inr rfl))) fun h1 => ⟨fun _ => hr h1, fun h2 => absurd h2 (by decide), fun h2 => absurd rfl h2⟩
end Js
end Go.Proofs.Ytifkemcjificcaa
