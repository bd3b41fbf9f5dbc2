/-
  JSON texts, by mathematics alone: in brackets, with blanks about them, many brackets in one another.
-/
import Derived.Test.YtifkemcjificcaaJsStep
namespace Go.Proofs.Ytifkemcjificcaa
namespace Js
/-- What holds of every place that is come to: as deep as what is open, at least; a word's letters are no blanks. -/
def Ok (c : Cf) : Prop := c.st.length ≤ c.d ∧ ∀ a ∈ c.w, isB a.toNat = false
theorem ok_c0 : Ok c0 := ⟨Nat.le_refl _, fun _ h => absurd h List.not_mem_nil⟩
theorem ok_lit (m x : Nat) (k : Bool) (st : List Bool) (d : Nat) (h : st.length ≤ d) : Ok ⟨m, x, [], k, st, d⟩ := ⟨h, fun _ h => absurd h List.not_mem_nil⟩
/-- What a step does to the depth, and where it may end behind a blank. -/
def Good (c c' : Cf) (b : Nat) : Prop := Ok c' ∧ c.d ≤ c'.d ∧ c'.d ≤ c.d + 1 ∧ (isB b = true → acc c' = true → acc c = true)
theorem good_V (c c' : Cf) (b : Nat) (hb : isB b = false) (ho : Ok c) (h : stV c.st c.d b = some c') : Good c c' b := by
  have h1 := ho.1
  have hn : isB b = true → acc c' = true → acc c = true := fun h2 => by rw [hb] at h2; cases h2
  unfold stV at h
  by_cases e1 : b = 34
  · rw [if_pos e1] at h
    obtain rfl := Option.some.inj h
    exact ⟨ok_lit _ _ _ _ _ h1, Nat.le_refl _, Nat.le_succ _, hn⟩
  rw [if_neg e1] at h
  by_cases e2 : b = 91
  · rw [if_pos e2] at h
    obtain rfl := Option.some.inj h
    refine ⟨ok_lit _ _ _ _ _ ?_, ?_, ?_, hn⟩
    · rw [List.length_cons]; omega
    · show c.d ≤ max c.d (c.st.length + 1); omega
    · show max c.d (c.st.length + 1) ≤ c.d + 1; omega
  rw [if_neg e2] at h
  by_cases e3 : b = 123
  · rw [if_pos e3] at h
    obtain rfl := Option.some.inj h
    refine ⟨ok_lit _ _ _ _ _ ?_, ?_, ?_, hn⟩
    · rw [List.length_cons]; omega
    · show c.d ≤ max c.d (c.st.length + 1); omega
    · show max c.d (c.st.length + 1) ≤ c.d + 1; omega
  rw [if_neg e3] at h
  by_cases e4 : b = 110
  · rw [if_pos e4] at h
    obtain rfl := Option.some.inj h
    exact ⟨⟨h1, (show ∀ a ∈ ([117, 108, 108] : List UInt8), isB a.toNat = false by decide)⟩, Nat.le_refl _, Nat.le_succ _, hn⟩
  rw [if_neg e4] at h
  by_cases e5 : b = 116
  · rw [if_pos e5] at h
    obtain rfl := Option.some.inj h
    exact ⟨⟨h1, (show ∀ a ∈ ([114, 117, 101] : List UInt8), isB a.toNat = false by decide)⟩, Nat.le_refl _, Nat.le_succ _, hn⟩
  rw [if_neg e5] at h
  by_cases e6 : b = 102
  · rw [if_pos e6] at h
    obtain rfl := Option.some.inj h
    exact ⟨⟨h1, (show ∀ a ∈ ([97, 108, 115, 101] : List UInt8), isB a.toNat = false by decide)⟩, Nat.le_refl _, Nat.le_succ _, hn⟩
  rw [if_neg e6] at h
  by_cases e7 : b = 45
  · rw [if_pos e7] at h
    obtain rfl := Option.some.inj h
    exact ⟨ok_lit _ _ _ _ _ h1, Nat.le_refl _, Nat.le_succ _, hn⟩
  rw [if_neg e7] at h
  by_cases e8 : b = 48
  · rw [if_pos e8] at h
    obtain rfl := Option.some.inj h
    exact ⟨ok_lit _ _ _ _ _ h1, Nat.le_refl _, Nat.le_succ _, hn⟩
  rw [if_neg e8] at h
  split at h
  · obtain rfl := Option.some.inj h
    exact ⟨ok_lit _ _ _ _ _ h1, Nat.le_refl _, Nat.le_succ _, hn⟩
  · cases h
/-- Behind a value: c's own mode ends, if nothing is open. -/
theorem good_E (c c' : Cf) (b : Nat) (hc : c.st = [] → acc c = true) (ho : Ok c) (h : stE c.st c.d b = some c') : Good c c' b := by
  have h1 := ho.1
  unfold stE at h
  by_cases e1 : isB b = true
  · rw [if_pos e1] at h
    obtain rfl := Option.some.inj h
    refine ⟨ok_lit _ _ _ _ _ h1, Nat.le_refl _, Nat.le_succ _, fun _ h2 => hc ?_⟩
    rw [acc_E] at h2
    exact List.isEmpty_iff.1 h2
  rw [if_neg e1] at h
  have hn : ∀ c'' : Cf, isB b = true → acc c'' = true → acc c = true := fun _ h2 => absurd h2 e1
  by_cases e2 : b = 44
  · rw [if_pos e2] at h
    split at h
    · cases h
    · rename_i r hr
      obtain rfl := Option.some.inj h
      exact ⟨ok_lit _ _ _ _ _ (by rw [← hr]; exact h1), Nat.le_refl _, Nat.le_succ _, hn _⟩
    · rename_i r hr
      obtain rfl := Option.some.inj h
      exact ⟨ok_lit _ _ _ _ _ (by rw [← hr]; exact h1), Nat.le_refl _, Nat.le_succ _, hn _⟩
  rw [if_neg e2] at h
  by_cases e3 : b = 93
  · rw [if_pos e3] at h
    split at h
    · rename_i r hr
      obtain rfl := Option.some.inj h
      rw [hr, List.length_cons] at h1
      exact ⟨ok_lit _ _ _ _ _ (by omega), Nat.le_refl _, Nat.le_succ _, hn _⟩
    · cases h
  rw [if_neg e3] at h
  by_cases e4 : b = 125
  · rw [if_pos e4] at h
    split at h
    · rename_i r hr
      obtain rfl := Option.some.inj h
      rw [hr, List.length_cons] at h1
      exact ⟨ok_lit _ _ _ _ _ (by omega), Nat.le_refl _, Nat.le_succ _, hn _⟩
    · cases h
  · rw [if_neg e4] at h
    cases h
theorem acc_lit (c : Cf) (hm : c.m = 5 ∨ c.m = 21 ∨ c.m = 22 ∨ c.m = 24 ∨ c.m = 27) (h : c.st = []) : acc c = true := by
  unfold acc
  rw [h]
  rcases hm with e | e | e | e | e <;> rw [e] <;> rfl
theorem aft_ok (k : Bool) (st : List Bool) (d : Nat) (h : st.length ≤ d) : Ok (aft k st d) := by
  cases k
  · exact ok_lit _ _ _ _ _ h
  · exact ok_lit _ _ _ _ _ h
theorem aft_d (k : Bool) (st : List Bool) (d : Nat) : (aft k st d).d = d := by cases k <;> rfl
/-- A step that keeps the depth, behind a byte that is no blank. -/
theorem good_plain (c c' : Cf) (b : Nat) (ho : Ok c') (hd : c'.d = c.d) (h : isB b = true → acc c' = true → acc c = true) : Good c c' b := ⟨ho, by omega, by omega, h⟩
theorem good_step (c c' : Cf) (b : Nat) (ho : Ok c) (h : step c b = some c') : Good c c' b := by
  have h1 := ho.1
  have nb : ∀ (n : Nat), b = n → isB n = false → isB b = true → acc c' = true → acc c = true := fun n e h2 h3 => by rw [e, h2] at h3; cases h3
  obtain ⟨m, x, w, k, st, d⟩ := c
  have h1 : st.length ≤ d := h1
  by_cases hm : m ≤ 9
  · obtain rfl | rfl | rfl | rfl | rfl | rfl | rfl | rfl | rfl | rfl : m = 0 ∨ m = 1 ∨ m = 2 ∨ m = 3 ∨ m = 4 ∨ m = 5 ∨ m = 6 ∨ m = 7 ∨ m = 8 ∨ m = 9 := by omega
    · have h : (if isB b then some (cV st d) else stV st d b) = some c' := h
      by_cases e : isB b = true
      · rw [if_pos e] at h
        obtain rfl := Option.some.inj h
        exact good_plain _ _ _ (ok_lit _ _ _ _ _ h1) rfl (fun _ h2 => by cases h2)
      · rw [if_neg e] at h
        exact good_V _ _ _ (by simpa using e) ho h
    · have h : (if isB b then some (cA st d) else if b = 93 then stE st d b else stV st d b) = some c' := h
      by_cases e : isB b = true
      · rw [if_pos e] at h
        obtain rfl := Option.some.inj h
        exact good_plain _ _ _ (ok_lit _ _ _ _ _ h1) rfl (fun _ h2 => by cases h2)
      · rw [if_neg e] at h
        by_cases e2 : b = 93
        · rw [if_pos e2] at h
          have := good_E (cE st d) c' b (fun h2 => by rw [acc_E, show st = [] from h2]; rfl) (ok_lit _ _ _ _ _ h1) h
          exact ⟨this.1, this.2.1, this.2.2.1, fun h2 => absurd h2 e⟩
        · rw [if_neg e2] at h
          exact good_V _ _ _ (by simpa using e) ho h
    · have h : (if isB b then some (cO st d) else if b = 125 then stE st d b else if b = 34 then some (cS 0 true st d) else none) = some c' := h
      by_cases e : isB b = true
      · rw [if_pos e] at h
        obtain rfl := Option.some.inj h
        exact good_plain _ _ _ (ok_lit _ _ _ _ _ h1) rfl (fun _ h2 => by cases h2)
      · rw [if_neg e] at h
        by_cases e2 : b = 125
        · rw [if_pos e2] at h
          have := good_E (cE st d) c' b (fun h2 => by rw [acc_E, show st = [] from h2]; rfl) (ok_lit _ _ _ _ _ h1) h
          exact ⟨this.1, this.2.1, this.2.2.1, fun h2 => absurd h2 e⟩
        · rw [if_neg e2] at h
          by_cases e3 : b = 34
          · rw [if_pos e3] at h
            obtain rfl := Option.some.inj h
            exact good_plain _ _ _ (ok_lit _ _ _ _ _ h1) rfl (fun h2 => absurd h2 e)
          · rw [if_neg e3] at h
            cases h
    · have h : (if isB b then some (cK st d) else if b = 34 then some (cS 0 true st d) else none) = some c' := h
      by_cases e : isB b = true
      · rw [if_pos e] at h
        obtain rfl := Option.some.inj h
        exact good_plain _ _ _ (ok_lit _ _ _ _ _ h1) rfl (fun _ h2 => by cases h2)
      · rw [if_neg e] at h
        by_cases e3 : b = 34
        · rw [if_pos e3] at h
          obtain rfl := Option.some.inj h
          exact good_plain _ _ _ (ok_lit _ _ _ _ _ h1) rfl (fun h2 => absurd h2 e)
        · rw [if_neg e3] at h
          cases h
    · have h : (if isB b then some (cC st d) else if b = 58 then some (cV st d) else none) = some c' := h
      by_cases e : isB b = true
      · rw [if_pos e] at h
        obtain rfl := Option.some.inj h
        exact good_plain _ _ _ (ok_lit _ _ _ _ _ h1) rfl (fun _ h2 => by cases h2)
      · rw [if_neg e] at h
        by_cases e3 : b = 58
        · rw [if_pos e3] at h
          obtain rfl := Option.some.inj h
          exact good_plain _ _ _ (ok_lit _ _ _ _ _ h1) rfl (fun h2 => absurd h2 e)
        · rw [if_neg e3] at h
          cases h
    · exact good_E _ _ _ (fun h2 => acc_lit _ (.inl rfl) h2) ho h
    · have h : stS x k st d b = some c' := h
      unfold stS at h
      by_cases e1 : x = 0 ∧ b = 34
      · rw [if_pos e1] at h
        obtain rfl := Option.some.inj h
        exact good_plain _ _ _ (aft_ok k st d h1) (aft_d k st d) (nb 34 e1.2 rfl)
      rw [if_neg e1] at h
      by_cases e2 : x = 0 ∧ b < 32
      · rw [if_pos e2] at h
        cases h
      rw [if_neg e2] at h
      by_cases e3 : x = 0 ∧ b = 92
      · rw [if_pos e3] at h
        obtain rfl := Option.some.inj h
        exact good_plain _ _ _ (ok_lit _ _ _ _ _ h1) rfl (fun _ h2 => by cases h2)
      rw [if_neg e3] at h
      by_cases e4 : Ut.st x b = 8
      · rw [if_pos e4] at h
        cases h
      · rw [if_neg e4] at h
        obtain rfl := Option.some.inj h
        exact good_plain _ _ _ (ok_lit _ _ _ _ _ h1) rfl (fun _ h2 => by cases h2)
    · have h : (if isS b then some (cS 0 k st d) else if b = 117 then some (cU 0 k st d) else none) = some c' := h
      by_cases e1 : isS b = true
      · rw [if_pos e1] at h
        obtain rfl := Option.some.inj h
        exact good_plain _ _ _ (ok_lit _ _ _ _ _ h1) rfl (fun _ h2 => by cases h2)
      · rw [if_neg e1] at h
        by_cases e2 : b = 117
        · rw [if_pos e2] at h
          obtain rfl := Option.some.inj h
          exact good_plain _ _ _ (ok_lit _ _ _ _ _ h1) rfl (fun _ h2 => by cases h2)
        · rw [if_neg e2] at h
          cases h
    · have h : (if isH b then (if x = 3 then some (cS 0 k st d) else some (cU (x + 1) k st d)) else none) = some c' := h
      by_cases e1 : isH b = true
      · rw [if_pos e1] at h
        by_cases e2 : x = 3
        · rw [if_pos e2] at h
          obtain rfl := Option.some.inj h
          exact good_plain _ _ _ (ok_lit _ _ _ _ _ h1) rfl (fun _ h2 => by cases h2)
        · rw [if_neg e2] at h
          obtain rfl := Option.some.inj h
          exact good_plain _ _ _ (ok_lit _ _ _ _ _ h1) rfl (fun _ h2 => by cases h2)
      · rw [if_neg e1] at h
        cases h
    · have hw := ho.2
      match w, hw, h with
      | a :: r, hw, h =>
        have h : (if b = a.toNat then (if r = [] then some (cE st d) else some (cW r st d)) else none) = some c' := h
        by_cases e1 : b = a.toNat
        · rw [if_pos e1] at h
          have hn := nb _ e1 (hw a List.mem_cons_self)
          by_cases e2 : r = []
          · rw [if_pos e2] at h
            obtain rfl := Option.some.inj h
            exact good_plain _ _ _ (ok_lit _ _ _ _ _ h1) rfl hn
          · rw [if_neg e2] at h
            obtain rfl := Option.some.inj h
            exact good_plain _ _ _ ⟨h1, fun y hy => hw y (List.mem_cons_of_mem _ hy)⟩ rfl hn
        · rw [if_neg e1] at h
          cases h
  · have h : stN m st d b = some c' := by
      have : step ⟨m, x, w, k, st, d⟩ b = stN m st d b := by
        obtain ⟨j, rfl⟩ : ∃ j, m = j + 10 := ⟨m - 10, by omega⟩
        rfl
      rw [← this]
      exact h
    have lit : ∀ (n : Nat), Ok (cN n st d) := fun n => ok_lit _ _ _ _ _ h1
    have no : ∀ (n : Nat), n = 23 ∨ n = 25 ∨ n = 26 → isB b = true → acc (cN n st d) = true → acc (⟨m, x, w, k, st, d⟩ : Cf) = true := fun n hn _ h2 => by
      rcases hn with rfl | rfl | rfl <;> cases h2
    have dg : isD b = true → ∀ (n : Nat), isB b = true → acc (cN n st d) = true → acc (⟨m, x, w, k, st, d⟩ : Cf) = true := fun h2 _ h3 => by
      rw [isD_iff] at h2
      rw [isB_iff] at h3
      omega
    unfold stN at h
    by_cases m0 : m = 20
    · rw [if_pos m0] at h
      by_cases e : b = 48
      · rw [if_pos e] at h
        obtain rfl := Option.some.inj h
        exact good_plain _ _ _ (lit _) rfl (nb 48 e rfl)
      · rw [if_neg e] at h
        split at h
        · rename_i e2
          obtain rfl := Option.some.inj h
          exact good_plain _ _ _ (lit _) rfl (dg e2 _)
        · cases h
    rw [if_neg m0] at h
    by_cases m1 : m = 21
    · rw [if_pos m1] at h
      by_cases e : b = 46
      · rw [if_pos e] at h
        obtain rfl := Option.some.inj h
        exact good_plain _ _ _ (lit _) rfl (no _ (.inl rfl))
      rw [if_neg e] at h
      by_cases e2 : b = 101 ∨ b = 69
      · rw [if_pos e2] at h
        obtain rfl := Option.some.inj h
        exact good_plain _ _ _ (lit _) rfl (no _ (.inr (.inl rfl)))
      · rw [if_neg e2] at h
        exact good_E _ _ _ (fun h2 => acc_lit _ (.inr (.inl m1)) h2) ho h
    rw [if_neg m1] at h
    by_cases m2 : m = 22
    · rw [if_pos m2] at h
      by_cases e0 : isD b = true
      · rw [if_pos e0] at h
        obtain rfl := Option.some.inj h
        exact good_plain _ _ _ (lit _) rfl (dg e0 _)
      rw [if_neg e0] at h
      by_cases e : b = 46
      · rw [if_pos e] at h
        obtain rfl := Option.some.inj h
        exact good_plain _ _ _ (lit _) rfl (no _ (.inl rfl))
      rw [if_neg e] at h
      by_cases e2 : b = 101 ∨ b = 69
      · rw [if_pos e2] at h
        obtain rfl := Option.some.inj h
        exact good_plain _ _ _ (lit _) rfl (no _ (.inr (.inl rfl)))
      · rw [if_neg e2] at h
        exact good_E _ _ _ (fun h2 => acc_lit _ (.inr (.inr (.inl m2))) h2) ho h
    rw [if_neg m2] at h
    by_cases m3 : m = 23
    · rw [if_pos m3] at h
      by_cases e0 : isD b = true
      · rw [if_pos e0] at h
        obtain rfl := Option.some.inj h
        exact good_plain _ _ _ (lit _) rfl (dg e0 _)
      · rw [if_neg e0] at h
        cases h
    rw [if_neg m3] at h
    by_cases m4 : m = 24
    · rw [if_pos m4] at h
      by_cases e0 : isD b = true
      · rw [if_pos e0] at h
        obtain rfl := Option.some.inj h
        exact good_plain _ _ _ (lit _) rfl (dg e0 _)
      rw [if_neg e0] at h
      by_cases e2 : b = 101 ∨ b = 69
      · rw [if_pos e2] at h
        obtain rfl := Option.some.inj h
        exact good_plain _ _ _ (lit _) rfl (no _ (.inr (.inl rfl)))
      · rw [if_neg e2] at h
        exact good_E _ _ _ (fun h2 => acc_lit _ (.inr (.inr (.inr (.inl m4)))) h2) ho h
    rw [if_neg m4] at h
    by_cases m5 : m = 25
    · rw [if_pos m5] at h
      by_cases e : b = 43 ∨ b = 45
      · rw [if_pos e] at h
        obtain rfl := Option.some.inj h
        exact good_plain _ _ _ (lit _) rfl (no _ (.inr (.inr rfl)))
      rw [if_neg e] at h
      by_cases e0 : isD b = true
      · rw [if_pos e0] at h
        obtain rfl := Option.some.inj h
        exact good_plain _ _ _ (lit _) rfl (dg e0 _)
      · rw [if_neg e0] at h
        cases h
    rw [if_neg m5] at h
    by_cases m6 : m = 26
    · rw [if_pos m6] at h
      by_cases e0 : isD b = true
      · rw [if_pos e0] at h
        obtain rfl := Option.some.inj h
        exact good_plain _ _ _ (lit _) rfl (dg e0 _)
      · rw [if_neg e0] at h
        cases h
    rw [if_neg m6] at h
    by_cases m7 : m = 27
    · rw [if_pos m7] at h
      by_cases e0 : isD b = true
      · rw [if_pos e0] at h
        obtain rfl := Option.some.inj h
        exact good_plain _ _ _ (lit _) rfl (dg e0 _)
      · rw [if_neg e0] at h
        exact good_E _ _ _ (fun h2 => acc_lit _ (.inr (.inr (.inr (.inr m7)))) h2) ho h
    · rw [if_neg m7] at h
      cases h
/-- No text nests deeper than it is long. -/
theorem out_deep (l : List UInt8) (c : Cf) (ho : Ok c) (v : Nat) (h : (out c l).1 = some v) : v ≤ c.d + l.length := by
  induction l generalizing c with
  | nil =>
    have h : (if acc c then some c.d else none) = some v := h
    split at h
    · rw [← Option.some.inj h]
      exact Nat.le_add_right _ _
    · cases h
  | cons b l ih =>
    cases hs : step c b.toNat with
    | none =>
      rw [out_none c b l hs] at h
      cases h
    | some c' =>
      rw [out_some c c' b l hs] at h
      have hg := good_step c c' _ ho hs
      have := ih c' hg.1 h
      have := hg.2.2.1
      rw [List.length_cons]
      omega
/-- Blanks ahead. -/
theorem out_ahead (a : List UInt8) (c : Cf) (l : List UInt8) (hc : Sp c) (ha : ∀ x ∈ a, isB x.toNat = true) : out c (a ++ l) = ((out c l).1, (out c l).2 + a.length) := by
  induction a with
  | nil => rfl
  | cons x a ih =>
    rw [List.cons_append, out_some c c x _ (hc _ (ha x List.mem_cons_self)), ih (fun y hy => ha y (List.mem_cons_of_mem _ hy))]
    rfl
/-- What dies ahead of the end dies there whatever stands behind. -/
theorem out_before (l m : List UInt8) (c : Cf) (h : (out c l).2 < l.length) : out c (l ++ m) = (none, (out c l).2) := by
  induction l generalizing c with
  | nil => cases h
  | cons b l ih =>
    rw [List.cons_append]
    cases hs : step c b.toNat with
    | none => rw [out_none c b _ hs, out_none c b _ hs]
    | some c' =>
      rw [out_some c c' b l hs] at h ⊢
      rw [out_some c c' b _ hs, ih c' (Nat.lt_of_succ_lt_succ h)]
theorem acc_iff (c : Cf) : acc c = true ↔ (c.m = 5 ∨ c.m = 21 ∨ c.m = 22 ∨ c.m = 24 ∨ c.m = 27) ∧ c.st = [] := by
  unfold acc
  simp [or_assoc]
/-- Where it may end, what is no part of a number is read as behind a value. -/
theorem step_end (c : Cf) (b : Nat) (hm : c.m = 5 ∨ c.m = 21 ∨ c.m = 22 ∨ c.m = 24 ∨ c.m = 27) (hb : isD b = false) (h1 : b ≠ 46) (h2 : b ≠ 101) (h3 : b ≠ 69) : step c b = stE c.st c.d b := by
  obtain ⟨m, y, w, k, st, d⟩ := c
  have hm : m = 5 ∨ m = 21 ∨ m = 22 ∨ m = 24 ∨ m = 27 := hm
  rcases hm with rfl | rfl | rfl | rfl | rfl
  · rfl
  · show (if b = 46 then some (cN 23 st d) else if b = 101 ∨ b = 69 then some (cN 25 st d) else stE st d b) = _
    rw [if_neg h1, if_neg (fun h => h.elim h2 h3)]
  · show (if isD b then some (cN 22 st d) else if b = 46 then some (cN 23 st d) else if b = 101 ∨ b = 69 then some (cN 25 st d) else stE st d b) = _
    rw [hb, if_neg Bool.false_ne_true, if_neg h1, if_neg (fun h => h.elim h2 h3)]
  · show (if isD b then some (cN 24 st d) else if b = 101 ∨ b = 69 then some (cN 25 st d) else stE st d b) = _
    rw [hb, if_neg Bool.false_ne_true, if_neg (fun h => h.elim h2 h3)]
  · show (if isD b then some (cN 27 st d) else stE st d b) = _
    rw [hb, if_neg Bool.false_ne_true]
theorem not_digit {b : Nat} (h : isB b = true) : isD b = false ∧ b ≠ 46 ∧ b ≠ 101 ∧ b ≠ 69 := by
  rw [isB_iff] at h
  refine ⟨?_, by omega, by omega, by omega⟩
  cases hd : isD b with
  | false => rfl
  | true =>
    rw [isD_iff] at hd
    omega
theorem acc_blank (c : Cf) (b : Nat) (h : acc c = true) (hb : isB b = true) : step c b = some (cE c.st c.d) := by
  obtain ⟨n1, n2, n3, n4⟩ := not_digit hb
  rw [step_end c b ((acc_iff c).1 h).1 n1 n2 n3 n4]
  unfold stE
  rw [if_pos hb]
/-- Blanks behind a place that is come to. -/
theorem out_tail (b : List UInt8) (c : Cf) (ho : Ok c) (hb : ∀ x ∈ b, isB x.toNat = true) : (acc c = true → out c b = (some c.d, b.length)) ∧ (acc c = false → (out c b).1 = none) := by
  induction b generalizing c with
  | nil =>
    constructor
    · intro h
      show ((if acc c then some c.d else none), 0) = _
      rw [if_pos h]
      rfl
    · intro h
      show (if acc c then some c.d else none) = _
      rw [h]
      rfl
  | cons x b ih =>
    have hx := hb x List.mem_cons_self
    have hb2 : ∀ y ∈ b, isB y.toNat = true := fun y hy => hb y (List.mem_cons_of_mem _ hy)
    constructor
    · intro h
      have hs := acc_blank c x.toNat h hx
      have he : acc (cE c.st c.d) = true := by rw [acc_E, ((acc_iff c).1 h).2]; rfl
      rw [out_some c _ x b hs, (ih _ (good_step c _ _ ho hs).1 hb2).1 he]
      rfl
    · intro h
      cases hs : step c x.toNat with
      | none => rw [out_none c x b hs]
      | some c' =>
        have hg := good_step c c' _ ho hs
        rw [out_some c c' x b hs]
        cases ha : acc c' with
        | true =>
          rw [hg.2.2.2 hx ha] at h
          cases h
        | false => exact (ih c' hg.1 hb2).2 ha
/-- Blanks behind a text. -/
theorem out_behind (l b : List UInt8) (c : Cf) (ho : Ok c) (hb : ∀ x ∈ b, isB x.toNat = true) : (∀ v, (out c l).1 = some v → out c (l ++ b) = (some v, l.length + b.length)) ∧ ((out c l).1 = none → (out c (l ++ b)).1 = none ∧ (out c l).2 ≤ (out c (l ++ b)).2) := by
  induction l generalizing c with
  | nil =>
    have ht := out_tail b c ho hb
    have e : out c [] = ((if acc c then some c.d else none), 0) := rfl
    rw [e, List.nil_append, List.length_nil, Nat.zero_add]
    cases ha : acc c with
    | true =>
      rw [ht.1 ha]
      exact ⟨fun v hv => by rw [show some c.d = some v from hv], fun h => by cases h⟩
    | false => exact ⟨(fun v hv => by cases hv), fun _ => ⟨ht.2 ha, Nat.zero_le _⟩⟩
  | cons x l ih =>
    rw [List.cons_append]
    cases hs : step c x.toNat with
    | none =>
      rw [out_none c x l hs, out_none c x _ hs]
      exact ⟨(fun v hv => by cases hv), fun _ => ⟨rfl, Nat.le_refl _⟩⟩
    | some c' =>
      obtain ⟨i1, i2⟩ := ih c' (good_step c c' _ ho hs).1
      rw [out_some c c' x l hs, out_some c c' x _ hs]
      constructor
      · intro v hv
        rw [i1 v hv, List.length_cons]
        show (some v, l.length + b.length + 1) = _
        congr 1
        omega
      · intro h
        obtain ⟨i3, i4⟩ := i2 h
        exact ⟨i3, Nat.succ_le_succ i4⟩
/-- The same place with more brackets open beneath. -/
def under (B : List Bool) (D : Nat) (c : Cf) : Cf := ⟨c.m, c.x, c.w, c.k, c.st ++ B, max D (c.d + B.length)⟩
theorem max_push (D d n m : Nat) : max D (max d (n + 1) + m) = max (max D (d + m)) (n + m + 1) := by omega
theorem under_V (B : List Bool) (D : Nat) (st : List Bool) (d b : Nat) (c' : Cf) (h : stV st d b = some c') : stV (st ++ B) (max D (d + B.length)) b = some (under B D c') := by
  unfold stV at h ⊢
  have push : ∀ (o : Bool) (f : List Bool → Nat → Cf), (∀ s e, under B D (f s e) = f (s ++ B) (max D (e + B.length))) → f (o :: (st ++ B)) (max (max D (d + B.length)) ((st ++ B).length + 1)) = under B D (f (o :: st) (max d (st.length + 1))) := fun o f hf => by
    rw [hf, List.cons_append, List.length_append, max_push]
  by_cases e1 : b = 34
  · rw [if_pos e1] at h ⊢
    rw [← Option.some.inj h]
    rfl
  rw [if_neg e1] at h ⊢
  by_cases e2 : b = 91
  · rw [if_pos e2] at h ⊢
    rw [← Option.some.inj h, push false cA (fun _ _ => rfl)]
  rw [if_neg e2] at h ⊢
  by_cases e3 : b = 123
  · rw [if_pos e3] at h ⊢
    rw [← Option.some.inj h, push true cO (fun _ _ => rfl)]
  rw [if_neg e3] at h ⊢
  by_cases e4 : b = 110
  · rw [if_pos e4] at h ⊢
    rw [← Option.some.inj h]
    rfl
  rw [if_neg e4] at h ⊢
  by_cases e5 : b = 116
  · rw [if_pos e5] at h ⊢
    rw [← Option.some.inj h]
    rfl
  rw [if_neg e5] at h ⊢
  by_cases e6 : b = 102
  · rw [if_pos e6] at h ⊢
    rw [← Option.some.inj h]
    rfl
  rw [if_neg e6] at h ⊢
  by_cases e7 : b = 45
  · rw [if_pos e7] at h ⊢
    rw [← Option.some.inj h]
    rfl
  rw [if_neg e7] at h ⊢
  by_cases e8 : b = 48
  · rw [if_pos e8] at h ⊢
    rw [← Option.some.inj h]
    rfl
  rw [if_neg e8] at h ⊢
  split at h
  · rename_i e9
    rw [if_pos e9, ← Option.some.inj h]
    rfl
  · cases h
theorem under_E (B : List Bool) (D : Nat) (st : List Bool) (d b : Nat) (c' : Cf) (h : stE st d b = some c') : stE (st ++ B) (max D (d + B.length)) b = some (under B D c') := by
  unfold stE at h ⊢
  by_cases e1 : isB b = true
  · rw [if_pos e1] at h ⊢
    rw [← Option.some.inj h]
    rfl
  rw [if_neg e1] at h ⊢
  by_cases e2 : b = 44
  · rw [if_pos e2] at h ⊢
    match st, h with
    | false :: r, h => rw [← Option.some.inj h]; rfl
    | true :: r, h => rw [← Option.some.inj h]; rfl
  rw [if_neg e2] at h ⊢
  by_cases e3 : b = 93
  · rw [if_pos e3] at h ⊢
    match st, h with
    | false :: r, h => rw [← Option.some.inj h]; rfl
  rw [if_neg e3] at h ⊢
  by_cases e4 : b = 125
  · rw [if_pos e4] at h ⊢
    match st, h with
    | true :: r, h => rw [← Option.some.inj h]; rfl
  · rw [if_neg e4] at h
    cases h
theorem under_aft (B : List Bool) (D : Nat) (k : Bool) (st : List Bool) (d : Nat) : under B D (aft k st d) = aft k (st ++ B) (max D (d + B.length)) := by cases k <;> rfl
theorem under_S (B : List Bool) (D : Nat) (q : Nat) (k : Bool) (st : List Bool) (d b : Nat) (c' : Cf) (h : stS q k st d b = some c') : stS q k (st ++ B) (max D (d + B.length)) b = some (under B D c') := by
  unfold stS at h ⊢
  by_cases e1 : q = 0 ∧ b = 34
  · rw [if_pos e1] at h ⊢
    rw [← Option.some.inj h, under_aft]
  rw [if_neg e1] at h ⊢
  by_cases e2 : q = 0 ∧ b < 32
  · rw [if_pos e2] at h
    cases h
  rw [if_neg e2] at h ⊢
  by_cases e3 : q = 0 ∧ b = 92
  · rw [if_pos e3] at h ⊢
    rw [← Option.some.inj h]
    rfl
  rw [if_neg e3] at h ⊢
  by_cases e4 : Ut.st q b = 8
  · rw [if_pos e4] at h
    cases h
  · rw [if_neg e4] at h ⊢
    rw [← Option.some.inj h]
    rfl
theorem under_N (B : List Bool) (D : Nat) (m : Nat) (st : List Bool) (d b : Nat) (c' : Cf) (h : stN m st d b = some c') : stN m (st ++ B) (max D (d + B.length)) b = some (under B D c') := by
  unfold stN at h ⊢
  repeat' split at h
  all_goals first | cases h; done | skip
  all_goals simp only [*, ↓reduceIte]
  all_goals first | exact under_E B D st d b c' h | (rw [← Option.some.inj h]; rfl)
theorem step_under (B : List Bool) (D : Nat) (c c' : Cf) (b : Nat) (h : step c b = some c') : step (under B D c) b = some (under B D c') := by
  obtain ⟨m, x, w, k, st, d⟩ := c
  by_cases hm : m ≤ 9
  · obtain rfl | rfl | rfl | rfl | rfl | rfl | rfl | rfl | rfl | rfl : m = 0 ∨ m = 1 ∨ m = 2 ∨ m = 3 ∨ m = 4 ∨ m = 5 ∨ m = 6 ∨ m = 7 ∨ m = 8 ∨ m = 9 := by omega
    · have h : (if isB b then some (cV st d) else stV st d b) = some c' := h
      show (if isB b then some (cV (st ++ B) (max D (d + B.length))) else stV (st ++ B) (max D (d + B.length)) b) = _
      by_cases e : isB b = true
      · rw [if_pos e] at h ⊢
        rw [← Option.some.inj h]
        rfl
      · rw [if_neg e] at h ⊢
        exact under_V B D st d b c' h
    · have h : (if isB b then some (cA st d) else if b = 93 then stE st d b else stV st d b) = some c' := h
      show (if isB b then some (cA (st ++ B) (max D (d + B.length))) else if b = 93 then stE (st ++ B) (max D (d + B.length)) b else stV (st ++ B) (max D (d + B.length)) b) = _
      by_cases e : isB b = true
      · rw [if_pos e] at h ⊢
        rw [← Option.some.inj h]
        rfl
      · rw [if_neg e] at h ⊢
        by_cases e2 : b = 93
        · rw [if_pos e2] at h ⊢
          exact under_E B D st d b c' h
        · rw [if_neg e2] at h ⊢
          exact under_V B D st d b c' h
    · have h : (if isB b then some (cO st d) else if b = 125 then stE st d b else if b = 34 then some (cS 0 true st d) else none) = some c' := h
      show (if isB b then some (cO (st ++ B) (max D (d + B.length))) else if b = 125 then stE (st ++ B) (max D (d + B.length)) b else if b = 34 then some (cS 0 true (st ++ B) (max D (d + B.length))) else none) = _
      by_cases e : isB b = true
      · rw [if_pos e] at h ⊢
        rw [← Option.some.inj h]
        rfl
      · rw [if_neg e] at h ⊢
        by_cases e2 : b = 125
        · rw [if_pos e2] at h ⊢
          exact under_E B D st d b c' h
        · rw [if_neg e2] at h ⊢
          by_cases e3 : b = 34
          · rw [if_pos e3] at h ⊢
            rw [← Option.some.inj h]
            rfl
          · rw [if_neg e3] at h
            cases h
    · have h : (if isB b then some (cK st d) else if b = 34 then some (cS 0 true st d) else none) = some c' := h
      show (if isB b then some (cK (st ++ B) (max D (d + B.length))) else if b = 34 then some (cS 0 true (st ++ B) (max D (d + B.length))) else none) = _
      by_cases e : isB b = true
      · rw [if_pos e] at h ⊢
        rw [← Option.some.inj h]
        rfl
      · rw [if_neg e] at h ⊢
        by_cases e3 : b = 34
        · rw [if_pos e3] at h ⊢
          rw [← Option.some.inj h]
          rfl
        · rw [if_neg e3] at h
          cases h
    · have h : (if isB b then some (cC st d) else if b = 58 then some (cV st d) else none) = some c' := h
      show (if isB b then some (cC (st ++ B) (max D (d + B.length))) else if b = 58 then some (cV (st ++ B) (max D (d + B.length))) else none) = _
      by_cases e : isB b = true
      · rw [if_pos e] at h ⊢
        rw [← Option.some.inj h]
        rfl
      · rw [if_neg e] at h ⊢
        by_cases e3 : b = 58
        · rw [if_pos e3] at h ⊢
          rw [← Option.some.inj h]
          rfl
        · rw [if_neg e3] at h
          cases h
    · exact under_E B D st d b c' h
    · exact under_S B D x k st d b c' h
    · have h : (if isS b then some (cS 0 k st d) else if b = 117 then some (cU 0 k st d) else none) = some c' := h
      show (if isS b then some (cS 0 k (st ++ B) (max D (d + B.length))) else if b = 117 then some (cU 0 k (st ++ B) (max D (d + B.length))) else none) = _
      by_cases e1 : isS b = true
      · rw [if_pos e1] at h ⊢
        rw [← Option.some.inj h]
        rfl
      · rw [if_neg e1] at h ⊢
        by_cases e2 : b = 117
        · rw [if_pos e2] at h ⊢
          rw [← Option.some.inj h]
          rfl
        · rw [if_neg e2] at h
          cases h
    · have h : (if isH b then (if x = 3 then some (cS 0 k st d) else some (cU (x + 1) k st d)) else none) = some c' := h
      show (if isH b then (if x = 3 then some (cS 0 k (st ++ B) (max D (d + B.length))) else some (cU (x + 1) k (st ++ B) (max D (d + B.length)))) else none) = _
      by_cases e1 : isH b = true
      · rw [if_pos e1] at h ⊢
        by_cases e2 : x = 3
        · rw [if_pos e2] at h ⊢
          rw [← Option.some.inj h]
          rfl
        · rw [if_neg e2] at h ⊢
          rw [← Option.some.inj h]
          rfl
      · rw [if_neg e1] at h
        cases h
    · match w, h with
      | a :: r, h =>
        have h : (if b = a.toNat then (if r = [] then some (cE st d) else some (cW r st d)) else none) = some c' := h
        show (if b = a.toNat then (if r = [] then some (cE (st ++ B) (max D (d + B.length))) else some (cW r (st ++ B) (max D (d + B.length)))) else none) = _
        by_cases e1 : b = a.toNat
        · rw [if_pos e1] at h ⊢
          by_cases e2 : r = []
          · rw [if_pos e2] at h ⊢
            rw [← Option.some.inj h]
            rfl
          · rw [if_neg e2] at h ⊢
            rw [← Option.some.inj h]
            rfl
        · rw [if_neg e1] at h
          cases h
  · obtain ⟨j, rfl⟩ : ∃ j, m = j + 10 := ⟨m - 10, by omega⟩
    exact under_N B D (j + 10) st d b c' h
/-- A text that ends well, with more brackets open beneath, and what stands behind it. -/
theorem out_under (l : List UInt8) (B : List Bool) (D : Nat) (c : Cf) (v : Nat) (h : (out c l).1 = some v) : ∃ ce, acc ce = true ∧ ce.d = v ∧ ∀ r, out (under B D c) (l ++ r) = ((out (under B D ce) r).1, (out (under B D ce) r).2 + l.length) := by
  induction l generalizing c with
  | nil =>
    have h : (if acc c then some c.d else none) = some v := h
    split at h
    · rename_i ha
      exact ⟨c, ha, Option.some.inj h, fun r => rfl⟩
    · cases h
  | cons b l ih =>
    cases hs : step c b.toNat with
    | none =>
      rw [out_none c b l hs] at h
      cases h
    | some c' =>
      rw [out_some c c' b l hs] at h
      obtain ⟨ce, h1, h2, h3⟩ := ih c' h
      refine ⟨ce, h1, h2, fun r => ?_⟩
      rw [List.cons_append, out_some _ _ b _ (step_under B D c c' _ hs), h3 r]
      rfl
/-- The same, where what stands behind begins with a comma or a closing bracket. -/
theorem out_inner (l : List UInt8) (B : List Bool) (D v : Nat) (b : UInt8) (r : List UInt8) (h : (out c0 l).1 = some v) (hb : b = 44 ∨ b = 93 ∨ b = 125) : out (cV B (max D B.length)) (l ++ b :: r) = ((out (cE B (max D (v + B.length))) (b :: r)).1, (out (cE B (max D (v + B.length))) (b :: r)).2 + l.length) := by
  obtain ⟨ce, h1, h2, h3⟩ := out_under l B D c0 v h
  have e : under B D c0 = cV B (max D B.length) := by
    show cV ([] ++ B) (max D (0 + B.length)) = _
    rw [Nat.zero_add]
    rfl
  rw [← e, h3]
  obtain ⟨h4, h5⟩ := (acc_iff ce).1 h1
  have hs : step (under B D ce) b.toNat = stE B (max D (v + B.length)) b.toNat := by
    have := step_end (under B D ce) b.toNat h4 (by rcases hb with rfl | rfl | rfl <;> rfl) (by rcases hb with rfl | rfl | rfl <;> decide) (by rcases hb with rfl | rfl | rfl <;> decide) (by rcases hb with rfl | rfl | rfl <;> decide)
    rw [this]
    show stE (ce.st ++ B) (max D (ce.d + B.length)) _ = _
    rw [h5, h2]
    rfl
  have hE : out (under B D ce) (b :: r) = out (cE B (max D (v + B.length))) (b :: r) := by
    rw [out_cons, out_cons, hs]
    rfl
  rw [hE]
/-- No JSON text begins with ]. -/
theorem out_array (l : List UInt8) (c : Nat) (st : List Bool) (d v : Nat) (h : (out (cV [] c) l).1 = some v) (r : List UInt8) : out (cA st d) (l ++ r) = out (cV st d) (l ++ r) := by
  induction l with
  | nil => cases h
  | cons b l ih =>
    rw [List.cons_append, out_cons, out_cons]
    by_cases hb : isB b.toNat = true
    · rw [sp_A st d _ hb, sp_V st d _ hb]
      rw [out_some _ _ b l (sp_V [] c _ hb)] at h
      show ((out (cA st d) (l ++ r)).1, _) = ((out (cV st d) (l ++ r)).1, _)
      rw [ih h]
    · have hb2 : isB b.toNat = false := by simpa using hb
      have h93 : b.toNat ≠ 93 := fun e => by
        rw [out_none _ b l (by rw [e]; rfl)] at h
        cases h
      rw [step_A st d _ hb2 h93, step_V st d _ hb2]
theorem out_one (c c' : Cf) (b : UInt8) (l : List UInt8) (h : step c b.toNat = some c') : out c (b :: l) = ((out c' l).1, (out c' l).2 + 1) := out_some c c' b l h
theorem c0_eq : c0 = cV [] 0 := rfl
/-- Two texts in an array. -/
theorem nest_array (s t : List UInt8) (d c : Nat) (hs : (out c0 s).1 = some d) (ht : (out c0 t).1 = some c) : (out c0 (91 :: (s ++ 44 :: (t ++ [93])))).1 = some (max d c + 1) := by
  rw [out_one c0 (cA [false] 1) 91 _ rfl, out_array s 0 [false] 1 d hs]
  have h1 := out_inner s [false] 1 d 44 (t ++ [93]) hs (.inl rfl)
  rw [show max 1 [false].length = 1 from rfl] at h1
  rw [h1, out_one _ (cV [false] (max 1 (d + 1))) 44 _ rfl]
  have h2 := out_inner t [false] (max 1 (d + 1)) c 93 [] ht (.inr (.inl rfl))
  rw [show max (max 1 (d + 1)) [false].length = max 1 (d + 1) from by show max (max 1 (d + 1)) 1 = _; omega] at h2
  rw [show t ++ [93] = t ++ 93 :: [] from rfl, h2, out_one _ (cE [] (max (max 1 (d + 1)) (c + 1))) 93 _ rfl]
  show some (max (max 1 (d + 1)) (c + 1)) = _
  congr 1
  omega
/-- Two texts in an object, of names a and none. -/
theorem nest_object (s t : List UInt8) (d c : Nat) (hs : (out c0 s).1 = some d) (ht : (out c0 t).1 = some c) : (out c0 (123 :: 34 :: 97 :: 34 :: 58 :: (s ++ 44 :: 34 :: 34 :: 58 :: (t ++ [125])))).1 = some (max d c + 1) := by
  rw [out_one c0 (cO [true] 1) 123 _ rfl, out_one _ (cS 0 true [true] 1) 34 _ rfl, out_one _ (cS 0 true [true] 1) 97 _ rfl, out_one _ (cC [true] 1) 34 _ rfl, out_one _ (cV [true] 1) 58 _ rfl]
  have h1 := out_inner s [true] 1 d 44 (34 :: 34 :: 58 :: (t ++ [125])) hs (.inl rfl)
  rw [show max 1 [true].length = 1 from rfl] at h1
  rw [h1, out_one _ (cK [true] (max 1 (d + 1))) 44 _ rfl, out_one _ (cS 0 true [true] (max 1 (d + 1))) 34 _ rfl, out_one _ (cC [true] (max 1 (d + 1))) 34 _ rfl, out_one _ (cV [true] (max 1 (d + 1))) 58 _ rfl]
  have h2 := out_inner t [true] (max 1 (d + 1)) c 125 [] ht (.inr (.inr rfl))
  rw [show max (max 1 (d + 1)) [true].length = max 1 (d + 1) from by show max (max 1 (d + 1)) 1 = _; omega] at h2
  rw [show t ++ [125] = t ++ 125 :: [] from rfl, h2, out_one _ (cE [] (max (max 1 (d + 1)) (c + 1))) 125 _ rfl]
  show some (max (max 1 (d + 1)) (c + 1)) = _
  congr 1
  omega
/-- Arrays in one another. -/
theorem rep_succ (k : Nat) (b : Bool) : List.replicate (k + 1) b = b :: List.replicate k b := rfl
theorem opens (k j : Nat) (r : List UInt8) : out (cA (List.replicate (j + 1) false) (j + 1)) (List.replicate k 91 ++ r) = ((out (cA (List.replicate (k + j + 1) false) (k + j + 1)) r).1, (out (cA (List.replicate (k + j + 1) false) (k + j + 1)) r).2 + k) := by
  induction k generalizing j with
  | zero => rw [Nat.zero_add]; rfl
  | succ k ih =>
    have hs : step (cA (List.replicate (j + 1) false) (j + 1)) (91 : UInt8).toNat = some (cA (List.replicate (j + 1 + 1) false) (j + 1 + 1)) := by
      show some (cA (false :: List.replicate (j + 1) false) (max (j + 1) ((List.replicate (j + 1) false).length + 1))) = _
      rw [List.length_replicate, ← rep_succ, show max (j + 1) (j + 1 + 1) = j + 1 + 1 from by omega]
    rw [show List.replicate (k + 1) (91 : UInt8) ++ r = 91 :: (List.replicate k 91 ++ r) from rfl, out_one _ _ 91 _ hs, ih (j + 1), show k + (j + 1) + 1 = k + 1 + j + 1 from by omega]
    rfl
theorem closes (k e : Nat) (r : List UInt8) : out (cE (List.replicate k false) e) (List.replicate k 93 ++ r) = ((out (cE [] e) r).1, (out (cE [] e) r).2 + k) := by
  induction k with
  | zero => rfl
  | succ k ih =>
    rw [show List.replicate (k + 1) (93 : UInt8) ++ r = 93 :: (List.replicate k 93 ++ r) from rfl, out_one _ (cE (List.replicate k false) e) 93 _ rfl, ih]
    rfl
/-- The brackets but the last one. -/
theorem closes_but (k e : Nat) : out (cE (List.replicate (k + 1) false) e) (List.replicate k 93) = (none, k) := by
  induction k with
  | zero => rfl
  | succ k ih =>
    rw [show List.replicate (k + 1) (93 : UInt8) = 93 :: List.replicate k 93 from rfl, out_one _ (cE (List.replicate (k + 1) false) e) 93 _ rfl, ih]
theorem deep_array (k : Nat) : out c0 (List.replicate (k + 1) 91 ++ List.replicate (k + 1) 93) = (some (k + 1), 2 * (k + 1)) ∧ out c0 (List.replicate (k + 1) 91 ++ List.replicate k 93) = (none, 2 * k + 1) := by
  have h0 : ∀ r, out c0 (List.replicate (k + 1) 91 ++ r) = ((out (cA (List.replicate (k + 1) false) (k + 1)) r).1, (out (cA (List.replicate (k + 1) false) (k + 1)) r).2 + (k + 1)) := fun r => by
    rw [show List.replicate (k + 1) (91 : UInt8) ++ r = 91 :: (List.replicate k 91 ++ r) from rfl, out_one c0 (cA (List.replicate (0 + 1) false) (0 + 1)) 91 _ rfl, opens k 0 r]
    rfl
  constructor
  · rw [h0, show List.replicate (k + 1) (93 : UInt8) = 93 :: (List.replicate k 93 ++ []) from by rw [List.append_nil]; rfl, out_one _ (cE (List.replicate k false) (k + 1)) 93 _ rfl, closes]
    show (some (k + 1), 0 + k + 1 + (k + 1)) = _
    congr 1
    omega
  · rw [h0]
    cases k with
    | zero => rfl
    | succ k =>
      rw [show List.replicate (k + 1) (93 : UInt8) = 93 :: List.replicate k 93 from rfl, out_one _ (cE (List.replicate (k + 1) false) (k + 1 + 1)) 93 _ rfl, closes_but]
      show (none, k + 1 + (k + 1 + 1)) = _
      congr 1
      omega
/-- Objects in one another. -/
def keys : Nat → List UInt8 → List UInt8
  | 0, r => r
  | k + 1, r => 123 :: 34 :: 97 :: 34 :: 58 :: keys k r
theorem keys_out (k j : Nat) (r : List UInt8) : out (cV (List.replicate j true) j) (keys k r) = ((out (cV (List.replicate (k + j) true) (k + j)) r).1, (out (cV (List.replicate (k + j) true) (k + j)) r).2 + 5 * k) := by
  induction k generalizing j with
  | zero => rw [Nat.zero_add]; rfl
  | succ k ih =>
    have hs : step (cV (List.replicate j true) j) (123 : UInt8).toNat = some (cO (List.replicate (j + 1) true) (j + 1)) := by
      show some (cO (true :: List.replicate j true) (max j ((List.replicate j true).length + 1))) = _
      rw [List.length_replicate, ← rep_succ, show max j (j + 1) = j + 1 from by omega]
    rw [show keys (k + 1) r = 123 :: 34 :: 97 :: 34 :: 58 :: keys k r from rfl, out_one _ _ 123 _ hs, out_one _ (cS 0 true (List.replicate (j + 1) true) (j + 1)) 34 _ rfl, out_one _ (cS 0 true (List.replicate (j + 1) true) (j + 1)) 97 _ rfl, out_one _ (cC (List.replicate (j + 1) true) (j + 1)) 34 _ rfl, out_one _ (cV (List.replicate (j + 1) true) (j + 1)) 58 _ rfl, ih (j + 1), show k + (j + 1) = k + 1 + j from by omega]
    rfl
theorem shuts (k e : Nat) (r : List UInt8) : out (cE (List.replicate k true) e) (List.replicate k 125 ++ r) = ((out (cE [] e) r).1, (out (cE [] e) r).2 + k) := by
  induction k with
  | zero => rfl
  | succ k ih =>
    rw [show List.replicate (k + 1) (125 : UInt8) ++ r = 125 :: (List.replicate k 125 ++ r) from rfl, out_one _ (cE (List.replicate k true) e) 125 _ rfl, ih]
    rfl
theorem shuts_but (k e : Nat) : out (cE (List.replicate (k + 1) true) e) (List.replicate k 125) = (none, k) := by
  induction k with
  | zero => rfl
  | succ k ih =>
    rw [show List.replicate (k + 1) (125 : UInt8) = 125 :: List.replicate k 125 from rfl, out_one _ (cE (List.replicate (k + 1) true) e) 125 _ rfl, ih]
theorem deep_object (k : Nat) : out c0 (keys (k + 1) (48 :: List.replicate (k + 1) 125)) = (some (k + 1), 6 * (k + 1) + 1) ∧ out c0 (keys (k + 1) (48 :: List.replicate k 125)) = (none, 6 * (k + 1)) := by
  have h0 : ∀ r, out c0 (keys (k + 1) r) = ((out (cV (List.replicate (k + 1) true) (k + 1)) r).1, (out (cV (List.replicate (k + 1) true) (k + 1)) r).2 + 5 * (k + 1)) := fun r => keys_out (k + 1) 0 r
  constructor
  · rw [h0, out_one _ (cN 21 (List.replicate (k + 1) true) (k + 1)) 48 _ rfl, show List.replicate (k + 1) (125 : UInt8) = 125 :: (List.replicate k 125 ++ []) from by rw [List.append_nil]; rfl, out_one _ (cE (List.replicate k true) (k + 1)) 125 _ rfl, shuts]
    show (some (k + 1), 0 + k + 1 + 1 + 5 * (k + 1)) = _
    congr 1
    omega
  · rw [h0, out_one _ (cN 21 (List.replicate (k + 1) true) (k + 1)) 48 _ rfl]
    cases k with
    | zero => rfl
    | succ k =>
      rw [show List.replicate (k + 1) (125 : UInt8) = 125 :: List.replicate k 125 from rfl, out_one _ (cE (List.replicate (k + 1) true) (k + 1 + 1)) 125 _ rfl, shuts_but]
      show (none, k + 1 + 1 + 5 * (k + 1 + 1)) = _
      congr 1
      omega
theorem keys_length (k : Nat) (r : List UInt8) : (keys k r).length = 5 * k + r.length := by
  induction k with
  | zero => rw [Nat.mul_zero, Nat.zero_add]; rfl
  | succ k ih =>
    show (keys k r).length + 1 + 1 + 1 + 1 + 1 = _
    rw [ih]
    omega
/-- One digit among blanks. -/
theorem large (a b : List UInt8) (ha : ∀ x ∈ a, isB x.toNat = true) (hb : ∀ x ∈ b, isB x.toNat = true) : (out c0 (a ++ 55 :: b)).1 = some 0 := by
  rw [out_ahead a c0 _ (sp_V [] 0) ha, out_one _ (cN 22 [] 0) 55 _ rfl, (out_tail b (cN 22 [] 0) (ok_lit _ _ _ _ _ (Nat.le_refl _)) hb).1 rfl]
  rfl
end Js
end Go.Proofs.Ytifkemcjificcaa
