/-
  The marks of a JSON text, by mathematics alone: the machine of JSON texts against the marks' states; its bits are balanced; blanks about its marks; a text without brackets has no marks.
-/
import Derived.Test.YtifkemcjificcaaMkMath
import Derived.Test.YtifkemcjificcaaScMath
import Derived.Test.YtifkemcjificcaaJsLaw
namespace Go.Proofs.Ytifkemcjificcaa
namespace Mk
open Js
/-- Where the machine stands, and the marks' state. -/
structure Rl (c : Cf) (q : Nat) : Prop where
  str : c.m = 6 ∨ c.m = 8 → q = 1
  esc : c.m = 7 → q = 2
  off : c.m ≠ 6 → c.m ≠ 7 → c.m ≠ 8 → q = 0
  wd : ∀ a ∈ c.w, 97 ≤ a.toNat ∧ a.toNat ≤ 122
  arr : c.m = 1 → ∃ r, c.st = false :: r
  obj : c.m = 2 ∨ c.m = 3 ∨ c.m = 4 → ∃ r, c.st = true :: r
  key : c.m = 6 ∨ c.m = 7 ∨ c.m = 8 → c.k = true → ∃ r, c.st = true :: r
theorem rl_plain (m x : Nat) (st : List Bool) (k : Bool) (d : Nat) (h1 : m ≠ 1) (h2 : m ≠ 2) (h3 : m ≠ 3) (h4 : m ≠ 4) (h6 : m ≠ 6) (h7 : m ≠ 7) (h8 : m ≠ 8) : Rl ⟨m, x, [], k, st, d⟩ 0 :=
  ⟨fun h => h.elim (fun h => absurd h h6) (fun h => absurd h h8), fun h => absurd h h7, fun _ _ _ => rfl, fun _ h => absurd h List.not_mem_nil, fun h => absurd h h1, fun h => (by rcases h with h | h | h <;> contradiction), fun h => (by rcases h with h | h | h <;> contradiction)⟩
theorem rl_V (st : List Bool) (d : Nat) : Rl (cV st d) 0 := rl_plain 0 0 st false d (by decide) (by decide) (by decide) (by decide) (by decide) (by decide) (by decide)
theorem rl_E (st : List Bool) (d : Nat) : Rl (cE st d) 0 := rl_plain 5 0 st false d (by decide) (by decide) (by decide) (by decide) (by decide) (by decide) (by decide)
theorem rl_A (r : List Bool) (d : Nat) : Rl (cA (false :: r) d) 0 :=
  ⟨fun h => (by rcases h with h | h <;> cases h), fun h => (by cases h), fun _ _ _ => rfl, fun _ h => absurd h List.not_mem_nil, fun _ => ⟨r, rfl⟩, fun h => (by rcases h with h | h | h <;> cases h), fun h => (by rcases h with h | h | h <;> cases h)⟩
theorem rl_O (r : List Bool) (d : Nat) : Rl (cO (true :: r) d) 0 :=
  ⟨fun h => (by rcases h with h | h <;> cases h), fun h => (by cases h), fun _ _ _ => rfl, fun _ h => absurd h List.not_mem_nil, fun h => (by cases h), fun _ => ⟨r, rfl⟩, fun h => (by rcases h with h | h | h <;> cases h)⟩
theorem rl_K (r : List Bool) (d : Nat) : Rl (cK (true :: r) d) 0 :=
  ⟨fun h => (by rcases h with h | h <;> cases h), fun h => (by cases h), fun _ _ _ => rfl, fun _ h => absurd h List.not_mem_nil, fun h => (by cases h), fun _ => ⟨r, rfl⟩, fun h => (by rcases h with h | h | h <;> cases h)⟩
theorem rl_C (r : List Bool) (d : Nat) : Rl (cC (true :: r) d) 0 :=
  ⟨fun h => (by rcases h with h | h <;> cases h), fun h => (by cases h), fun _ _ _ => rfl, fun _ h => absurd h List.not_mem_nil, fun h => (by cases h), fun _ => ⟨r, rfl⟩, fun h => (by rcases h with h | h | h <;> cases h)⟩
theorem rl_S (x : Nat) (k : Bool) (st : List Bool) (d : Nat) (h : k = true → ∃ r, st = true :: r) : Rl (cS x k st d) 1 :=
  ⟨fun _ => rfl, fun h => (by cases h), fun h => absurd rfl h, fun _ h => absurd h List.not_mem_nil, fun h => (by cases h), fun h => (by rcases h with h | h | h <;> cases h), fun _ hk => h hk⟩
theorem rl_U (j : Nat) (k : Bool) (st : List Bool) (d : Nat) (h : k = true → ∃ r, st = true :: r) : Rl (cU j k st d) 1 :=
  ⟨fun _ => rfl, fun h => (by cases h), fun _ _ h => absurd rfl h, fun _ h => absurd h List.not_mem_nil, fun h => (by cases h), fun h => (by rcases h with h | h | h <;> cases h), fun _ hk => h hk⟩
theorem rl_X (k : Bool) (st : List Bool) (d : Nat) (h : k = true → ∃ r, st = true :: r) : Rl (cX k st d) 2 :=
  ⟨fun h => (by rcases h with h | h <;> cases h), fun _ => rfl, fun _ h => absurd rfl h, fun _ h => absurd h List.not_mem_nil, fun h => (by cases h), fun h => (by rcases h with h | h | h <;> cases h), fun _ hk => h hk⟩
theorem rl_W (w : List UInt8) (st : List Bool) (d : Nat) (h : ∀ a ∈ w, 97 ≤ a.toNat ∧ a.toNat ≤ 122) : Rl (cW w st d) 0 :=
  ⟨fun h => (by rcases h with h | h <;> cases h), fun h => (by cases h), fun _ _ _ => rfl, h, fun h => (by cases h), fun h => (by rcases h with h | h | h <;> cases h), fun h => (by rcases h with h | h | h <;> cases h)⟩
theorem rl_aft (k : Bool) (st : List Bool) (d : Nat) (h : k = true → ∃ r, st = true :: r) : Rl (aft k st d) 0 := by
  cases k with
  | false => exact rl_E st d
  | true =>
    obtain ⟨r, rfl⟩ := h rfl
    exact rl_C r d
theorem rl_N (m : Nat) (st : List Bool) (d : Nat) (h : 20 ≤ m) : Rl (cN m st d) 0 := rl_plain m 0 st false d (by omega) (by omega) (by omega) (by omega) (by omega) (by omega) (by omega)
/-- What a mark does to the open brackets. -/
def Does (st st' : List Bool) (b : Nat) : Prop :=
  ((b = 91 ∨ b = 123) ∧ ∃ c, st' = c :: st) ∨ ((b = 93 ∨ b = 125) ∧ ∃ c, st = c :: st') ∨ ((b = 44 ∨ b = 58) ∧ st' = st ∧ 0 < st.length)
/-- A step outside of strings: a mark, with what it does, or another byte, which changes nothing. -/
def Did (c c' : Cf) (b : Nat) : Prop := (isM b = true ∧ Rl c' 0 ∧ Does c.st c'.st b ∧ c.d ≤ c'.d ∧ (c'.st.length ≤ c.st.length ∨ 0 < c'.d) ∧ (∃ c1, Js.step c 32 = some c1 ∧ Js.step c1 b = some c') ∧ Js.step c' 10 = some c') ∨ (isM b = false ∧ Rl c' (st 0 b) ∧ c'.st = c.st ∧ c.d ≤ c'.d)
theorem isM_no {b : Nat} (h : ¬ (b = 91 ∨ b = 93 ∨ b = 123 ∨ b = 125 ∨ b = 58 ∨ b = 44)) : isM b = false := by
  cases h2 : isM b with
  | false => rfl
  | true => exact absurd ((isM_iff b).1 h2) h
theorem st_no {b : Nat} (h : b ≠ 34) : st 0 b = 0 := by
  unfold st
  rw [if_pos rfl, if_neg h]
theorem stV_did (st d : _) (b : Nat) (c' : Cf) (h : stV st d b = some c') : (b = 91 ∧ c' = cA (false :: st) (max d (st.length + 1))) ∨ (b = 123 ∧ c' = cO (true :: st) (max d (st.length + 1))) ∨ (isM b = false ∧ Rl c' (Mk.st 0 b) ∧ c'.st = st ∧ d ≤ c'.d) := by
  unfold stV at h
  split at h
  · rename_i hb; subst hb
    cases h
    exact .inr (.inr ⟨by decide, rl_S 0 false st d (fun h => by cases h), rfl, Nat.le_refl _⟩)
  split at h
  · cases h; exact .inl ⟨by assumption, rfl⟩
  split at h
  · cases h; exact .inr (.inl ⟨by assumption, rfl⟩)
  split at h
  · rename_i hb; subst hb
    cases h
    exact .inr (.inr ⟨by decide, rl_W _ st d (by decide), rfl, Nat.le_refl _⟩)
  split at h
  · rename_i hb; subst hb
    cases h
    exact .inr (.inr ⟨by decide, rl_W _ st d (by decide), rfl, Nat.le_refl _⟩)
  split at h
  · rename_i hb; subst hb
    cases h
    exact .inr (.inr ⟨by decide, rl_W _ st d (by decide), rfl, Nat.le_refl _⟩)
  split at h
  · rename_i hb; subst hb
    cases h
    exact .inr (.inr ⟨by decide, rl_N 20 st d (by decide), rfl, Nat.le_refl _⟩)
  split at h
  · rename_i hb; subst hb
    cases h
    exact .inr (.inr ⟨by decide, rl_N 21 st d (by decide), rfl, Nat.le_refl _⟩)
  split at h
  · rename_i hb
    have hb := (isD_iff b).1 hb
    cases h
    exact .inr (.inr ⟨isM_no (by omega), by rw [st_no (by omega)]; exact rl_N 22 st d (by decide), rfl, Nat.le_refl _⟩)
  · cases h
theorem stE_did (st : List Bool) (d b : Nat) (c' : Cf) (h : stE st d b = some c') : (isM b = true ∧ Rl c' 0 ∧ Does st c'.st b ∧ c'.d = d ∧ c'.st.length ≤ st.length ∧ Js.step c' 10 = some c') ∨ (isM b = false ∧ b ≠ 34 ∧ c' = cE st d) := by
  unfold stE at h
  split at h
  · rename_i hb
    have hb := (isB_iff b).1 hb
    cases h
    exact .inr ⟨isM_no (by omega), by omega, rfl⟩
  split at h
  · rename_i hb
    subst hb
    split at h
    · cases h
    · cases h
      exact .inl ⟨by decide, rl_V _ d, .inr (.inr ⟨.inl rfl, rfl, Nat.succ_pos _⟩), rfl, Nat.le_refl _, rfl⟩
    · cases h
      exact .inl ⟨by decide, rl_K _ d, .inr (.inr ⟨.inl rfl, rfl, Nat.succ_pos _⟩), rfl, Nat.le_refl _, rfl⟩
  split at h
  · rename_i hb
    subst hb
    split at h
    · cases h
      exact .inl ⟨by decide, rl_E _ d, .inr (.inl ⟨.inl rfl, _, rfl⟩), rfl, Nat.le_succ _, rfl⟩
    · cases h
  split at h
  · rename_i hb
    subst hb
    split at h
    · cases h
      exact .inl ⟨by decide, rl_E _ d, .inr (.inl ⟨.inr rfl, _, rfl⟩), rfl, Nat.le_succ _, rfl⟩
    · cases h
  · cases h
/-- From a step behind a value to the whole claim. -/
theorem did_E (c c' : Cf) (b : Nat) (h : stE c.st c.d b = some c') (h32 : Js.step c 32 = some (cE c.st c.d)) : Did c c' b := by
  rcases stE_did c.st c.d b c' h with ⟨h1, h2, h3, h4, h5, h6⟩ | ⟨h1, h2, rfl⟩
  · exact .inl ⟨h1, h2, h3, by omega, .inl h5, ⟨_, h32, h⟩, h6⟩
  · exact .inr ⟨h1, by rw [st_no h2]; exact rl_E _ _, rfl, Nat.le_refl _⟩
theorem did_N (c c' : Cf) (b : Nat) (hc : ∀ b, Js.step c b = stN c.m c.st c.d b) (h : stN c.m c.st c.d b = some c') : Did c c' b := by
  have digit : ∀ m2, 20 ≤ m2 → isD b = true → c' = cN m2 c.st c.d → Did c c' b := fun m2 hm2 hb e => by
    have hb := (isD_iff b).1 hb
    subst e
    exact .inr ⟨isM_no (by omega), by rw [st_no (by omega)]; exact rl_N m2 _ _ hm2, rfl, Nat.le_refl _⟩
  have sign : ∀ m2, 20 ≤ m2 → (b = 46 ∨ b = 101 ∨ b = 69 ∨ b = 43 ∨ b = 45 ∨ b = 48) → c' = cN m2 c.st c.d → Did c c' b := fun m2 hm2 hb e => by
    subst e
    exact .inr ⟨isM_no (by omega), by rw [st_no (by omega)]; exact rl_N m2 _ _ hm2, rfl, Nat.le_refl _⟩
  have ends : stE c.st c.d b = some c' → (c.m = 21 ∨ c.m = 22 ∨ c.m = 24 ∨ c.m = 27) → Did c c' b := fun h1 h2 => did_E c c' b h1 (by
    rw [hc]
    rcases h2 with h2 | h2 | h2 | h2 <;> rw [h2] <;> rfl)
  unfold stN at h
  split at h
  · split at h
    · exact sign 21 (by decide) (by omega) (by cases h; rfl)
    split at h
    · exact digit 22 (by decide) (by assumption) (by cases h; rfl)
    · cases h
  split at h
  · split at h
    · exact sign 23 (by decide) (by omega) (by cases h; rfl)
    split at h
    · exact sign 25 (by decide) (by omega) (by cases h; rfl)
    · exact ends h (by omega)
  split at h
  · split at h
    · exact digit 22 (by decide) (by assumption) (by cases h; rfl)
    split at h
    · exact sign 23 (by decide) (by omega) (by cases h; rfl)
    split at h
    · exact sign 25 (by decide) (by omega) (by cases h; rfl)
    · exact ends h (by omega)
  split at h
  · split at h
    · exact digit 24 (by decide) (by assumption) (by cases h; rfl)
    · cases h
  split at h
  · split at h
    · exact digit 24 (by decide) (by assumption) (by cases h; rfl)
    split at h
    · exact sign 25 (by decide) (by omega) (by cases h; rfl)
    · exact ends h (by omega)
  split at h
  · split at h
    · exact sign 26 (by decide) (by omega) (by cases h; rfl)
    split at h
    · exact digit 27 (by decide) (by assumption) (by cases h; rfl)
    · cases h
  split at h
  · split at h
    · exact digit 27 (by decide) (by assumption) (by cases h; rfl)
    · cases h
  split at h
  · split at h
    · exact digit 27 (by decide) (by assumption) (by cases h; rfl)
    · exact ends h (by omega)
  · cases h
/-- A step outside of strings. -/
theorem step_did (c c' : Cf) (b : Nat) (hr : Rl c 0) (h : Js.step c b = some c') : Did c c' b := by
  obtain ⟨m, x, w, k, st0, d⟩ := c
  have h6 : m ≠ 6 := fun e => absurd (hr.str (.inl e)) (by decide)
  have h8 : m ≠ 8 := fun e => absurd (hr.str (.inr e)) (by decide)
  have h7 : m ≠ 7 := fun e => absurd (hr.esc e) (by decide)
  match m, hr, h, h6, h7, h8 with
  | 0, hr, h, _, _, _ =>
    have h2 : (if isB b then some (cV st0 d) else stV st0 d b) = some c' := h
    split at h2
    · rename_i hb
      have hb := (isB_iff b).1 hb
      cases h2
      exact .inr ⟨isM_no (by omega), by rw [st_no (by omega)]; exact rl_V _ _, rfl, Nat.le_refl _⟩
    · rcases stV_did st0 d b c' h2 with ⟨rfl, rfl⟩ | ⟨rfl, rfl⟩ | h3
      · exact .inl ⟨by decide, rl_A _ _, .inl ⟨.inl rfl, _, rfl⟩, Nat.le_max_left _ _, .inr (by show 0 < max d (st0.length + 1); omega), ⟨_, rfl, rfl⟩, rfl⟩
      · exact .inl ⟨by decide, rl_O _ _, .inl ⟨.inr rfl, _, rfl⟩, Nat.le_max_left _ _, .inr (by show 0 < max d (st0.length + 1); omega), ⟨_, rfl, rfl⟩, rfl⟩
      · exact .inr h3
  | 1, hr, h, _, _, _ =>
    obtain ⟨r, hst⟩ := hr.arr rfl
    have hst : st0 = false :: r := hst
    subst hst
    have h2 : (if isB b then some (cA (false :: r) d) else if b = 93 then stE (false :: r) d b else stV (false :: r) d b) = some c' := h
    split at h2
    · rename_i hb
      have hb := (isB_iff b).1 hb
      cases h2
      exact .inr ⟨isM_no (by omega), by rw [st_no (by omega)]; exact rl_A _ _, rfl, Nat.le_refl _⟩
    split at h2
    · rename_i hb
      subst hb
      cases h2
      exact .inl ⟨by decide, rl_E _ _, .inr (.inl ⟨.inl rfl, _, rfl⟩), Nat.le_refl _, .inl (Nat.le_succ _), ⟨_, rfl, rfl⟩, rfl⟩
    · rcases stV_did (false :: r) d b c' h2 with ⟨rfl, rfl⟩ | ⟨rfl, rfl⟩ | h3
      · exact .inl ⟨by decide, rl_A _ _, .inl ⟨.inl rfl, _, rfl⟩, Nat.le_max_left _ _, .inr (by show 0 < max d ((false :: r).length + 1); omega), ⟨_, rfl, rfl⟩, rfl⟩
      · exact .inl ⟨by decide, rl_O _ _, .inl ⟨.inr rfl, _, rfl⟩, Nat.le_max_left _ _, .inr (by show 0 < max d ((false :: r).length + 1); omega), ⟨_, rfl, rfl⟩, rfl⟩
      · exact .inr h3
  | 2, hr, h, _, _, _ =>
    obtain ⟨r, hst⟩ := hr.obj (.inl rfl)
    have hst : st0 = true :: r := hst
    subst hst
    have h2 : (if isB b then some (cO (true :: r) d) else if b = 125 then stE (true :: r) d b else if b = 34 then some (cS 0 true (true :: r) d) else none) = some c' := h
    split at h2
    · rename_i hb
      have hb := (isB_iff b).1 hb
      cases h2
      exact .inr ⟨isM_no (by omega), by rw [st_no (by omega)]; exact rl_O _ _, rfl, Nat.le_refl _⟩
    split at h2
    · rename_i hb
      subst hb
      cases h2
      exact .inl ⟨by decide, rl_E _ _, .inr (.inl ⟨.inr rfl, _, rfl⟩), Nat.le_refl _, .inl (Nat.le_succ _), ⟨_, rfl, rfl⟩, rfl⟩
    split at h2
    · rename_i hb
      subst hb
      cases h2
      exact .inr ⟨by decide, rl_S 0 true _ _ (fun _ => ⟨r, rfl⟩), rfl, Nat.le_refl _⟩
    · cases h2
  | 3, hr, h, _, _, _ =>
    obtain ⟨r, hst⟩ := hr.obj (.inr (.inl rfl))
    have hst : st0 = true :: r := hst
    subst hst
    have h2 : (if isB b then some (cK (true :: r) d) else if b = 34 then some (cS 0 true (true :: r) d) else none) = some c' := h
    split at h2
    · rename_i hb
      have hb := (isB_iff b).1 hb
      cases h2
      exact .inr ⟨isM_no (by omega), by rw [st_no (by omega)]; exact rl_K _ _, rfl, Nat.le_refl _⟩
    split at h2
    · rename_i hb
      subst hb
      cases h2
      exact .inr ⟨by decide, rl_S 0 true _ _ (fun _ => ⟨r, rfl⟩), rfl, Nat.le_refl _⟩
    · cases h2
  | 4, hr, h, _, _, _ =>
    obtain ⟨r, hst⟩ := hr.obj (.inr (.inr rfl))
    have hst : st0 = true :: r := hst
    subst hst
    have h2 : (if isB b then some (cC (true :: r) d) else if b = 58 then some (cV (true :: r) d) else none) = some c' := h
    split at h2
    · rename_i hb
      have hb := (isB_iff b).1 hb
      cases h2
      exact .inr ⟨isM_no (by omega), by rw [st_no (by omega)]; exact rl_C _ _, rfl, Nat.le_refl _⟩
    split at h2
    · rename_i hb
      subst hb
      cases h2
      exact .inl ⟨by decide, rl_V _ _, .inr (.inr ⟨.inr rfl, rfl, Nat.succ_pos _⟩), Nat.le_refl _, .inl (Nat.le_refl _), ⟨_, rfl, rfl⟩, rfl⟩
    · cases h2
  | 5, hr, h, _, _, _ => exact did_E _ c' b h rfl
  | 9, hr, h, _, _, _ =>
    cases w with
    | nil =>
      have h2 : (none : Option Cf) = some c' := h
      cases h2
    | cons a r =>
      have h2 : (if b = a.toNat then (if r = [] then some (cE st0 d) else some (cW r st0 d)) else none) = some c' := h
      have ha := hr.wd a List.mem_cons_self
      split at h2
      · rename_i hb
        split at h2
        · cases h2
          exact .inr ⟨isM_no (by omega), by rw [st_no (by omega)]; exact rl_E _ _, rfl, Nat.le_refl _⟩
        · cases h2
          exact .inr ⟨isM_no (by omega), by rw [st_no (by omega)]; exact rl_W r _ _ (fun y hy => hr.wd y (List.mem_cons_of_mem _ hy)), rfl, Nat.le_refl _⟩
      · cases h2
  | m + 10, hr, h, _, _, _ => exact did_N _ c' b (fun _ => rfl) h
/-- A step within a string. -/
theorem step_in (c c' : Cf) (q b : Nat) (hq : q ≠ 0) (hr : Rl c q) (h : Js.step c b = some c') : Rl c' (st q b) ∧ c'.st = c.st ∧ c.d ≤ c'.d := by
  obtain ⟨m, x, w, k, st0, d⟩ := c
  have hkey := hr.key
  by_cases h6 : m = 6
  · subst h6
    obtain rfl : q = 1 := hr.str (.inl rfl)
    have hk : k = true → ∃ r, st0 = true :: r := hkey (.inl rfl)
    have h2 : stS x k st0 d b = some c' := h
    unfold stS at h2
    split at h2
    · rename_i h3
      obtain ⟨rfl, rfl⟩ := h3
      cases h2
      exact ⟨rl_aft k st0 d hk, by cases k <;> rfl, by cases k <;> exact Nat.le_refl _⟩
    split at h2
    · cases h2
    split at h2
    · rename_i h3
      obtain ⟨rfl, rfl⟩ := h3
      cases h2
      exact ⟨rl_X k st0 d hk, rfl, Nat.le_refl _⟩
    split at h2
    · cases h2
    · rename_i n1 n2 n3 n4
      cases h2
      have hb : b ≠ 34 ∧ b ≠ 92 := by
        by_cases hx : x = 0
        · exact ⟨fun e => n1 ⟨hx, e⟩, fun e => n3 ⟨hx, e⟩⟩
        · have : ¬ b < 128 := fun hb => hx (st_letter x b hb n4).1
          omega
      refine ⟨?_, rfl, Nat.le_refl _⟩
      have e : st 1 b = 1 := by
        unfold st
        rw [if_neg (by decide), if_pos rfl, if_neg hb.1, if_neg hb.2]
      rw [e]
      exact rl_S _ k st0 d hk
  by_cases h8 : m = 8
  · subst h8
    obtain rfl : q = 1 := hr.str (.inr rfl)
    have hk : k = true → ∃ r, st0 = true :: r := hkey (.inr (.inr rfl))
    have h2 : (if isH b then (if x = 3 then some (cS 0 k st0 d) else some (cU (x + 1) k st0 d)) else none) = some c' := h
    split at h2
    · rename_i hs
      have hb : b ≠ 34 ∧ b ≠ 92 := by
        unfold isH isD at hs
        simp only [Bool.or_eq_true, Bool.and_eq_true, decide_eq_true_eq] at hs
        omega
      have e : st 1 b = 1 := by
        unfold st
        rw [if_neg (by decide), if_pos rfl, if_neg hb.1, if_neg hb.2]
      rw [e]
      split at h2
      · cases h2; exact ⟨rl_S _ k st0 d hk, rfl, Nat.le_refl _⟩
      · cases h2; exact ⟨rl_U _ k st0 d hk, rfl, Nat.le_refl _⟩
    · cases h2
  by_cases h7 : m = 7
  · subst h7
    obtain rfl : q = 2 := hr.esc rfl
    have hk : k = true → ∃ r, st0 = true :: r := hkey (.inr (.inl rfl))
    have e : st 2 b = 1 := rfl
    rw [e]
    have h2 : (if isS b then some (cS 0 k st0 d) else if b = 117 then some (cU 0 k st0 d) else none) = some c' := h
    split at h2
    · cases h2; exact ⟨rl_S _ k st0 d hk, rfl, Nat.le_refl _⟩
    split at h2
    · cases h2; exact ⟨rl_U _ k st0 d hk, rfl, Nat.le_refl _⟩
    · cases h2
  · exact absurd (hr.off h6 h7 h8) hq
/-- Any step. -/
theorem step_any (c c' : Cf) (q b : Nat) (hr : Rl c q) (h : Js.step c b = some c') :
    (q = 0 ∧ isM b = true ∧ Rl c' 0 ∧ Does c.st c'.st b ∧ c.d ≤ c'.d ∧ (c'.st.length ≤ c.st.length ∨ 0 < c'.d) ∧ (∃ c1, Js.step c 32 = some c1 ∧ Js.step c1 b = some c') ∧ Js.step c' 10 = some c')
    ∨ (¬ (q = 0 ∧ isM b = true) ∧ Rl c' (st q b) ∧ c'.st = c.st ∧ c.d ≤ c'.d) := by
  by_cases hq : q = 0
  · subst hq
    rcases step_did c c' b hr h with ⟨h1, h2⟩ | ⟨h1, h2⟩
    · exact .inl ⟨rfl, h1, h2⟩
    · exact .inr ⟨fun h3 => by rw [h1] at h3; exact absurd h3.2 (by decide), h2⟩
  · exact .inr ⟨fun h3 => hq h3.1, step_in c c' q b hq hr h⟩
/-- Whether bits are balanced, from an excess on. -/
def bal : Int → List Bool → Bool
  | e, [] => e == 0
  | e, o :: l => if e + (if o then 1 else -1) < 0 then false else bal (e + (if o then 1 else -1)) l
theorem bal_two (st0 st1 : List Bool) (b : Nat) (hd : Does st0 st1 b) (l : List Bool) : bal (2 * st0.length) (two b ++ l) = bal (2 * st1.length) l := by
  rcases hd with ⟨hb, c, rfl⟩ | ⟨hb, c, rfl⟩ | ⟨hb, rfl, h0⟩
  · have e : two b = [true, true] := by rcases hb with rfl | rfl <;> rfl
    rw [e, List.length_cons]
    show (if (2 * (st0.length : Int)) + 1 < 0 then false else if (2 * (st0.length : Int)) + 1 + 1 < 0 then false else bal ((2 * (st0.length : Int)) + 1 + 1) l) = _
    rw [if_neg (by omega), if_neg (by omega)]
    congr 1
  · have e : two b = [false, false] := by rcases hb with rfl | rfl <;> rfl
    rw [e, List.length_cons]
    show (if (2 * ((st1.length + 1 : Nat) : Int)) + -1 < 0 then false else if (2 * ((st1.length + 1 : Nat) : Int)) + -1 + -1 < 0 then false else bal ((2 * ((st1.length + 1 : Nat) : Int)) + -1 + -1) l) = _
    rw [if_neg (by omega), if_neg (by omega)]
    congr 1
    omega
  · have e : two b = [false, true] := by rcases hb with rfl | rfl <;> rfl
    rw [e]
    show (if (2 * (st1.length : Int)) + -1 < 0 then false else if (2 * (st1.length : Int)) + -1 + 1 < 0 then false else bal ((2 * (st1.length : Int)) + -1 + 1) l) = _
    rw [if_neg (by omega), if_neg (by omega)]
    congr 1
    omega
/-- Of a JSON text: it ends outside of strings; its bits are balanced; with blanks about its marks it is one, of the same depth. -/
theorem json_all (l : List UInt8) : ∀ (c : Cf) (q D : Nat), Rl c q → (out c l).1 = some D → run q l = 0 ∧ bal (2 * c.st.length) (bs q l) = true ∧ (out c (sp q l)).1 = some D := by
  induction l with
  | nil =>
    intro c q D hr h
    have ha : acc c = true := by
      cases h2 : acc c with
      | true => rfl
      | false =>
        have h3 : (if acc c then some c.d else none : Option Nat) = some D := h
        rw [h2] at h3
        cases h3
    obtain ⟨hm, hst⟩ := (acc_iff c).1 ha
    refine ⟨hr.off (by omega) (by omega) (by omega), ?_, h⟩
    rw [hst]
    rfl
  | cons b l ih =>
    intro c q D hr h
    cases hs : Js.step c b.toNat with
    | none =>
      rw [out_none c b l hs] at h
      cases h
    | some c' =>
      rw [out_some c c' b l hs] at h
      rcases step_any c c' q b.toNat hr hs with ⟨rfl, hm, hr2, hd, _, _, ⟨c1, h1, h2⟩, h3⟩ | ⟨hm, hr2, hst, _⟩
      · obtain ⟨i1, i2, i3⟩ := ih c' 0 D hr2 h
        refine ⟨by rw [run_mark b l hm]; exact i1, by rw [bs_mark b l hm, bal_two _ _ _ hd]; exact i2, ?_⟩
        rw [sp_mark b l hm, out_some c c1 32 _ h1, out_some c1 c' b _ h2, out_some c' c' 10 _ h3]
        exact i3
      · obtain ⟨i1, i2, i3⟩ := ih c' _ D hr2 h
        refine ⟨i1, by rw [bs_other q b l hm, ← hst]; exact i2, ?_⟩
        rw [sp_other q b l hm, out_some c c' b _ hs]
        exact i3
/-- The depth never falls. -/
theorem deep_grows (l : List UInt8) : ∀ (c : Cf) (q D : Nat), Rl c q → (out c l).1 = some D → c.d ≤ D := by
  induction l with
  | nil =>
    intro c q D _ h
    have h : (if acc c then some c.d else none) = some D := h
    split at h
    · rw [← Option.some.inj h]
      exact Nat.le_refl _
    · cases h
  | cons b l ih =>
    intro c q D hr h
    cases hs : Js.step c b.toNat with
    | none =>
      rw [out_none c b l hs] at h
      cases h
    | some c' =>
      rw [out_some c c' b l hs] at h
      rcases step_any c c' q b.toNat hr hs with ⟨_, _, hr2, _, h1, _⟩ | ⟨_, hr2, _, h1⟩
      · exact Nat.le_trans h1 (ih c' _ D hr2 h)
      · exact Nat.le_trans h1 (ih c' _ D hr2 h)
/-- A text that nests not at all has no marks. -/
theorem json_flat (l : List UInt8) : ∀ (c : Cf) (q i : Nat), Rl c q → c.st = [] → (out c l).1 = some 0 → pl q i l = [] := by
  induction l with
  | nil => intro c q i _ _ _; rfl
  | cons b l ih =>
    intro c q i hr hst h
    cases hs : Js.step c b.toNat with
    | none =>
      rw [out_none c b l hs] at h
      cases h
    | some c' =>
      rw [out_some c c' b l hs] at h
      rcases step_any c c' q b.toNat hr hs with ⟨rfl, hm, hr2, hd, _, hlen, _, _⟩ | ⟨hm, hr2, hst2, _⟩
      · exfalso
        rw [hst] at hd hlen
        rcases hd with ⟨_, x, hx⟩ | ⟨_, x, hx⟩ | ⟨_, _, h0⟩
        · rcases hlen with h4 | h4
          · rw [hx] at h4
            cases h4
          · have := deep_grows l c' _ 0 hr2 h
            omega
        · cases hx
        · cases h0
      · rw [pl_other q i b l hm]
        exact ih c' _ _ hr2 (hst2.trans hst) h
theorem rl_c0 : Rl c0 0 := rl_V [] 0
/-- The laws' mathematics. -/
theorem text_bal (l : List UInt8) (D : Nat) (h : (out c0 l).1 = some D) : run 0 l = 0 ∧ bal 0 (bs 0 l) = true ∧ (out c0 (sp 0 l)).1 = some D := json_all l c0 0 D rl_c0 h
theorem two_pl (s t : List UInt8) (D : Nat) (h : (out c0 s).1 = some D) : pl 0 0 (s ++ t) = pl 0 0 s ++ (pl 0 0 t).map (· + s.length) := by
  rw [pl_app, (text_bal s D h).1, pl_shift]
theorem two_bs (s t : List UInt8) (D : Nat) (h : (out c0 s).1 = some D) : bs 0 (s ++ t) = bs 0 s ++ bs 0 t := by
  rw [bs_app, (text_bal s D h).1]
/-- A string alone, and twice in an array. -/
theorem string_pl (s : List UInt8) (h : (out c0 s).1 = some 0) : pl 0 0 s = [] ∧ pl 0 0 (91 :: (s ++ 44 :: (s ++ [93]))) = [0, 1 + s.length, 2 + 2 * s.length] := by
  have hn : ∀ i, pl 0 i s = [] := fun i => json_flat s c0 0 i rl_c0 rfl h
  have hr : run 0 s = 0 := (text_bal s 0 h).1
  refine ⟨hn 0, ?_⟩
  rw [pl_mark 0 91 _ (by decide), pl_app, hn, hr, List.nil_append, pl_mark _ 44 _ (by decide), pl_app, hn, hr, List.nil_append, pl_mark _ 93 _ (by decide), show 0 + 1 + s.length = 1 + s.length by omega, show 1 + s.length + 1 + s.length = 2 + 2 * s.length by omega]
  rfl
end Mk
end Go.Proofs.Ytifkemcjificcaa
