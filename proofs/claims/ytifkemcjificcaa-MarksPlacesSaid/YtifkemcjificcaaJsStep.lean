/-
  JSON texts, by mathematics alone: what the machine does at blanks, words, numbers and strings.
-/
import Derived.Test.YtifkemcjificcaaJsMath
namespace Go.Proofs.Ytifkemcjificcaa
namespace Js
theorem T_same (l : List UInt8) (c c' : Cf) (i : Nat) (h : ∀ hi : i < l.length, step c (l[i]).toNat = step c' (l[i]).toNat) (ha : acc c = acc c') (hd : c.d = c'.d) : T l c i = T l c' i := by
  by_cases hi : i < l.length
  · cases hs : step c' (l[i]).toNat with
    | none => rw [T_dead l c' i hi hs, T_dead l c i hi ((h hi).trans hs)]
    | some x => rw [T_next l c' x i hi hs, T_next l c x i hi ((h hi).trans hs)]
  · unfold T
    rw [List.drop_of_length_le (by omega)]
    show ((if acc c then some c.d else none), _) = ((if acc c' then some c'.d else none), _)
    rw [ha, hd]
    rfl
/-- Blanks are gone by. -/
def Sp (c : Cf) : Prop := ∀ b, isB b = true → step c b = some c
theorem sp_V (st : List Bool) (d : Nat) : Sp (cV st d) := fun b h => by
  show (if isB b then some (cV st d) else stV st d b) = _
  rw [if_pos h]
theorem sp_A (st : List Bool) (d : Nat) : Sp (cA st d) := fun b h => by
  show (if isB b then some (cA st d) else _) = _
  rw [if_pos h]
theorem sp_O (st : List Bool) (d : Nat) : Sp (cO st d) := fun b h => by
  show (if isB b then some (cO st d) else _) = _
  rw [if_pos h]
theorem sp_K (st : List Bool) (d : Nat) : Sp (cK st d) := fun b h => by
  show (if isB b then some (cK st d) else _) = _
  rw [if_pos h]
theorem sp_C (st : List Bool) (d : Nat) : Sp (cC st d) := fun b h => by
  show (if isB b then some (cC st d) else _) = _
  rw [if_pos h]
theorem sp_E (st : List Bool) (d : Nat) : Sp (cE st d) := fun b h => by
  show (if isB b then some (cE st d) else _) = _
  rw [if_pos h]
theorem T_blank (l : List UInt8) (c : Cf) (i : Nat) (hc : Sp c) (h : i < l.length) (hb : isB (l[i]).toNat = true) : T l c i = T l c (i + 1) := T_next l c c i h (hc _ hb)
theorem isB_of (b : Nat) (h : b = 32 ∨ b = 9 ∨ b = 10 ∨ b = 13) : isB b = true := by
  rcases h with rfl | rfl | rfl | rfl <;> rfl
theorem isB_not (b : Nat) (h1 : b ≠ 32) (h2 : b ≠ 9) (h3 : b ≠ 10) (h4 : b ≠ 13) : isB b = false := by
  unfold isB
  simp [h1, h2, h3, h4]
theorem isB_iff (b : Nat) : isB b = true ↔ b = 32 ∨ b = 9 ∨ b = 10 ∨ b = 13 := by
  unfold isB
  simp [or_assoc]
theorem isD_iff (b : Nat) : isD b = true ↔ 48 ≤ b ∧ b ≤ 57 := by
  unfold isD
  simp
/-- What a value begins with. -/
theorem step_V (st : List Bool) (d b : Nat) (h : isB b = false) : step (cV st d) b = stV st d b := by
  show (if isB b then some (cV st d) else stV st d b) = _
  rw [h]
  rfl
theorem step_A (st : List Bool) (d b : Nat) (h : isB b = false) (h2 : b ≠ 93) : step (cA st d) b = stV st d b := by
  show (if isB b then some (cA st d) else if b = 93 then stE st d b else stV st d b) = _
  rw [h, if_neg h2]
  rfl
theorem step_A_end (r : List Bool) (d : Nat) : step (cA (false :: r) d) 93 = some (cE r d) := rfl
theorem step_O_end (r : List Bool) (d : Nat) : step (cO (true :: r) d) 125 = some (cE r d) := rfl
theorem step_E_arr (r : List Bool) (d : Nat) : step (cE (false :: r) d) 93 = some (cE r d) := rfl
theorem step_E_obj (r : List Bool) (d : Nat) : step (cE (true :: r) d) 125 = some (cE r d) := rfl
theorem step_E_next (r : List Bool) (d : Nat) : step (cE (false :: r) d) 44 = some (cV (false :: r) d) := rfl
theorem step_E_key (r : List Bool) (d : Nat) : step (cE (true :: r) d) 44 = some (cK (true :: r) d) := rfl
theorem step_E_none (st : List Bool) (d b : Nat) (h : isB b = false) (h1 : b ≠ 44) (h2 : ∀ r, st = false :: r → b ≠ 93) (h3 : ∀ r, st = true :: r → b ≠ 125) : step (cE st d) b = none := by
  show stE st d b = none
  unfold stE
  rw [h, if_neg h1]
  by_cases h93 : b = 93
  · rw [if_pos h93]
    match st, h2 with
    | [], _ => rfl
    | true :: r, _ => rfl
    | false :: r, h2 => exact absurd h93 (h2 r rfl)
  · rw [if_neg h93]
    by_cases h125 : b = 125
    · rw [if_pos h125]
      match st, h3 with
      | [], _ => rfl
      | false :: r, _ => rfl
      | true :: r, h3 => exact absurd h125 (h3 r rfl)
    · rw [if_neg h125]
      rfl
theorem step_K (st : List Bool) (d b : Nat) (h : isB b = false) : step (cK st d) b = if b = 34 then some (cS 0 true st d) else none := by
  show (if isB b then some (cK st d) else if b = 34 then some (cS 0 true st d) else none) = _
  rw [h]
  rfl
theorem step_O (st : List Bool) (d b : Nat) (h : isB b = false) (h2 : b ≠ 125) : step (cO st d) b = if b = 34 then some (cS 0 true st d) else none := by
  show (if isB b then some (cO st d) else if b = 125 then stE st d b else if b = 34 then some (cS 0 true st d) else none) = _
  rw [h, if_neg h2]
  rfl
theorem step_C (st : List Bool) (d b : Nat) (h : isB b = false) : step (cC st d) b = if b = 58 then some (cV st d) else none := by
  show (if isB b then some (cC st d) else if b = 58 then some (cV st d) else none) = _
  rw [h]
  rfl
theorem acc_V (st : List Bool) (d : Nat) : acc (cV st d) = false := rfl
theorem acc_A (st : List Bool) (d : Nat) : acc (cA st d) = false := rfl
theorem acc_O (st : List Bool) (d : Nat) : acc (cO st d) = false := rfl
theorem acc_K (st : List Bool) (d : Nat) : acc (cK st d) = false := rfl
theorem acc_C (st : List Bool) (d : Nat) : acc (cC st d) = false := rfl
theorem acc_E (st : List Bool) (d : Nat) : acc (cE st d) = st.isEmpty := rfl
theorem acc_S (q : Nat) (k : Bool) (st : List Bool) (d : Nat) : acc (cS q k st d) = false := rfl
theorem acc_X (k : Bool) (st : List Bool) (d : Nat) : acc (cX k st d) = false := rfl
theorem acc_U (j : Nat) (k : Bool) (st : List Bool) (d : Nat) : acc (cU j k st d) = false := rfl
theorem acc_W (w : List UInt8) (st : List Bool) (d : Nat) : acc (cW w st d) = false := rfl
/-- A value at its place: what is told hangs on its first byte alone, whether ] might come or not. -/
theorem T_first (l : List UInt8) (st : List Bool) (d i : Nat) (hb : ∀ hi : i < l.length, isB (l[i]).toNat = false ∧ (l[i]).toNat ≠ 93) : T l (cA st d) i = T l (cV st d) i :=
  T_same l _ _ i (fun hi => by rw [step_A st d _ (hb hi).1 (hb hi).2, step_V st d _ (hb hi).1]) rfl rfl
theorem T_member (l : List UInt8) (st : List Bool) (d i : Nat) (hb : ∀ hi : i < l.length, isB (l[i]).toNat = false ∧ (l[i]).toNat ≠ 125) : T l (cO st d) i = T l (cK st d) i :=
  T_same l _ _ i (fun hi => by rw [step_O st d _ (hb hi).1 (hb hi).2, step_K st d _ (hb hi).1]) rfl rfl
/-- A word: as far as it is there. -/
theorem T_word (l w : List UInt8) (st : List Bool) (d i j : Nat) (hj : j + 1 < w.length) (hi : i < l.length) (hw : (l[i]).toNat = (w.getD j 0).toNat) : T l (cW (w.drop j) st d) i = T l (cW (w.drop (j + 1)) st d) (i + 1) := by
  have e : w.drop j = w.getD j 0 :: w.drop (j + 1) := by
    rw [List.drop_eq_getElem_cons (show j < w.length by omega), List.getD_eq_getElem?_getD, List.getElem?_eq_getElem (show j < w.length by omega)]
    rfl
  refine T_next l _ _ i hi ?_
  rw [e]
  show (if (l[i]).toNat = (w.getD j 0).toNat then (if w.drop (j + 1) = [] then some (cE st d) else some (cW (w.drop (j + 1)) st d)) else none) = _
  rw [if_pos hw, if_neg]
  intro h
  have := congrArg List.length h
  rw [List.length_drop] at this
  simp at this
  omega
theorem T_word_last (l w : List UInt8) (st : List Bool) (d i j : Nat) (hj : j + 1 = w.length) (hi : i < l.length) (hw : (l[i]).toNat = (w.getD j 0).toNat) : T l (cW (w.drop j) st d) i = T l (cE st d) (i + 1) := by
  have e : w.drop j = [w.getD j 0] := by
    rw [List.drop_eq_getElem_cons (show j < w.length by omega), List.drop_of_length_le (by omega), List.getD_eq_getElem?_getD, List.getElem?_eq_getElem (show j < w.length by omega)]
    rfl
  refine T_next l _ _ i hi ?_
  rw [e]
  show (if (l[i]).toNat = (w.getD j 0).toNat then some (cE st d) else none) = _
  rw [if_pos hw]
theorem T_word_no (l w : List UInt8) (st : List Bool) (d i j : Nat) (hj : j < w.length) (h : ∀ hi : i < l.length, (l[i]).toNat ≠ (w.getD j 0).toNat) (hl : i ≤ l.length) : T l (cW (w.drop j) st d) i = (none, i) := by
  by_cases hi : i < l.length
  · have e : w.drop j = w.getD j 0 :: w.drop (j + 1) := by
      rw [List.drop_eq_getElem_cons hj, List.getD_eq_getElem?_getD, List.getElem?_eq_getElem hj]
      rfl
    refine T_dead l _ i hi ?_
    rw [e]
    show (if (l[i]).toNat = (w.getD j 0).toNat then (if w.drop (j + 1) = [] then some (cE st d) else some (cW (w.drop (j + 1)) st d)) else none) = _
    rw [if_neg (h hi)]
  · exact T_live l _ i (by omega) rfl
/-- Numbers. -/
theorem T_digit (l : List UInt8) (m : Nat) (st : List Bool) (d i : Nat) (hm : m = 22 ∨ m = 24 ∨ m = 27) (hi : i < l.length) (h : isD (l[i]).toNat = true) : T l (cN m st d) i = T l (cN m st d) (i + 1) := by
  refine T_next l _ _ i hi ?_
  rcases hm with rfl | rfl | rfl
  · show (if isD _ then _ else _) = _
    rw [if_pos h]
    rfl
  · show (if isD _ then _ else _) = _
    rw [if_pos h]
    rfl
  · show (if isD _ then _ else _) = _
    rw [if_pos h]
    rfl
theorem T_number_end (l : List UInt8) (m : Nat) (st : List Bool) (d i : Nat) (hm : m = 21 ∨ m = 22 ∨ m = 24 ∨ m = 27)
    (h : ∀ hi : i < l.length, (m ≠ 21 → isD (l[i]).toNat = false) ∧ (m = 21 ∨ m = 22 → (l[i]).toNat ≠ 46) ∧ (m ≠ 27 → (l[i]).toNat ≠ 101 ∧ (l[i]).toNat ≠ 69)) : T l (cN m st d) i = T l (cE st d) i := by
  refine T_same l _ _ i (fun hi => ?_) ?_ rfl
  · obtain ⟨h1, h2, h3⟩ := h hi
    have e : ∀ b, step (cN m st d) b = stN m st d b := fun b => by rcases hm with rfl | rfl | rfl | rfl <;> rfl
    rw [e]
    show stN m st d _ = stE st d _
    unfold stN
    rcases hm with rfl | rfl | rfl | rfl
    · have h4 := h2 (.inl rfl)
      have h5 := h3 (by decide)
      rw [if_neg (by decide), if_pos rfl, if_neg h4, if_neg (fun h6 => h6.elim h5.1 h5.2)]
    · have h4 := h2 (.inr rfl)
      have h5 := h3 (by decide)
      rw [if_neg (by decide), if_neg (by decide), if_pos rfl, h1 (by decide), if_neg Bool.false_ne_true, if_neg h4, if_neg (fun h6 => h6.elim h5.1 h5.2)]
    · have h5 := h3 (by decide)
      rw [if_neg (by decide), if_neg (by decide), if_neg (by decide), if_neg (by decide), if_pos rfl, h1 (by decide), if_neg Bool.false_ne_true, if_neg (fun h6 => h6.elim h5.1 h5.2)]
    · rw [if_neg (by decide), if_neg (by decide), if_neg (by decide), if_neg (by decide), if_neg (by decide), if_neg (by decide), if_neg (by decide), if_pos rfl, h1 (by decide)]
      rfl
  · rcases hm with rfl | rfl | rfl | rfl <;> rfl
theorem T_number_no (l : List UInt8) (m : Nat) (st : List Bool) (d i : Nat) (hm : m = 20 ∨ m = 23 ∨ m = 25 ∨ m = 26) (hl : i ≤ l.length)
    (h : ∀ hi : i < l.length, isD (l[i]).toNat = false ∧ (m = 25 → (l[i]).toNat ≠ 43 ∧ (l[i]).toNat ≠ 45)) : T l (cN m st d) i = (none, i) := by
  by_cases hi : i < l.length
  · obtain ⟨h1, h2⟩ := h hi
    have hD : ¬ (48 ≤ (l[i]).toNat ∧ (l[i]).toNat ≤ 57) := fun h3 => by
      rw [(isD_iff _).2 h3] at h1
      cases h1
    have e : ∀ b, step (cN m st d) b = stN m st d b := fun b => by rcases hm with rfl | rfl | rfl | rfl <;> rfl
    refine T_dead l _ i hi ?_
    rw [e]
    unfold stN
    rcases hm with rfl | rfl | rfl | rfl
    · rw [if_pos rfl, if_neg (by omega), h1]
      rfl
    · rw [if_neg (by decide), if_neg (by decide), if_neg (by decide), if_pos rfl, h1]
      rfl
    · have h3 := h2 rfl
      rw [if_neg (by decide), if_neg (by decide), if_neg (by decide), if_neg (by decide), if_neg (by decide), if_pos rfl, if_neg (fun h6 => h6.elim h3.1 h3.2), h1]
      rfl
    · rw [if_neg (by decide), if_neg (by decide), if_neg (by decide), if_neg (by decide), if_neg (by decide), if_neg (by decide), if_pos rfl, h1]
      rfl
  · refine T_live l _ i (by omega) ?_
    rcases hm with rfl | rfl | rfl | rfl <;> rfl
/-- Strings: UTF-8 by its states. -/
theorem out_scalar (l : List UInt8) (q : Nat) (k : Bool) (st : List Bool) (d : Nat) (hq : q = 0 → ∀ b t, l = b :: t → 32 ≤ b.toNat ∧ b.toNat ≠ 34 ∧ b.toNat ≠ 92) (h : Ut.ld q l ≠ 0) :
    out (cS q k st d) l = ((out (cS 0 k st d) (l.drop (Ut.ld q l))).1, (out (cS 0 k st d) (l.drop (Ut.ld q l))).2 + Ut.ld q l) := by
  induction l generalizing q with
  | nil => exact absurd rfl h
  | cons b l ih =>
    have hs : step (cS q k st d) b.toNat = if Ut.st q b.toNat = 8 then none else some (cS (Ut.st q b.toNat) k st d) := by
      show stS q k st d b.toNat = _
      unfold stS
      by_cases h0 : q = 0
      · have := hq h0 b l rfl
        rw [if_neg (by omega), if_neg (by omega), if_neg (by omega)]
      · rw [if_neg (fun h1 => h0 h1.1), if_neg (fun h1 => h0 h1.1), if_neg (fun h1 => h0 h1.1)]
    rw [Ut.ld_cons] at h ⊢
    by_cases h0 : Ut.st q b.toNat = 0
    · rw [if_pos h0, out_some _ _ b l (hs.trans (by rw [h0]; rfl))]
      rfl
    · rw [if_neg h0] at h ⊢
      by_cases h8 : Ut.st q b.toNat = 8
      · rw [if_pos h8] at h
        exact absurd rfl h
      · rw [if_neg h8] at h ⊢
        by_cases hl : Ut.ld (Ut.st q b.toNat) l = 0
        · rw [if_pos hl] at h
          exact absurd rfl h
        · rw [if_neg hl, out_some _ _ b l (hs.trans (if_neg h8)), ih _ (fun h1 => absurd h1 h0) hl]
          rfl
theorem out_odd (l : List UInt8) (q : Nat) (k : Bool) (st : List Bool) (d : Nat) (hq : q = 0 → ∀ b t, l = b :: t → 32 ≤ b.toNat ∧ b.toNat ≠ 34 ∧ b.toNat ≠ 92) (h : Ut.ld q l = 0) :
    out (cS q k st d) l = (none, Ut.alive q l) := by
  induction l generalizing q with
  | nil => rfl
  | cons b l ih =>
    have hs : step (cS q k st d) b.toNat = if Ut.st q b.toNat = 8 then none else some (cS (Ut.st q b.toNat) k st d) := by
      show stS q k st d b.toNat = _
      unfold stS
      by_cases h0 : q = 0
      · have := hq h0 b l rfl
        rw [if_neg (by omega), if_neg (by omega), if_neg (by omega)]
      · rw [if_neg (fun h1 => h0 h1.1), if_neg (fun h1 => h0 h1.1), if_neg (fun h1 => h0 h1.1)]
    rw [Ut.ld_cons] at h
    show _ = (none, if Ut.st q b.toNat = 8 then 0 else Ut.alive (Ut.st q b.toNat) l + 1)
    by_cases h0 : Ut.st q b.toNat = 0
    · rw [if_pos h0] at h
      cases h
    · rw [if_neg h0] at h
      by_cases h8 : Ut.st q b.toNat = 8
      · rw [if_pos h8, out_none _ b l (hs.trans (if_pos h8))]
      · rw [if_neg h8] at h
        rw [if_neg h8]
        by_cases hl : Ut.ld (Ut.st q b.toNat) l = 0
        · rw [out_some _ _ b l (hs.trans (if_neg h8)), ih _ (fun h1 => absurd h1 h0) hl]
        · rw [if_neg hl] at h
          cases h
/-- How many bytes a state waits for. -/
def mu (q : Nat) : Nat := match q with | 1 => 1 | 2 => 2 | 3 => 3 | 4 => 2 | 5 => 2 | 6 => 3 | 7 => 3 | _ => 0
theorem mu_next (q b : Nat) (hq : 1 ≤ q) (hq7 : q ≤ 7) (h0 : Ut.st q b ≠ 0) (h8 : Ut.st q b ≠ 8) : mu (Ut.st q b) + 1 = mu q ∧ 1 ≤ Ut.st q b ∧ Ut.st q b ≤ 7 := by
  obtain rfl | rfl | rfl | rfl | rfl | rfl | rfl : q = 1 ∨ q = 2 ∨ q = 3 ∨ q = 4 ∨ q = 5 ∨ q = 6 ∨ q = 7 := by omega
  all_goals unfold Ut.st at h0 h8 ⊢
  all_goals simp only [] at h0 h8 ⊢
  all_goals split at h0
  all_goals first | exact absurd rfl h0 | skip
  all_goals first | (rename_i h; rw [if_pos h] at h8 ⊢; exact ⟨rfl, by decide, by decide⟩) | (rename_i h; rw [if_neg h] at h8; exact absurd rfl h8)
theorem alive_mu (l : List UInt8) (q : Nat) (hq : 1 ≤ q) (hq7 : q ≤ 7) (h : Ut.ld q l = 0) : Ut.alive q l + 1 ≤ mu q := by
  have hmu : 1 ≤ mu q := by
    obtain rfl | rfl | rfl | rfl | rfl | rfl | rfl : q = 1 ∨ q = 2 ∨ q = 3 ∨ q = 4 ∨ q = 5 ∨ q = 6 ∨ q = 7 := by omega
    all_goals decide
  induction l generalizing q with
  | nil => exact hmu
  | cons b l ih =>
    show (if Ut.st q b.toNat = 8 then 0 else Ut.alive (Ut.st q b.toNat) l + 1) + 1 ≤ mu q
    rw [Ut.ld_cons] at h
    by_cases h0 : Ut.st q b.toNat = 0
    · rw [if_pos h0] at h
      cases h
    · rw [if_neg h0] at h
      by_cases h8 : Ut.st q b.toNat = 8
      · rw [if_pos h8]
        exact hmu
      · rw [if_neg h8] at h
        rw [if_neg h8]
        obtain ⟨h1, h2, h3⟩ := mu_next q b.toNat hq hq7 h0 h8
        by_cases hl : Ut.ld (Ut.st q b.toNat) l = 0
        · have hm : 1 ≤ mu (Ut.st q b.toNat) := by
            generalize Ut.st q b.toNat = p at h2 h3
            obtain rfl | rfl | rfl | rfl | rfl | rfl | rfl : p = 1 ∨ p = 2 ∨ p = 3 ∨ p = 4 ∨ p = 5 ∨ p = 6 ∨ p = 7 := by omega
            all_goals decide
          have := ih _ h2 h3 hl hm
          omega
        · rw [if_neg hl] at h
          cases h
theorem alive_three (l : List UInt8) (h : Ut.ld 0 l = 0) : Ut.alive 0 l ≤ 3 := by
  cases l with
  | nil => exact Nat.zero_le _
  | cons b l =>
    show (if Ut.st 0 b.toNat = 8 then 0 else Ut.alive (Ut.st 0 b.toNat) l + 1) ≤ 3
    rw [Ut.ld_cons] at h
    by_cases h0 : Ut.st 0 b.toNat = 0
    · rw [if_pos h0] at h
      cases h
    · rw [if_neg h0] at h
      by_cases h8 : Ut.st 0 b.toNat = 8
      · rw [if_pos h8]
        exact Nat.zero_le _
      · rw [if_neg h8] at h
        rw [if_neg h8]
        have hle := Ut.st_le 0 b.toNat
        by_cases hl : Ut.ld (Ut.st 0 b.toNat) l = 0
        · have h1 := alive_mu l _ (by omega) (by omega) hl
          have h2 : mu (Ut.st 0 b.toNat) ≤ 3 := by
            unfold mu
            split <;> decide
          omega
        · rw [if_neg hl] at h
          cases h
theorem alive_take (l : List UInt8) (q k : Nat) : Ut.alive q (l.take k) = min k (Ut.alive q l) := by
  induction l generalizing q k with
  | nil =>
    rw [List.take_nil]
    exact (Nat.min_eq_right (Nat.zero_le _)).symm
  | cons b l ih =>
    cases k with
    | zero => exact (Nat.min_eq_left (Nat.zero_le _)).symm
    | succ k =>
      rw [List.take_succ_cons]
      show (if Ut.st q b.toNat = 8 then 0 else Ut.alive (Ut.st q b.toNat) (l.take k) + 1) = min (k + 1) (if Ut.st q b.toNat = 8 then 0 else Ut.alive (Ut.st q b.toNat) l + 1)
      by_cases h8 : Ut.st q b.toNat = 8
      · rw [if_pos h8, if_pos h8]
        omega
      · rw [if_neg h8, if_neg h8, ih]
        omega
theorem alive_four (l : List UInt8) (h : Ut.ld 0 l = 0) : Ut.alive 0 (l.take 4) = Ut.alive 0 l := by
  have := alive_three l h
  rw [alive_take]
  omega
theorem T_scalar (l : List UInt8) (k : Bool) (st : List Bool) (d i : Nat) (hi : i < l.length) (h1 : 32 ≤ (l[i]).toNat) (h2 : (l[i]).toNat ≠ 34) (h3 : (l[i]).toNat ≠ 92) (h : Ut.ld 0 (l.drop i) ≠ 0) : T l (cS 0 k st d) i = T l (cS 0 k st d) (i + Ut.ld 0 (l.drop i)) := by
  unfold T
  rw [out_scalar (l.drop i) 0 k st d (fun _ b t e => by rw [List.drop_eq_getElem_cons hi, List.cons.injEq] at e; rw [← e.1]; exact ⟨h1, h2, h3⟩) h, List.drop_drop]
  show (_, _ + Ut.ld 0 (l.drop i) + i) = (_, _ + (i + Ut.ld 0 (l.drop i)))
  congr 1
  omega
theorem T_odd (l : List UInt8) (k : Bool) (st : List Bool) (d i : Nat) (hi : i < l.length) (h1 : 32 ≤ (l[i]).toNat) (h2 : (l[i]).toNat ≠ 34) (h3 : (l[i]).toNat ≠ 92) (h : Ut.ld 0 (l.drop i) = 0) : T l (cS 0 k st d) i = (none, i + Ut.alive 0 ((l.drop i).take 4)) := by
  unfold T
  rw [out_odd (l.drop i) 0 k st d (fun _ b t e => by rw [List.drop_eq_getElem_cons hi, List.cons.injEq] at e; rw [← e.1]; exact ⟨h1, h2, h3⟩) h, alive_four _ h, Nat.add_comm]
theorem T_close (l : List UInt8) (k : Bool) (st : List Bool) (d i : Nat) (hi : i < l.length) (h : (l[i]).toNat = 34) : T l (cS 0 k st d) i = T l (aft k st d) (i + 1) := by
  refine T_next l _ _ i hi ?_
  show stS 0 k st d _ = _
  unfold stS
  rw [if_pos ⟨rfl, h⟩]
theorem T_low (l : List UInt8) (k : Bool) (st : List Bool) (d i : Nat) (hi : i < l.length) (h : (l[i]).toNat < 32) : T l (cS 0 k st d) i = (none, i) := by
  refine T_dead l _ i hi ?_
  show stS 0 k st d _ = _
  unfold stS
  rw [if_neg (by omega), if_pos ⟨rfl, h⟩]
theorem T_back (l : List UInt8) (k : Bool) (st : List Bool) (d i : Nat) (hi : i < l.length) (h : (l[i]).toNat = 92) : T l (cS 0 k st d) i = T l (cX k st d) (i + 1) := by
  refine T_next l _ _ i hi ?_
  show stS 0 k st d _ = _
  unfold stS
  rw [if_neg (by omega), if_neg (by omega), if_pos ⟨rfl, h⟩]
theorem T_sign (l : List UInt8) (k : Bool) (st : List Bool) (d i : Nat) (hi : i < l.length) (h : isS (l[i]).toNat = true) : T l (cX k st d) i = T l (cS 0 k st d) (i + 1) := by
  refine T_next l _ _ i hi ?_
  show (if isS _ then some (cS 0 k st d) else _) = _
  rw [if_pos h]
theorem T_u (l : List UInt8) (k : Bool) (st : List Bool) (d i : Nat) (hi : i < l.length) (h : (l[i]).toNat = 117) : T l (cX k st d) i = T l (cU 0 k st d) (i + 1) := by
  refine T_next l _ _ i hi ?_
  show (if isS _ then some (cS 0 k st d) else if _ then some (cU 0 k st d) else none) = _
  rw [h]
  rfl
theorem T_nosign (l : List UInt8) (k : Bool) (st : List Bool) (d i : Nat) (hl : i ≤ l.length) (h : ∀ hi : i < l.length, isS (l[i]).toNat = false ∧ (l[i]).toNat ≠ 117) : T l (cX k st d) i = (none, i) := by
  by_cases hi : i < l.length
  · obtain ⟨h1, h2⟩ := h hi
    refine T_dead l _ i hi ?_
    show (if isS _ then some (cS 0 k st d) else if _ then some (cU 0 k st d) else none) = _
    rw [h1, if_neg h2]
    rfl
  · exact T_live l _ i (by omega) rfl
theorem T_hex (l : List UInt8) (k : Bool) (st : List Bool) (d i j : Nat) (hj : j < 3) (hi : i < l.length) (h : isH (l[i]).toNat = true) : T l (cU j k st d) i = T l (cU (j + 1) k st d) (i + 1) := by
  refine T_next l _ _ i hi ?_
  show (if isH _ then (if j = 3 then some (cS 0 k st d) else some (cU (j + 1) k st d)) else none) = _
  rw [if_pos h, if_neg (by omega)]
theorem T_hex_last (l : List UInt8) (k : Bool) (st : List Bool) (d i : Nat) (hi : i < l.length) (h : isH (l[i]).toNat = true) : T l (cU 3 k st d) i = T l (cS 0 k st d) (i + 1) := by
  refine T_next l _ _ i hi ?_
  show (if isH _ then (if 3 = 3 then some (cS 0 k st d) else _) else none) = _
  rw [if_pos h]
  rfl
theorem T_nohex (l : List UInt8) (k : Bool) (st : List Bool) (d i j : Nat) (hl : i ≤ l.length) (h : ∀ hi : i < l.length, isH (l[i]).toNat = false) : T l (cU j k st d) i = (none, i) := by
  by_cases hi : i < l.length
  · refine T_dead l _ i hi ?_
    show (if isH _ then _ else none) = _
    rw [h hi]
    rfl
  · exact T_live l _ i (by omega) rfl
end Js
end Go.Proofs.Ytifkemcjificcaa
