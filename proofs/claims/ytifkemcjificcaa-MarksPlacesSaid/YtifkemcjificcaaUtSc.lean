/-
  UTF-8, by mathematics alone: a scalar's bytes are what the states let by; its value comes again.
-/
import Derived.Test.YtifkemcjificcaaUtMath
namespace Go.Proofs.Ytifkemcjificcaa
namespace Ut
theorem ld1_cases (l : List UInt8) : ld 1 l = 1 ∨ ld 1 l = 0 := by
  cases l with
  | nil => exact .inr rfl
  | cons b l =>
    rw [ld1]
    split
    · exact .inl rfl
    · exact .inr rfl
theorem ld2_cases (l : List UInt8) : ld 2 l = 2 ∨ ld 2 l = 0 := by
  cases l with
  | nil => exact .inr rfl
  | cons b l =>
    rw [ld2 b l 2 128 191 (fun _ => rfl)]
    split
    · exact .inl rfl
    · exact .inr rfl
theorem ld3_cases (l : List UInt8) : ld 3 l = 3 ∨ ld 3 l = 0 := by
  cases l with
  | nil => exact .inr rfl
  | cons b l =>
    rw [ld3 b l 3 128 191 (fun _ => rfl)]
    split
    · exact .inl rfl
    · exact .inr rfl
theorem up (P : Prop) [Decidable P] (n : Nat) : (if (if P then n + 1 else 0) = 0 then 0 else (if P then n + 1 else 0) + 1) = if P then n + 2 else 0 := by
  by_cases h : P
  · simp [h]
  · simp [h]
theorem is_one (P : Prop) [Decidable P] : ((if P then 1 else 0) = 1) = P := by
  by_cases h : P
  · simp [h]
  · simp [h]
theorem is_two (P : Prop) [Decidable P] : ((if P then 2 else 0) = 2) = P := by
  by_cases h : P
  · simp [h]
  · simp [h]
theorem ld_byte (a : UInt8) (l : List UInt8) (h : a.toNat < 128) : ld 0 (a :: l) = 1 := by
  rw [ld_cons, st_zero, if_pos h, if_pos rfl]
/-- Two bytes. -/
theorem ld_two (a b : UInt8) (l : List UInt8) (h : 192 ≤ a.toNat) (h2 : a.toNat < 224) : ld 0 (a :: b :: l) = if 194 ≤ a.toNat ∧ 128 ≤ b.toNat ∧ b.toNat ≤ 191 then 2 else 0 := by
  rw [ld_cons]
  rcases st0 a.toNat with ⟨h3, _⟩ | ⟨_, _, e⟩ | ⟨_, _, e⟩ | ⟨h3, _⟩ | ⟨h3, _⟩ | ⟨h3, _⟩ | ⟨h3, _⟩ | ⟨h3, _⟩ | ⟨h3, _⟩ | ⟨h3, _⟩
  · omega
  · rw [e, if_neg (by decide), if_pos rfl, if_neg (by omega)]
  · rw [e, if_neg (by decide), if_neg (by decide), ld1]
    by_cases h4 : 128 ≤ b.toNat ∧ b.toNat ≤ 191
    · rw [if_pos h4, if_neg (by decide), if_pos (by omega)]
    · rw [if_neg h4, if_pos rfl, if_neg (by omega)]
  all_goals omega
/-- What may come behind the first one of three bytes. -/
def lo3 (a : Nat) : Nat := if a = 224 then 160 else 128
def hi3 (a : Nat) : Nat := if a = 237 then 159 else 191
theorem lo3_cases (a : Nat) : (a = 224 ∧ lo3 a = 160) ∨ (a ≠ 224 ∧ lo3 a = 128) := by
  unfold lo3
  split <;> omega
theorem hi3_cases (a : Nat) : (a = 237 ∧ hi3 a = 159) ∨ (a ≠ 237 ∧ hi3 a = 191) := by
  unfold hi3
  split <;> omega
theorem ld_three (a b c : UInt8) (l : List UInt8) (h : 224 ≤ a.toNat) (h2 : a.toNat < 240) : ld 0 (a :: b :: c :: l) = if lo3 a.toNat ≤ b.toNat ∧ b.toNat ≤ hi3 a.toNat ∧ 128 ≤ c.toNat ∧ c.toNat ≤ 191 then 3 else 0 := by
  have key : ∀ q lo hi : Nat, (∀ b, st q b = if lo ≤ b ∧ b ≤ hi then 1 else 8) → (if ld q (b :: c :: l) = 0 then 0 else ld q (b :: c :: l) + 1) = if lo ≤ b.toNat ∧ b.toNat ≤ hi ∧ 128 ≤ c.toNat ∧ c.toNat ≤ 191 then 3 else 0 := by
    intro q lo hi hq
    rw [ld2 b _ q lo hi hq, ld1]
    simp only [is_one, up _ 1]
  rw [ld_cons]
  unfold lo3 hi3
  rcases st0 a.toNat with ⟨h3, _⟩ | ⟨_, h3, e⟩ | ⟨_, h3, e⟩ | ⟨h3, e⟩ | ⟨h3, e⟩ | ⟨h3, h4, h5, e⟩ | ⟨h3, _⟩ | ⟨h3, _⟩ | ⟨h3, _⟩ | ⟨h3, _⟩
  · omega
  · omega
  · omega
  · rw [e, if_neg (by decide), if_neg (by decide), h3, key 4 160 191 (fun _ => rfl)]
    rfl
  · rw [e, if_neg (by decide), if_neg (by decide), h3, key 5 128 159 (fun _ => rfl)]
    rfl
  · rw [e, if_neg (by decide), if_neg (by decide), key 2 128 191 (fun _ => rfl), if_neg (c := a.toNat = 224) (by omega), if_neg h5]
  all_goals omega
def lo4 (a : Nat) : Nat := if a = 240 then 144 else 128
def hi4 (a : Nat) : Nat := if a = 244 then 143 else 191
theorem lo4_cases (a : Nat) : (a = 240 ∧ lo4 a = 144) ∨ (a ≠ 240 ∧ lo4 a = 128) := by
  unfold lo4
  split <;> omega
theorem hi4_cases (a : Nat) : (a = 244 ∧ hi4 a = 143) ∨ (a ≠ 244 ∧ hi4 a = 191) := by
  unfold hi4
  split <;> omega
theorem ld_four (a b c d : UInt8) (l : List UInt8) (h : 240 ≤ a.toNat) (h2 : a.toNat < 248) : ld 0 (a :: b :: c :: d :: l) = if a.toNat ≤ 244 ∧ lo4 a.toNat ≤ b.toNat ∧ b.toNat ≤ hi4 a.toNat ∧ 128 ≤ c.toNat ∧ c.toNat ≤ 191 ∧ 128 ≤ d.toNat ∧ d.toNat ≤ 191 then 4 else 0 := by
  have key : ∀ q lo hi : Nat, (∀ b, st q b = if lo ≤ b ∧ b ≤ hi then 2 else 8) → (if ld q (b :: c :: d :: l) = 0 then 0 else ld q (b :: c :: d :: l) + 1) = if lo ≤ b.toNat ∧ b.toNat ≤ hi ∧ 128 ≤ c.toNat ∧ c.toNat ≤ 191 ∧ 128 ≤ d.toNat ∧ d.toNat ≤ 191 then 4 else 0 := by
    intro q lo hi hq
    rw [ld3 b _ q lo hi hq, ld2 c _ 2 128 191 (fun _ => rfl), ld1]
    simp only [is_one, is_two, up _ 2]
  rw [ld_cons]
  unfold lo4 hi4
  rcases st0 a.toNat with ⟨h3, _⟩ | ⟨_, h3, e⟩ | ⟨_, h3, e⟩ | ⟨h3, e⟩ | ⟨h3, e⟩ | ⟨h3, h4, h5, e⟩ | ⟨h3, e⟩ | ⟨h3, h4, e⟩ | ⟨h3, e⟩ | ⟨h3, e⟩
  · omega
  · omega
  · omega
  · omega
  · omega
  · omega
  · rw [e, if_neg (by decide), if_neg (by decide), h3, key 6 144 191 (fun _ => rfl)]
    simp
  · rw [e, if_neg (by decide), if_neg (by decide), key 3 128 191 (fun _ => rfl), if_neg (c := a.toNat = 240) (by omega), if_neg (c := a.toNat = 244) (by omega)]
    simp [show a.toNat ≤ 244 from by omega]
  · rw [e, if_neg (by decide), if_neg (by decide), h3, key 7 128 143 (fun _ => rfl)]
    simp
  · rw [e, if_neg (by decide), if_pos rfl, if_neg (by omega)]
/-- Too few bytes. -/
theorem ld_short (a : UInt8) (l : List UInt8) (h : l.length + 1 < rn a.toNat) : ld 0 (a :: l) = 0 := by
  unfold rn at h
  rw [ld_cons]
  have h128 : ¬ a.toNat < 128 := by
    intro h1
    rw [if_pos h1] at h
    omega
  rcases st0 a.toNat with ⟨h3, _⟩ | ⟨_, h3, e⟩ | ⟨h2, h3, e⟩ | ⟨h3, e⟩ | ⟨h3, e⟩ | ⟨h3, h4, h5, e⟩ | ⟨h3, e⟩ | ⟨h3, h4, e⟩ | ⟨h3, e⟩ | ⟨h3, e⟩
  · omega
  · rw [e]
    rfl
  · rw [if_neg h128, if_neg (by omega), if_pos h3] at h
    obtain rfl : l = [] := List.eq_nil_of_length_eq_zero (by omega)
    rw [e]
    rfl
  · rw [if_neg h128, if_neg (by omega), if_neg (by omega), if_pos (by omega)] at h
    rw [e]
    match l, h with
    | [], _ => rfl
    | [b], _ =>
      rw [ld2 b _ 4 160 191 (fun _ => rfl), ld_nil, if_neg (c := _ ∧ _ ∧ _) (by omega)]
      rfl
  · rw [if_neg h128, if_neg (by omega), if_neg (by omega), if_pos (by omega)] at h
    rw [e]
    match l, h with
    | [], _ => rfl
    | [b], _ =>
      rw [ld2 b _ 5 128 159 (fun _ => rfl), ld_nil, if_neg (c := _ ∧ _ ∧ _) (by omega)]
      rfl
  · rw [if_neg h128, if_neg (by omega), if_neg (by omega), if_pos (by omega)] at h
    rw [e]
    match l, h with
    | [], _ => rfl
    | [b], _ =>
      rw [ld2 b _ 2 128 191 (fun _ => rfl), ld_nil, if_neg (c := _ ∧ _ ∧ _) (by omega)]
      rfl
  · rw [if_neg h128, if_neg (by omega), if_neg (by omega), if_neg (by omega), if_pos (by omega)] at h
    rw [e]
    match l, h with
    | [], _ => rfl
    | [b], _ =>
      rw [ld3 b _ 6 144 191 (fun _ => rfl), ld_nil, if_neg (c := _ ∧ _ ∧ _) (by omega)]
      rfl
    | [b, c], _ =>
      rw [ld3 b _ 6 144 191 (fun _ => rfl), ld2 c _ 2 128 191 (fun _ => rfl), ld_nil, if_neg (c := _ ∧ _ ∧ _ = 1) (by omega), if_neg (c := _ ∧ _ ∧ _) (by omega)]
      rfl
  · rw [if_neg h128, if_neg (by omega), if_neg (by omega), if_neg (by omega), if_pos (by omega)] at h
    rw [e]
    match l, h with
    | [], _ => rfl
    | [b], _ =>
      rw [ld3 b _ 3 128 191 (fun _ => rfl), ld_nil, if_neg (c := _ ∧ _ ∧ _) (by omega)]
      rfl
    | [b, c], _ =>
      rw [ld3 b _ 3 128 191 (fun _ => rfl), ld2 c _ 2 128 191 (fun _ => rfl), ld_nil, if_neg (c := _ ∧ _ ∧ _ = 1) (by omega), if_neg (c := _ ∧ _ ∧ _) (by omega)]
      rfl
  · rw [if_neg h128, if_neg (by omega), if_neg (by omega), if_neg (by omega), if_pos (by omega)] at h
    rw [e]
    match l, h with
    | [], _ => rfl
    | [b], _ =>
      rw [ld3 b _ 7 128 143 (fun _ => rfl), ld_nil, if_neg (c := _ ∧ _ ∧ _) (by omega)]
      rfl
    | [b, c], _ =>
      rw [ld3 b _ 7 128 143 (fun _ => rfl), ld2 c _ 2 128 191 (fun _ => rfl), ld_nil, if_neg (c := _ ∧ _ ∧ _ = 1) (by omega), if_neg (c := _ ∧ _ ∧ _) (by omega)]
      rfl
  · rw [e]
    rfl
/-- A byte that is no first one. -/
theorem ld_odd (a : UInt8) (l : List UInt8) (h : rn a.toNat = 0) : ld 0 (a :: l) = 0 := by
  unfold rn at h
  rw [ld_cons]
  rcases st0 a.toNat with ⟨h3, _⟩ | ⟨_, h3, e⟩ | ⟨h2, h3, e⟩ | ⟨h3, e⟩ | ⟨h3, e⟩ | ⟨h3, h4, h5, e⟩ | ⟨h3, e⟩ | ⟨h3, h4, e⟩ | ⟨h3, e⟩ | ⟨h3, e⟩
  · rw [if_pos h3] at h
    cases h
  · rw [e]
    rfl
  · rw [if_neg (by omega), if_neg (by omega), if_pos (by omega)] at h
    cases h
  · rw [if_neg (by omega), if_neg (by omega), if_neg (by omega), if_pos (by omega)] at h
    cases h
  · rw [if_neg (by omega), if_neg (by omega), if_neg (by omega), if_pos (by omega)] at h
    cases h
  · rw [if_neg (by omega), if_neg (by omega), if_neg (by omega), if_pos (by omega)] at h
    cases h
  · rw [if_neg (by omega), if_neg (by omega), if_neg (by omega), if_neg (by omega), if_pos (by omega)] at h
    cases h
  · rw [if_neg (by omega), if_neg (by omega), if_neg (by omega), if_neg (by omega), if_pos (by omega)] at h
    cases h
  · rw [if_neg (by omega), if_neg (by omega), if_neg (by omega), if_neg (by omega), if_pos (by omega)] at h
    cases h
  · rw [e]
    rfl
theorem len_ne {a b : List UInt8} (h : a.length ≠ b.length) : a ≠ b := fun e => h (by rw [e])
theorem enc_len_of (c : Nat) : (c < 128 → (enc c).length = 1) ∧ (128 ≤ c → c < 2048 → (enc c).length = 2) ∧ (2048 ≤ c → c < 65536 → (enc c).length = 3 ∨ (enc c).length = 0) ∧ (65536 ≤ c → (enc c).length = 4 ∨ (enc c).length = 0) := by
  refine ⟨fun h1 => by rw [enc1 c h1]; rfl, fun h1 h2 => by rw [enc2 c h1 h2]; rfl, fun h1 h2 => ?_, fun h1 => ?_⟩
  · by_cases h3 : 55296 ≤ c ∧ c ≤ 57343
    · rw [enc_none c (fun h => h.2 h3)]
      exact .inr rfl
    · rw [enc3 c h1 h2 h3]
      exact .inl rfl
  · by_cases h3 : c ≤ 1114111
    · rw [enc4 c h1 h3]
      exact .inl rfl
    · rw [enc_none c (fun h => h3 h.1)]
      exact .inr rfl
theorem back_two (a b : UInt8) (h : 192 ≤ a.toNat) (h2 : a.toNat < 224) : enc (a.toNat % 32 * 64 + b.toNat % 64) = [a, b] ↔ 194 ≤ a.toNat ∧ 128 ≤ b.toNat ∧ b.toNat ≤ 191 := by
  obtain ⟨v, hv⟩ : ∃ v, v = a.toNat % 32 * 64 + b.toNat % 64 := ⟨_, rfl⟩
  have hb := b.toNat_lt
  rw [← hv]
  by_cases h1 : v < 128
  · constructor
    · intro e
      rw [enc1 v h1] at e
      cases e
    · intro h3
      omega
  · rw [enc2 v (by omega) (by omega)]
    simp only [List.cons.injEq, and_true]
    rw [ofNat_eq _ _ (by omega), ofNat_eq _ _ (by omega)]
    omega
theorem back_three (a b c : UInt8) (h : 224 ≤ a.toNat) (h2 : a.toNat < 240) : enc ((a.toNat % 16 * 64 + b.toNat % 64) * 64 + c.toNat % 64) = [a, b, c] ↔ lo3 a.toNat ≤ b.toNat ∧ b.toNat ≤ hi3 a.toNat ∧ 128 ≤ c.toNat ∧ c.toNat ≤ 191 := by
  obtain ⟨v, hv⟩ : ∃ v, v = (a.toNat % 16 * 64 + b.toNat % 64) * 64 + c.toNat % 64 := ⟨_, rfl⟩
  have hb := b.toNat_lt
  have hc := c.toNat_lt
  have hlo := lo3_cases a.toNat
  have hhi := hi3_cases a.toNat
  rw [← hv]
  by_cases h1 : v < 2048
  · constructor
    · intro e
      have := enc_len_of v
      rw [e] at this
      simp at this
      omega
    · intro h3
      omega
  · by_cases h3 : 55296 ≤ v ∧ v ≤ 57343
    · constructor
      · intro e
        rw [enc_none v (fun h => h.2 h3)] at e
        cases e
      · intro h4
        omega
    · rw [enc3 v (by omega) (by omega) h3]
      simp only [List.cons.injEq, and_true]
      rw [ofNat_eq _ _ (by omega), ofNat_eq _ _ (by omega), ofNat_eq _ _ (by omega)]
      omega
theorem back_four (a b c d : UInt8) (h : 240 ≤ a.toNat) (h2 : a.toNat < 248) : enc (((a.toNat % 8 * 64 + b.toNat % 64) * 64 + c.toNat % 64) * 64 + d.toNat % 64) = [a, b, c, d] ↔ a.toNat ≤ 244 ∧ lo4 a.toNat ≤ b.toNat ∧ b.toNat ≤ hi4 a.toNat ∧ 128 ≤ c.toNat ∧ c.toNat ≤ 191 ∧ 128 ≤ d.toNat ∧ d.toNat ≤ 191 := by
  obtain ⟨v, hv⟩ : ∃ v, v = ((a.toNat % 8 * 64 + b.toNat % 64) * 64 + c.toNat % 64) * 64 + d.toNat % 64 := ⟨_, rfl⟩
  have hb := b.toNat_lt
  have hc := c.toNat_lt
  have hd := d.toNat_lt
  have hlo := lo4_cases a.toNat
  have hhi := hi4_cases a.toNat
  rw [← hv]
  by_cases h1 : v < 65536
  · constructor
    · intro e
      have := enc_len_of v
      rw [e] at this
      simp at this
      omega
    · intro h3
      omega
  · by_cases h3 : v ≤ 1114111
    · rw [enc4 v (by omega) h3]
      simp only [List.cons.injEq, and_true]
      rw [ofNat_eq _ _ (by omega), ofNat_eq _ _ (by omega), ofNat_eq _ _ (by omega), ofNat_eq _ _ (by omega)]
      omega
    · constructor
      · intro e
        rw [enc_none v (fun h => h3 h.1)] at e
        cases e
      · intro h4
        omega
/-- What the reference asks is what the states tell. -/
theorem back_any (a : UInt8) (l : List UInt8) (h0 : rn a.toNat ≠ 0) (hl : rn a.toNat ≤ l.length + 1) : (enc (vl (a :: l) (rn a.toNat) (rn a.toNat - 1)) = (a :: l).take (rn a.toNat) ∧ ld 0 (a :: l) = rn a.toNat) ∨ (enc (vl (a :: l) (rn a.toNat) (rn a.toNat - 1)) ≠ (a :: l).take (rn a.toNat) ∧ ld 0 (a :: l) = 0) := by
  have hr : rn a.toNat = if a.toNat < 128 then 1 else if a.toNat < 192 then 0 else if a.toNat < 224 then 2 else if a.toNat < 240 then 3 else if a.toNat < 248 then 4 else 0 := rfl
  by_cases h1 : a.toNat < 128
  · left
    rw [if_pos h1] at hr
    rw [hr]
    refine ⟨?_, ld_byte a l h1⟩
    show enc (a.toNat % 128) = [a]
    rw [Nat.mod_eq_of_lt h1, enc1 _ h1, UInt8.ofNat_toNat]
  rw [if_neg h1] at hr
  by_cases h2 : a.toNat < 192
  · rw [if_pos h2] at hr
    exact absurd hr h0
  rw [if_neg h2] at hr
  by_cases h3 : a.toNat < 224
  · rw [if_pos h3] at hr
    rw [hr] at hl ⊢
    match l, hl with
    | b :: l, _ =>
      have hb := back_two a b (by omega) h3
      have hc := ld_two a b l (by omega) h3
      show (enc (a.toNat % 32 * 64 + b.toNat % 64) = [a, b] ∧ _) ∨ (enc (a.toNat % 32 * 64 + b.toNat % 64) ≠ [a, b] ∧ _)
      split at hc
      · rename_i h4
        exact .inl ⟨hb.2 h4, hc⟩
      · rename_i h4
        exact .inr ⟨fun e => h4 (hb.1 e), hc⟩
  rw [if_neg h3] at hr
  by_cases h4 : a.toNat < 240
  · rw [if_pos h4] at hr
    rw [hr] at hl ⊢
    match l, hl with
    | b :: c :: l, _ =>
      have hb := back_three a b c (by omega) h4
      have hc := ld_three a b c l (by omega) h4
      show (enc ((a.toNat % 16 * 64 + b.toNat % 64) * 64 + c.toNat % 64) = [a, b, c] ∧ _) ∨ (enc ((a.toNat % 16 * 64 + b.toNat % 64) * 64 + c.toNat % 64) ≠ [a, b, c] ∧ _)
      split at hc
      · rename_i h4
        exact .inl ⟨hb.2 h4, hc⟩
      · rename_i h4
        exact .inr ⟨fun e => h4 (hb.1 e), hc⟩
  rw [if_neg h4] at hr
  by_cases h5 : a.toNat < 248
  · rw [if_pos h5] at hr
    rw [hr] at hl ⊢
    match l, hl with
    | b :: c :: d :: l, _ =>
      have hb := back_four a b c d (by omega) h5
      have hc := ld_four a b c d l (by omega) h5
      show (enc (((a.toNat % 8 * 64 + b.toNat % 64) * 64 + c.toNat % 64) * 64 + d.toNat % 64) = [a, b, c, d] ∧ _) ∨ (enc (((a.toNat % 8 * 64 + b.toNat % 64) * 64 + c.toNat % 64) * 64 + d.toNat % 64) ≠ [a, b, c, d] ∧ _)
      split at hc
      · rename_i h4
        exact .inl ⟨hb.2 h4, hc⟩
      · rename_i h4
        exact .inr ⟨fun e => h4 (hb.1 e), hc⟩
  rw [if_neg h5] at hr
  exact absurd hr h0
/-- How many bytes there are is told by the first one. -/
theorem ld_rn (a : UInt8) (l : List UInt8) (h : ld 0 (a :: l) ≠ 0) : ld 0 (a :: l) = rn a.toNat := by
  by_cases h0 : rn a.toNat = 0
  · exact absurd (ld_odd a l h0) h
  · by_cases hl : rn a.toNat ≤ l.length + 1
    · rcases back_any a l h0 hl with ⟨_, e⟩ | ⟨_, e⟩
      · exact e
      · exact absurd e h
    · exact absurd (ld_short a l (by omega)) h
theorem toNat_ofNat (a : Nat) (h : a < 256) : (UInt8.ofNat a).toNat = a := by
  rw [UInt8.toNat_ofNat']
  exact Nat.mod_eq_of_lt h
/-- A scalar comes again from its bytes. -/
theorem sc_enc (c : Nat) (h : Sc c) (t : List UInt8) : ld 0 (enc c ++ t) = (enc c).length ∧ vl (enc c ++ t) (enc c).length ((enc c).length - 1) = c := by
  by_cases h1 : c < 128
  · rw [enc1 c h1]
    refine ⟨ld_byte _ _ (by rw [toNat_ofNat _ (by omega)]; exact h1), ?_⟩
    show (UInt8.ofNat c).toNat % 128 = c
    rw [toNat_ofNat _ (by omega)]
    omega
  · by_cases h2 : c < 2048
    · rw [enc2 c (by omega) h2]
      constructor
      · show ld 0 (_ :: _ :: t) = 2
        rw [ld_two _ _ _ (by rw [toNat_ofNat _ (by omega)]; omega) (by rw [toNat_ofNat _ (by omega)]; omega), toNat_ofNat _ (by omega), toNat_ofNat _ (by omega), if_pos (by omega)]
      · show (UInt8.ofNat (192 + c / 64)).toNat % 32 * 64 + (UInt8.ofNat (128 + c % 64)).toNat % 64 = c
        rw [toNat_ofNat _ (by omega), toNat_ofNat _ (by omega)]
        omega
    · by_cases h3 : c < 65536
      · have h4 := h.2
        rw [enc3 c (by omega) h3 h4]
        constructor
        · show ld 0 (_ :: _ :: _ :: t) = 3
          rw [ld_three _ _ _ _ (by rw [toNat_ofNat _ (by omega)]; omega) (by rw [toNat_ofNat _ (by omega)]; omega), toNat_ofNat _ (by omega), toNat_ofNat _ (by omega), toNat_ofNat _ (by omega), if_pos]
          have hlo := lo3_cases (224 + c / 4096)
          have hhi := hi3_cases (224 + c / 4096)
          omega
        · show ((UInt8.ofNat (224 + c / 4096)).toNat % 16 * 64 + (UInt8.ofNat (128 + c / 64 % 64)).toNat % 64) * 64 + (UInt8.ofNat (128 + c % 64)).toNat % 64 = c
          rw [toNat_ofNat _ (by omega), toNat_ofNat _ (by omega), toNat_ofNat _ (by omega)]
          omega
      · have h4 := h.1
        rw [enc4 c (by omega) h4]
        constructor
        · show ld 0 (_ :: _ :: _ :: _ :: t) = 4
          rw [ld_four _ _ _ _ _ (by rw [toNat_ofNat _ (by omega)]; omega) (by rw [toNat_ofNat _ (by omega)]; omega), toNat_ofNat _ (by omega), toNat_ofNat _ (by omega), toNat_ofNat _ (by omega), toNat_ofNat _ (by omega), if_pos]
          have hlo := lo4_cases (240 + c / 262144)
          have hhi := hi4_cases (240 + c / 262144)
          omega
        · show (((UInt8.ofNat (240 + c / 262144)).toNat % 8 * 64 + (UInt8.ofNat (128 + c / 4096 % 64)).toNat % 64) * 64 + (UInt8.ofNat (128 + c / 64 % 64)).toNat % 64) * 64 + (UInt8.ofNat (128 + c % 64)).toNat % 64 = c
          rw [toNat_ofNat _ (by omega), toNat_ofNat _ (by omega), toNat_ofNat _ (by omega), toNat_ofNat _ (by omega)]
          omega
end Ut
end Go.Proofs.Ytifkemcjificcaa
