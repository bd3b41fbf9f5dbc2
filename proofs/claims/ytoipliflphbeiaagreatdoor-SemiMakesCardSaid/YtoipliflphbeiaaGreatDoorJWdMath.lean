/-
  Plain mathematics of words of 64 bits, of no program: how many first bits are 1, the excess, where a 1 is, fields, the reach, the first place of an excess. No conditions but those that each theorem names.
  Plain mathematics: the sums of neighbouring fields by which math/bits counts the ones of a word of 64 bits come to how many of its bits are 1. Of no program; for every word below 2^64.
-/
import Derived.Lib.BitFns
import Derived.Lib.TrailingZeros
import Derived.Laws.Bits64b
import Derived.Laws.BitsLemmas
namespace Go.Proofs.YtoipliflphbeiaaGreatDoor
namespace Wd

/-- The bit at i, as a number. -/
def bt (x i : Nat) : Nat := x / 2 ^ i % 2

theorem bt_lt (x i : Nat) : bt x i < 2 := Nat.mod_lt _ (by decide)
theorem bt_testBit (x i : Nat) : bt x i = (x.testBit i).toNat := (Nat.toNat_testBit x i).symm
theorem testBit_bt (x i : Nat) : x.testBit i = (bt x i == 1) := by rw [bt_testBit]; cases x.testBit i <;> rfl
theorem bt_div (x a i : Nat) : bt (x / 2 ^ a) i = bt x (a + i) := by
  unfold bt; rw [Nat.div_div_eq_div_mul, ← Nat.pow_add]
theorem bt_mod (x m i : Nat) : bt (x % 2 ^ m) i = if i < m then bt x i else 0 := by
  rw [bt_testBit, Nat.testBit_mod_two_pow, bt_testBit]
  by_cases h : i < m <;> simp [h]
theorem bt_big (x m i : Nat) (h : x < 2 ^ m) (hi : m ≤ i) : bt x i = 0 := by
  unfold bt
  rw [Nat.div_eq_of_lt (Nat.lt_of_lt_of_le h (Nat.pow_le_pow_right (by decide) hi))]

/-- How many of the first n bits are 1. -/
def ones (x : Nat) : Nat → Nat
  | 0 => 0
  | n + 1 => ones x n + bt x n

theorem ones_succ (x n : Nat) : ones x (n + 1) = ones x n + bt x n := rfl
theorem ones_zero (x : Nat) : ones x 0 = 0 := rfl
theorem ones_le (x n : Nat) : ones x n ≤ n := by
  induction n with
  | zero => exact Nat.le_refl _
  | succ n ih => have := bt_lt x n; simp only [ones]; omega
theorem ones_mono (x a : Nat) : ∀ b, a ≤ b → ones x a ≤ ones x b := by
  intro b h
  induction b with
  | zero => obtain rfl : a = 0 := by omega
            exact Nat.le_refl _
  | succ b ih =>
    by_cases e : a = b + 1
    · subst e; exact Nat.le_refl _
    · have := ih (by omega); simp only [ones]; omega
theorem ones_split (x a b : Nat) : ones x (a + b) = ones x a + ones (x / 2 ^ a) b := by
  induction b with
  | zero => rfl
  | succ b ih => rw [← Nat.add_assoc, ones, ih, ones, bt_div]; omega
theorem ones_congr (x y n : Nat) (h : ∀ i, i < n → bt x i = bt y i) : ones x n = ones y n := by
  induction n with
  | zero => rfl
  | succ n ih => simp only [ones]; rw [ih (fun i hi => h i (by omega)), h n (by omega)]
theorem ones_mod (x m n : Nat) (h : n ≤ m) : ones (x % 2 ^ m) n = ones x n :=
  ones_congr _ _ _ fun i hi => by rw [bt_mod, if_pos (by omega)]
theorem ones_big (x m n : Nat) (hx : x < 2 ^ m) (h : m ≤ n) : ones x n = ones x m := by
  obtain ⟨d, rfl⟩ : ∃ d, n = m + d := ⟨n - m, by omega⟩
  rw [ones_split]
  have : ∀ k, ones (x / 2 ^ m) k = 0 := by
    intro k
    induction k with
    | zero => rfl
    | succ k ih => rw [ones, ih, bt_div, bt_big x m (m + k) hx (by omega)]
  rw [this]; rfl
/-- The first n bits alone, counted over all 64. -/
theorem ones_first (x n : Nat) (h : n ≤ 64) : ones (x % 2 ^ n) 64 = ones x n := by
  rw [ones_big (x % 2 ^ n) n 64 (Nat.mod_lt _ (Nat.two_pow_pos n)) h, ones_mod x n n (Nat.le_refl _)]

/-- The excess of the first n bits. -/
def exc (x n : Nat) : Int := 2 * (ones x n : Int) - n
theorem exc_zero (x : Nat) : exc x 0 = 0 := rfl
theorem exc_succ (x n : Nat) : exc x (n + 1) = exc x n + (2 * (bt x n : Int) - 1) := by
  unfold exc; simp only [ones]; omega
theorem exc_bounds (x n : Nat) : -(n : Int) ≤ exc x n ∧ exc x n ≤ n := by
  have := ones_le x n; unfold exc; omega
theorem exc_split (x a b : Nat) : exc x (a + b) = exc x a + exc (x / 2 ^ a) b := by
  unfold exc; rw [ones_split]; omega

/-! Where a 1 is. -/

/-- p is the place of that 1 of the 64 ahead of which k others are; 64, if there is none. -/
def IsSel (x : Nat) (k : Int) (p : Nat) : Prop :=
  (p < 64 ∧ bt x p = 1 ∧ (ones x p : Int) = k) ∨ (p = 64 ∧ (k < 0 ∨ (ones x 64 : Int) ≤ k))

theorem ones_lt (x p q : Nat) (hp : bt x p = 1) (h : p < q) : ones x p < ones x q := by
  have := ones_mono x (p + 1) q h
  simp only [ones] at this; omega
theorem IsSel.unique {x : Nat} {k : Int} {p q : Nat} (h1 : IsSel x k p) (h2 : IsSel x k q) : p = q := by
  rcases h1 with ⟨a, b, c⟩ | ⟨a, b⟩ <;> rcases h2 with ⟨a', b', c'⟩ | ⟨a', b'⟩
  · rcases Nat.lt_trichotomy p q with h | h | h
    · have := ones_lt x p q b h; omega
    · exact h
    · have := ones_lt x q p b' h; omega
  · have := ones_lt x p 64 b a; omega
  · have := ones_lt x q 64 b' a'; omega
  · omega

/-- The place, searched from i on, of the 1 ahead of which k others are. -/
def selFrom (x : Nat) (k : Int) : Nat → Nat → Nat
  | 0, _ => 64
  | f + 1, i => if bt x i = 1 ∧ (ones x i : Int) = k then i else selFrom x k f (i + 1)
def sel (x : Nat) (k : Int) : Nat := selFrom x k 64 0

theorem selFrom_spec (x : Nat) (k : Int) : ∀ f i, i + f = 64 → (∀ j, j < i → ¬ (bt x j = 1 ∧ (ones x j : Int) = k)) → IsSel x k (selFrom x k f i) := by
  intro f
  induction f with
  | zero =>
    intro i hi hn
    refine .inr ⟨rfl, ?_⟩
    have key : ∀ n, n ≤ 64 → 0 ≤ k → (ones x n : Int) ≤ k := by
      intro n
      induction n with
      | zero => intro _ h0; simpa [ones] using h0
      | succ n ih =>
        intro hn' h0
        have h1 := ih (by omega) h0
        have h2 := hn n (by omega)
        have h3 := bt_lt x n
        by_cases e : bt x n = 1
        · have : (ones x n : Int) ≠ k := fun e2 => h2 ⟨e, e2⟩
          simp only [ones]; omega
        · simp only [ones]; omega
    by_cases hk : k < 0
    · exact .inl hk
    · exact .inr (key 64 (Nat.le_refl _) (by omega))
  | succ f ih =>
    intro i hi hn
    unfold selFrom
    by_cases h : bt x i = 1 ∧ (ones x i : Int) = k
    · rw [if_pos h]; exact .inl ⟨by omega, h.1, h.2⟩
    · rw [if_neg h]
      refine ih (i + 1) (by omega) fun j hj => ?_
      by_cases e : j = i
      · subst e; exact h
      · exact hn j (by omega)
theorem sel_spec (x : Nat) (k : Int) : IsSel x k (sel x k) := selFrom_spec x k 64 0 rfl fun j hj => by omega
theorem sel_eq {x : Nat} {k : Int} {p : Nat} (h : IsSel x k p) : sel x k = p := (sel_spec x k).unique h
theorem sel_le (x : Nat) (k : Int) : sel x k ≤ 64 := by
  rcases sel_spec x k with h | h <;> omega

/-! The reach. -/

/-- The least, and the greatest, excess of the first 1 to the first n bits (0 of none). -/
def lo (x : Nat) : Nat → Int
  | 0 => 0
  | 1 => exc x 1
  | n + 2 => min (lo x (n + 1)) (exc x (n + 2))
def hi (x : Nat) : Nat → Int
  | 0 => 0
  | 1 => exc x 1
  | n + 2 => max (hi x (n + 1)) (exc x (n + 2))
theorem lo_succ (x n : Nat) (h : 1 ≤ n) : lo x (n + 1) = min (lo x n) (exc x (n + 1)) := by
  obtain ⟨m, rfl⟩ : ∃ m, n = m + 1 := ⟨n - 1, by omega⟩
  rfl
theorem hi_succ (x n : Nat) (h : 1 ≤ n) : hi x (n + 1) = max (hi x n) (exc x (n + 1)) := by
  obtain ⟨m, rfl⟩ : ∃ m, n = m + 1 := ⟨n - 1, by omega⟩
  rfl
theorem lo_bounds (x n : Nat) : -(n : Int) ≤ lo x n ∧ lo x n ≤ n := by
  induction n with
  | zero => simp [lo]
  | succ n ih =>
    have e := exc_bounds x (n + 1)
    by_cases h : n = 0
    · subst h; simpa [lo] using e
    · rw [lo_succ x n (by omega)]; omega
theorem hi_bounds (x n : Nat) : -(n : Int) ≤ hi x n ∧ hi x n ≤ n := by
  induction n with
  | zero => simp [hi]
  | succ n ih =>
    have e := exc_bounds x (n + 1)
    by_cases h : n = 0
    · subst h; simpa [hi] using e
    · rw [hi_succ x n (by omega)]; omega
theorem reach_exc (x n k : Nat) (h1 : 1 ≤ k) (h2 : k ≤ n) : lo x n ≤ exc x k ∧ exc x k ≤ hi x n := by
  induction n with
  | zero => omega
  | succ n ih =>
    by_cases h : n = 0
    · subst h; obtain rfl : k = 1 := by omega
      simp [lo, hi]
    · rw [lo_succ x n (by omega), hi_succ x n (by omega)]
      by_cases e : k = n + 1
      · subst e; omega
      · have := ih (by omega); omega
/-! The first place of an excess. -/

/-- k is the least from 1 to n at which the excess is d; 0, if there is none. -/
def IsFind (x n : Nat) (d : Int) (k : Nat) : Prop :=
  (1 ≤ k ∧ k ≤ n ∧ exc x k = d ∧ ∀ j, 1 ≤ j → j < k → exc x j ≠ d) ∨ (k = 0 ∧ ∀ j, 1 ≤ j → j ≤ n → exc x j ≠ d)
theorem IsFind.unique {x n : Nat} {d : Int} {p q : Nat} (h1 : IsFind x n d p) (h2 : IsFind x n d q) : p = q := by
  rcases h1 with ⟨a, b, c, e⟩ | ⟨a, b⟩ <;> rcases h2 with ⟨a', b', c', e'⟩ | ⟨a', b'⟩
  · rcases Nat.lt_trichotomy p q with h | h | h
    · exact absurd c (e' p a h)
    · exact h
    · exact absurd c' (e q a' h)
  · exact absurd c (b' p a b)
  · exact absurd c' (b q a' b')
  · omega
def findFrom (x : Nat) (d : Int) : Nat → Nat → Nat
  | 0, _ => 0
  | f + 1, k => if exc x k = d then k else findFrom x d f (k + 1)
def find (x n : Nat) (d : Int) : Nat := findFrom x d n 1
theorem findFrom_spec (x n : Nat) (d : Int) : ∀ f k, k + f = n + 1 → 1 ≤ k → (∀ j, 1 ≤ j → j < k → exc x j ≠ d) → IsFind x n d (findFrom x d f k) := by
  intro f
  induction f with
  | zero =>
    intro k hk h1 hn
    exact .inr ⟨rfl, fun j a b => hn j a (by omega)⟩
  | succ f ih =>
    intro k hk h1 hn
    unfold findFrom
    by_cases h : exc x k = d
    · rw [if_pos h]; exact .inl ⟨h1, by omega, h, hn⟩
    · rw [if_neg h]
      refine ih (k + 1) (by omega) (by omega) fun j a b => ?_
      by_cases e : j = k
      · subst e; exact h
      · exact hn j a (by omega)
theorem find_spec (x n : Nat) (d : Int) : IsFind x n d (find x n d) :=
  findFrom_spec x n d n 1 (by omega) (by omega) fun j a b => by omega
theorem find_eq {x n : Nat} {d : Int} {k : Nat} (h : IsFind x n d k) : find x n d = k := (find_spec x n d).unique h
theorem find_le (x n : Nat) (d : Int) : find x n d ≤ n := by
  rcases find_spec x n d with h | h <;> omega

/-- From one first bits to the next the excess goes by one: so it takes each number of the reach. -/
theorem between (x n : Nat) (d : Int) (h1 : 1 ≤ n) (ha : lo x n ≤ d) (hb : d ≤ hi x n) : ∃ k, 1 ≤ k ∧ k ≤ n ∧ exc x k = d := by
  induction n with
  | zero => omega
  | succ n ih =>
    by_cases h : n = 0
    · subst h; exact ⟨1, by omega, by omega, by simp only [lo, hi] at ha hb; omega⟩
    · rw [lo_succ x n (by omega)] at ha
      rw [hi_succ x n (by omega)] at hb
      have b := bt_lt x n
      have s := exc_succ x n
      have r := reach_exc x n n (by omega) (Nat.le_refl _)
      by_cases e : exc x (n + 1) = d
      · exact ⟨n + 1, by omega, by omega, e⟩
      · have hin : lo x n ≤ d ∧ d ≤ hi x n := by omega
        obtain ⟨k, a, c, e2⟩ := ih (by omega) hin.1 hin.2
        exact ⟨k, a, by omega, e2⟩
theorem find_pos (x n : Nat) (d : Int) (h1 : 1 ≤ n) : 0 < find x n d ↔ lo x n ≤ d ∧ d ≤ hi x n := by
  constructor
  · intro h
    rcases find_spec x n d with ⟨a, b, c, _⟩ | ⟨a, _⟩
    · rw [← c]; exact reach_exc x n _ a b
    · omega
  · intro ⟨a, b⟩
    obtain ⟨k, k1, k2, e⟩ := between x n d h1 a b
    rcases find_spec x n d with ⟨a, _⟩ | ⟨_, b⟩
    · omega
    · exact absurd e (b k k1 k2)
/-! How many bits a number counts as, of those that a count means. -/
def cl (n : Int) : Nat := (min (max n 0) 64).toNat
theorem cl_le (n : Int) : cl n ≤ 64 := by unfold cl; omega
theorem cl_cast (n : Int) : ((cl n : Nat) : Int) = min (max n 0) 64 := by unfold cl; omega

/-! Fields. -/
/-- The bits from at on, n of them (n at most 64); those that aren't there are 0. -/
def fld (x : Nat) (a : Int) (n : Nat) : Nat :=
  if 64 ≤ a ∨ a ≤ -64 then 0 else if a < 0 then x * 2 ^ (-a).toNat % 2 ^ 64 % 2 ^ n else x / 2 ^ a.toNat % 2 ^ n
theorem bt_shl (x s i : Nat) : bt (x * 2 ^ s) i = if s ≤ i then bt x (i - s) else 0 := by
  rw [bt_testBit, Nat.testBit_mul_two_pow, bt_testBit]
  by_cases h : s ≤ i <;> simp [h]
theorem fld_lt (x : Nat) (a : Int) (n : Nat) : fld x a n < 2 ^ n := by
  unfold fld
  split
  · exact Nat.two_pow_pos n
  · split <;> exact Nat.mod_lt _ (Nat.two_pow_pos n)
theorem mod_succ (y n : Nat) : y % 2 ^ (n + 1) = y % 2 ^ n + bt y n * 2 ^ n := by
  unfold bt
  rw [Nat.pow_succ, Nat.mod_mul, Nat.mul_comm (2 ^ n)]
/-! How many bits a number takes. -/
/-- One more than the place of the last 1 among the first i bits. -/
def needTo (x : Nat) : Nat → Nat
  | 0 => 0
  | i + 1 => if bt x i = 1 then i + 1 else needTo x i
theorem needTo_le (x i : Nat) : needTo x i ≤ i := by
  induction i with
  | zero => exact Nat.le_refl _
  | succ i ih => simp only [needTo]; split <;> omega
theorem needTo_spec (x n : Nat) (h : x < 2 ^ n) : x < 2 ^ needTo x n ∧ (x ≠ 0 → 2 ^ (needTo x n - 1) ≤ x ∧ 0 < needTo x n) := by
  induction n with
  | zero => simp only [needTo]; exact ⟨h, fun h0 => by simp at h; omega⟩
  | succ n ih =>
    simp only [needTo]
    split
    · rename_i hb
      refine ⟨h, fun _ => ⟨?_, by omega⟩⟩
      apply Nat.le_of_not_lt
      intro hlt
      have : bt x n = 0 := bt_big x n n (by simpa using hlt) (Nat.le_refl _)
      omega
    · rename_i hb
      have hb0 : bt x n = 0 := by have := bt_lt x n; omega
      apply ih
      have := mod_succ x n
      rw [Nat.mod_eq_of_lt h, hb0] at this
      have := Nat.mod_lt x (Nat.two_pow_pos n)
      omega
theorem bitLen_spec (x : Nat) (h : x < 2 ^ 64) : x < 2 ^ Lib.bitLen x ∧ (x ≠ 0 → 2 ^ (Lib.bitLen x - 1) ≤ x ∧ 0 < Lib.bitLen x) := by
  have key : ∀ f x, x < 2 ^ f → x < 2 ^ Lib.bitLenAux f x ∧ (x ≠ 0 → 2 ^ (Lib.bitLenAux f x - 1) ≤ x ∧ 0 < Lib.bitLenAux f x) := by
    intro f
    induction f with
    | zero => intro x hx; simp only [Lib.bitLenAux]; exact ⟨hx, fun h0 => by simp at hx; omega⟩
    | succ f ih =>
      intro x hx
      simp only [Lib.bitLenAux]
      split
      · rename_i h0; subst h0; exact ⟨by decide, fun h => absurd rfl h⟩
      · rename_i h0
        obtain ⟨a, b⟩ := ih (x / 2) (by rw [Nat.pow_succ] at hx; omega)
        refine ⟨by rw [Nat.add_comm, Nat.pow_succ]; omega, fun _ => ⟨?_, by omega⟩⟩
        by_cases e : x / 2 = 0
        · have : Lib.bitLenAux f (x / 2) = 0 := by
            rw [e]; cases f <;> simp [Lib.bitLenAux]
          rw [this]; simp; omega
        · obtain ⟨b1, b2⟩ := b e
          rw [show 1 + Lib.bitLenAux f (x / 2) - 1 = (Lib.bitLenAux f (x / 2) - 1) + 1 from by omega, Nat.pow_succ]
          omega
  exact key 64 x h
theorem bitLen_need (x : Nat) (h : x < 2 ^ 64) : Lib.bitLen x = needTo x 64 := by
  obtain ⟨a, b⟩ := bitLen_spec x h
  obtain ⟨c, d⟩ := needTo_spec x 64 h
  by_cases h0 : x = 0
  · subst h0; decide +kernel
  · obtain ⟨b1, b2⟩ := b h0
    obtain ⟨d1, d2⟩ := d h0
    apply Nat.le_antisymm
    · apply Nat.le_of_not_lt
      intro hlt
      have : 2 ^ needTo x 64 ≤ 2 ^ (Lib.bitLen x - 1) := Nat.pow_le_pow_right (by decide) (by omega)
      omega
    · apply Nat.le_of_not_lt
      intro hlt
      have : 2 ^ Lib.bitLen x ≤ 2 ^ (needTo x 64 - 1) := Nat.pow_le_pow_right (by decide) (by omega)
      omega

/-! The lowest 1, and the word without it. -/
theorem and_fields (b x m r : Nat) (hr : r < 2 ^ b) : x &&& (2 ^ b * m + r) = 2 ^ b * ((x / 2 ^ b) &&& m) + ((x % 2 ^ b) &&& r) := by
  have h1 : (x &&& (2 ^ b * m + r)) / 2 ^ b = (x / 2 ^ b) &&& m := by
    rw [Nat.and_div_two_pow, Nat.mul_add_div (Nat.two_pow_pos b), Nat.div_eq_of_lt hr, Nat.add_zero]
  have h2 : (x &&& (2 ^ b * m + r)) % 2 ^ b = (x % 2 ^ b) &&& r := by
    rw [Nat.and_mod_two_pow, Nat.mul_add_mod, Nat.mod_eq_of_lt hr]
  rw [← h1, ← h2, Nat.div_add_mod]
theorem and_pred (p m : Nat) : (2 ^ p * (2 * m + 1)) &&& (2 ^ p * (2 * m + 1) - 1) = 2 ^ p * (2 * m) := by
  have hp := Nat.two_pow_pos p
  have e : 2 ^ p * (2 * m + 1) - 1 = 2 ^ p * (2 * m) + (2 ^ p - 1) := by rw [Nat.mul_add, Nat.mul_one]; omega
  have e2 : (2 * m + 1) &&& (2 * m) = 2 * m := by
    have h := and_fields 1 (2 * m + 1) m 0 (by decide)
    rw [Nat.and_zero, Nat.add_zero, Nat.add_zero, show (2 : Nat) ^ 1 = 2 from rfl, show (2 * m + 1) / 2 = m from by omega, Nat.and_self] at h
    exact h
  rw [e, and_fields p _ (2 * m) (2 ^ p - 1) (by omega), Nat.mul_div_cancel_left _ hp, Nat.mul_mod_right, Nat.zero_and, Nat.add_zero, e2]
theorem bt_mul (p y i : Nat) : bt (2 ^ p * y) i = if p ≤ i then bt y (i - p) else 0 := by rw [Nat.mul_comm, bt_shl]
theorem ones_low (p y i : Nat) (h : i ≤ p) : ones (2 ^ p * y) i = 0 := by
  induction i with
  | zero => rfl
  | succ i ih => rw [ones, ih (by omega), bt_mul, if_neg (by omega)]
theorem ones_high (p y i : Nat) : ones (2 ^ p * y) (p + i) = ones y i := by
  rw [ones_split, ones_low p y p (Nat.le_refl _), Nat.mul_div_cancel_left _ (Nat.two_pow_pos p), Nat.zero_add]
theorem bt_odd (m : Nat) : bt (2 * m + 1) 0 = 1 := by simp [bt]
theorem bt_even (m : Nat) : bt (2 * m) 0 = 0 := by simp [bt]
theorem bt_half (y i : Nat) : bt y (i + 1) = bt (y / 2) i := by
  have := bt_div y 1 i
  rw [show (2 : Nat) ^ 1 = 2 from rfl] at this
  rw [this, Nat.add_comm]
theorem ones_half (y i : Nat) : ones y (i + 1) = bt y 0 + ones (y / 2) i := by
  have h := ones_split y 1 i
  rw [Nat.add_comm i 1, h]; simp [ones]
/-- A word that isn't 0 is a power of 2, the lowest 1's, times an odd number. -/
theorem low_form (x : Nat) (h0 : x ≠ 0) (hx : x < 2 ^ 64) : ∃ m, x = 2 ^ Lib.ctz 64 x * (2 * m + 1) ∧ Lib.ctz 64 x < 64 := by
  have e : Lib.ctz 64 x = Lib.ctzFrom 64 x := by simp [Lib.ctz, h0]
  rw [e]
  exact Lib.ctzFrom_spec 64 x (by omega) hx
theorem sel_zero (x : Nat) (h0 : x ≠ 0) (hx : x < 2 ^ 64) : sel x 0 = Lib.ctz 64 x := by
  obtain ⟨m, e, hp⟩ := low_form x h0 hx
  generalize Lib.ctz 64 x = p at *
  refine sel_eq (.inl ⟨hp, ?_, ?_⟩)
  · rw [e, bt_mul, if_pos (Nat.le_refl _), Nat.sub_self, bt_odd]
  · rw [e, ones_low p _ p (Nat.le_refl _)]; rfl
theorem sel_of_zero (k : Int) : sel 0 k = 64 := by
  have hz : ∀ n, ones 0 n = 0 := by
    intro n
    induction n with
    | zero => rfl
    | succ n ih => rw [ones, ih]; simp [bt]
  refine sel_eq (.inr ⟨rfl, ?_⟩)
  rw [hz]
  by_cases h : k < 0
  · exact .inl h
  · exact .inr (by omega)
theorem sel_neg (x : Nat) (k : Int) (h : k < 0) : sel x k = 64 := sel_eq (.inr ⟨rfl, .inl h⟩)
/-- Without the lowest 1 there is one fewer ahead of each other. -/
theorem sel_next (x : Nat) (k : Int) (h0 : x ≠ 0) (hx : x < 2 ^ 64) (hk : 0 < k) : sel (x &&& (x - 1)) (k - 1) = sel x k ∧ x &&& (x - 1) < x := by
  obtain ⟨m, e, hp⟩ := low_form x h0 hx
  generalize Lib.ctz 64 x = p at *
  have hpp := Nat.two_pow_pos p
  have e1 : x &&& (x - 1) = 2 ^ p * (2 * m) := by rw [e]; exact and_pred p m
  have hbt : ∀ i, p < i → bt (2 ^ p * (2 * m)) i = bt x i := by
    intro i hi
    obtain ⟨j, rfl⟩ : ∃ j, i = p + (j + 1) := ⟨i - p - 1, by omega⟩
    rw [e, bt_mul, bt_mul, if_pos (by omega), if_pos (by omega), show p + (j + 1) - p = j + 1 from by omega, bt_half, bt_half, show 2 * m / 2 = m from by omega, show (2 * m + 1) / 2 = m from by omega]
  have hones : ∀ i, p < i → ones x i = ones (2 ^ p * (2 * m)) i + 1 := by
    intro i hi
    obtain ⟨j, rfl⟩ : ∃ j, i = p + (j + 1) := ⟨i - p - 1, by omega⟩
    rw [e, ones_high, ones_high, ones_half, ones_half, bt_odd, bt_even, show 2 * m / 2 = m from by omega, show (2 * m + 1) / 2 = m from by omega]
    omega
  have hlow : ∀ i, i ≤ p → ones x i = 0 := fun i hi => by rw [e]; exact ones_low p _ i hi
  rw [e1]
  refine ⟨sel_eq ?_, ?_⟩
  · rcases sel_spec x k with ⟨a, b, c⟩ | ⟨a, b⟩
    · have hgt : p < sel x k := by
        apply Nat.lt_of_not_le
        intro hle
        have := hlow _ hle
        omega
      exact .inl ⟨a, by rw [hbt _ hgt]; exact b, by have := hones _ hgt; omega⟩
    · refine .inr ⟨a, .inr ?_⟩
      have := hones 64 (by omega)
      omega
  · rw [e, Nat.mul_add, Nat.mul_one]; omega
end Wd
end Go.Proofs.YtoipliflphbeiaaGreatDoor
namespace Go.Proofs.YtoipliflphbeiaaGreatDoor
namespace Wd

/-- k fields of b bits, each r. -/
def rep (b r : Nat) : Nat → Nat
  | 0 => 0
  | k + 1 => 2 ^ b * rep b r k + r
/-- k fields of b bits, each how many of x's bits there are 1. -/
def fl (b : Nat) : Nat → Nat → Nat
  | 0, _ => 0
  | k + 1, x => 2 ^ b * fl b k (x / 2 ^ b) + ones x b

theorem and4 (x m : Nat) : x &&& (4 * m + 1) = 4 * ((x / 4) &&& m) + x % 2 := by
  have h := and_fields 2 x m 1 (by decide)
  have e : x % 2 ^ 2 &&& 1 = x % 2 := by rw [Nat.and_one_is_mod]; omega
  rw [e] at h; exact h
theorem and16 (x m : Nat) : x &&& (16 * m + 3) = 16 * ((x / 16) &&& m) + x % 4 := by
  have h := and_fields 4 x m 3 (by decide)
  have e : x % 2 ^ 4 &&& 3 = x % 4 := by
    rw [show (3 : Nat) = 2 ^ 2 - 1 from rfl, Nat.and_two_pow_sub_one_eq_mod]; omega
  rw [e] at h; exact h
theorem and256 (x m : Nat) : x &&& (256 * m + 15) = 256 * ((x / 256) &&& m) + x % 16 := by
  have h := and_fields 8 x m 15 (by decide)
  have e : x % 2 ^ 8 &&& 15 = x % 16 := by
    rw [show (15 : Nat) = 2 ^ 4 - 1 from rfl, Nat.and_two_pow_sub_one_eq_mod]; omega
  rw [e] at h; exact h
theorem ones2 (x : Nat) : ones x 2 = x % 2 + x / 2 % 2 := by simp [ones, bt]
theorem ones4 (x : Nat) : ones x 4 = ones x 2 + ones (x / 4) 2 := ones_split x 2 2
theorem ones8 (x : Nat) : ones x 8 = ones x 4 + ones (x / 16) 4 := ones_split x 4 4

theorem pairs (k : Nat) : ∀ x, ((x / 2) &&& rep 2 1 k) + (x &&& rep 2 1 k) = fl 2 k x := by
  induction k with
  | zero => intro x; simp [rep, fl]
  | succ k ih =>
    intro x
    have h := ih (x / 4)
    simp only [rep, fl]
    rw [show (2 : Nat) ^ 2 = 4 from rfl, and4, and4, ones2, ← h, show x / 2 / 4 = x / 4 / 2 from by omega]
    omega
theorem fl_succ (b k x : Nat) : fl b (k + 1) x = 2 ^ b * fl b k (x / 2 ^ b) + ones x b := rfl
theorem quads (k : Nat) : ∀ x, ((fl 2 (2 * k) x / 4) &&& rep 4 3 k) + (fl 2 (2 * k) x &&& rep 4 3 k) = fl 4 k x := by
  induction k with
  | zero => intro x; simp [rep, fl]
  | succ k ih =>
    intro x
    have h := ih (x / 16)
    have e : fl 2 (2 * (k + 1)) x = 16 * fl 2 (2 * k) (x / 16) + 4 * ones (x / 4) 2 + ones x 2 := by
      rw [show 2 * (k + 1) = 2 * k + 1 + 1 from by omega, fl_succ, fl_succ, show x / 2 ^ 2 / 2 ^ 2 = x / 16 from by omega, show (2 : Nat) ^ 2 = 4 from rfl]
      omega
    have c0 := ones_le x 2
    have c1 := ones_le (x / 4) 2
    rw [e]
    generalize fl 2 (2 * k) (x / 16) = y at *
    simp only [rep, fl_succ]
    rw [show (2 : Nat) ^ 4 = 16 from rfl, and16, and16, ← h, ones4]
    rw [show (16 * y + 4 * ones (x / 4) 2 + ones x 2) / 4 / 16 = y / 4 from by omega, show (16 * y + 4 * ones (x / 4) 2 + ones x 2) / 16 = y from by omega]
    omega
theorem fl4_mod (k x : Nat) : fl 4 k x % 16 ≤ 4 := by
  cases k with
  | zero => simp [fl]
  | succ k => have := ones_le x 4; rw [fl_succ, show (2 : Nat) ^ 4 = 16 from rfl]; omega
theorem bytes (k : Nat) : ∀ x, (fl 4 (2 * k) x / 16 + fl 4 (2 * k) x) &&& rep 8 15 k = fl 8 k x := by
  induction k with
  | zero => intro x; simp [rep, fl]
  | succ k ih =>
    intro x
    have h := ih (x / 256)
    have e : fl 4 (2 * (k + 1)) x = 256 * fl 4 (2 * k) (x / 256) + 16 * ones (x / 16) 4 + ones x 4 := by
      rw [show 2 * (k + 1) = 2 * k + 1 + 1 from by omega, fl_succ, fl_succ, show x / 2 ^ 4 / 2 ^ 4 = x / 256 from by omega, show (2 : Nat) ^ 4 = 16 from rfl]
      omega
    have c0 := ones_le x 4
    have c1 := ones_le (x / 16) 4
    have c2 := fl4_mod (2 * k) (x / 256)
    rw [e]
    generalize fl 4 (2 * k) (x / 256) = y at *
    simp only [rep, fl_succ]
    rw [show (2 : Nat) ^ 8 = 256 from rfl, and256, ← h, ones8]
    rw [show ((256 * y + 16 * ones (x / 16) 4 + ones x 4) / 16 + (256 * y + 16 * ones (x / 16) 4 + ones x 4)) / 256 = y / 16 + y from by omega]
    omega
theorem fl_le (b k : Nat) : ∀ x, fl b k x ≤ b * rep b 1 k := by
  induction k with
  | zero => intro x; exact Nat.zero_le _
  | succ k ih =>
    intro x
    have h := ih (x / 2 ^ b)
    have c := ones_le x b
    have h2 : 2 ^ b * fl b k (x / 2 ^ b) ≤ 2 ^ b * (b * rep b 1 k) := Nat.mul_le_mul_left _ h
    rw [fl_succ, rep, Nat.mul_add, Nat.mul_one, Nat.mul_left_comm b]
    omega
theorem fl8 (x : Nat) : ∃ c0 c1 c2 c3 c4 c5 c6 c7 : Nat, fl 8 8 x = c0 + 256 * c1 + 65536 * c2 + 16777216 * c3 + 4294967296 * c4 + 1099511627776 * c5 + 281474976710656 * c6 + 72057594037927936 * c7 ∧
    c0 ≤ 8 ∧ c1 ≤ 8 ∧ c2 ≤ 8 ∧ c3 ≤ 8 ∧ c4 ≤ 8 ∧ c5 ≤ 8 ∧ c6 ≤ 8 ∧ c7 ≤ 8 ∧ ones x 64 = c0 + c1 + c2 + c3 + c4 + c5 + c6 + c7 := by
  refine ⟨ones x 8, ones (x / 2 ^ 8) 8, ones (x / 2 ^ 8 / 2 ^ 8) 8, ones (x / 2 ^ 8 / 2 ^ 8 / 2 ^ 8) 8, ones (x / 2 ^ 8 / 2 ^ 8 / 2 ^ 8 / 2 ^ 8) 8, ones (x / 2 ^ 8 / 2 ^ 8 / 2 ^ 8 / 2 ^ 8 / 2 ^ 8) 8,
    ones (x / 2 ^ 8 / 2 ^ 8 / 2 ^ 8 / 2 ^ 8 / 2 ^ 8 / 2 ^ 8) 8, ones (x / 2 ^ 8 / 2 ^ 8 / 2 ^ 8 / 2 ^ 8 / 2 ^ 8 / 2 ^ 8 / 2 ^ 8) 8, ?_, ones_le _ _, ones_le _ _, ones_le _ _, ones_le _ _, ones_le _ _, ones_le _ _, ones_le _ _, ones_le _ _, ?_⟩
  · simp only [fl]; omega
  · rw [show (64 : Nat) = 8 + 56 from rfl, ones_split, show (56 : Nat) = 8 + 48 from rfl, ones_split, show (48 : Nat) = 8 + 40 from rfl, ones_split, show (40 : Nat) = 8 + 32 from rfl, ones_split,
      show (32 : Nat) = 8 + 24 from rfl, ones_split, show (24 : Nat) = 8 + 16 from rfl, ones_split, show (16 : Nat) = 8 + 8 from rfl, ones_split]
    omega

theorem nat_div (a b : Nat) : (a : Int) / (b : Int) = ((a / b : Nat) : Int) := rfl

theorem stage1 (x : Nat) (h : x < 18446744073709551616) :
    IntKind.u64.wrap (bits .and .u64 ((x : Int) / 2) 6148914691236517205 + bits .and .u64 (x : Int) 6148914691236517205) = ((fl 2 32 x : Nat) : Int) := by
  have p := pairs 32 x
  rw [show rep 2 1 32 = 6148914691236517205 from by decide +kernel] at p
  have b := fl_le 2 32 x
  rw [show 2 * rep 2 1 32 = 12297829382473034410 from by decide +kernel] at b
  have e1 := bits_and_u64_nat (x / 2) 6148914691236517205 (by omega) (by omega)
  have e2 := bits_and_u64_nat x 6148914691236517205 h (by omega)
  rw [show ((6148914691236517205 : Nat) : Int) = 6148914691236517205 from rfl] at e1 e2
  rw [show (x : Int) / 2 = ((x / 2 : Nat) : Int) from rfl, e1, e2, IntKind.wrap_u64, ← p]
  omega
theorem stage2 (x : Nat) :
    IntKind.u64.wrap (bits .and .u64 ((fl 2 32 x : Int) / 4) 3689348814741910323 + bits .and .u64 (fl 2 32 x : Int) 3689348814741910323) = ((fl 4 16 x : Nat) : Int) := by
  have p := quads 16 x
  rw [show rep 4 3 16 = 3689348814741910323 from by decide +kernel] at p
  have b := fl_le 4 16 x
  rw [show 4 * rep 4 1 16 = 4919131752989213764 from by decide +kernel] at b
  have b2 := fl_le 2 32 x
  rw [show 2 * rep 2 1 32 = 12297829382473034410 from by decide +kernel] at b2
  rw [show 2 * 16 = 32 from rfl] at p
  generalize fl 2 32 x = y at *
  have e1 := bits_and_u64_nat (y / 4) 3689348814741910323 (by omega) (by omega)
  have e2 := bits_and_u64_nat y 3689348814741910323 (by omega) (by omega)
  rw [show ((3689348814741910323 : Nat) : Int) = 3689348814741910323 from rfl] at e1 e2
  rw [show (y : Int) / 4 = ((y / 4 : Nat) : Int) from rfl, e1, e2, IntKind.wrap_u64, ← p]
  omega
theorem stage3 (x : Nat) :
    bits .and .u64 (IntKind.u64.wrap ((fl 4 16 x : Int) / 16 + (fl 4 16 x : Int))) 1085102592571150095 = ((fl 8 8 x : Nat) : Int) := by
  have p := bytes 8 x
  rw [show rep 8 15 8 = 1085102592571150095 from by decide +kernel] at p
  have b := fl_le 4 16 x
  rw [show 4 * rep 4 1 16 = 4919131752989213764 from by decide +kernel] at b
  rw [show 2 * 8 = 16 from rfl] at p
  generalize fl 4 16 x = y at *
  have e0 : IntKind.u64.wrap ((y : Int) / 16 + (y : Int)) = ((y / 16 + y : Nat) : Int) := by rw [IntKind.wrap_u64]; omega
  have e1 := bits_and_u64_nat (y / 16 + y) 1085102592571150095 (by omega) (by omega)
  rw [show ((1085102592571150095 : Nat) : Int) = 1085102592571150095 from rfl] at e1
  rw [e0, e1, p]
theorem wrap_div (z d : Nat) (h : z + z / d < 18446744073709551616) : IntKind.u64.wrap ((z : Int) + (z : Int) / (d : Int)) = ((z + z / d : Nat) : Int) := by
  rw [nat_div, IntKind.wrap_u64]
  generalize z / d = q at *
  omega
theorem div_of (z d q r : Nat) (h : z = d * q + r) (hr : r < d) : z / d = q := by
  subst h
  rw [Nat.mul_add_div (by omega), Nat.div_eq_of_lt hr, Nat.add_zero]
theorem stage4 (x : Nat) : ∃ y : Nat, y < 18446744073709551616 ∧ y % 128 = ones x 64 ∧
    IntKind.u64.wrap (IntKind.u64.wrap (IntKind.u64.wrap ((fl 8 8 x : Int) + (fl 8 8 x : Int) / 256) + IntKind.u64.wrap ((fl 8 8 x : Int) + (fl 8 8 x : Int) / 256) / 65536) +
      IntKind.u64.wrap (IntKind.u64.wrap ((fl 8 8 x : Int) + (fl 8 8 x : Int) / 256) + IntKind.u64.wrap ((fl 8 8 x : Int) + (fl 8 8 x : Int) / 256) / 65536) / 4294967296) = (y : Int) := by
  obtain ⟨c0, c1, c2, c3, c4, c5, c6, c7, e, h0, h1, h2, h3, h4, h5, h6, h7, hs⟩ := fl8 x
  rw [hs]
  clear hs
  generalize fl 8 8 x = z at *
  have a1 : z / 256 = c1 + 256 * c2 + 65536 * c3 + 16777216 * c4 + 4294967296 * c5 + 1099511627776 * c6 + 281474976710656 * c7 := div_of _ _ _ c0 (by omega) (by omega)
  have e4 := wrap_div z 256 (by rw [a1]; omega)
  have f4 : z + z / 256 = 65536 * ((c2 + c3) + 256 * (c3 + c4) + 65536 * (c4 + c5) + 16777216 * (c5 + c6) + 4294967296 * (c6 + c7) + 1099511627776 * c7) + ((c0 + c1) + 256 * (c1 + c2)) := by rw [a1]; omega
  rw [show ((256 : Nat) : Int) = 256 from rfl] at e4
  rw [e4]
  clear e4 a1 e
  generalize z + z / 256 = y4 at *
  clear z
  have a2 : y4 / 65536 = (c2 + c3) + 256 * (c3 + c4) + 65536 * (c4 + c5) + 16777216 * (c5 + c6) + 4294967296 * (c6 + c7) + 1099511627776 * c7 := div_of _ _ _ _ f4 (by omega)
  have e5 := wrap_div y4 65536 (by rw [a2]; omega)
  have f5 : y4 + y4 / 65536 = 4294967296 * ((c4 + c5 + c6 + c7) + 256 * (c5 + c6 + c7) + 65536 * (c6 + c7) + 16777216 * c7) + ((c0 + c1 + c2 + c3) + 256 * (c1 + c2 + c3 + c4) + 65536 * (c2 + c3 + c4 + c5) + 16777216 * (c3 + c4 + c5 + c6)) := by rw [a2]; omega
  rw [show ((65536 : Nat) : Int) = 65536 from rfl] at e5
  rw [e5]
  clear e5 a2 f4
  generalize y4 + y4 / 65536 = y5 at *
  clear y4
  have a3 : y5 / 4294967296 = (c4 + c5 + c6 + c7) + 256 * (c5 + c6 + c7) + 65536 * (c6 + c7) + 16777216 * c7 := div_of _ _ _ _ f5 (by omega)
  have e6 := wrap_div y5 4294967296 (by rw [a3]; omega)
  rw [show ((4294967296 : Nat) : Int) = 4294967296 from rfl] at e6
  refine ⟨y5 + y5 / 4294967296, by rw [a3]; omega, by rw [a3]; omega, e6⟩
theorem and127 (y : Nat) (h : y < 18446744073709551616) : bits .and .i64 (IntKind.i64.wrap (y : Int)) 127 = ((y % 128 : Nat) : Int) := by
  rw [IntKind.wrap_i64]
  have e : BitVec.ofInt 64 (((y : Int) + 9223372036854775808) % 18446744073709551616 - 9223372036854775808) = BitVec.ofNat 64 y := by
    apply BitVec.eq_of_toNat_eq
    rw [BitVec.toNat_ofInt, BitVec.toNat_ofNat]
    omega
  show IntKind.i64.wrap ((BitVec.ofInt 64 _ &&& BitVec.ofInt 64 127).toNat : Int) = _
  rw [e, BitVec.toNat_and, BitVec.toNat_ofNat, show (BitVec.ofInt 64 127).toNat = 2 ^ 7 - 1 from rfl, Nat.and_two_pow_sub_one_eq_mod, IntKind.wrap_i64]
  omega
end Wd
end Go.Proofs.YtoipliflphbeiaaGreatDoor
