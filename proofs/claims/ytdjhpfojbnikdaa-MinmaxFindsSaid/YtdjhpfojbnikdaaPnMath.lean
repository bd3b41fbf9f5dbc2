/-
  Plain mathematics of parentheses: a row of bits as a number, 1 opens, 0 closes; stretches; the excess, the reach and the first place of an excess in a stretch, told by words; a row turned round. Of no program.
-/
import Derived.Test.YtdjhpfojbnikdaaBtMath
namespace Go.Proofs.Ytdjhpfojbnikdaa
namespace Pn
open Wd Bt

/-- The two places of a stretch, as they count. -/
def fr (n : Nat) (a : Int) : Nat := (min (max a 0) (n : Int)).toNat
def to (n : Nat) (a t : Int) : Nat := (min (max t (fr n a : Int)) (n : Int)).toNat
theorem fr_le (n : Nat) (a : Int) : fr n a ≤ n := by unfold fr; omega
theorem fr_to (n : Nat) (a t : Int) : fr n a ≤ to n a t ∧ to n a t ≤ n := by unfold to fr; omega
theorem fr_cast (n : Nat) (a : Int) : min (max a 0) (n : Int) = (fr n a : Int) := by unfold fr; omega
theorem to_cast (n : Nat) (a t : Int) : min (max t (fr n a : Int)) (n : Int) = (to n a t : Int) := by unfold to fr; omega
theorem fr_nat (n a : Nat) (h : a ≤ n) : fr n (a : Int) = a := by unfold fr; omega
theorem to_nat (n a b : Nat) (h : a ≤ b) (h2 : b ≤ n) : to n (a : Int) (b : Int) = b := by unfold to fr; omega

/-- Two numbers with the same first n bits have the same excesses, reaches and places there. -/
theorem exc_congr (x y n : Nat) (h : ∀ i, i < n → bt x i = bt y i) : ∀ k, k ≤ n → exc x k = exc y k := by
  intro k hk
  unfold exc
  rw [ones_congr x y k fun i hi => h i (by omega)]
theorem lo_congr (x y n : Nat) (h : ∀ k, k ≤ n → exc x k = exc y k) : lo x n = lo y n ∧ hi x n = hi y n := by
  induction n with
  | zero => exact ⟨rfl, rfl⟩
  | succ n ih =>
    have := ih fun k hk => h k (by omega)
    by_cases h0 : n = 0
    · subst h0
      exact ⟨h 1 (by omega), h 1 (by omega)⟩
    · rw [lo_succ x n (by omega), lo_succ y n (by omega), hi_succ x n (by omega), hi_succ y n (by omega), this.1, this.2, h (n + 1) (by omega)]
      exact ⟨rfl, rfl⟩
theorem find_congr (x y n : Nat) (d : Int) (h : ∀ k, k ≤ n → exc x k = exc y k) : find x n d = find y n d := by
  apply find_eq
  rcases find_spec y n d with ⟨a, b, c, e⟩ | ⟨a, b⟩
  · exact .inl ⟨a, b, by rw [h _ b]; exact c, fun j j1 j2 => by rw [h j (by omega)]; exact e j j1 j2⟩
  · exact .inr ⟨a, fun j j1 j2 => by rw [h j j2]; exact b j j1 j2⟩
/-- The word of k bits from a on. -/
theorem bt_word (Y a k i : Nat) (hi : i < k) : bt (Y / 2 ^ a % 2 ^ k) i = bt Y (a + i) := by rw [bt_mod, if_pos hi, bt_div]
theorem exc_word (Y a k j : Nat) (hj : j ≤ k) : exc (Y / 2 ^ a % 2 ^ k) j = exc Y (a + j) - exc Y a := by
  rw [exc_congr _ (Y / 2 ^ a) k (fun i hi => by rw [bt_word Y a k i hi, bt_div]) j hj, exc_split]
  omega
theorem exc_part (Y a j : Nat) : exc (Y / 2 ^ a) j = exc Y (a + j) - exc Y a := by
  rw [exc_split]
  omega

/-- One word on: the excess, the reach. -/
theorem exc_on (Y a k : Nat) : exc Y (a + k) = exc Y a + exc (Y / 2 ^ a % 2 ^ k) k := by
  rw [exc_word Y a k k (Nat.le_refl _)]
  omega
/-- The least, and the greatest, as they are carried along: n and -n of none. -/
def lo1 (Y n j : Nat) : Int := if j = 0 then (n : Int) else lo Y j
def hi1 (Y n j : Nat) : Int := if j = 0 then -(n : Int) else hi Y j
theorem lo_join (Y a k : Nat) (ha : 1 ≤ a) (hk : 1 ≤ k) : lo Y (a + k) = min (lo Y a) (exc Y a + lo (Y / 2 ^ a) k) ∧ hi Y (a + k) = max (hi Y a) (exc Y a + hi (Y / 2 ^ a) k) := by
  induction k with
  | zero => omega
  | succ k ih =>
    have e := exc_part Y a (k + 1)
    by_cases h0 : k = 0
    · subst h0
      rw [lo_succ Y a ha, hi_succ Y a ha]
      simp only [lo, hi, Nat.zero_add] at *
      omega
    · have := ih (by omega)
      rw [← Nat.add_assoc, lo_succ Y (a + k) (by omega), hi_succ Y (a + k) (by omega), lo_succ (Y / 2 ^ a) k (by omega), hi_succ (Y / 2 ^ a) k (by omega), this.1, this.2]
      rw [← Nat.add_assoc] at e
      omega
theorem lo1_on (Y n a k : Nat) (hk : 1 ≤ k) (h : a + k ≤ n) :
    min (lo1 Y n a) (exc Y a + lo (Y / 2 ^ a % 2 ^ k) k) = lo1 Y n (a + k) ∧ max (hi1 Y n a) (exc Y a + hi (Y / 2 ^ a % 2 ^ k) k) = hi1 Y n (a + k) := by
  have c := lo_congr (Y / 2 ^ a % 2 ^ k) (Y / 2 ^ a) k (exc_congr _ _ k fun i hi => by rw [bt_word Y a k i hi, bt_div])
  rw [c.1, c.2]
  unfold lo1 hi1
  by_cases h0 : a = 0
  · subst h0
    have b1 := lo_bounds (Y / 2 ^ 0) k
    have b2 := hi_bounds (Y / 2 ^ 0) k
    rw [if_pos rfl, if_pos rfl, if_neg (by omega), if_neg (by omega), exc_zero]
    simp only [Nat.pow_zero, Nat.div_one, Nat.zero_add] at *
    omega
  · have := lo_join Y a k (by omega) hk
    rw [if_neg h0, if_neg h0, if_neg (by omega), if_neg (by omega), this.1, this.2]
    exact ⟨rfl, rfl⟩
theorem lo1_bounds (Y n j : Nat) (h : j ≤ n) : (-(n : Int) ≤ lo1 Y n j ∧ lo1 Y n j ≤ n) ∧ -(n : Int) ≤ hi1 Y n j ∧ hi1 Y n j ≤ n := by
  unfold lo1 hi1
  have b1 := lo_bounds Y j
  have b2 := hi_bounds Y j
  by_cases h0 : j = 0
  · rw [if_pos h0, if_pos h0]; omega
  · rw [if_neg h0, if_neg h0]; omega
theorem lo1_end (Y n : Nat) : lo1 Y n n = lo Y n ∧ hi1 Y n n = hi Y n := by
  unfold lo1 hi1
  by_cases h0 : n = 0
  · subst h0; exact ⟨rfl, rfl⟩
  · rw [if_neg h0, if_neg h0]; exact ⟨rfl, rfl⟩

/-- What is known where a search goes on behind the first a bits: no beginning up to there has the excess. -/
def Unmet (Y : Nat) (d : Int) (a : Nat) : Prop := ∀ j, 1 ≤ j → j ≤ a → exc Y j ≠ d
theorem Unmet.zero (Y : Nat) (d : Int) : Unmet Y d 0 := fun j a b => by omega
/-- It is in the next k bits. -/
theorem Unmet.found {Y n a k f : Nat} {d : Int} (h : Unmet Y d a) (hn : a + k ≤ n) (hf : find (Y / 2 ^ a % 2 ^ k) k (d - exc Y a) = f) (h0 : 0 < f) : find Y n d = a + f := by
  apply find_eq
  rcases find_spec (Y / 2 ^ a % 2 ^ k) k (d - exc Y a) with ⟨h1, h2, h3, h4⟩ | ⟨h1, _⟩
  · rw [hf] at h1 h2 h3 h4
    rw [exc_word Y a k f h2] at h3
    refine .inl ⟨by omega, by omega, by omega, fun j j1 j2 => ?_⟩
    by_cases hj : j ≤ a
    · exact h j j1 hj
    · have := h4 (j - a) (by omega) (by omega)
      rw [exc_word Y a k (j - a) (by omega), show a + (j - a) = j from by omega] at this
      omega
  · omega
/-- It isn't. -/
theorem Unmet.on {Y a k : Nat} {d : Int} (h : Unmet Y d a) (hf : find (Y / 2 ^ a % 2 ^ k) k (d - exc Y a) = 0) : Unmet Y d (a + k) := by
  intro j j1 j2
  rcases find_spec (Y / 2 ^ a % 2 ^ k) k (d - exc Y a) with ⟨h1, _⟩ | ⟨_, h2⟩
  · omega
  · by_cases hj : j ≤ a
    · exact h j j1 hj
    · have := h2 (j - a) (by omega) (by omega)
      rw [exc_word Y a k (j - a) (by omega), show a + (j - a) = j from by omega] at this
      omega
theorem Unmet.none {Y n : Nat} {d : Int} (h : Unmet Y d n) : find Y n d = 0 := find_eq (.inr ⟨rfl, h⟩)
/-- A whole word whose 1s, or 0s, don't come to it. -/
theorem ones_rest (x n k : Nat) (h : k ≤ n) : ones x k ≤ ones x n ∧ ones x n ≤ ones x k + (n - k) := by
  refine ⟨ones_mono x k n h, ?_⟩
  have := ones_split x k (n - k)
  rw [show k + (n - k) = n from by omega] at this
  have := ones_le (x / 2 ^ k) (n - k)
  omega
theorem Unmet.far {Y a : Nat} {d : Int} (h : Unmet Y d a) (hd : (ones (Y / 2 ^ a % 2 ^ 64) 64 : Int) < d - exc Y a ∨ d - exc Y a < (ones (Y / 2 ^ a % 2 ^ 64) 64 : Int) - 64) : Unmet Y d (a + 64) := by
  intro j j1 j2
  by_cases hj : j ≤ a
  · exact h j j1 hj
  · have e := exc_word Y a 64 (j - a) (by omega)
    rw [show a + (j - a) = j from by omega] at e
    have r := ones_rest (Y / 2 ^ a % 2 ^ 64) 64 (j - a) (by omega)
    have o := ones_le (Y / 2 ^ a % 2 ^ 64) (j - a)
    unfold exc at e
    unfold exc at hd ⊢
    generalize ones (Y / 2 ^ a % 2 ^ 64) (j - a) = p at *
    generalize ones (Y / 2 ^ a % 2 ^ 64) 64 = q at *
    omega
theorem far_on (Y a : Nat) (d : Int) : d - exc Y a - (2 * (ones (Y / 2 ^ a % 2 ^ 64) 64 : Int) - 64) = d - exc Y (a + 64) := by
  rw [exc_on Y a 64]
  show _ = d - (exc Y a + (2 * (ones (Y / 2 ^ a % 2 ^ 64) 64 : Int) - 64))
  omega

/-- What the searches answer: -1 of none. -/
def forth (X a b : Nat) (d : Int) : Int := if find (X / 2 ^ a) (b - a) d = 0 then -1 else (a : Int) + find (X / 2 ^ a) (b - a) d - 1
/-- The first b bits, turned round. -/
def rv (X b : Nat) : Nat := num (bitsTo X b).reverse
theorem rv_lt (X b : Nat) : rv X b < 2 ^ b := by
  have := num_lt (bitsTo X b).reverse
  rw [List.length_reverse, bitsTo_length] at this
  exact this
theorem bt_rv (X b i : Nat) : bt (rv X b) i = if i < b then bt X (b - 1 - i) else 0 := by
  unfold rv
  rw [bt_num]
  by_cases h : i < b
  · rw [if_pos h, List.getD_eq_getElem?_getD, List.getElem?_reverse (by rw [bitsTo_length]; exact h), bitsTo_length, bitsTo_get X b _ (by omega), bt_testBit]
    rfl
  · rw [if_neg h, List.getD_eq_getElem?_getD, List.getElem?_eq_none (by rw [List.length_reverse, bitsTo_length]; omega)]
    rfl
theorem exc_rv (X b k : Nat) (h : k ≤ b) : exc (rv X b) k = exc X b - exc X (b - k) := by
  induction k with
  | zero => rw [exc_zero, Nat.sub_zero]; omega
  | succ k ih =>
    have e := exc_succ X (b - 1 - k)
    rw [show b - 1 - k + 1 = b - k from by omega] at e
    rw [exc_succ, ih (by omega), bt_rv, if_pos (by omega), show b - (k + 1) = b - 1 - k from by omega]
    omega
def back (X a b : Nat) (d : Int) : Int := if find (rv X b) (b - a) d = 0 then -1 else (b : Int) - find (rv X b) (b - a) d
theorem forth_bounds (X a b : Nat) (d : Int) (h : a ≤ b) : forth X a b d = -1 ∨ ((a : Int) ≤ forth X a b d ∧ forth X a b d < b) := by
  unfold forth
  have := find_le (X / 2 ^ a) (b - a) d
  split
  · exact .inl rfl
  · right; omega
/-- The word of k bits, turned round, that end at a of the end. -/
theorem rv_word (X b a k : Nat) (h : a + k ≤ b) : rv (X / 2 ^ (b - a - k) % 2 ^ k) k = rv X b / 2 ^ a % 2 ^ k := by
  apply eq_of_bt
  intro i
  rw [bt_rv, bt_mod (rv X b / 2 ^ a)]
  by_cases hi : i < k
  · rw [if_pos hi, if_pos hi, bt_div, bt_rv, if_pos (by omega), bt_word _ _ _ _ (by omega)]
    congr 1
    omega
  · rw [if_neg hi, if_neg hi]

/-- Whether a row is balanced. -/
def bal (X n : Nat) : Bool := exc X n == 0 && find X n (-1) == 0
theorem bal_iff (X n : Nat) : bal X n = true ↔ exc X n = 0 ∧ ∀ j, 1 ≤ j → j ≤ n → 0 ≤ exc X j := by
  unfold bal
  rw [Bool.and_eq_true, beq_iff_eq, beq_iff_eq]
  constructor
  · rintro ⟨h1, h2⟩
    refine ⟨h1, fun j j1 j2 => ?_⟩
    have r := reach_exc X n j j1 j2
    have r2 := reach_exc X n n (by omega) (Nat.le_refl _)
    have p := find_pos X n (-1) (by omega)
    omega
  · rintro ⟨h1, h2⟩
    refine ⟨h1, find_eq (.inr ⟨rfl, fun j j1 j2 => ?_⟩)⟩
    have := h2 j j1 j2
    omega
theorem bal_lo (X n : Nat) : bal X n = (exc X n == 0 && decide (0 ≤ lo X n)) := by
  unfold bal
  by_cases h : exc X n = 0
  · rw [h]
    simp only [BEq.rfl, Bool.true_and]
    by_cases h0 : n = 0
    · subst h0; rfl
    · have p := find_pos X n (-1) (by omega)
      have r := reach_exc X n n (by omega) (Nat.le_refl _)
      by_cases hl : 0 ≤ lo X n
      · rw [decide_eq_true hl, show find X n (-1) = 0 from by omega]; rfl
      · rw [decide_eq_false hl]
        have : find X n (-1) ≠ 0 := by omega
        simpa using this
  · have : (exc X n == 0) = false := by simpa using h
    rw [this]; rfl
/-- With a ( ahead and a ) behind. -/
theorem bt_wrap (l : List Bool) (i : Nat) : bt (num (true :: l ++ [false])) i = if i = 0 then 1 else bt (num l) (i - 1) := by
  rw [bt_num]
  cases i with
  | zero => rfl
  | succ i =>
    rw [if_neg (by omega), Nat.add_sub_cancel, bt_num, List.cons_append, List.getD_cons_succ]
    by_cases h : i < l.length
    · rw [List.getD_eq_getElem?_getD, List.getD_eq_getElem?_getD, List.getElem?_append_left h]
    · rw [List.getD_eq_getElem?_getD, List.getD_eq_getElem?_getD, List.getElem?_append_right (by omega), List.getElem?_eq_none (by omega : l.length ≤ i)]
      by_cases h2 : i - l.length = 0
      · rw [h2]; rfl
      · rw [List.getElem?_eq_none (by simp; omega)]
theorem exc_wrap (l : List Bool) (k : Nat) : exc (num (true :: l ++ [false])) (k + 1) = 1 + exc (num l) k := by
  induction k with
  | zero => rw [exc_succ, bt_wrap, if_pos rfl, exc_zero, exc_zero]; rfl
  | succ k ih => rw [exc_succ _ (k + 1), ih, bt_wrap, if_neg (by omega), Nat.add_sub_cancel, exc_succ]; omega
theorem bal_wrap (l : List Bool) (h : bal (num l) l.length = true) : bal (num (true :: l ++ [false])) (l.length + 2) = true := by
  obtain ⟨h1, h2⟩ := (bal_iff _ _).1 h
  have z : bt (num l) l.length = 0 := by rw [bt_num, List.getD_eq_getElem?_getD, List.getElem?_eq_none (Nat.le_refl _)]; rfl
  have e : exc (num (true :: l ++ [false])) (l.length + 2) = 0 := by
    rw [exc_wrap l (l.length + 1), exc_succ, h1, z]; rfl
  refine (bal_iff _ _).2 ⟨e, fun j j1 j2 => ?_⟩
  obtain ⟨k, rfl⟩ : ∃ k, j = k + 1 := ⟨j - 1, by omega⟩
  by_cases hk : k = l.length + 1
  · subst hk; exact Int.le_of_eq e.symm
  · rw [exc_wrap]
    by_cases h0 : k = 0
    · subst h0; rw [exc_zero]; omega
    · have := h2 k (by omega) (by omega)
      omega

/-- Each bit the other one: the excess the other way round. -/
theorem exc_other (x y n : Nat) (h : ∀ i, i < n → bt x i + bt y i = 1) : ∀ k, k ≤ n → exc x k = -exc y k := by
  intro k
  induction k with
  | zero => intro _; rfl
  | succ k ih =>
    intro hk
    have := h k (by omega)
    rw [exc_succ, exc_succ, ih (by omega)]
    omega
theorem find_other (x y n : Nat) (d : Int) (h : ∀ k, k ≤ n → exc x k = -exc y k) : find x n (-d) = find y n d := by
  apply find_eq
  rcases find_spec y n d with ⟨a, b, c, e⟩ | ⟨a, b⟩
  · exact .inl ⟨a, b, by rw [h _ b, c], fun j j1 j2 => by rw [h j (by omega)]; have := e j j1 j2; omega⟩
  · exact .inr ⟨a, fun j j1 j2 => by rw [h j j2]; have := b j j1 j2; omega⟩
/-- Turned round, each bit the other one. -/
theorem turned_bits (L M : List Bool) (h : ∀ i, i < L.length → M.getD (L.length - 1 - i) false = !L.getD i false) (a b : Nat) (hab : a ≤ b) (hb : b ≤ L.length) :
    ∀ i, i < b - a → bt (rv (num M) (L.length - a)) i + bt (num L / 2 ^ a) i = 1 := by
  intro i hi
  have := h (a + i) (by omega)
  rw [bt_rv, if_pos (by omega), bt_div, bt_num, bt_num, show L.length - a - 1 - i = L.length - 1 - (a + i) from by omega, this]
  cases L.getD (a + i) false <;> rfl
theorem turned_exc (L M : List Bool) (h : ∀ i, i < L.length → M.getD (L.length - 1 - i) false = !L.getD i false) (a b : Nat) (hab : a ≤ b) (hb : b ≤ L.length) :
    exc (num M / 2 ^ (L.length - b)) (L.length - a - (L.length - b)) = -exc (num L / 2 ^ a) (b - a) := by
  have e := exc_other _ _ _ (turned_bits L M h a b hab hb) (b - a) (Nat.le_refl _)
  rw [exc_rv _ _ _ (by omega)] at e
  rw [exc_part, show L.length - b + (L.length - a - (L.length - b)) = L.length - a from by omega, ← e, show L.length - a - (b - a) = L.length - b from by omega]
theorem turned_find (L M : List Bool) (h : ∀ i, i < L.length → M.getD (L.length - 1 - i) false = !L.getD i false) (a b : Nat) (d : Int) (hab : a ≤ b) (hb : b ≤ L.length) :
    (forth (num L) a b d = -1 ∧ back (num M) (L.length - b) (L.length - a) (-d) = -1) ∨ (0 ≤ forth (num L) a b d ∧ back (num M) (L.length - b) (L.length - a) (-d) = (L.length : Int) - 1 - forth (num L) a b d) := by
  have e := find_other _ _ _ d (exc_other _ _ _ (turned_bits L M h a b hab hb))
  have hle := find_le (num L / 2 ^ a) (b - a) d
  unfold forth back
  rw [show L.length - a - (L.length - b) = b - a from by omega, e]
  by_cases h0 : find (num L / 2 ^ a) (b - a) d = 0
  · rw [if_pos h0, if_pos h0]; exact .inl ⟨rfl, rfl⟩
  · rw [if_neg h0, if_neg h0]; right; omega
end Pn
end Go.Proofs.Ytdjhpfojbnikdaa
