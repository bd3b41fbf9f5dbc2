/-
  Plain mathematics of rows of bits: a row of n bits as a number below 2 to the n; its words; what a Put adds; a field of it; a list of bits and its number. Of no program.
  Numbers of layer 3: how many bits of a row are 1 ahead of a place, told by blocks of 512 bits and words of 64; seven counts of 9 bits side by side in a number.
-/
import Derived.Test.YtfohldojcdhnhaaDoorJWdMath
namespace Go.Proofs.YtfohldojcdhnhaaDoor
namespace Bt
open Wd

/-- The word j of the number X. -/
def wd (X j : Nat) : Nat := X / 2 ^ (64 * j) % 2 ^ 64
theorem wd_lt (X j : Nat) : wd X j < 18446744073709551616 := Nat.mod_lt _ (by decide)
theorem wd_lt' (X j : Nat) : wd X j < 2 ^ 64 := Nat.mod_lt _ (by decide)
theorem bt_wd (X j i : Nat) : bt (wd X j) i = if i < 64 then bt X (64 * j + i) else 0 := by
  unfold wd; rw [bt_mod, bt_div]
theorem eq_of_bt {x y : Nat} (h : ∀ i, bt x i = bt y i) : x = y := by
  apply Nat.eq_of_testBit_eq
  intro i
  rw [testBit_bt, testBit_bt, h]
theorem wd_big (X n j : Nat) (h : X < 2 ^ n) (hj : n ≤ 64 * j) : wd X j = 0 := by
  unfold wd
  rw [Nat.div_eq_of_lt (Nat.lt_of_lt_of_le h (Nat.pow_le_pow_right (by decide) hj))]

/-- What a Put leaves. -/
theorem bt_put (X x n i : Nat) (hX : X < 2 ^ n) : bt (X + x * 2 ^ n) i = if i < n then bt X i else bt x (i - n) := by
  have e : X + x * 2 ^ n = (2 ^ n * x) ||| X := by
    rw [Nat.add_comm, Nat.mul_comm, Nat.two_pow_add_eq_or_of_lt hX]
  rw [bt_testBit, e, Nat.testBit_or, Nat.testBit_two_pow_mul]
  split
  · rename_i h
    rw [bt_testBit]
    simp [show ¬ n ≤ i from by omega]
  · rename_i h
    rw [Nat.testBit_lt_two_pow (Nat.lt_of_lt_of_le hX (Nat.pow_le_pow_right (by decide) (by omega : n ≤ i))), bt_testBit]
    simp [show n ≤ i from by omega]
theorem put_lt (X x n k : Nat) (hX : X < 2 ^ n) (hx : x < 2 ^ k) : X + x * 2 ^ n < 2 ^ (n + k) := by
  have h1 : x * 2 ^ n + 2 ^ n ≤ 2 ^ k * 2 ^ n := by
    have : (x + 1) * 2 ^ n ≤ 2 ^ k * 2 ^ n := Nat.mul_le_mul_right _ (by omega)
    rw [Nat.add_mul, Nat.one_mul] at this
    exact this
  rw [Nat.add_comm n k, Nat.pow_add]
  omega
theorem put_word (X x n j : Nat) (hX : X < 2 ^ n) (hj : 64 * (j + 1) ≤ n) : wd (X + x * 2 ^ n) j = wd X j := by
  apply eq_of_bt
  intro i
  rw [bt_wd, bt_wd]
  split
  · rw [bt_put X x n _ hX, if_pos (by omega)]
  · rfl
/-- The word that the last bits and the first of a Put make. -/
def mix (l x a : Nat) : Nat := l + x * 2 ^ a % 2 ^ 64
theorem bt_mix (l x a i : Nat) (hl : l < 2 ^ a) (ha : a ≤ 64) : bt (mix l x a) i = if i < a then bt l i else if i < 64 then bt x (i - a) else 0 := by
  have e : x * 2 ^ a % 2 ^ 64 = (x % 2 ^ (64 - a)) * 2 ^ a := by
    have h64 : 2 ^ 64 = 2 ^ (64 - a) * 2 ^ a := by rw [← Nat.pow_add]; congr 1; omega
    rw [h64, Nat.mul_mod_mul_right]
  unfold mix
  rw [e, bt_put l _ a i hl]
  split
  · rfl
  · rename_i h
    rw [bt_mod]
    by_cases h2 : i < 64
    · rw [if_pos (by omega), if_pos h2]
    · rw [if_neg (by omega), if_neg h2]
theorem mix_or (l x a : Nat) (hl : l < 2 ^ a) (ha : a ≤ 64) : l ||| (x * 2 ^ a % 2 ^ 64) = mix l x a := by
  have e : x * 2 ^ a % 2 ^ 64 = 2 ^ a * (x % 2 ^ (64 - a)) := by
    have h64 : 2 ^ 64 = 2 ^ (64 - a) * 2 ^ a := by rw [← Nat.pow_add]; congr 1; omega
    rw [h64, Nat.mul_mod_mul_right, Nat.mul_comm]
  unfold mix
  rw [e, Nat.add_comm l, Nat.two_pow_add_eq_or_of_lt hl, Nat.or_comm]
/-- The last word, as the builder keeps it. -/
def last (X n : Nat) : Nat := X / 2 ^ (64 * (n / 64))
theorem bt_last (X n i : Nat) : bt (last X n) i = bt X (64 * (n / 64) + i) := by unfold last; rw [bt_div]
theorem last_lt (X n : Nat) (hX : X < 2 ^ n) : last X n < 2 ^ (n % 64) := by
  unfold last
  rw [Nat.div_lt_iff_lt_mul (Nat.two_pow_pos _), ← Nat.pow_add]
  rw [show n % 64 + 64 * (n / 64) = n from by omega]
  exact hX
theorem last_lt64 (X n : Nat) (hX : X < 2 ^ n) : last X n < 18446744073709551616 :=
  Nat.lt_of_lt_of_le (last_lt X n hX) (Nat.le_trans (Nat.pow_le_pow_right (by decide) (by omega : n % 64 ≤ 64)) (by decide))
theorem put_mix (X x n : Nat) (hX : X < 2 ^ n) : wd (X + x * 2 ^ n) (n / 64) = mix (last X n) x (n % 64) := by
  apply eq_of_bt
  intro i
  rw [bt_wd, bt_mix _ _ _ _ (last_lt X n hX) (by omega), bt_last]
  by_cases h : i < 64
  · rw [if_pos h, bt_put X x n _ hX]
    by_cases h2 : i < n % 64
    · rw [if_pos h2, if_pos (by omega)]
    · rw [if_neg h2, if_neg (by omega), if_pos h]
      congr 1; omega
  · rw [if_neg h, if_neg (by omega), if_neg h]
/-- It stays below the word's end. -/
theorem put_last_in (X x n k : Nat) (hX : X < 2 ^ n) (hx : x < 2 ^ k) (h : n % 64 + k < 64) : last (X + x * 2 ^ n) (n + k) = mix (last X n) x (n % 64) := by
  apply eq_of_bt
  intro i
  rw [bt_last, bt_mix _ _ _ _ (last_lt X n hX) (by omega), bt_last, bt_put X x n _ hX, show (n + k) / 64 = n / 64 from by omega]
  by_cases h2 : i < n % 64
  · rw [if_pos h2, if_pos (by omega)]
  · rw [if_neg h2, if_neg (by omega)]
    by_cases h3 : i < 64
    · rw [if_pos h3]; congr 1; omega
    · rw [if_neg h3]
      exact bt_big x k _ hx (by omega)
theorem put_last_out (X x n k : Nat) (hX : X < 2 ^ n) (hk : k ≤ 64) (h : 64 ≤ n % 64 + k) : last (X + x * 2 ^ n) (n + k) = x / 2 ^ (64 - n % 64) := by
  apply eq_of_bt
  intro i
  rw [bt_last, bt_put X x n _ hX, bt_div, show (n + k) / 64 = n / 64 + 1 from by omega, if_neg (by omega)]
  congr 1; omega
theorem put_count_in (n k : Nat) (h : n % 64 + k < 64) : (n + k) / 64 = n / 64 := by omega
theorem put_count_out (n k : Nat) (hk : k ≤ 64) (h : 64 ≤ n % 64 + k) : (n + k) / 64 = n / 64 + 1 := by omega

/-- The words, as cells. -/
def wds (X c : Nat) : List Value := (List.range c).map fun j => Value.int .u64 ((wd X j : Nat) : Int)
theorem wds_length (X c : Nat) : (wds X c).length = c := by simp [wds]
theorem wds_get (X c j : Nat) (h : j < c) : (wds X c)[j]? = some (Value.int .u64 ((wd X j : Nat) : Int)) := by simp [wds, h]
theorem wds_congr (X Y c : Nat) (h : ∀ j, j < c → wd X j = wd Y j) : wds X c = wds Y c := by
  unfold wds
  apply List.map_congr_left
  intro j hj
  rw [h j (by simpa using hj)]
theorem wds_succ (X c : Nat) : wds X (c + 1) = wds X c ++ [Value.int .u64 ((wd X c : Nat) : Int)] := by
  unfold wds
  rw [List.range_succ, List.map_append]
  rfl
theorem wds_put (X x n c : Nat) (hX : X < 2 ^ n) (hc : c ≤ n / 64) : wds (X + x * 2 ^ n) c = wds X c :=
  wds_congr _ _ _ fun j hj => put_word X x n j hX (by omega)
theorem wds_one (X c : Nat) : ∀ u ∈ wds X c, u.oneCell' = true := by
  intro u hu
  obtain ⟨_, _, rfl⟩ := List.mem_map.1 hu
  rfl

/-- A field of a row: two words' parts. -/
theorem field_two (X a n : Nat) (hn : n ≤ 64) : (fld (wd X (a / 64)) ((a % 64 : Nat) : Int) n) ||| (fld (wd X (a / 64 + 1)) (((a % 64 : Nat) : Int) - 64) n) = X / 2 ^ a % 2 ^ n := by
  apply eq_of_bt
  intro i
  have hr : bt (X / 2 ^ a % 2 ^ n) i = if i < n then bt X (a + i) else 0 := by rw [bt_mod, bt_div]
  have h1 : bt (fld (wd X (a / 64)) ((a % 64 : Nat) : Int) n) i = if i < n then (if a % 64 + i < 64 then bt X (a + i) else 0) else 0 := by
    unfold fld
    rw [if_neg (by omega), if_neg (by omega), Int.toNat_natCast, bt_mod]
    split
    · rw [bt_div, bt_wd]
      split
      · congr 1; omega
      · rfl
    · rfl
  have h2 : bt (fld (wd X (a / 64 + 1)) (((a % 64 : Nat) : Int) - 64) n) i = if i < n then (if a % 64 + i < 64 then 0 else bt X (a + i)) else 0 := by
    by_cases h0 : a % 64 = 0
    · have e : fld (wd X (a / 64 + 1)) (((a % 64 : Nat) : Int) - 64) n = 0 := by unfold fld; rw [if_pos (by omega)]
      rw [e]
      have z : bt 0 i = 0 := by simp [bt]
      rw [z]
      split
      · rw [if_pos (by omega)]
      · rfl
    · unfold fld
      rw [if_neg (by omega), if_pos (by omega), show (-(((a % 64 : Nat) : Int) - 64)).toNat = 64 - a % 64 from by omega, bt_mod]
      split
      · rw [bt_mod]
        split
        · rw [bt_shl, bt_wd]
          by_cases h : a % 64 + i < 64
          · rw [if_neg (by omega), if_pos h]
          · rw [if_pos (by omega), if_neg h, if_pos (by omega)]
            congr 1; omega
        · omega
      · rfl
  rw [bt_testBit, Nat.testBit_or, testBit_bt, testBit_bt, h1, h2, hr]
  have hb := bt_lt X (a + i)
  by_cases hi : i < n
  · rw [if_pos hi, if_pos hi, if_pos hi]
    by_cases h : a % 64 + i < 64
    · rw [if_pos h, if_pos h]
      rcases (show bt X (a + i) = 0 ∨ bt X (a + i) = 1 from by omega) with e | e <;> rw [e] <;> rfl
    · rw [if_neg h, if_neg h]
      rcases (show bt X (a + i) = 0 ∨ bt X (a + i) = 1 from by omega) with e | e <;> rw [e] <;> rfl
  · rw [if_neg hi, if_neg hi, if_neg hi]
    rfl
theorem get_one (X i : Nat) : fld (wd X (i / 64)) ((i % 64 : Nat) : Int) 1 = bt X i := by
  unfold fld
  rw [if_neg (by omega), if_neg (by omega), Int.toNat_natCast, Nat.pow_one]
  show bt (wd X (i / 64)) (i % 64) = _
  rw [bt_wd, if_pos (by omega)]
  congr 1; omega

/-- How many bits a word takes, against a number of bits. -/
theorem need_le (x n : Nat) (hx : x < 2 ^ 64) : needTo x 64 ≤ n ↔ x < 2 ^ n := by
  obtain ⟨h1, h2⟩ := needTo_spec x 64 hx
  constructor
  · intro h
    exact Nat.lt_of_lt_of_le h1 (Nat.pow_le_pow_right (by decide) h)
  · intro h
    by_cases h0 : x = 0
    · have hz : needTo 0 64 = 0 := by decide
      rw [h0, hz]; omega
    · obtain ⟨h3, h4⟩ := h2 h0
      rcases Nat.lt_or_ge n (needTo x 64) with hl | hl
      · have := Nat.pow_le_pow_right (show 0 < 2 by decide) (show n ≤ needTo x 64 - 1 by omega)
        omega
      · exact hl

/-- A list of bits, as a number. -/
def num : List Bool → Nat
  | [] => 0
  | b :: l => b.toNat + 2 * num l
theorem num_lt (l : List Bool) : num l < 2 ^ l.length := by
  induction l with
  | nil => simp [num]
  | cons b l ih =>
    have hb : b.toNat < 2 := by cases b <;> decide
    simp only [num, List.length_cons, Nat.pow_succ]
    omega
theorem num_append (l m : List Bool) : num (l ++ m) = num l + num m * 2 ^ l.length := by
  induction l with
  | nil => simp [num]
  | cons b l ih =>
    simp only [List.cons_append, num, ih, List.length_cons, Nat.pow_succ]
    rw [Nat.mul_add, ← Nat.add_assoc, Nat.mul_comm 2 (num m * 2 ^ l.length), Nat.mul_assoc (num m)]
theorem bt_num (l : List Bool) (i : Nat) : bt (num l) i = (l.getD i false).toNat := by
  induction l generalizing i with
  | nil => simp [num, bt]
  | cons b l ih =>
    have hb : b.toNat < 2 := by cases b <;> decide
    cases i with
    | zero =>
      simp only [num, bt, Nat.pow_zero, Nat.div_one, List.getD_cons_zero]
      omega
    | succ i =>
      rw [bt_half, show num (b :: l) / 2 = num l from by simp only [num]; omega, ih, List.getD_cons_succ]
theorem testBit_num (l : List Bool) (i : Nat) : (num l).testBit i = l.getD i false := by
  rw [testBit_bt, bt_num]
  cases l.getD i false <;> rfl
/-- The first n bits of a number. -/
def bitsTo (X n : Nat) : List Bool := (List.range n).map fun i => X.testBit i
theorem bitsTo_length (X n : Nat) : (bitsTo X n).length = n := by simp [bitsTo]
theorem bitsTo_get (X n i : Nat) (h : i < n) : (bitsTo X n)[i]? = some (X.testBit i) := by simp [bitsTo, h]
theorem bitsTo_getD (X n i : Nat) : (bitsTo X n).getD i false = (decide (i < n) && X.testBit i) := by
  by_cases h : i < n
  · rw [List.getD_eq_getElem?_getD, bitsTo_get X n i h]; simp [h]
  · rw [List.getD_eq_getElem?_getD, List.getElem?_eq_none (by rw [bitsTo_length]; omega)]; simp [h]
theorem bitsTo_succ (X n : Nat) : bitsTo X (n + 1) = bitsTo X n ++ [X.testBit n] := by
  unfold bitsTo
  rw [List.range_succ, List.map_append]
  rfl
theorem num_bitsTo (X n : Nat) : num (bitsTo X n) = X % 2 ^ n := by
  apply eq_of_bt
  intro i
  rw [bt_num, bitsTo_getD, bt_mod, bt_testBit]
  by_cases h : i < n <;> simp [h]
theorem num_bitsTo_of (X n : Nat) (h : X < 2 ^ n) : num (bitsTo X n) = X := by rw [num_bitsTo, Nat.mod_eq_of_lt h]
theorem bitsTo_num (l : List Bool) : bitsTo (num l) l.length = l := by
  apply List.ext_getElem?
  intro i
  by_cases h : i < l.length
  · rw [bitsTo_get _ _ _ h, testBit_num, List.getD_eq_getElem?_getD, List.getElem?_eq_getElem h]; rfl
  · rw [List.getElem?_eq_none (by rw [bitsTo_length]; omega), List.getElem?_eq_none (by omega)]
theorem num_put (l : List Bool) (x k : Nat) (hx : x < 2 ^ k) : num (l ++ bitsTo x k) = num l + x * 2 ^ l.length := by
  rw [num_append, num_bitsTo_of x k hx]
theorem num_snoc (l : List Bool) (b : Bool) : num (l ++ [b]) = num l + b.toNat * 2 ^ l.length := by
  rw [num_append]
  simp [num]
/-- The bits of a list, as cells. -/
def bls (l : List Bool) : List Value := l.map Value.bool
theorem bls_length (l : List Bool) : (bls l).length = l.length := by simp [bls]
theorem bls_one (l : List Bool) : ∀ u ∈ bls l, u.oneCell' = true := by
  intro u hu
  obtain ⟨_, _, rfl⟩ := List.mem_map.1 hu
  rfl
theorem bls_append (l m : List Bool) : bls (l ++ m) = bls l ++ bls m := by simp [bls]
theorem bls_get (l : List Bool) (i : Nat) (h : i < l.length) : (bls l)[i]? = some (Value.bool (l.getD i false)) := by
  simp [bls, h]
end Bt
end Go.Proofs.YtfohldojcdhnhaaDoor
namespace Go.Proofs.YtfohldojcdhnhaaDoor
namespace Rk
open Wd Bt
/-- How many bits are 1 in the first k words of the block b. -/
def cn (X b k : Nat) : Nat := ones (X / 2 ^ (512 * b)) (64 * k)
theorem cn_le (X b k : Nat) : cn X b k ≤ 64 * k := ones_le _ _
theorem cn_zero (X b : Nat) : cn X b 0 = 0 := rfl
theorem ones_word (X a k : Nat) (hk : k ≤ 64) : ones (wd X a) k = ones (X / 2 ^ (64 * a)) k := ones_mod _ _ _ hk
theorem cn_succ (X b k : Nat) : cn X b (k + 1) = cn X b k + ones (wd X (8 * b + k)) 64 := by
  unfold cn
  rw [ones_word _ _ _ (Nat.le_refl _), show 64 * (k + 1) = 64 * k + 64 from by omega, ones_split, Nat.div_div_eq_div_mul, ← Nat.pow_add, show 512 * b + 64 * k = 64 * (8 * b + k) from by omega]
theorem ones_block (X b k : Nat) : ones X (512 * b + 64 * k) = ones X (512 * b) + cn X b k := ones_split _ _ _
/-- The counts ahead of the words 1 to k of the block b, side by side. -/
def pk (X b : Nat) : Nat → Nat
  | 0 => 0
  | k + 1 => pk X b k + cn X b (k + 1) * 2 ^ (9 * k)
theorem pk_zero (X b : Nat) : pk X b 0 = 0 := rfl
theorem pk_succ (X b k : Nat) : pk X b (k + 1) = pk X b k + cn X b (k + 1) * 2 ^ (9 * k) := rfl
theorem pk_lt (X b : Nat) : ∀ k, k ≤ 7 → pk X b k < 2 ^ (9 * k) := by
  intro k
  induction k with
  | zero => intro _; exact Nat.zero_lt_one
  | succ k ih =>
    intro hk
    have h1 := ih (by omega)
    have h2 := cn_le X b (k + 1)
    rw [pk_succ, show 9 * (k + 1) = 9 * k + 9 from by omega, Nat.pow_add]
    have h3 : cn X b (k + 1) + 1 ≤ 2 ^ 9 := by omega
    have h4 := Nat.mul_le_mul_right (2 ^ (9 * k)) h3
    rw [Nat.add_mul] at h4
    rw [Nat.mul_comm (2 ^ (9 * k))]
    omega
theorem pk_lt64 (X b k : Nat) (hk : k ≤ 7) : pk X b k < 18446744073709551616 :=
  Nat.lt_of_lt_of_le (pk_lt X b k hk) (Nat.le_trans (Nat.pow_le_pow_right (by decide) (show 9 * k ≤ 64 by omega)) (Nat.le_refl _))
theorem pk_field (X b j : Nat) : ∀ k, j < k → k ≤ 7 → pk X b k / 2 ^ (9 * j) % 2 ^ 9 = cn X b (j + 1) := by
  intro k
  induction k with
  | zero => intro h; omega
  | succ k ih =>
    intro h hk
    rw [pk_succ]
    have hp : 0 < 2 ^ (9 * j) := Nat.two_pow_pos _
    by_cases hj : j < k
    · rw [← ih hj (by omega)]
      have e : cn X b (k + 1) * 2 ^ (9 * k) = 2 ^ (9 * j) * (2 ^ 9 * (cn X b (k + 1) * 2 ^ (9 * (k - j - 1)))) := by
        have : 2 ^ (9 * k) = 2 ^ (9 * j) * 2 ^ 9 * 2 ^ (9 * (k - j - 1)) := by rw [← Nat.pow_add, ← Nat.pow_add]; congr 1; omega
        rw [this]
        ac_rfl
      rw [e, Nat.add_mul_div_left _ _ hp, Nat.add_mul_mod_self_left]
    · obtain rfl : j = k := by omega
      have h1 := pk_lt X b j (by omega)
      have h2 := cn_le X b (j + 1)
      rw [Nat.add_mul_div_right _ _ hp, Nat.div_eq_of_lt h1, Nat.zero_add, Nat.mod_eq_of_lt (by omega)]
/-- What Field tells of the counts. -/
theorem pk_fld (X b j : Nat) (hj : j < 8) : fld (pk X b 7) (((j : Int) - 1) * 9) 9 = cn X b j := by
  unfold fld
  rw [if_neg (by omega)]
  rcases Nat.eq_zero_or_pos j with rfl | h0
  · rw [if_pos (by omega), cn_zero]
    show pk X b 7 * 2 ^ 9 % 2 ^ 64 % 2 ^ 9 = 0
    rw [Nat.mod_mod_of_dvd _ (Nat.pow_dvd_pow 2 (by decide)), Nat.mul_mod_left]
  · rw [if_neg (by omega), show (((j : Int) - 1) * 9).toNat = 9 * (j - 1) from by omega, pk_field X b (j - 1) 7 (by omega) (by omega), show j - 1 + 1 = j from by omega]
/-- What the blocks and the word tell together. -/
theorem rank_eq (X i : Nat) : ones X (512 * (i / 512)) + cn X (i / 512) (i / 64 % 8) + ones (wd X (i / 64)) (i % 64) = ones X i := by
  rw [← ones_block, ones_word _ _ _ (by omega), show 512 * (i / 512) + 64 * (i / 64 % 8) = 64 * (i / 64) from by omega, ← ones_split, show 64 * (i / 64) + i % 64 = i from by omega]
end Rk
end Go.Proofs.YtfohldojcdhnhaaDoor
