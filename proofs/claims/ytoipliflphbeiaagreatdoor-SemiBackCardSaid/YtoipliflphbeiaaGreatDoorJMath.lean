/-
  Plain mathematics of rows of bits: a row of n bits as a number below 2 to the n; its words; what a Put adds; a field of it; a list of bits and its number. Of no program.
  Numbers of layer 3: how many bits of a row are 1 ahead of a place, told by blocks of 512 bits and words of 64; seven counts of 9 bits side by side in a number.
  Plain mathematics of parentheses: a row of bits as a number, 1 opens, 0 closes; stretches; the excess, the reach and the first place of an excess in a stretch, told by words; a row turned round. Of no program.
  Plain mathematics of a tree over parentheses, of no program: the stretches of its nodes, what is known of two of them side by side, which excess is met where, how many nodes there are.
  How a tree over parentheses is gone through, up and down, of no program: what holds on the way up and on the way down, by each of the two ways, and where it ends.
-/
import Derived.Test.YtoipliflphbeiaaGreatDoorJWdMath
namespace Go.Proofs.YtoipliflphbeiaaGreatDoor
namespace Bt
open Wd

/-- The word j of the number X. -/
def wd (X j : Nat) : Nat := X / 2 ^ (64 * j) % 2 ^ 64
theorem wd_lt (X j : Nat) : wd X j < 18446744073709551616 := Nat.mod_lt _ (by decide)
theorem wd_lt' (X j : Nat) : wd X j < 2 ^ 64 := Nat.mod_lt _ (by decide)
theorem bt_wd (X j i : Nat) : bt (wd X j) i = if i < 64 then bt X (64 * j + i) else 0 := by
  unfold wd; rw [bt_mod, bt_div]
theorem eq_of_bt {x y : Nat} (h : ∀ i, bt x i = bt y i) : x = y := by
  apply Nat.eq_of_testBit_eq
  intro i
  rw [testBit_bt, testBit_bt, h]
theorem wd_big (X n j : Nat) (h : X < 2 ^ n) (hj : n ≤ 64 * j) : wd X j = 0 := by
  unfold wd
  rw [Nat.div_eq_of_lt (Nat.lt_of_lt_of_le h (Nat.pow_le_pow_right (by decide) hj))]

/-- What a Put leaves. -/
theorem bt_put (X x n i : Nat) (hX : X < 2 ^ n) : bt (X + x * 2 ^ n) i = if i < n then bt X i else bt x (i - n) := by
  have e : X + x * 2 ^ n = (2 ^ n * x) ||| X := by
    rw [Nat.add_comm, Nat.mul_comm, Nat.two_pow_add_eq_or_of_lt hX]
  rw [bt_testBit, e, Nat.testBit_or, Nat.testBit_two_pow_mul]
  split
  · rename_i h
    rw [bt_testBit]
    simp [show ¬ n ≤ i from by omega]
  · rename_i h
    rw [Nat.testBit_lt_two_pow (Nat.lt_of_lt_of_le hX (Nat.pow_le_pow_right (by decide) (by omega : n ≤ i))), bt_testBit]
    simp [show n ≤ i from by omega]
theorem put_lt (X x n k : Nat) (hX : X < 2 ^ n) (hx : x < 2 ^ k) : X + x * 2 ^ n < 2 ^ (n + k) := by
  have h1 : x * 2 ^ n + 2 ^ n ≤ 2 ^ k * 2 ^ n := by
    have : (x + 1) * 2 ^ n ≤ 2 ^ k * 2 ^ n := Nat.mul_le_mul_right _ (by omega)
    rw [Nat.add_mul, Nat.one_mul] at this
    exact this
  rw [Nat.add_comm n k, Nat.pow_add]
  omega
theorem put_word (X x n j : Nat) (hX : X < 2 ^ n) (hj : 64 * (j + 1) ≤ n) : wd (X + x * 2 ^ n) j = wd X j := by
  apply eq_of_bt
  intro i
  rw [bt_wd, bt_wd]
  split
  · rw [bt_put X x n _ hX, if_pos (by omega)]
  · rfl
/-- The word that the last bits and the first of a Put make. -/
def mix (l x a : Nat) : Nat := l + x * 2 ^ a % 2 ^ 64
theorem bt_mix (l x a i : Nat) (hl : l < 2 ^ a) (ha : a ≤ 64) : bt (mix l x a) i = if i < a then bt l i else if i < 64 then bt x (i - a) else 0 := by
  have e : x * 2 ^ a % 2 ^ 64 = (x % 2 ^ (64 - a)) * 2 ^ a := by
    have h64 : 2 ^ 64 = 2 ^ (64 - a) * 2 ^ a := by rw [← Nat.pow_add]; congr 1; omega
    rw [h64, Nat.mul_mod_mul_right]
  unfold mix
  rw [e, bt_put l _ a i hl]
  split
  · rfl
  · rename_i h
    rw [bt_mod]
    by_cases h2 : i < 64
    · rw [if_pos (by omega), if_pos h2]
    · rw [if_neg (by omega), if_neg h2]
theorem mix_or (l x a : Nat) (hl : l < 2 ^ a) (ha : a ≤ 64) : l ||| (x * 2 ^ a % 2 ^ 64) = mix l x a := by
  have e : x * 2 ^ a % 2 ^ 64 = 2 ^ a * (x % 2 ^ (64 - a)) := by
    have h64 : 2 ^ 64 = 2 ^ (64 - a) * 2 ^ a := by rw [← Nat.pow_add]; congr 1; omega
    rw [h64, Nat.mul_mod_mul_right, Nat.mul_comm]
  unfold mix
  rw [e, Nat.add_comm l, Nat.two_pow_add_eq_or_of_lt hl, Nat.or_comm]
/-- The last word, as the builder keeps it. -/
def last (X n : Nat) : Nat := X / 2 ^ (64 * (n / 64))
theorem bt_last (X n i : Nat) : bt (last X n) i = bt X (64 * (n / 64) + i) := by unfold last; rw [bt_div]
theorem last_lt (X n : Nat) (hX : X < 2 ^ n) : last X n < 2 ^ (n % 64) := by
  unfold last
  rw [Nat.div_lt_iff_lt_mul (Nat.two_pow_pos _), ← Nat.pow_add]
  rw [show n % 64 + 64 * (n / 64) = n from by omega]
  exact hX
theorem last_lt64 (X n : Nat) (hX : X < 2 ^ n) : last X n < 18446744073709551616 :=
  Nat.lt_of_lt_of_le (last_lt X n hX) (Nat.le_trans (Nat.pow_le_pow_right (by decide) (by omega : n % 64 ≤ 64)) (by decide))
theorem put_mix (X x n : Nat) (hX : X < 2 ^ n) : wd (X + x * 2 ^ n) (n / 64) = mix (last X n) x (n % 64) := by
  apply eq_of_bt
  intro i
  rw [bt_wd, bt_mix _ _ _ _ (last_lt X n hX) (by omega), bt_last]
  by_cases h : i < 64
  · rw [if_pos h, bt_put X x n _ hX]
    by_cases h2 : i < n % 64
    · rw [if_pos h2, if_pos (by omega)]
    · rw [if_neg h2, if_neg (by omega), if_pos h]
      congr 1; omega
  · rw [if_neg h, if_neg (by omega), if_neg h]
/-- It stays below the word's end. -/
theorem put_last_in (X x n k : Nat) (hX : X < 2 ^ n) (hx : x < 2 ^ k) (h : n % 64 + k < 64) : last (X + x * 2 ^ n) (n + k) = mix (last X n) x (n % 64) := by
  apply eq_of_bt
  intro i
  rw [bt_last, bt_mix _ _ _ _ (last_lt X n hX) (by omega), bt_last, bt_put X x n _ hX, show (n + k) / 64 = n / 64 from by omega]
  by_cases h2 : i < n % 64
  · rw [if_pos h2, if_pos (by omega)]
  · rw [if_neg h2, if_neg (by omega)]
    by_cases h3 : i < 64
    · rw [if_pos h3]; congr 1; omega
    · rw [if_neg h3]
      exact bt_big x k _ hx (by omega)
theorem put_last_out (X x n k : Nat) (hX : X < 2 ^ n) (hk : k ≤ 64) (h : 64 ≤ n % 64 + k) : last (X + x * 2 ^ n) (n + k) = x / 2 ^ (64 - n % 64) := by
  apply eq_of_bt
  intro i
  rw [bt_last, bt_put X x n _ hX, bt_div, show (n + k) / 64 = n / 64 + 1 from by omega, if_neg (by omega)]
  congr 1; omega
theorem put_count_in (n k : Nat) (h : n % 64 + k < 64) : (n + k) / 64 = n / 64 := by omega
theorem put_count_out (n k : Nat) (hk : k ≤ 64) (h : 64 ≤ n % 64 + k) : (n + k) / 64 = n / 64 + 1 := by omega

/-- The words, as cells. -/
def wds (X c : Nat) : List Value := (List.range c).map fun j => Value.int .u64 ((wd X j : Nat) : Int)
theorem wds_length (X c : Nat) : (wds X c).length = c := by simp [wds]
theorem wds_get (X c j : Nat) (h : j < c) : (wds X c)[j]? = some (Value.int .u64 ((wd X j : Nat) : Int)) := by simp [wds, h]
theorem wds_congr (X Y c : Nat) (h : ∀ j, j < c → wd X j = wd Y j) : wds X c = wds Y c := by
  unfold wds
  apply List.map_congr_left
  intro j hj
  rw [h j (by simpa using hj)]
theorem wds_succ (X c : Nat) : wds X (c + 1) = wds X c ++ [Value.int .u64 ((wd X c : Nat) : Int)] := by
  unfold wds
  rw [List.range_succ, List.map_append]
  rfl
theorem wds_put (X x n c : Nat) (hX : X < 2 ^ n) (hc : c ≤ n / 64) : wds (X + x * 2 ^ n) c = wds X c :=
  wds_congr _ _ _ fun j hj => put_word X x n j hX (by omega)
theorem wds_one (X c : Nat) : ∀ u ∈ wds X c, u.oneCell' = true := by
  intro u hu
  obtain ⟨_, _, rfl⟩ := List.mem_map.1 hu
  rfl

/-- A field of a row: two words' parts. -/
theorem field_two (X a n : Nat) (hn : n ≤ 64) : (fld (wd X (a / 64)) ((a % 64 : Nat) : Int) n) ||| (fld (wd X (a / 64 + 1)) (((a % 64 : Nat) : Int) - 64) n) = X / 2 ^ a % 2 ^ n := by
  apply eq_of_bt
  intro i
  have hr : bt (X / 2 ^ a % 2 ^ n) i = if i < n then bt X (a + i) else 0 := by rw [bt_mod, bt_div]
  have h1 : bt (fld (wd X (a / 64)) ((a % 64 : Nat) : Int) n) i = if i < n then (if a % 64 + i < 64 then bt X (a + i) else 0) else 0 := by
    unfold fld
    rw [if_neg (by omega), if_neg (by omega), Int.toNat_natCast, bt_mod]
    split
    · rw [bt_div, bt_wd]
      split
      · congr 1; omega
      · rfl
    · rfl
  have h2 : bt (fld (wd X (a / 64 + 1)) (((a % 64 : Nat) : Int) - 64) n) i = if i < n then (if a % 64 + i < 64 then 0 else bt X (a + i)) else 0 := by
    by_cases h0 : a % 64 = 0
    · have e : fld (wd X (a / 64 + 1)) (((a % 64 : Nat) : Int) - 64) n = 0 := by unfold fld; rw [if_pos (by omega)]
      rw [e]
      have z : bt 0 i = 0 := by simp [bt]
      rw [z]
      split
      · rw [if_pos (by omega)]
      · rfl
    · unfold fld
      rw [if_neg (by omega), if_pos (by omega), show (-(((a % 64 : Nat) : Int) - 64)).toNat = 64 - a % 64 from by omega, bt_mod]
      split
      · rw [bt_mod]
        split
        · rw [bt_shl, bt_wd]
          by_cases h : a % 64 + i < 64
          · rw [if_neg (by omega), if_pos h]
          · rw [if_pos (by omega), if_neg h, if_pos (by omega)]
            congr 1; omega
        · omega
      · rfl
  rw [bt_testBit, Nat.testBit_or, testBit_bt, testBit_bt, h1, h2, hr]
  have hb := bt_lt X (a + i)
  by_cases hi : i < n
  · rw [if_pos hi, if_pos hi, if_pos hi]
    by_cases h : a % 64 + i < 64
    · rw [if_pos h, if_pos h]
      rcases (show bt X (a + i) = 0 ∨ bt X (a + i) = 1 from by omega) with e | e <;> rw [e] <;> rfl
    · rw [if_neg h, if_neg h]
      rcases (show bt X (a + i) = 0 ∨ bt X (a + i) = 1 from by omega) with e | e <;> rw [e] <;> rfl
  · rw [if_neg hi, if_neg hi, if_neg hi]
    rfl
/-- How many bits a word takes, against a number of bits. -/
theorem need_le (x n : Nat) (hx : x < 2 ^ 64) : needTo x 64 ≤ n ↔ x < 2 ^ n := by
  obtain ⟨h1, h2⟩ := needTo_spec x 64 hx
  constructor
  · intro h
    exact Nat.lt_of_lt_of_le h1 (Nat.pow_le_pow_right (by decide) h)
  · intro h
    by_cases h0 : x = 0
    · have hz : needTo 0 64 = 0 := by decide
      rw [h0, hz]; omega
    · obtain ⟨h3, h4⟩ := h2 h0
      rcases Nat.lt_or_ge n (needTo x 64) with hl | hl
      · have := Nat.pow_le_pow_right (show 0 < 2 by decide) (show n ≤ needTo x 64 - 1 by omega)
        omega
      · exact hl

/-- A list of bits, as a number. -/
def num : List Bool → Nat
  | [] => 0
  | b :: l => b.toNat + 2 * num l
theorem num_lt (l : List Bool) : num l < 2 ^ l.length := by
  induction l with
  | nil => simp [num]
  | cons b l ih =>
    have hb : b.toNat < 2 := by cases b <;> decide
    simp only [num, List.length_cons, Nat.pow_succ]
    omega
theorem num_append (l m : List Bool) : num (l ++ m) = num l + num m * 2 ^ l.length := by
  induction l with
  | nil => simp [num]
  | cons b l ih =>
    simp only [List.cons_append, num, ih, List.length_cons, Nat.pow_succ]
    rw [Nat.mul_add, ← Nat.add_assoc, Nat.mul_comm 2 (num m * 2 ^ l.length), Nat.mul_assoc (num m)]
theorem bt_num (l : List Bool) (i : Nat) : bt (num l) i = (l.getD i false).toNat := by
  induction l generalizing i with
  | nil => simp [num, bt]
  | cons b l ih =>
    have hb : b.toNat < 2 := by cases b <;> decide
    cases i with
    | zero =>
      simp only [num, bt, Nat.pow_zero, Nat.div_one, List.getD_cons_zero]
      omega
    | succ i =>
      rw [bt_half, show num (b :: l) / 2 = num l from by simp only [num]; omega, ih, List.getD_cons_succ]
theorem testBit_num (l : List Bool) (i : Nat) : (num l).testBit i = l.getD i false := by
  rw [testBit_bt, bt_num]
  cases l.getD i false <;> rfl
/-- The first n bits of a number. -/
def bitsTo (X n : Nat) : List Bool := (List.range n).map fun i => X.testBit i
theorem bitsTo_length (X n : Nat) : (bitsTo X n).length = n := by simp [bitsTo]
theorem bitsTo_get (X n i : Nat) (h : i < n) : (bitsTo X n)[i]? = some (X.testBit i) := by simp [bitsTo, h]
theorem bitsTo_getD (X n i : Nat) : (bitsTo X n).getD i false = (decide (i < n) && X.testBit i) := by
  by_cases h : i < n
  · rw [List.getD_eq_getElem?_getD, bitsTo_get X n i h]; simp [h]
  · rw [List.getD_eq_getElem?_getD, List.getElem?_eq_none (by rw [bitsTo_length]; omega)]; simp [h]
theorem bitsTo_succ (X n : Nat) : bitsTo X (n + 1) = bitsTo X n ++ [X.testBit n] := by
  unfold bitsTo
  rw [List.range_succ, List.map_append]
  rfl
theorem num_bitsTo (X n : Nat) : num (bitsTo X n) = X % 2 ^ n := by
  apply eq_of_bt
  intro i
  rw [bt_num, bitsTo_getD, bt_mod, bt_testBit]
  by_cases h : i < n <;> simp [h]
theorem num_bitsTo_of (X n : Nat) (h : X < 2 ^ n) : num (bitsTo X n) = X := by rw [num_bitsTo, Nat.mod_eq_of_lt h]
theorem bitsTo_num (l : List Bool) : bitsTo (num l) l.length = l := by
  apply List.ext_getElem?
  intro i
  by_cases h : i < l.length
  · rw [bitsTo_get _ _ _ h, testBit_num, List.getD_eq_getElem?_getD, List.getElem?_eq_getElem h]; rfl
  · rw [List.getElem?_eq_none (by rw [bitsTo_length]; omega), List.getElem?_eq_none (by omega)]
theorem num_put (l : List Bool) (x k : Nat) (hx : x < 2 ^ k) : num (l ++ bitsTo x k) = num l + x * 2 ^ l.length := by
  rw [num_append, num_bitsTo_of x k hx]
theorem num_snoc (l : List Bool) (b : Bool) : num (l ++ [b]) = num l + b.toNat * 2 ^ l.length := by
  rw [num_append]
  simp [num]
/-- The bits of a list, as cells. -/
def bls (l : List Bool) : List Value := l.map Value.bool
theorem bls_one (l : List Bool) : ∀ u ∈ bls l, u.oneCell' = true := by
  intro u hu
  obtain ⟨_, _, rfl⟩ := List.mem_map.1 hu
  rfl
theorem bls_append (l m : List Bool) : bls (l ++ m) = bls l ++ bls m := by simp [bls]
theorem bls_get (l : List Bool) (i : Nat) (h : i < l.length) : (bls l)[i]? = some (Value.bool (l.getD i false)) := by
  simp [bls, h]
end Bt
end Go.Proofs.YtoipliflphbeiaaGreatDoor
namespace Go.Proofs.YtoipliflphbeiaaGreatDoor
namespace Rk
open Wd Bt
/-- How many bits are 1 in the first k words of the block b. -/
def cn (X b k : Nat) : Nat := ones (X / 2 ^ (512 * b)) (64 * k)
theorem cn_le (X b k : Nat) : cn X b k ≤ 64 * k := ones_le _ _
theorem cn_zero (X b : Nat) : cn X b 0 = 0 := rfl
theorem ones_word (X a k : Nat) (hk : k ≤ 64) : ones (wd X a) k = ones (X / 2 ^ (64 * a)) k := ones_mod _ _ _ hk
theorem cn_succ (X b k : Nat) : cn X b (k + 1) = cn X b k + ones (wd X (8 * b + k)) 64 := by
  unfold cn
  rw [ones_word _ _ _ (Nat.le_refl _), show 64 * (k + 1) = 64 * k + 64 from by omega, ones_split, Nat.div_div_eq_div_mul, ← Nat.pow_add, show 512 * b + 64 * k = 64 * (8 * b + k) from by omega]
theorem ones_block (X b k : Nat) : ones X (512 * b + 64 * k) = ones X (512 * b) + cn X b k := ones_split _ _ _
/-- The counts ahead of the words 1 to k of the block b, side by side. -/
def pk (X b : Nat) : Nat → Nat
  | 0 => 0
  | k + 1 => pk X b k + cn X b (k + 1) * 2 ^ (9 * k)
theorem pk_succ (X b k : Nat) : pk X b (k + 1) = pk X b k + cn X b (k + 1) * 2 ^ (9 * k) := rfl
theorem pk_lt (X b : Nat) : ∀ k, k ≤ 7 → pk X b k < 2 ^ (9 * k) := by
  intro k
  induction k with
  | zero => intro _; exact Nat.zero_lt_one
  | succ k ih =>
    intro hk
    have h1 := ih (by omega)
    have h2 := cn_le X b (k + 1)
    rw [pk_succ, show 9 * (k + 1) = 9 * k + 9 from by omega, Nat.pow_add]
    have h3 : cn X b (k + 1) + 1 ≤ 2 ^ 9 := by omega
    have h4 := Nat.mul_le_mul_right (2 ^ (9 * k)) h3
    rw [Nat.add_mul] at h4
    rw [Nat.mul_comm (2 ^ (9 * k))]
    omega
theorem pk_lt64 (X b k : Nat) (hk : k ≤ 7) : pk X b k < 18446744073709551616 :=
  Nat.lt_of_lt_of_le (pk_lt X b k hk) (Nat.le_trans (Nat.pow_le_pow_right (by decide) (show 9 * k ≤ 64 by omega)) (Nat.le_refl _))
theorem pk_field (X b j : Nat) : ∀ k, j < k → k ≤ 7 → pk X b k / 2 ^ (9 * j) % 2 ^ 9 = cn X b (j + 1) := by
  intro k
  induction k with
  | zero => intro h; omega
  | succ k ih =>
    intro h hk
    rw [pk_succ]
    have hp : 0 < 2 ^ (9 * j) := Nat.two_pow_pos _
    by_cases hj : j < k
    · rw [← ih hj (by omega)]
      have e : cn X b (k + 1) * 2 ^ (9 * k) = 2 ^ (9 * j) * (2 ^ 9 * (cn X b (k + 1) * 2 ^ (9 * (k - j - 1)))) := by
        have : 2 ^ (9 * k) = 2 ^ (9 * j) * 2 ^ 9 * 2 ^ (9 * (k - j - 1)) := by rw [← Nat.pow_add, ← Nat.pow_add]; congr 1; omega
        rw [this]
        ac_rfl
      rw [e, Nat.add_mul_div_left _ _ hp, Nat.add_mul_mod_self_left]
    · obtain rfl : j = k := by omega
      have h1 := pk_lt X b j (by omega)
      have h2 := cn_le X b (j + 1)
      rw [Nat.add_mul_div_right _ _ hp, Nat.div_eq_of_lt h1, Nat.zero_add, Nat.mod_eq_of_lt (by omega)]
/-- What Field tells of the counts. -/
theorem pk_fld (X b j : Nat) (hj : j < 8) : fld (pk X b 7) (((j : Int) - 1) * 9) 9 = cn X b j := by
  unfold fld
  rw [if_neg (by omega)]
  rcases Nat.eq_zero_or_pos j with rfl | h0
  · rw [if_pos (by omega), cn_zero]
    show pk X b 7 * 2 ^ 9 % 2 ^ 64 % 2 ^ 9 = 0
    rw [Nat.mod_mod_of_dvd _ (Nat.pow_dvd_pow 2 (by decide)), Nat.mul_mod_left]
  · rw [if_neg (by omega), show (((j : Int) - 1) * 9).toNat = 9 * (j - 1) from by omega, pk_field X b (j - 1) 7 (by omega) (by omega), show j - 1 + 1 = j from by omega]
/-- What the blocks and the word tell together. -/
theorem rank_eq (X i : Nat) : ones X (512 * (i / 512)) + cn X (i / 512) (i / 64 % 8) + ones (wd X (i / 64)) (i % 64) = ones X i := by
  rw [← ones_block, ones_word _ _ _ (by omega), show 512 * (i / 512) + 64 * (i / 64 % 8) = 64 * (i / 64) from by omega, ← ones_split, show 64 * (i / 64) + i % 64 = i from by omega]
end Rk
end Go.Proofs.YtoipliflphbeiaaGreatDoor
namespace Go.Proofs.YtoipliflphbeiaaGreatDoor
namespace Pn
open Wd Bt

/-- The two places of a stretch, as they count. -/
def fr (n : Nat) (a : Int) : Nat := (min (max a 0) (n : Int)).toNat
def to (n : Nat) (a t : Int) : Nat := (min (max t (fr n a : Int)) (n : Int)).toNat
theorem fr_to (n : Nat) (a t : Int) : fr n a ≤ to n a t ∧ to n a t ≤ n := by unfold to fr; omega
theorem fr_cast (n : Nat) (a : Int) : min (max a 0) (n : Int) = (fr n a : Int) := by unfold fr; omega
theorem to_cast (n : Nat) (a t : Int) : min (max t (fr n a : Int)) (n : Int) = (to n a t : Int) := by unfold to fr; omega
/-- Two numbers with the same first n bits have the same excesses, reaches and places there. -/
theorem exc_congr (x y n : Nat) (h : ∀ i, i < n → bt x i = bt y i) : ∀ k, k ≤ n → exc x k = exc y k := by
  intro k hk
  unfold exc
  rw [ones_congr x y k fun i hi => h i (by omega)]
theorem lo_congr (x y n : Nat) (h : ∀ k, k ≤ n → exc x k = exc y k) : lo x n = lo y n ∧ hi x n = hi y n := by
  induction n with
  | zero => exact ⟨rfl, rfl⟩
  | succ n ih =>
    have := ih fun k hk => h k (by omega)
    by_cases h0 : n = 0
    · subst h0
      exact ⟨h 1 (by omega), h 1 (by omega)⟩
    · rw [lo_succ x n (by omega), lo_succ y n (by omega), hi_succ x n (by omega), hi_succ y n (by omega), this.1, this.2, h (n + 1) (by omega)]
      exact ⟨rfl, rfl⟩
/-- The word of k bits from a on. -/
theorem bt_word (Y a k i : Nat) (hi : i < k) : bt (Y / 2 ^ a % 2 ^ k) i = bt Y (a + i) := by rw [bt_mod, if_pos hi, bt_div]
theorem exc_word (Y a k j : Nat) (hj : j ≤ k) : exc (Y / 2 ^ a % 2 ^ k) j = exc Y (a + j) - exc Y a := by
  rw [exc_congr _ (Y / 2 ^ a) k (fun i hi => by rw [bt_word Y a k i hi, bt_div]) j hj, exc_split]
  omega
theorem exc_part (Y a j : Nat) : exc (Y / 2 ^ a) j = exc Y (a + j) - exc Y a := by
  rw [exc_split]
  omega

/-- One word on: the excess, the reach. -/
theorem exc_on (Y a k : Nat) : exc Y (a + k) = exc Y a + exc (Y / 2 ^ a % 2 ^ k) k := by
  rw [exc_word Y a k k (Nat.le_refl _)]
  omega
/-- The least, and the greatest, as they are carried along: n and -n of none. -/
def lo1 (Y n j : Nat) : Int := if j = 0 then (n : Int) else lo Y j
def hi1 (Y n j : Nat) : Int := if j = 0 then -(n : Int) else hi Y j
theorem lo_join (Y a k : Nat) (ha : 1 ≤ a) (hk : 1 ≤ k) : lo Y (a + k) = min (lo Y a) (exc Y a + lo (Y / 2 ^ a) k) ∧ hi Y (a + k) = max (hi Y a) (exc Y a + hi (Y / 2 ^ a) k) := by
  induction k with
  | zero => omega
  | succ k ih =>
    have e := exc_part Y a (k + 1)
    by_cases h0 : k = 0
    · subst h0
      rw [lo_succ Y a ha, hi_succ Y a ha]
      simp only [lo, hi, Nat.zero_add] at *
      omega
    · have := ih (by omega)
      rw [← Nat.add_assoc, lo_succ Y (a + k) (by omega), hi_succ Y (a + k) (by omega), lo_succ (Y / 2 ^ a) k (by omega), hi_succ (Y / 2 ^ a) k (by omega), this.1, this.2]
      rw [← Nat.add_assoc] at e
      omega
theorem lo1_on (Y n a k : Nat) (hk : 1 ≤ k) (h : a + k ≤ n) :
    min (lo1 Y n a) (exc Y a + lo (Y / 2 ^ a % 2 ^ k) k) = lo1 Y n (a + k) ∧ max (hi1 Y n a) (exc Y a + hi (Y / 2 ^ a % 2 ^ k) k) = hi1 Y n (a + k) := by
  have c := lo_congr (Y / 2 ^ a % 2 ^ k) (Y / 2 ^ a) k (exc_congr _ _ k fun i hi => by rw [bt_word Y a k i hi, bt_div])
  rw [c.1, c.2]
  unfold lo1 hi1
  by_cases h0 : a = 0
  · subst h0
    have b1 := lo_bounds (Y / 2 ^ 0) k
    have b2 := hi_bounds (Y / 2 ^ 0) k
    rw [if_pos rfl, if_pos rfl, if_neg (by omega), if_neg (by omega), exc_zero]
    simp only [Nat.pow_zero, Nat.div_one, Nat.zero_add] at *
    omega
  · have := lo_join Y a k (by omega) hk
    rw [if_neg h0, if_neg h0, if_neg (by omega), if_neg (by omega), this.1, this.2]
    exact ⟨rfl, rfl⟩
theorem lo1_bounds (Y n j : Nat) (h : j ≤ n) : (-(n : Int) ≤ lo1 Y n j ∧ lo1 Y n j ≤ n) ∧ -(n : Int) ≤ hi1 Y n j ∧ hi1 Y n j ≤ n := by
  unfold lo1 hi1
  have b1 := lo_bounds Y j
  have b2 := hi_bounds Y j
  by_cases h0 : j = 0
  · rw [if_pos h0, if_pos h0]; omega
  · rw [if_neg h0, if_neg h0]; omega
theorem lo1_end (Y n : Nat) : lo1 Y n n = lo Y n ∧ hi1 Y n n = hi Y n := by
  unfold lo1 hi1
  by_cases h0 : n = 0
  · subst h0; exact ⟨rfl, rfl⟩
  · rw [if_neg h0, if_neg h0]; exact ⟨rfl, rfl⟩

/-- What is known where a search goes on behind the first a bits: no beginning up to there has the excess. -/
def Unmet (Y : Nat) (d : Int) (a : Nat) : Prop := ∀ j, 1 ≤ j → j ≤ a → exc Y j ≠ d
theorem Unmet.zero (Y : Nat) (d : Int) : Unmet Y d 0 := fun j a b => by omega
/-- A whole word whose 1s, or 0s, don't come to it. -/
theorem ones_rest (x n k : Nat) (h : k ≤ n) : ones x k ≤ ones x n ∧ ones x n ≤ ones x k + (n - k) := by
  refine ⟨ones_mono x k n h, ?_⟩
  have := ones_split x k (n - k)
  rw [show k + (n - k) = n from by omega] at this
  have := ones_le (x / 2 ^ k) (n - k)
  omega
theorem Unmet.far {Y a : Nat} {d : Int} (h : Unmet Y d a) (hd : (ones (Y / 2 ^ a % 2 ^ 64) 64 : Int) < d - exc Y a ∨ d - exc Y a < (ones (Y / 2 ^ a % 2 ^ 64) 64 : Int) - 64) : Unmet Y d (a + 64) := by
  intro j j1 j2
  by_cases hj : j ≤ a
  · exact h j j1 hj
  · have e := exc_word Y a 64 (j - a) (by omega)
    rw [show a + (j - a) = j from by omega] at e
    have r := ones_rest (Y / 2 ^ a % 2 ^ 64) 64 (j - a) (by omega)
    have o := ones_le (Y / 2 ^ a % 2 ^ 64) (j - a)
    unfold exc at e
    unfold exc at hd ⊢
    generalize ones (Y / 2 ^ a % 2 ^ 64) (j - a) = p at *
    generalize ones (Y / 2 ^ a % 2 ^ 64) 64 = q at *
    omega
/-- What the searches answer: -1 of none. -/
def forth (X a b : Nat) (d : Int) : Int := if find (X / 2 ^ a) (b - a) d = 0 then -1 else (a : Int) + find (X / 2 ^ a) (b - a) d - 1
/-- The first b bits, turned round. -/
def rv (X b : Nat) : Nat := num (bitsTo X b).reverse
/-- Whether a row is balanced. -/
def bal (X n : Nat) : Bool := exc X n == 0 && find X n (-1) == 0
theorem bal_iff (X n : Nat) : bal X n = true ↔ exc X n = 0 ∧ ∀ j, 1 ≤ j → j ≤ n → 0 ≤ exc X j := by
  unfold bal
  rw [Bool.and_eq_true, beq_iff_eq, beq_iff_eq]
  constructor
  · rintro ⟨h1, h2⟩
    refine ⟨h1, fun j j1 j2 => ?_⟩
    have r := reach_exc X n j j1 j2
    have r2 := reach_exc X n n (by omega) (Nat.le_refl _)
    have p := find_pos X n (-1) (by omega)
    omega
  · rintro ⟨h1, h2⟩
    refine ⟨h1, find_eq (.inr ⟨rfl, fun j j1 j2 => ?_⟩)⟩
    have := h2 j j1 j2
    omega
theorem bal_lo (X n : Nat) : bal X n = (exc X n == 0 && decide (0 ≤ lo X n)) := by
  unfold bal
  by_cases h : exc X n = 0
  · rw [h]
    simp only [BEq.rfl, Bool.true_and]
    by_cases h0 : n = 0
    · subst h0; rfl
    · have p := find_pos X n (-1) (by omega)
      have r := reach_exc X n n (by omega) (Nat.le_refl _)
      by_cases hl : 0 ≤ lo X n
      · rw [decide_eq_true hl, show find X n (-1) = 0 from by omega]; rfl
      · rw [decide_eq_false hl]
        have : find X n (-1) ≠ 0 := by omega
        simpa using this
  · have : (exc X n == 0) = false := by simpa using h
    rw [this]; rfl
end Pn
end Go.Proofs.YtoipliflphbeiaaGreatDoor
namespace Go.Proofs.YtoipliflphbeiaaGreatDoor
namespace Mx
open Wd
/-- The least, and the greatest, excess of the beginnings of k bits but the whole. -/
def al (Y k : Nat) : Int := min 0 (lo Y (k - 1))
def ah (Y k : Nat) : Int := max 0 (hi Y (k - 1))
theorem lo_pre (Y a : Nat) (ha : 1 ≤ a) : min 0 (lo Y a) = min (min 0 (lo Y (a - 1))) (exc Y a) ∧ max 0 (hi Y a) = max (max 0 (hi Y (a - 1))) (exc Y a) := by
  by_cases h1 : a = 1
  · subst h1
    show min 0 (exc Y 1) = min (min 0 0) (exc Y 1) ∧ max 0 (exc Y 1) = max (max 0 0) (exc Y 1)
    omega
  · have e1 := lo_succ Y (a - 1) (by omega)
    have e2 := hi_succ Y (a - 1) (by omega)
    rw [show a - 1 + 1 = a from by omega] at e1 e2
    omega
theorem al_join (Y a k : Nat) (ha : 1 ≤ a) (hk : 1 ≤ k) : al Y (a + k) = min (al Y a) (exc Y a + al (Y / 2 ^ a) k) ∧ ah Y (a + k) = max (ah Y a) (exc Y a + ah (Y / 2 ^ a) k) := by
  unfold al ah
  obtain ⟨p1, p2⟩ := lo_pre Y a ha
  by_cases h1 : k = 1
  · subst h1
    rw [show a + 1 - 1 = a from by omega, show (1 : Nat) - 1 = 0 from rfl, p1, p2]
    show _ = min _ (exc Y a + min 0 0) ∧ _ = max _ (exc Y a + max 0 0)
    omega
  · obtain ⟨j1, j2⟩ := Pn.lo_join Y a (k - 1) ha (by omega)
    rw [show a + (k - 1) = a + k - 1 from by omega] at j1 j2
    rw [j1, j2]
    omega
/-- A node's stretch: the i-th one of so many bits; it begins at i * W. -/
def en (n W i : Nat) : Nat := min ((i + 1) * W) n
def nx (X n W i : Nat) : Int := exc (X / 2 ^ (i * W)) (en n W i - i * W)
def nl (X n W i : Nat) : Int := lo (X / 2 ^ (i * W)) (en n W i - i * W)
def nh (X n W i : Nat) : Int := hi (X / 2 ^ (i * W)) (en n W i - i * W)
def ml (X n W i : Nat) : Int := al (X / 2 ^ (i * W)) (en n W i - i * W)
def mh (X n W i : Nat) : Int := ah (X / 2 ^ (i * W)) (en n W i - i * W)
theorem en_le (n W i : Nat) : en n W i ≤ n := by unfold en; omega
theorem en_lt (n W i : Nat) (hW : 0 < W) (h : i * W < n) : i * W < en n W i := by
  unfold en
  rw [Nat.add_mul]
  omega
theorem bounds (X n W i : Nat) : (-(n : Int) ≤ nx X n W i ∧ nx X n W i ≤ n) ∧ (-(n : Int) ≤ nl X n W i ∧ nl X n W i ≤ n) ∧ (-(n : Int) ≤ nh X n W i ∧ nh X n W i ≤ n) ∧ (-(n : Int) ≤ ml X n W i ∧ ml X n W i ≤ n) ∧ (-(n : Int) ≤ mh X n W i ∧ mh X n W i ≤ n) := by
  have h := en_le n W i
  unfold nx nl nh ml mh al ah
  have h1 := exc_bounds (X / 2 ^ (i * W)) (en n W i - i * W)
  have h2 := lo_bounds (X / 2 ^ (i * W)) (en n W i - i * W)
  have h3 := hi_bounds (X / 2 ^ (i * W)) (en n W i - i * W)
  have h4 := lo_bounds (X / 2 ^ (i * W)) (en n W i - i * W - 1)
  have h5 := hi_bounds (X / 2 ^ (i * W)) (en n W i - i * W - 1)
  omega
/-- One that stands alone is the one above it. -/
theorem lone (X n W i : Nat) (h : n ≤ (2 * i + 1) * W) : nx X n (2 * W) i = nx X n W (2 * i) ∧ nl X n (2 * W) i = nl X n W (2 * i) ∧ nh X n (2 * W) i = nh X n W (2 * i) ∧ ml X n (2 * W) i = ml X n W (2 * i) ∧ mh X n (2 * W) i = mh X n W (2 * i) ∧ en n (2 * W) i = en n W (2 * i) := by
  have e1 : i * (2 * W) = 2 * i * W := by rw [← Nat.mul_assoc, Nat.mul_comm i 2]
  have e2 : en n (2 * W) i = en n W (2 * i) := by
    unfold en
    have : (i + 1) * (2 * W) = (2 * i + 1) * W + W := by
      rw [← Nat.mul_assoc, ← Nat.succ_mul]; congr 1; omega
    omega
  unfold nx nl nh ml mh
  rw [e1, e2]
  exact ⟨rfl, rfl, rfl, rfl, rfl, rfl⟩
theorem two (X n W i : Nat) (hW : 0 < W) (h : (2 * i + 1) * W < n) :
    nx X n (2 * W) i = nx X n W (2 * i) + nx X n W (2 * i + 1) ∧
    nl X n (2 * W) i = min (nl X n W (2 * i)) (nx X n W (2 * i) + nl X n W (2 * i + 1)) ∧
    nh X n (2 * W) i = max (nh X n W (2 * i)) (nx X n W (2 * i) + nh X n W (2 * i + 1)) ∧
    ml X n (2 * W) i = min (ml X n W (2 * i)) (nx X n W (2 * i) + ml X n W (2 * i + 1)) ∧
    mh X n (2 * W) i = max (mh X n W (2 * i)) (nx X n W (2 * i) + mh X n W (2 * i + 1)) := by
  have e1 : i * (2 * W) = 2 * i * W := by rw [← Nat.mul_assoc, Nat.mul_comm i 2]
  have e3 : (2 * i + 1) * W = 2 * i * W + W := Nat.succ_mul _ _
  have e2 : en n W (2 * i) - 2 * i * W = W := by unfold en; omega
  have e4 := en_lt n W (2 * i + 1) hW h
  have e5 : en n (2 * W) i = en n W (2 * i + 1) := by
    unfold en
    have : (i + 1) * (2 * W) = (2 * i + 1 + 1) * W := by
      rw [← Nat.mul_assoc]; congr 1; omega
    omega
  have e6 : en n (2 * W) i - i * (2 * W) = W + (en n W (2 * i + 1) - (2 * i + 1) * W) := by omega
  have e7 : X / 2 ^ ((2 * i + 1) * W) = X / 2 ^ (2 * i * W) / 2 ^ W := by rw [Nat.div_div_eq_div_mul, ← Nat.pow_add, e3]
  unfold nx nl nh ml mh
  rw [e6, e1, e2, e7]
  generalize X / 2 ^ (2 * i * W) = Y at *
  have hk : 1 ≤ en n W (2 * i + 1) - (2 * i + 1) * W := by omega
  generalize en n W (2 * i + 1) - (2 * i + 1) * W = k at *
  obtain ⟨l1, l2⟩ := Pn.lo_join Y W k hW hk
  obtain ⟨m1, m2⟩ := al_join Y W k hW hk
  exact ⟨exc_split Y W k, l1, l2, m1, m2⟩
/-- How wide a node of a level is; how many nodes a level has. -/
def wd (k : Nat) : Nat := 512 * 2 ^ k
def ln (n k : Nat) : Nat := (n + wd k - 1) / wd k
theorem wd_pos (k : Nat) : 0 < wd k := by unfold wd; have := Nat.two_pow_pos k; omega
theorem wd_succ (k : Nat) : wd (k + 1) = 2 * wd k := by unfold wd; rw [Nat.pow_succ]; omega
theorem ln_iff (n k i : Nat) : i < ln n k ↔ i * wd k < n := by
  have hW := wd_pos k
  unfold ln
  generalize wd k = W at *
  rw [Nat.lt_iff_add_one_le, Nat.le_div_iff_mul_le hW, Nat.add_mul]
  omega
theorem ln_succ (n k : Nat) : ln n (k + 1) = (ln n k + 1) / 2 := by
  have h : ∀ i, i < ln n (k + 1) ↔ i < (ln n k + 1) / 2 := fun i => by
    rw [ln_iff, wd_succ, show i * (2 * wd k) = 2 * i * wd k from by rw [← Nat.mul_assoc, Nat.mul_comm i 2], ← ln_iff]
    omega
  have h1 := h (ln n (k + 1))
  have h2 := h ((ln n k + 1) / 2)
  omega
theorem ln_zero (n : Nat) : ln n 0 = (n + 511) / 512 := by
  unfold ln wd
  simp
/-- What so many levels take, by the first one's nodes. -/
def sz (n : Nat) : Nat → Nat
  | 0 => 0
  | k + 1 => sz n k + (192 + ln n k * 320)
/-- What all levels from one on take. -/
theorem sz_bound (n : Nat) : ∀ (m k j : Nat), ln n k ≤ m → (∀ i, k ≤ i → i + 1 < k + j → 1 < ln n i) → sz n (k + j) ≤ sz n k + (192 + 320 * ln n k) + 768 * (ln n k - 1) + 192 * (if ln n k ≤ 1 then 0 else ln n k) := by
  intro m
  induction m with
  | zero =>
    intro k j hm hj
    rcases j with _ | _ | j
    · rw [Nat.add_zero]; omega
    · show sz n k + (192 + ln n k * 320) ≤ _
      omega
    · have := hj k (Nat.le_refl _) (by omega)
      omega
  | succ m ih =>
    intro k j hm hj
    rcases j with _ | j
    · rw [Nat.add_zero]; omega
    · by_cases hk : ln n k ≤ 1
      · rcases j with _ | j
        · show sz n k + (192 + ln n k * 320) ≤ _
          omega
        · have := hj k (Nat.le_refl _) (by omega)
          omega
      · have hs := ln_succ n k
        have := ih (k + 1) j (by omega) (fun i i1 i2 => hj i (by omega) (by omega))
        rw [show k + (j + 1) = k + 1 + j from by omega]
        have e : sz n (k + 1) = sz n k + (192 + ln n k * 320) := rfl
        rw [e, hs] at this
        rw [if_neg hk]
        split at this <;> omega
theorem sz_le (n j : Nat) (h : ∀ i, i + 1 < j → 1 < ln n i) : sz n j ≤ 3 * n + 2048 := by
  have := sz_bound n (ln n 0) 0 j (Nat.le_refl _) (fun i _ i2 => h i (by omega))
  rw [Nat.zero_add] at this
  have h0 : sz n 0 = 0 := rfl
  have hl := ln_zero n
  split at this <;> omega
end Mx
end Go.Proofs.YtoipliflphbeiaaGreatDoor
namespace Go.Proofs.YtoipliflphbeiaaGreatDoor
namespace Mx
open Wd
/-- The least place of a stretch up to and with which the excess is T; -1, if there is none. -/
def Fo (X a b : Nat) (T k : Int) : Prop := (k = -1 ∧ ∀ j, a < j → j ≤ b → exc X j ≠ T) ∨ ∃ p : Nat, k = p ∧ a ≤ p ∧ p < b ∧ exc X (p + 1) = T ∧ ∀ j, a < j → j ≤ p → exc X j ≠ T
/-- The greatest place of a stretch ahead of which the excess is T; -1, if there is none. -/
def Ba (X a b : Nat) (T k : Int) : Prop := (k = -1 ∧ ∀ j, a ≤ j → j < b → exc X j ≠ T) ∨ ∃ p : Nat, k = p ∧ a ≤ p ∧ p < b ∧ exc X p = T ∧ ∀ j, p < j → j < b → exc X j ≠ T
theorem Fo.unique {X a b : Nat} {T k l : Int} (h1 : Fo X a b T k) (h2 : Fo X a b T l) : k = l := by
  rcases h1 with ⟨rfl, h1⟩ | ⟨p, rfl, p1, p2, p3, p4⟩
  · rcases h2 with ⟨rfl, h2⟩ | ⟨q, rfl, q1, q2, q3, q4⟩
    · rfl
    · exact absurd q3 (h1 (q + 1) (by omega) (by omega))
  · rcases h2 with ⟨rfl, h2⟩ | ⟨q, rfl, q1, q2, q3, q4⟩
    · exact absurd p3 (h2 (p + 1) (by omega) (by omega))
    · rcases Nat.lt_trichotomy p q with h | h | h
      · exact absurd p3 (q4 (p + 1) (by omega) (by omega))
      · rw [h]
      · exact absurd q3 (p4 (q + 1) (by omega) (by omega))
theorem Ba.unique {X a b : Nat} {T k l : Int} (h1 : Ba X a b T k) (h2 : Ba X a b T l) : k = l := by
  rcases h1 with ⟨rfl, h1⟩ | ⟨p, rfl, p1, p2, p3, p4⟩
  · rcases h2 with ⟨rfl, h2⟩ | ⟨q, rfl, q1, q2, q3, q4⟩
    · rfl
    · exact absurd q3 (h1 q (by omega) (by omega))
  · rcases h2 with ⟨rfl, h2⟩ | ⟨q, rfl, q1, q2, q3, q4⟩
    · exact absurd p3 (h2 p (by omega) (by omega))
    · rcases Nat.lt_trichotomy p q with h | h | h
      · exact absurd q3 (p4 q (by omega) (by omega))
      · rw [h]
      · exact absurd p3 (q4 p (by omega) (by omega))
theorem forth_spec (X a b : Nat) (d : Int) (h : a ≤ b) : Fo X a b (exc X a + d) (Pn.forth X a b d) := by
  unfold Pn.forth
  have hs := find_spec (X / 2 ^ a) (b - a) d
  have hle := find_le (X / 2 ^ a) (b - a) d
  generalize find (X / 2 ^ a) (b - a) d = f at *
  rcases hs with ⟨h1, h2, h3, h4⟩ | ⟨h1, h2⟩
  · rw [if_neg (by omega)]
    refine .inr ⟨a + f - 1, by omega, by omega, by omega, ?_, fun j j1 j2 => ?_⟩
    · rw [Pn.exc_part] at h3
      rw [show a + f - 1 + 1 = a + f from by omega]
      omega
    · have := h4 (j - a) (by omega) (by omega)
      rw [Pn.exc_part, show a + (j - a) = j from by omega] at this
      omega
  · rw [if_pos h1]
    refine .inl ⟨rfl, fun j j1 j2 => ?_⟩
    have := h2 (j - a) (by omega) (by omega)
    rw [Pn.exc_part, show a + (j - a) = j from by omega] at this
    omega
theorem en_last (n W i : Nat) (h : n ≤ (i + 1) * W) : en n W i = n := by unfold en; omega
end Mx
end Go.Proofs.YtoipliflphbeiaaGreatDoor
