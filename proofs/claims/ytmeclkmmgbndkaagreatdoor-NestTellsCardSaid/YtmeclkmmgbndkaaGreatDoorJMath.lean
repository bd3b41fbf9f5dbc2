/-
  Plain mathematics of rows of bits: a row of n bits as a number below 2 to the n; its words; what a Put adds; a field of it; a list of bits and its number. Of no program.
  Plain mathematics of parentheses: a row of bits as a number, 1 opens, 0 closes; stretches; the excess, the reach and the first place of an excess in a stretch, told by words; a row turned round. Of no program.
  Plain mathematics of a tree over parentheses, of no program: the stretches of its nodes, what is known of two of them side by side, which excess is met where, how many nodes there are.
  How a tree over parentheses is gone through, up and down, of no program: what holds on the way up and on the way down, by each of the two ways, and where it ends.
  Numbers of layer 3: how many bits of a row are 1 ahead of a place, told by blocks of 512 bits and words of 64; seven counts of 9 bits side by side in a number.
-/
import Derived.Test.YtmeclkmmgbndkaaGreatDoorJWdMath
namespace Go.Proofs.YtmeclkmmgbndkaaGreatDoor
namespace Bt
open Wd

/-- The word j of the number X. -/
def wd (X j : Nat) : Nat := X / 2 ^ (64 * j) % 2 ^ 64
theorem wd_lt (X j : Nat) : wd X j < 18446744073709551616 := Nat.mod_lt _ (by decide)
theorem wd_lt' (X j : Nat) : wd X j < 2 ^ 64 := Nat.mod_lt _ (by decide)
theorem bt_wd (X j i : Nat) : bt (wd X j) i = if i < 64 then bt X (64 * j + i) else 0 := by
  unfold wd; rw [bt_mod, bt_div]
theorem eq_of_bt {x y : Nat} (h : ∀ i, bt x i = bt y i) : x = y := by
  apply Nat.eq_of_testBit_eq
  intro i
  rw [testBit_bt, testBit_bt, h]
theorem wd_big (X n j : Nat) (h : X < 2 ^ n) (hj : n ≤ 64 * j) : wd X j = 0 := by
  unfold wd
  rw [Nat.div_eq_of_lt (Nat.lt_of_lt_of_le h (Nat.pow_le_pow_right (by decide) hj))]

/-- What a Put leaves. -/
theorem bt_put (X x n i : Nat) (hX : X < 2 ^ n) : bt (X + x * 2 ^ n) i = if i < n then bt X i else bt x (i - n) := by
  have e : X + x * 2 ^ n = (2 ^ n * x) ||| X := by
    rw [Nat.add_comm, Nat.mul_comm, Nat.two_pow_add_eq_or_of_lt hX]
  rw [bt_testBit, e, Nat.testBit_or, Nat.testBit_two_pow_mul]
  split
  · rename_i h
    rw [bt_testBit]
    simp [show ¬ n ≤ i from by omega]
  · rename_i h
    rw [Nat.testBit_lt_two_pow (Nat.lt_of_lt_of_le hX (Nat.pow_le_pow_right (by decide) (by omega : n ≤ i))), bt_testBit]
    simp [show n ≤ i from by omega]
theorem put_lt (X x n k : Nat) (hX : X < 2 ^ n) (hx : x < 2 ^ k) : X + x * 2 ^ n < 2 ^ (n + k) := by
  have h1 : x * 2 ^ n + 2 ^ n ≤ 2 ^ k * 2 ^ n := by
    have : (x + 1) * 2 ^ n ≤ 2 ^ k * 2 ^ n := Nat.mul_le_mul_right _ (by omega)
    rw [Nat.add_mul, Nat.one_mul] at this
    exact this
  rw [Nat.add_comm n k, Nat.pow_add]
  omega
theorem put_word (X x n j : Nat) (hX : X < 2 ^ n) (hj : 64 * (j + 1) ≤ n) : wd (X + x * 2 ^ n) j = wd X j := by
  apply eq_of_bt
  intro i
  rw [bt_wd, bt_wd]
  split
  · rw [bt_put X x n _ hX, if_pos (by omega)]
  · rfl
/-- The word that the last bits and the first of a Put make. -/
def mix (l x a : Nat) : Nat := l + x * 2 ^ a % 2 ^ 64
theorem bt_mix (l x a i : Nat) (hl : l < 2 ^ a) (ha : a ≤ 64) : bt (mix l x a) i = if i < a then bt l i else if i < 64 then bt x (i - a) else 0 := by
  have e : x * 2 ^ a % 2 ^ 64 = (x % 2 ^ (64 - a)) * 2 ^ a := by
    have h64 : 2 ^ 64 = 2 ^ (64 - a) * 2 ^ a := by rw [← Nat.pow_add]; congr 1; omega
    rw [h64, Nat.mul_mod_mul_right]
  unfold mix
  rw [e, bt_put l _ a i hl]
  split
  · rfl
  · rename_i h
    rw [bt_mod]
    by_cases h2 : i < 64
    · rw [if_pos (by omega), if_pos h2]
    · rw [if_neg (by omega), if_neg h2]
theorem mix_or (l x a : Nat) (hl : l < 2 ^ a) (ha : a ≤ 64) : l ||| (x * 2 ^ a % 2 ^ 64) = mix l x a := by
  have e : x * 2 ^ a % 2 ^ 64 = 2 ^ a * (x % 2 ^ (64 - a)) := by
    have h64 : 2 ^ 64 = 2 ^ (64 - a) * 2 ^ a := by rw [← Nat.pow_add]; congr 1; omega
    rw [h64, Nat.mul_mod_mul_right, Nat.mul_comm]
  unfold mix
  rw [e, Nat.add_comm l, Nat.two_pow_add_eq_or_of_lt hl, Nat.or_comm]
/-- The last word, as the builder keeps it. -/
def last (X n : Nat) : Nat := X / 2 ^ (64 * (n / 64))
theorem bt_last (X n i : Nat) : bt (last X n) i = bt X (64 * (n / 64) + i) := by unfold last; rw [bt_div]
theorem last_lt (X n : Nat) (hX : X < 2 ^ n) : last X n < 2 ^ (n % 64) := by
  unfold last
  rw [Nat.div_lt_iff_lt_mul (Nat.two_pow_pos _), ← Nat.pow_add]
  rw [show n % 64 + 64 * (n / 64) = n from by omega]
  exact hX
theorem last_lt64 (X n : Nat) (hX : X < 2 ^ n) : last X n < 18446744073709551616 :=
  Nat.lt_of_lt_of_le (last_lt X n hX) (Nat.le_trans (Nat.pow_le_pow_right (by decide) (by omega : n % 64 ≤ 64)) (by decide))
theorem put_mix (X x n : Nat) (hX : X < 2 ^ n) : wd (X + x * 2 ^ n) (n / 64) = mix (last X n) x (n % 64) := by
  apply eq_of_bt
  intro i
  rw [bt_wd, bt_mix _ _ _ _ (last_lt X n hX) (by omega), bt_last]
  by_cases h : i < 64
  · rw [if_pos h, bt_put X x n _ hX]
    by_cases h2 : i < n % 64
    · rw [if_pos h2, if_pos (by omega)]
    · rw [if_neg h2, if_neg (by omega), if_pos h]
      congr 1; omega
  · rw [if_neg h, if_neg (by omega), if_neg h]
/-- It stays below the word's end. -/
theorem put_last_in (X x n k : Nat) (hX : X < 2 ^ n) (hx : x < 2 ^ k) (h : n % 64 + k < 64) : last (X + x * 2 ^ n) (n + k) = mix (last X n) x (n % 64) := by
  apply eq_of_bt
  intro i
  rw [bt_last, bt_mix _ _ _ _ (last_lt X n hX) (by omega), bt_last, bt_put X x n _ hX, show (n + k) / 64 = n / 64 from by omega]
  by_cases h2 : i < n % 64
  · rw [if_pos h2, if_pos (by omega)]
  · rw [if_neg h2, if_neg (by omega)]
    by_cases h3 : i < 64
    · rw [if_pos h3]; congr 1; omega
    · rw [if_neg h3]
      exact bt_big x k _ hx (by omega)
theorem put_last_out (X x n k : Nat) (hX : X < 2 ^ n) (hk : k ≤ 64) (h : 64 ≤ n % 64 + k) : last (X + x * 2 ^ n) (n + k) = x / 2 ^ (64 - n % 64) := by
  apply eq_of_bt
  intro i
  rw [bt_last, bt_put X x n _ hX, bt_div, show (n + k) / 64 = n / 64 + 1 from by omega, if_neg (by omega)]
  congr 1; omega
theorem put_count_in (n k : Nat) (h : n % 64 + k < 64) : (n + k) / 64 = n / 64 := by omega
theorem put_count_out (n k : Nat) (hk : k ≤ 64) (h : 64 ≤ n % 64 + k) : (n + k) / 64 = n / 64 + 1 := by omega

/-- The words, as cells. -/
def wds (X c : Nat) : List Value := (List.range c).map fun j => Value.int .u64 ((wd X j : Nat) : Int)
theorem wds_length (X c : Nat) : (wds X c).length = c := by simp [wds]
theorem wds_get (X c j : Nat) (h : j < c) : (wds X c)[j]? = some (Value.int .u64 ((wd X j : Nat) : Int)) := by simp [wds, h]
theorem wds_congr (X Y c : Nat) (h : ∀ j, j < c → wd X j = wd Y j) : wds X c = wds Y c := by
  unfold wds
  apply List.map_congr_left
  intro j hj
  rw [h j (by simpa using hj)]
theorem wds_succ (X c : Nat) : wds X (c + 1) = wds X c ++ [Value.int .u64 ((wd X c : Nat) : Int)] := by
  unfold wds
  rw [List.range_succ, List.map_append]
  rfl
theorem wds_put (X x n c : Nat) (hX : X < 2 ^ n) (hc : c ≤ n / 64) : wds (X + x * 2 ^ n) c = wds X c :=
  wds_congr _ _ _ fun j hj => put_word X x n j hX (by omega)
theorem wds_one (X c : Nat) : ∀ u ∈ wds X c, u.oneCell' = true := by
  intro u hu
  obtain ⟨_, _, rfl⟩ := List.mem_map.1 hu
  rfl

/-- A field of a row: two words' parts. -/
theorem field_two (X a n : Nat) (hn : n ≤ 64) : (fld (wd X (a / 64)) ((a % 64 : Nat) : Int) n) ||| (fld (wd X (a / 64 + 1)) (((a % 64 : Nat) : Int) - 64) n) = X / 2 ^ a % 2 ^ n := by
  apply eq_of_bt
  intro i
  have hr : bt (X / 2 ^ a % 2 ^ n) i = if i < n then bt X (a + i) else 0 := by rw [bt_mod, bt_div]
  have h1 : bt (fld (wd X (a / 64)) ((a % 64 : Nat) : Int) n) i = if i < n then (if a % 64 + i < 64 then bt X (a + i) else 0) else 0 := by
    unfold fld
    rw [if_neg (by omega), if_neg (by omega), Int.toNat_natCast, bt_mod]
    split
    · rw [bt_div, bt_wd]
      split
      · congr 1; omega
      · rfl
    · rfl
  have h2 : bt (fld (wd X (a / 64 + 1)) (((a % 64 : Nat) : Int) - 64) n) i = if i < n then (if a % 64 + i < 64 then 0 else bt X (a + i)) else 0 := by
    by_cases h0 : a % 64 = 0
    · have e : fld (wd X (a / 64 + 1)) (((a % 64 : Nat) : Int) - 64) n = 0 := by unfold fld; rw [if_pos (by omega)]
      rw [e]
      have z : bt 0 i = 0 := by simp [bt]
      rw [z]
      split
      · rw [if_pos (by omega)]
      · rfl
    · unfold fld
      rw [if_neg (by omega), if_pos (by omega), show (-(((a % 64 : Nat) : Int) - 64)).toNat = 64 - a % 64 from by omega, bt_mod]
      split
      · rw [bt_mod]
        split
        · rw [bt_shl, bt_wd]
          by_cases h : a % 64 + i < 64
          · rw [if_neg (by omega), if_pos h]
          · rw [if_pos (by omega), if_neg h, if_pos (by omega)]
            congr 1; omega
        · omega
      · rfl
  rw [bt_testBit, Nat.testBit_or, testBit_bt, testBit_bt, h1, h2, hr]
  have hb := bt_lt X (a + i)
  by_cases hi : i < n
  · rw [if_pos hi, if_pos hi, if_pos hi]
    by_cases h : a % 64 + i < 64
    · rw [if_pos h, if_pos h]
      rcases (show bt X (a + i) = 0 ∨ bt X (a + i) = 1 from by omega) with e | e <;> rw [e] <;> rfl
    · rw [if_neg h, if_neg h]
      rcases (show bt X (a + i) = 0 ∨ bt X (a + i) = 1 from by omega) with e | e <;> rw [e] <;> rfl
  · rw [if_neg hi, if_neg hi, if_neg hi]
    rfl
theorem get_one (X i : Nat) : fld (wd X (i / 64)) ((i % 64 : Nat) : Int) 1 = bt X i := by
  unfold fld
  rw [if_neg (by omega), if_neg (by omega), Int.toNat_natCast, Nat.pow_one]
  show bt (wd X (i / 64)) (i % 64) = _
  rw [bt_wd, if_pos (by omega)]
  congr 1; omega

/-- How many bits a word takes, against a number of bits. -/
theorem need_le (x n : Nat) (hx : x < 2 ^ 64) : needTo x 64 ≤ n ↔ x < 2 ^ n := by
  obtain ⟨h1, h2⟩ := needTo_spec x 64 hx
  constructor
  · intro h
    exact Nat.lt_of_lt_of_le h1 (Nat.pow_le_pow_right (by decide) h)
  · intro h
    by_cases h0 : x = 0
    · have hz : needTo 0 64 = 0 := by decide
      rw [h0, hz]; omega
    · obtain ⟨h3, h4⟩ := h2 h0
      rcases Nat.lt_or_ge n (needTo x 64) with hl | hl
      · have := Nat.pow_le_pow_right (show 0 < 2 by decide) (show n ≤ needTo x 64 - 1 by omega)
        omega
      · exact hl

/-- A list of bits, as a number. -/
def num : List Bool → Nat
  | [] => 0
  | b :: l => b.toNat + 2 * num l
theorem num_lt (l : List Bool) : num l < 2 ^ l.length := by
  induction l with
  | nil => simp [num]
  | cons b l ih =>
    have hb : b.toNat < 2 := by cases b <;> decide
    simp only [num, List.length_cons, Nat.pow_succ]
    omega
theorem num_append (l m : List Bool) : num (l ++ m) = num l + num m * 2 ^ l.length := by
  induction l with
  | nil => simp [num]
  | cons b l ih =>
    simp only [List.cons_append, num, ih, List.length_cons, Nat.pow_succ]
    rw [Nat.mul_add, ← Nat.add_assoc, Nat.mul_comm 2 (num m * 2 ^ l.length), Nat.mul_assoc (num m)]
theorem bt_num (l : List Bool) (i : Nat) : bt (num l) i = (l.getD i false).toNat := by
  induction l generalizing i with
  | nil => simp [num, bt]
  | cons b l ih =>
    have hb : b.toNat < 2 := by cases b <;> decide
    cases i with
    | zero =>
      simp only [num, bt, Nat.pow_zero, Nat.div_one, List.getD_cons_zero]
      omega
    | succ i =>
      rw [bt_half, show num (b :: l) / 2 = num l from by simp only [num]; omega, ih, List.getD_cons_succ]
theorem testBit_num (l : List Bool) (i : Nat) : (num l).testBit i = l.getD i false := by
  rw [testBit_bt, bt_num]
  cases l.getD i false <;> rfl
/-- The first n bits of a number. -/
def bitsTo (X n : Nat) : List Bool := (List.range n).map fun i => X.testBit i
theorem bitsTo_length (X n : Nat) : (bitsTo X n).length = n := by simp [bitsTo]
theorem bitsTo_get (X n i : Nat) (h : i < n) : (bitsTo X n)[i]? = some (X.testBit i) := by simp [bitsTo, h]
theorem bitsTo_getD (X n i : Nat) : (bitsTo X n).getD i false = (decide (i < n) && X.testBit i) := by
  by_cases h : i < n
  · rw [List.getD_eq_getElem?_getD, bitsTo_get X n i h]; simp [h]
  · rw [List.getD_eq_getElem?_getD, List.getElem?_eq_none (by rw [bitsTo_length]; omega)]; simp [h]
theorem bitsTo_succ (X n : Nat) : bitsTo X (n + 1) = bitsTo X n ++ [X.testBit n] := by
  unfold bitsTo
  rw [List.range_succ, List.map_append]
  rfl
theorem num_bitsTo (X n : Nat) : num (bitsTo X n) = X % 2 ^ n := by
  apply eq_of_bt
  intro i
  rw [bt_num, bitsTo_getD, bt_mod, bt_testBit]
  by_cases h : i < n <;> simp [h]
theorem num_bitsTo_of (X n : Nat) (h : X < 2 ^ n) : num (bitsTo X n) = X := by rw [num_bitsTo, Nat.mod_eq_of_lt h]
theorem bitsTo_num (l : List Bool) : bitsTo (num l) l.length = l := by
  apply List.ext_getElem?
  intro i
  by_cases h : i < l.length
  · rw [bitsTo_get _ _ _ h, testBit_num, List.getD_eq_getElem?_getD, List.getElem?_eq_getElem h]; rfl
  · rw [List.getElem?_eq_none (by rw [bitsTo_length]; omega), List.getElem?_eq_none (by omega)]
theorem num_put (l : List Bool) (x k : Nat) (hx : x < 2 ^ k) : num (l ++ bitsTo x k) = num l + x * 2 ^ l.length := by
  rw [num_append, num_bitsTo_of x k hx]
theorem num_snoc (l : List Bool) (b : Bool) : num (l ++ [b]) = num l + b.toNat * 2 ^ l.length := by
  rw [num_append]
  simp [num]
/-- The bits of a list, as cells. -/
def bls (l : List Bool) : List Value := l.map Value.bool
theorem bls_length (l : List Bool) : (bls l).length = l.length := by simp [bls]
theorem bls_one (l : List Bool) : ∀ u ∈ bls l, u.oneCell' = true := by
  intro u hu
  obtain ⟨_, _, rfl⟩ := List.mem_map.1 hu
  rfl
theorem bls_append (l m : List Bool) : bls (l ++ m) = bls l ++ bls m := by simp [bls]
theorem bls_get (l : List Bool) (i : Nat) (h : i < l.length) : (bls l)[i]? = some (Value.bool (l.getD i false)) := by
  simp [bls, h]
end Bt
end Go.Proofs.YtmeclkmmgbndkaaGreatDoor
namespace Go.Proofs.YtmeclkmmgbndkaaGreatDoor
namespace Pn
open Wd Bt

/-- The two places of a stretch, as they count. -/
def fr (n : Nat) (a : Int) : Nat := (min (max a 0) (n : Int)).toNat
def to (n : Nat) (a t : Int) : Nat := (min (max t (fr n a : Int)) (n : Int)).toNat
theorem fr_le (n : Nat) (a : Int) : fr n a ≤ n := by unfold fr; omega
theorem fr_to (n : Nat) (a t : Int) : fr n a ≤ to n a t ∧ to n a t ≤ n := by unfold to fr; omega
theorem fr_cast (n : Nat) (a : Int) : min (max a 0) (n : Int) = (fr n a : Int) := by unfold fr; omega
theorem to_cast (n : Nat) (a t : Int) : min (max t (fr n a : Int)) (n : Int) = (to n a t : Int) := by unfold to fr; omega
theorem fr_nat (n a : Nat) (h : a ≤ n) : fr n (a : Int) = a := by unfold fr; omega
theorem to_nat (n a b : Nat) (h : a ≤ b) (h2 : b ≤ n) : to n (a : Int) (b : Int) = b := by unfold to fr; omega

/-- Two numbers with the same first n bits have the same excesses, reaches and places there. -/
theorem exc_congr (x y n : Nat) (h : ∀ i, i < n → bt x i = bt y i) : ∀ k, k ≤ n → exc x k = exc y k := by
  intro k hk
  unfold exc
  rw [ones_congr x y k fun i hi => h i (by omega)]
theorem lo_congr (x y n : Nat) (h : ∀ k, k ≤ n → exc x k = exc y k) : lo x n = lo y n ∧ hi x n = hi y n := by
  induction n with
  | zero => exact ⟨rfl, rfl⟩
  | succ n ih =>
    have := ih fun k hk => h k (by omega)
    by_cases h0 : n = 0
    · subst h0
      exact ⟨h 1 (by omega), h 1 (by omega)⟩
    · rw [lo_succ x n (by omega), lo_succ y n (by omega), hi_succ x n (by omega), hi_succ y n (by omega), this.1, this.2, h (n + 1) (by omega)]
      exact ⟨rfl, rfl⟩
theorem find_congr (x y n : Nat) (d : Int) (h : ∀ k, k ≤ n → exc x k = exc y k) : find x n d = find y n d := by
  apply find_eq
  rcases find_spec y n d with ⟨a, b, c, e⟩ | ⟨a, b⟩
  · exact .inl ⟨a, b, by rw [h _ b]; exact c, fun j j1 j2 => by rw [h j (by omega)]; exact e j j1 j2⟩
  · exact .inr ⟨a, fun j j1 j2 => by rw [h j j2]; exact b j j1 j2⟩
/-- The word of k bits from a on. -/
theorem bt_word (Y a k i : Nat) (hi : i < k) : bt (Y / 2 ^ a % 2 ^ k) i = bt Y (a + i) := by rw [bt_mod, if_pos hi, bt_div]
theorem exc_word (Y a k j : Nat) (hj : j ≤ k) : exc (Y / 2 ^ a % 2 ^ k) j = exc Y (a + j) - exc Y a := by
  rw [exc_congr _ (Y / 2 ^ a) k (fun i hi => by rw [bt_word Y a k i hi, bt_div]) j hj, exc_split]
  omega
theorem exc_part (Y a j : Nat) : exc (Y / 2 ^ a) j = exc Y (a + j) - exc Y a := by
  rw [exc_split]
  omega

/-- One word on: the excess, the reach. -/
theorem exc_on (Y a k : Nat) : exc Y (a + k) = exc Y a + exc (Y / 2 ^ a % 2 ^ k) k := by
  rw [exc_word Y a k k (Nat.le_refl _)]
  omega
/-- The least, and the greatest, as they are carried along: n and -n of none. -/
def lo1 (Y n j : Nat) : Int := if j = 0 then (n : Int) else lo Y j
def hi1 (Y n j : Nat) : Int := if j = 0 then -(n : Int) else hi Y j
theorem lo_join (Y a k : Nat) (ha : 1 ≤ a) (hk : 1 ≤ k) : lo Y (a + k) = min (lo Y a) (exc Y a + lo (Y / 2 ^ a) k) ∧ hi Y (a + k) = max (hi Y a) (exc Y a + hi (Y / 2 ^ a) k) := by
  induction k with
  | zero => omega
  | succ k ih =>
    have e := exc_part Y a (k + 1)
    by_cases h0 : k = 0
    · subst h0
      rw [lo_succ Y a ha, hi_succ Y a ha]
      simp only [lo, hi, Nat.zero_add] at *
      omega
    · have := ih (by omega)
      rw [← Nat.add_assoc, lo_succ Y (a + k) (by omega), hi_succ Y (a + k) (by omega), lo_succ (Y / 2 ^ a) k (by omega), hi_succ (Y / 2 ^ a) k (by omega), this.1, this.2]
      rw [← Nat.add_assoc] at e
      omega
theorem lo1_on (Y n a k : Nat) (hk : 1 ≤ k) (h : a + k ≤ n) :
    min (lo1 Y n a) (exc Y a + lo (Y / 2 ^ a % 2 ^ k) k) = lo1 Y n (a + k) ∧ max (hi1 Y n a) (exc Y a + hi (Y / 2 ^ a % 2 ^ k) k) = hi1 Y n (a + k) := by
  have c := lo_congr (Y / 2 ^ a % 2 ^ k) (Y / 2 ^ a) k (exc_congr _ _ k fun i hi => by rw [bt_word Y a k i hi, bt_div])
  rw [c.1, c.2]
  unfold lo1 hi1
  by_cases h0 : a = 0
  · subst h0
    have b1 := lo_bounds (Y / 2 ^ 0) k
    have b2 := hi_bounds (Y / 2 ^ 0) k
    rw [if_pos rfl, if_pos rfl, if_neg (by omega), if_neg (by omega), exc_zero]
    simp only [Nat.pow_zero, Nat.div_one, Nat.zero_add] at *
    omega
  · have := lo_join Y a k (by omega) hk
    rw [if_neg h0, if_neg h0, if_neg (by omega), if_neg (by omega), this.1, this.2]
    exact ⟨rfl, rfl⟩
theorem lo1_bounds (Y n j : Nat) (h : j ≤ n) : (-(n : Int) ≤ lo1 Y n j ∧ lo1 Y n j ≤ n) ∧ -(n : Int) ≤ hi1 Y n j ∧ hi1 Y n j ≤ n := by
  unfold lo1 hi1
  have b1 := lo_bounds Y j
  have b2 := hi_bounds Y j
  by_cases h0 : j = 0
  · rw [if_pos h0, if_pos h0]; omega
  · rw [if_neg h0, if_neg h0]; omega
theorem lo1_end (Y n : Nat) : lo1 Y n n = lo Y n ∧ hi1 Y n n = hi Y n := by
  unfold lo1 hi1
  by_cases h0 : n = 0
  · subst h0; exact ⟨rfl, rfl⟩
  · rw [if_neg h0, if_neg h0]; exact ⟨rfl, rfl⟩

/-- What is known where a search goes on behind the first a bits: no beginning up to there has the excess. -/
def Unmet (Y : Nat) (d : Int) (a : Nat) : Prop := ∀ j, 1 ≤ j → j ≤ a → exc Y j ≠ d
theorem Unmet.zero (Y : Nat) (d : Int) : Unmet Y d 0 := fun j a b => by omega
/-- It is in the next k bits. -/
theorem Unmet.found {Y n a k f : Nat} {d : Int} (h : Unmet Y d a) (hn : a + k ≤ n) (hf : find (Y / 2 ^ a % 2 ^ k) k (d - exc Y a) = f) (h0 : 0 < f) : find Y n d = a + f := by
  apply find_eq
  rcases find_spec (Y / 2 ^ a % 2 ^ k) k (d - exc Y a) with ⟨h1, h2, h3, h4⟩ | ⟨h1, _⟩
  · rw [hf] at h1 h2 h3 h4
    rw [exc_word Y a k f h2] at h3
    refine .inl ⟨by omega, by omega, by omega, fun j j1 j2 => ?_⟩
    by_cases hj : j ≤ a
    · exact h j j1 hj
    · have := h4 (j - a) (by omega) (by omega)
      rw [exc_word Y a k (j - a) (by omega), show a + (j - a) = j from by omega] at this
      omega
  · omega
/-- It isn't. -/
theorem Unmet.on {Y a k : Nat} {d : Int} (h : Unmet Y d a) (hf : find (Y / 2 ^ a % 2 ^ k) k (d - exc Y a) = 0) : Unmet Y d (a + k) := by
  intro j j1 j2
  rcases find_spec (Y / 2 ^ a % 2 ^ k) k (d - exc Y a) with ⟨h1, _⟩ | ⟨_, h2⟩
  · omega
  · by_cases hj : j ≤ a
    · exact h j j1 hj
    · have := h2 (j - a) (by omega) (by omega)
      rw [exc_word Y a k (j - a) (by omega), show a + (j - a) = j from by omega] at this
      omega
theorem Unmet.none {Y n : Nat} {d : Int} (h : Unmet Y d n) : find Y n d = 0 := find_eq (.inr ⟨rfl, h⟩)
/-- A whole word whose 1s, or 0s, don't come to it. -/
theorem ones_rest (x n k : Nat) (h : k ≤ n) : ones x k ≤ ones x n ∧ ones x n ≤ ones x k + (n - k) := by
  refine ⟨ones_mono x k n h, ?_⟩
  have := ones_split x k (n - k)
  rw [show k + (n - k) = n from by omega] at this
  have := ones_le (x / 2 ^ k) (n - k)
  omega
theorem Unmet.far {Y a : Nat} {d : Int} (h : Unmet Y d a) (hd : (ones (Y / 2 ^ a % 2 ^ 64) 64 : Int) < d - exc Y a ∨ d - exc Y a < (ones (Y / 2 ^ a % 2 ^ 64) 64 : Int) - 64) : Unmet Y d (a + 64) := by
  intro j j1 j2
  by_cases hj : j ≤ a
  · exact h j j1 hj
  · have e := exc_word Y a 64 (j - a) (by omega)
    rw [show a + (j - a) = j from by omega] at e
    have r := ones_rest (Y / 2 ^ a % 2 ^ 64) 64 (j - a) (by omega)
    have o := ones_le (Y / 2 ^ a % 2 ^ 64) (j - a)
    unfold exc at e
    unfold exc at hd ⊢
    generalize ones (Y / 2 ^ a % 2 ^ 64) (j - a) = p at *
    generalize ones (Y / 2 ^ a % 2 ^ 64) 64 = q at *
    omega
theorem far_on (Y a : Nat) (d : Int) : d - exc Y a - (2 * (ones (Y / 2 ^ a % 2 ^ 64) 64 : Int) - 64) = d - exc Y (a + 64) := by
  rw [exc_on Y a 64]
  show _ = d - (exc Y a + (2 * (ones (Y / 2 ^ a % 2 ^ 64) 64 : Int) - 64))
  omega

/-- What the searches answer: -1 of none. -/
def forth (X a b : Nat) (d : Int) : Int := if find (X / 2 ^ a) (b - a) d = 0 then -1 else (a : Int) + find (X / 2 ^ a) (b - a) d - 1
/-- The first b bits, turned round. -/
def rv (X b : Nat) : Nat := num (bitsTo X b).reverse
theorem rv_lt (X b : Nat) : rv X b < 2 ^ b := by
  have := num_lt (bitsTo X b).reverse
  rw [List.length_reverse, bitsTo_length] at this
  exact this
theorem bt_rv (X b i : Nat) : bt (rv X b) i = if i < b then bt X (b - 1 - i) else 0 := by
  unfold rv
  rw [bt_num]
  by_cases h : i < b
  · rw [if_pos h, List.getD_eq_getElem?_getD, List.getElem?_reverse (by rw [bitsTo_length]; exact h), bitsTo_length, bitsTo_get X b _ (by omega), bt_testBit]
    rfl
  · rw [if_neg h, List.getD_eq_getElem?_getD, List.getElem?_eq_none (by rw [List.length_reverse, bitsTo_length]; omega)]
    rfl
theorem exc_rv (X b k : Nat) (h : k ≤ b) : exc (rv X b) k = exc X b - exc X (b - k) := by
  induction k with
  | zero => rw [exc_zero, Nat.sub_zero]; omega
  | succ k ih =>
    have e := exc_succ X (b - 1 - k)
    rw [show b - 1 - k + 1 = b - k from by omega] at e
    rw [exc_succ, ih (by omega), bt_rv, if_pos (by omega), show b - (k + 1) = b - 1 - k from by omega]
    omega
def back (X a b : Nat) (d : Int) : Int := if find (rv X b) (b - a) d = 0 then -1 else (b : Int) - find (rv X b) (b - a) d
theorem forth_bounds (X a b : Nat) (d : Int) (h : a ≤ b) : forth X a b d = -1 ∨ ((a : Int) ≤ forth X a b d ∧ forth X a b d < b) := by
  unfold forth
  have := find_le (X / 2 ^ a) (b - a) d
  split
  · exact .inl rfl
  · right; omega
/-- The word of k bits, turned round, that end at a of the end. -/
theorem rv_word (X b a k : Nat) (h : a + k ≤ b) : rv (X / 2 ^ (b - a - k) % 2 ^ k) k = rv X b / 2 ^ a % 2 ^ k := by
  apply eq_of_bt
  intro i
  rw [bt_rv, bt_mod (rv X b / 2 ^ a)]
  by_cases hi : i < k
  · rw [if_pos hi, if_pos hi, bt_div, bt_rv, if_pos (by omega), bt_word _ _ _ _ (by omega)]
    congr 1
    omega
  · rw [if_neg hi, if_neg hi]

/-- Whether a row is balanced. -/
def bal (X n : Nat) : Bool := exc X n == 0 && find X n (-1) == 0
theorem bal_iff (X n : Nat) : bal X n = true ↔ exc X n = 0 ∧ ∀ j, 1 ≤ j → j ≤ n → 0 ≤ exc X j := by
  unfold bal
  rw [Bool.and_eq_true, beq_iff_eq, beq_iff_eq]
  constructor
  · rintro ⟨h1, h2⟩
    refine ⟨h1, fun j j1 j2 => ?_⟩
    have r := reach_exc X n j j1 j2
    have r2 := reach_exc X n n (by omega) (Nat.le_refl _)
    have p := find_pos X n (-1) (by omega)
    omega
  · rintro ⟨h1, h2⟩
    refine ⟨h1, find_eq (.inr ⟨rfl, fun j j1 j2 => ?_⟩)⟩
    have := h2 j j1 j2
    omega
theorem bal_lo (X n : Nat) : bal X n = (exc X n == 0 && decide (0 ≤ lo X n)) := by
  unfold bal
  by_cases h : exc X n = 0
  · rw [h]
    simp only [BEq.rfl, Bool.true_and]
    by_cases h0 : n = 0
    · subst h0; rfl
    · have p := find_pos X n (-1) (by omega)
      have r := reach_exc X n n (by omega) (Nat.le_refl _)
      by_cases hl : 0 ≤ lo X n
      · rw [decide_eq_true hl, show find X n (-1) = 0 from by omega]; rfl
      · rw [decide_eq_false hl]
        have : find X n (-1) ≠ 0 := by omega
        simpa using this
  · have : (exc X n == 0) = false := by simpa using h
    rw [this]; rfl
/-- With a ( ahead and a ) behind. -/
theorem bt_wrap (l : List Bool) (i : Nat) : bt (num (true :: l ++ [false])) i = if i = 0 then 1 else bt (num l) (i - 1) := by
  rw [bt_num]
  cases i with
  | zero => rfl
  | succ i =>
    rw [if_neg (by omega), Nat.add_sub_cancel, bt_num, List.cons_append, List.getD_cons_succ]
    by_cases h : i < l.length
    · rw [List.getD_eq_getElem?_getD, List.getD_eq_getElem?_getD, List.getElem?_append_left h]
    · rw [List.getD_eq_getElem?_getD, List.getD_eq_getElem?_getD, List.getElem?_append_right (by omega), List.getElem?_eq_none (by omega : l.length ≤ i)]
      by_cases h2 : i - l.length = 0
      · rw [h2]; rfl
      · rw [List.getElem?_eq_none (by simp; omega)]
theorem exc_wrap (l : List Bool) (k : Nat) : exc (num (true :: l ++ [false])) (k + 1) = 1 + exc (num l) k := by
  induction k with
  | zero => rw [exc_succ, bt_wrap, if_pos rfl, exc_zero, exc_zero]; rfl
  | succ k ih => rw [exc_succ _ (k + 1), ih, bt_wrap, if_neg (by omega), Nat.add_sub_cancel, exc_succ]; omega
theorem bal_wrap (l : List Bool) (h : bal (num l) l.length = true) : bal (num (true :: l ++ [false])) (l.length + 2) = true := by
  obtain ⟨h1, h2⟩ := (bal_iff _ _).1 h
  have z : bt (num l) l.length = 0 := by rw [bt_num, List.getD_eq_getElem?_getD, List.getElem?_eq_none (Nat.le_refl _)]; rfl
  have e : exc (num (true :: l ++ [false])) (l.length + 2) = 0 := by
    rw [exc_wrap l (l.length + 1), exc_succ, h1, z]; rfl
  refine (bal_iff _ _).2 ⟨e, fun j j1 j2 => ?_⟩
  obtain ⟨k, rfl⟩ : ∃ k, j = k + 1 := ⟨j - 1, by omega⟩
  by_cases hk : k = l.length + 1
  · subst hk; exact Int.le_of_eq e.symm
  · rw [exc_wrap]
    by_cases h0 : k = 0
    · subst h0; rw [exc_zero]; omega
    · have := h2 k (by omega) (by omega)
      omega

/-- Each bit the other one: the excess the other way round. -/
theorem exc_other (x y n : Nat) (h : ∀ i, i < n → bt x i + bt y i = 1) : ∀ k, k ≤ n → exc x k = -exc y k := by
  intro k
  induction k with
  | zero => intro _; rfl
  | succ k ih =>
    intro hk
    have := h k (by omega)
    rw [exc_succ, exc_succ, ih (by omega)]
    omega
theorem find_other (x y n : Nat) (d : Int) (h : ∀ k, k ≤ n → exc x k = -exc y k) : find x n (-d) = find y n d := by
  apply find_eq
  rcases find_spec y n d with ⟨a, b, c, e⟩ | ⟨a, b⟩
  · exact .inl ⟨a, b, by rw [h _ b, c], fun j j1 j2 => by rw [h j (by omega)]; have := e j j1 j2; omega⟩
  · exact .inr ⟨a, fun j j1 j2 => by rw [h j j2]; have := b j j1 j2; omega⟩
/-- Turned round, each bit the other one. -/
theorem turned_bits (L M : List Bool) (h : ∀ i, i < L.length → M.getD (L.length - 1 - i) false = !L.getD i false) (a b : Nat) (hab : a ≤ b) (hb : b ≤ L.length) :
    ∀ i, i < b - a → bt (rv (num M) (L.length - a)) i + bt (num L / 2 ^ a) i = 1 := by
  intro i hi
  have := h (a + i) (by omega)
  rw [bt_rv, if_pos (by omega), bt_div, bt_num, bt_num, show L.length - a - 1 - i = L.length - 1 - (a + i) from by omega, this]
  cases L.getD (a + i) false <;> rfl
theorem turned_exc (L M : List Bool) (h : ∀ i, i < L.length → M.getD (L.length - 1 - i) false = !L.getD i false) (a b : Nat) (hab : a ≤ b) (hb : b ≤ L.length) :
    exc (num M / 2 ^ (L.length - b)) (L.length - a - (L.length - b)) = -exc (num L / 2 ^ a) (b - a) := by
  have e := exc_other _ _ _ (turned_bits L M h a b hab hb) (b - a) (Nat.le_refl _)
  rw [exc_rv _ _ _ (by omega)] at e
  rw [exc_part, show L.length - b + (L.length - a - (L.length - b)) = L.length - a from by omega, ← e, show L.length - a - (b - a) = L.length - b from by omega]
theorem turned_find (L M : List Bool) (h : ∀ i, i < L.length → M.getD (L.length - 1 - i) false = !L.getD i false) (a b : Nat) (d : Int) (hab : a ≤ b) (hb : b ≤ L.length) :
    (forth (num L) a b d = -1 ∧ back (num M) (L.length - b) (L.length - a) (-d) = -1) ∨ (0 ≤ forth (num L) a b d ∧ back (num M) (L.length - b) (L.length - a) (-d) = (L.length : Int) - 1 - forth (num L) a b d) := by
  have e := find_other _ _ _ d (exc_other _ _ _ (turned_bits L M h a b hab hb))
  have hle := find_le (num L / 2 ^ a) (b - a) d
  unfold forth back
  rw [show L.length - a - (L.length - b) = b - a from by omega, e]
  by_cases h0 : find (num L / 2 ^ a) (b - a) d = 0
  · rw [if_pos h0, if_pos h0]; exact .inl ⟨rfl, rfl⟩
  · rw [if_neg h0, if_neg h0]; right; omega
end Pn
end Go.Proofs.YtmeclkmmgbndkaaGreatDoor
namespace Go.Proofs.YtmeclkmmgbndkaaGreatDoor
namespace Mx
open Wd
/-- The least, and the greatest, excess of the beginnings of k bits but the whole. -/
def al (Y k : Nat) : Int := min 0 (lo Y (k - 1))
def ah (Y k : Nat) : Int := max 0 (hi Y (k - 1))
theorem lo_pre (Y a : Nat) (ha : 1 ≤ a) : min 0 (lo Y a) = min (min 0 (lo Y (a - 1))) (exc Y a) ∧ max 0 (hi Y a) = max (max 0 (hi Y (a - 1))) (exc Y a) := by
  by_cases h1 : a = 1
  · subst h1
    show min 0 (exc Y 1) = min (min 0 0) (exc Y 1) ∧ max 0 (exc Y 1) = max (max 0 0) (exc Y 1)
    omega
  · have e1 := lo_succ Y (a - 1) (by omega)
    have e2 := hi_succ Y (a - 1) (by omega)
    rw [show a - 1 + 1 = a from by omega] at e1 e2
    omega
theorem al_join (Y a k : Nat) (ha : 1 ≤ a) (hk : 1 ≤ k) : al Y (a + k) = min (al Y a) (exc Y a + al (Y / 2 ^ a) k) ∧ ah Y (a + k) = max (ah Y a) (exc Y a + ah (Y / 2 ^ a) k) := by
  unfold al ah
  obtain ⟨p1, p2⟩ := lo_pre Y a ha
  by_cases h1 : k = 1
  · subst h1
    rw [show a + 1 - 1 = a from by omega, show (1 : Nat) - 1 = 0 from rfl, p1, p2]
    show _ = min _ (exc Y a + min 0 0) ∧ _ = max _ (exc Y a + max 0 0)
    omega
  · obtain ⟨j1, j2⟩ := Pn.lo_join Y a (k - 1) ha (by omega)
    rw [show a + (k - 1) = a + k - 1 from by omega] at j1 j2
    rw [j1, j2]
    omega
/-- Some beginning but the empty one has the excess. -/
theorem begun_iff (Y k : Nat) (d : Int) (hk : 1 ≤ k) : (lo Y k ≤ d ∧ d ≤ hi Y k) ↔ ∃ j, 1 ≤ j ∧ j ≤ k ∧ exc Y j = d := by
  constructor
  · rintro ⟨h1, h2⟩
    exact between Y k d hk h1 h2
  · rintro ⟨j, j1, j2, rfl⟩
    exact reach_exc Y k j j1 j2
/-- Some beginning but the whole has the excess. -/
theorem ahead_iff (Y k : Nat) (d : Int) (hk : 1 ≤ k) : (al Y k ≤ d ∧ d ≤ ah Y k) ↔ ∃ j, j < k ∧ exc Y j = d := by
  unfold al ah
  constructor
  · rintro ⟨h1, h2⟩
    by_cases h0 : d = 0
    · exact ⟨0, by omega, by rw [exc_zero, h0]⟩
    · by_cases hk1 : k = 1
      · subst hk1
        have e1 : lo Y (1 - 1) = 0 := rfl
        have e2 : hi Y (1 - 1) = 0 := rfl
        omega
      · have b := exc_bounds Y 1
        have r := reach_exc Y (k - 1) 1 (by omega) (by omega)
        have e1 : exc Y 1 = 1 ∨ exc Y 1 = -1 := by
          have h1 : exc Y 1 = exc Y 0 + (2 * (bt Y 0 : Int) - 1) := exc_succ Y 0
          rw [exc_zero] at h1
          have := bt_lt Y 0
          omega
        obtain ⟨j, j1, j2, j3⟩ := between Y (k - 1) d (by omega) (by omega) (by omega)
        exact ⟨j, by omega, j3⟩
  · rintro ⟨j, j2, rfl⟩
    by_cases h0 : j = 0
    · subst h0
      rw [exc_zero]
      omega
    · have r := reach_exc Y (k - 1) j (by omega) (by omega)
      omega
/-- A node's stretch: the i-th one of so many bits; it begins at i * W. -/
def en (n W i : Nat) : Nat := min ((i + 1) * W) n
def nx (X n W i : Nat) : Int := exc (X / 2 ^ (i * W)) (en n W i - i * W)
def nl (X n W i : Nat) : Int := lo (X / 2 ^ (i * W)) (en n W i - i * W)
def nh (X n W i : Nat) : Int := hi (X / 2 ^ (i * W)) (en n W i - i * W)
def ml (X n W i : Nat) : Int := al (X / 2 ^ (i * W)) (en n W i - i * W)
def mh (X n W i : Nat) : Int := ah (X / 2 ^ (i * W)) (en n W i - i * W)
theorem en_le (n W i : Nat) : en n W i ≤ n := by unfold en; omega
theorem en_lt (n W i : Nat) (hW : 0 < W) (h : i * W < n) : i * W < en n W i := by
  unfold en
  rw [Nat.add_mul]
  omega
theorem bounds (X n W i : Nat) : (-(n : Int) ≤ nx X n W i ∧ nx X n W i ≤ n) ∧ (-(n : Int) ≤ nl X n W i ∧ nl X n W i ≤ n) ∧ (-(n : Int) ≤ nh X n W i ∧ nh X n W i ≤ n) ∧ (-(n : Int) ≤ ml X n W i ∧ ml X n W i ≤ n) ∧ (-(n : Int) ≤ mh X n W i ∧ mh X n W i ≤ n) := by
  have h := en_le n W i
  unfold nx nl nh ml mh al ah
  have h1 := exc_bounds (X / 2 ^ (i * W)) (en n W i - i * W)
  have h2 := lo_bounds (X / 2 ^ (i * W)) (en n W i - i * W)
  have h3 := hi_bounds (X / 2 ^ (i * W)) (en n W i - i * W)
  have h4 := lo_bounds (X / 2 ^ (i * W)) (en n W i - i * W - 1)
  have h5 := hi_bounds (X / 2 ^ (i * W)) (en n W i - i * W - 1)
  omega
theorem nx_eq (X n W i : Nat) (h : i * W ≤ n) : nx X n W i = exc X (en n W i) - exc X (i * W) := by
  unfold nx
  have h2 : i * W ≤ en n W i := by unfold en; rw [Nat.add_mul]; omega
  rw [Pn.exc_part, show i * W + (en n W i - i * W) = en n W i from by omega]
/-- One that stands alone is the one above it. -/
theorem lone (X n W i : Nat) (h : n ≤ (2 * i + 1) * W) : nx X n (2 * W) i = nx X n W (2 * i) ∧ nl X n (2 * W) i = nl X n W (2 * i) ∧ nh X n (2 * W) i = nh X n W (2 * i) ∧ ml X n (2 * W) i = ml X n W (2 * i) ∧ mh X n (2 * W) i = mh X n W (2 * i) ∧ en n (2 * W) i = en n W (2 * i) := by
  have e1 : i * (2 * W) = 2 * i * W := by rw [← Nat.mul_assoc, Nat.mul_comm i 2]
  have e2 : en n (2 * W) i = en n W (2 * i) := by
    unfold en
    have : (i + 1) * (2 * W) = (2 * i + 1) * W + W := by
      rw [← Nat.mul_assoc, ← Nat.succ_mul]; congr 1; omega
    omega
  unfold nx nl nh ml mh
  rw [e1, e2]
  exact ⟨rfl, rfl, rfl, rfl, rfl, rfl⟩
theorem two (X n W i : Nat) (hW : 0 < W) (h : (2 * i + 1) * W < n) :
    nx X n (2 * W) i = nx X n W (2 * i) + nx X n W (2 * i + 1) ∧
    nl X n (2 * W) i = min (nl X n W (2 * i)) (nx X n W (2 * i) + nl X n W (2 * i + 1)) ∧
    nh X n (2 * W) i = max (nh X n W (2 * i)) (nx X n W (2 * i) + nh X n W (2 * i + 1)) ∧
    ml X n (2 * W) i = min (ml X n W (2 * i)) (nx X n W (2 * i) + ml X n W (2 * i + 1)) ∧
    mh X n (2 * W) i = max (mh X n W (2 * i)) (nx X n W (2 * i) + mh X n W (2 * i + 1)) := by
  have e1 : i * (2 * W) = 2 * i * W := by rw [← Nat.mul_assoc, Nat.mul_comm i 2]
  have e3 : (2 * i + 1) * W = 2 * i * W + W := Nat.succ_mul _ _
  have e2 : en n W (2 * i) - 2 * i * W = W := by unfold en; omega
  have e4 := en_lt n W (2 * i + 1) hW h
  have e5 : en n (2 * W) i = en n W (2 * i + 1) := by
    unfold en
    have : (i + 1) * (2 * W) = (2 * i + 1 + 1) * W := by
      rw [← Nat.mul_assoc]; congr 1; omega
    omega
  have e6 : en n (2 * W) i - i * (2 * W) = W + (en n W (2 * i + 1) - (2 * i + 1) * W) := by omega
  have e7 : X / 2 ^ ((2 * i + 1) * W) = X / 2 ^ (2 * i * W) / 2 ^ W := by rw [Nat.div_div_eq_div_mul, ← Nat.pow_add, e3]
  unfold nx nl nh ml mh
  rw [e6, e1, e2, e7]
  generalize X / 2 ^ (2 * i * W) = Y at *
  have hk : 1 ≤ en n W (2 * i + 1) - (2 * i + 1) * W := by omega
  generalize en n W (2 * i + 1) - (2 * i + 1) * W = k at *
  obtain ⟨l1, l2⟩ := Pn.lo_join Y W k hW hk
  obtain ⟨m1, m2⟩ := al_join Y W k hW hk
  exact ⟨exc_split Y W k, l1, l2, m1, m2⟩
/-- The node meets the excess: by a beginning. -/
theorem begins_iff (X n W i : Nat) (d : Int) (hW : 0 < W) (h : i * W < n) : (nl X n W i ≤ d ∧ d ≤ nh X n W i) ↔ ∃ j, i * W < j ∧ j ≤ en n W i ∧ exc X j - exc X (i * W) = d := by
  have hl := en_lt n W i hW h
  unfold nl nh
  rw [begun_iff _ _ _ (by omega)]
  constructor
  · rintro ⟨j, j1, j2, j3⟩
    rw [Pn.exc_part] at j3
    exact ⟨i * W + j, by omega, by omega, j3⟩
  · rintro ⟨j, j1, j2, j3⟩
    refine ⟨j - i * W, by omega, by omega, ?_⟩
    rw [Pn.exc_part, show i * W + (j - i * W) = j from by omega]
    exact j3
/-- The node meets the excess: ahead of an end. -/
theorem ends_iff (X n W i : Nat) (d : Int) (hW : 0 < W) (h : i * W < n) : (ml X n W i ≤ d ∧ d ≤ mh X n W i) ↔ ∃ j, i * W ≤ j ∧ j < en n W i ∧ exc X j - exc X (i * W) = d := by
  have hl := en_lt n W i hW h
  unfold ml mh
  rw [ahead_iff _ _ _ (by omega)]
  constructor
  · rintro ⟨j, j2, j3⟩
    rw [Pn.exc_part] at j3
    exact ⟨i * W + j, by omega, by omega, j3⟩
  · rintro ⟨j, j1, j2, j3⟩
    refine ⟨j - i * W, by omega, ?_⟩
    rw [Pn.exc_part, show i * W + (j - i * W) = j from by omega]
    exact j3
/-- The other one of two. -/
def xr (i : Nat) : Nat := if i % 2 = 0 then i + 1 else i - 1
theorem xr_eq (i : Nat) : i ^^^ 1 = xr i := by
  apply Nat.eq_of_testBit_eq
  intro j
  rw [Nat.testBit_xor]
  unfold xr
  rcases j with _ | j
  · simp only [Nat.testBit_zero]
    rcases Nat.mod_two_eq_zero_or_one i with h | h
    · have h2 : (i + 1) % 2 = 1 := by omega
      rw [if_pos h, h, h2]
      rfl
    · have h2 : (i - 1) % 2 = 0 := by omega
      rw [if_neg (by omega), h, h2]
      rfl
  · simp only [Nat.testBit_succ]
    rw [show 1 / 2 = 0 from rfl, Nat.zero_testBit, Bool.xor_false]
    congr 1
    split <;> omega
/-- How wide a node of a level is; how many nodes a level has. -/
def wd (k : Nat) : Nat := 512 * 2 ^ k
def ln (n k : Nat) : Nat := (n + wd k - 1) / wd k
theorem wd_pos (k : Nat) : 0 < wd k := by unfold wd; have := Nat.two_pow_pos k; omega
theorem wd_succ (k : Nat) : wd (k + 1) = 2 * wd k := by unfold wd; rw [Nat.pow_succ]; omega
theorem ln_iff (n k i : Nat) : i < ln n k ↔ i * wd k < n := by
  have hW := wd_pos k
  unfold ln
  generalize wd k = W at *
  rw [Nat.lt_iff_add_one_le, Nat.le_div_iff_mul_le hW, Nat.add_mul]
  omega
theorem ln_succ (n k : Nat) : ln n (k + 1) = (ln n k + 1) / 2 := by
  have h : ∀ i, i < ln n (k + 1) ↔ i < (ln n k + 1) / 2 := fun i => by
    rw [ln_iff, wd_succ, show i * (2 * wd k) = 2 * i * wd k from by rw [← Nat.mul_assoc, Nat.mul_comm i 2], ← ln_iff]
    omega
  have h1 := h (ln n (k + 1))
  have h2 := h ((ln n k + 1) / 2)
  omega
theorem ln_zero (n : Nat) : ln n 0 = (n + 511) / 512 := by
  unfold ln wd
  simp
/-- What so many levels take, by the first one's nodes. -/
def sz (n : Nat) : Nat → Nat
  | 0 => 0
  | k + 1 => sz n k + (192 + ln n k * 320)
/-- What all levels from one on take. -/
theorem sz_bound (n : Nat) : ∀ (m k j : Nat), ln n k ≤ m → (∀ i, k ≤ i → i + 1 < k + j → 1 < ln n i) → sz n (k + j) ≤ sz n k + (192 + 320 * ln n k) + 768 * (ln n k - 1) + 192 * (if ln n k ≤ 1 then 0 else ln n k) := by
  intro m
  induction m with
  | zero =>
    intro k j hm hj
    rcases j with _ | _ | j
    · rw [Nat.add_zero]; omega
    · show sz n k + (192 + ln n k * 320) ≤ _
      omega
    · have := hj k (Nat.le_refl _) (by omega)
      omega
  | succ m ih =>
    intro k j hm hj
    rcases j with _ | j
    · rw [Nat.add_zero]; omega
    · by_cases hk : ln n k ≤ 1
      · rcases j with _ | j
        · show sz n k + (192 + ln n k * 320) ≤ _
          omega
        · have := hj k (Nat.le_refl _) (by omega)
          omega
      · have hs := ln_succ n k
        have := ih (k + 1) j (by omega) (fun i i1 i2 => hj i (by omega) (by omega))
        rw [show k + (j + 1) = k + 1 + j from by omega]
        have e : sz n (k + 1) = sz n k + (192 + ln n k * 320) := rfl
        rw [e, hs] at this
        rw [if_neg hk]
        split at this <;> omega
theorem sz_le (n j : Nat) (h : ∀ i, i + 1 < j → 1 < ln n i) : sz n j ≤ 3 * n + 2048 := by
  have := sz_bound n (ln n 0) 0 j (Nat.le_refl _) (fun i _ i2 => h i (by omega))
  rw [Nat.zero_add] at this
  have h0 : sz n 0 = 0 := rfl
  have hl := ln_zero n
  split at this <;> omega
end Mx
end Go.Proofs.YtmeclkmmgbndkaaGreatDoor
namespace Go.Proofs.YtmeclkmmgbndkaaGreatDoor
namespace Mx
open Wd
/-- The least place of a stretch up to and with which the excess is T; -1, if there is none. -/
def Fo (X a b : Nat) (T k : Int) : Prop := (k = -1 ∧ ∀ j, a < j → j ≤ b → exc X j ≠ T) ∨ ∃ p : Nat, k = p ∧ a ≤ p ∧ p < b ∧ exc X (p + 1) = T ∧ ∀ j, a < j → j ≤ p → exc X j ≠ T
/-- The greatest place of a stretch ahead of which the excess is T; -1, if there is none. -/
def Ba (X a b : Nat) (T k : Int) : Prop := (k = -1 ∧ ∀ j, a ≤ j → j < b → exc X j ≠ T) ∨ ∃ p : Nat, k = p ∧ a ≤ p ∧ p < b ∧ exc X p = T ∧ ∀ j, p < j → j < b → exc X j ≠ T
theorem Fo.unique {X a b : Nat} {T k l : Int} (h1 : Fo X a b T k) (h2 : Fo X a b T l) : k = l := by
  rcases h1 with ⟨rfl, h1⟩ | ⟨p, rfl, p1, p2, p3, p4⟩
  · rcases h2 with ⟨rfl, h2⟩ | ⟨q, rfl, q1, q2, q3, q4⟩
    · rfl
    · exact absurd q3 (h1 (q + 1) (by omega) (by omega))
  · rcases h2 with ⟨rfl, h2⟩ | ⟨q, rfl, q1, q2, q3, q4⟩
    · exact absurd p3 (h2 (p + 1) (by omega) (by omega))
    · rcases Nat.lt_trichotomy p q with h | h | h
      · exact absurd p3 (q4 (p + 1) (by omega) (by omega))
      · rw [h]
      · exact absurd q3 (p4 (q + 1) (by omega) (by omega))
theorem Ba.unique {X a b : Nat} {T k l : Int} (h1 : Ba X a b T k) (h2 : Ba X a b T l) : k = l := by
  rcases h1 with ⟨rfl, h1⟩ | ⟨p, rfl, p1, p2, p3, p4⟩
  · rcases h2 with ⟨rfl, h2⟩ | ⟨q, rfl, q1, q2, q3, q4⟩
    · rfl
    · exact absurd q3 (h1 q (by omega) (by omega))
  · rcases h2 with ⟨rfl, h2⟩ | ⟨q, rfl, q1, q2, q3, q4⟩
    · exact absurd p3 (h2 p (by omega) (by omega))
    · rcases Nat.lt_trichotomy p q with h | h | h
      · exact absurd q3 (p4 q (by omega) (by omega))
      · rw [h]
      · exact absurd p3 (q4 p (by omega) (by omega))
theorem forth_spec (X a b : Nat) (d : Int) (h : a ≤ b) : Fo X a b (exc X a + d) (Pn.forth X a b d) := by
  unfold Pn.forth
  have hs := find_spec (X / 2 ^ a) (b - a) d
  have hle := find_le (X / 2 ^ a) (b - a) d
  generalize find (X / 2 ^ a) (b - a) d = f at *
  rcases hs with ⟨h1, h2, h3, h4⟩ | ⟨h1, h2⟩
  · rw [if_neg (by omega)]
    refine .inr ⟨a + f - 1, by omega, by omega, by omega, ?_, fun j j1 j2 => ?_⟩
    · rw [Pn.exc_part] at h3
      rw [show a + f - 1 + 1 = a + f from by omega]
      omega
    · have := h4 (j - a) (by omega) (by omega)
      rw [Pn.exc_part, show a + (j - a) = j from by omega] at this
      omega
  · rw [if_pos h1]
    refine .inl ⟨rfl, fun j j1 j2 => ?_⟩
    have := h2 (j - a) (by omega) (by omega)
    rw [Pn.exc_part, show a + (j - a) = j from by omega] at this
    omega
theorem back_spec (X a b : Nat) (d : Int) (h : a ≤ b) : Ba X a b (exc X b - d) (Pn.back X a b d) := by
  unfold Pn.back
  have hs := find_spec (Pn.rv X b) (b - a) d
  have hle := find_le (Pn.rv X b) (b - a) d
  generalize find (Pn.rv X b) (b - a) d = f at *
  rcases hs with ⟨h1, h2, h3, h4⟩ | ⟨h1, h2⟩
  · rw [if_neg (by omega)]
    refine .inr ⟨b - f, by omega, by omega, by omega, ?_, fun j j1 j2 => ?_⟩
    · rw [Pn.exc_rv X b f (by omega)] at h3
      omega
    · have := h4 (b - j) (by omega) (by omega)
      rw [Pn.exc_rv X b (b - j) (by omega), show b - (b - j) = j from by omega] at this
      omega
  · rw [if_pos h1]
    refine .inl ⟨rfl, fun j j1 j2 => ?_⟩
    have := h2 (b - j) (by omega) (by omega)
    rw [Pn.exc_rv X b (b - j) (by omega), show b - (b - j) = j from by omega] at this
    omega
theorem en2 (n W i : Nat) : en n (2 * W) i = en n W (2 * i + 1) := by
  unfold en
  have : (i + 1) * (2 * W) = (2 * i + 1 + 1) * W := by
    rw [← Nat.mul_assoc]; congr 1; omega
  omega
theorem st2 (W i : Nat) : i * (2 * W) = 2 * i * W := by rw [← Nat.mul_assoc, Nat.mul_comm i 2]
theorem en_full (n W i : Nat) (h : (i + 1) * W ≤ n) : en n W i = (i + 1) * W := by unfold en; omega
theorem en_last (n W i : Nat) (h : n ≤ (i + 1) * W) : en n W i = n := by unfold en; omega
/-- A way through the nodes: what holds of a node and what is left of the excess on the way up (U) and on the way down (V). -/
structure Way (ln : Nat → Nat) (way : Nat) (ex : Nat → Nat → Int) (mt : Nat → Nat → Int → Bool) (U V : Nat → Nat → Int → Prop) (No : Prop) : Prop where
  smallU : ∀ k i d, U k i d → -1099511627776 ≤ d ∧ d ≤ 1099511627776
  smallV : ∀ k i d, V k i d → -1099511627776 ≤ d ∧ d ≤ 1099511627776
  inU : ∀ k i d, U k i d → i < ln k
  inV : ∀ k i d, V k i d → i < ln k
  top : ∀ k i d, U k i d → ln k ≤ 1 → No
  side : ∀ k i d, U k i d → i % 2 = way → xr i < ln k → mt k (xr i) d = true → V k (xr i) d
  past : ∀ k i d, U k i d → i % 2 = way → xr i < ln k → mt k (xr i) d = false → U (k + 1) (i / 2) (d - ex k (xr i))
  up : ∀ k i d, U k i d → ¬ (i % 2 = way ∧ xr i < ln k) → U (k + 1) (i / 2) d
  fits : ∀ k i d, V (k + 1) i d → 2 * i + way < ln k
  down : ∀ k i d, V (k + 1) i d → mt k (2 * i + way) d = true → V k (2 * i + way) d
  other : ∀ k i d, V (k + 1) i d → mt k (2 * i + way) d = false → V k (xr (2 * i + way)) (d - ex k (2 * i + way))
def mtf (X n k i : Nat) (d : Int) : Bool := decide (nl X n (wd k) i ≤ d) && decide (d ≤ nh X n (wd k) i)
def mtb (X n k i : Nat) (d : Int) : Bool := decide (ml X n (wd k) i ≤ nx X n (wd k) i - d) && decide (nx X n (wd k) i - d ≤ mh X n (wd k) i)
def Uf (X n s : Nat) (T : Int) (k i : Nat) (d : Int) : Prop := i < ln n k ∧ d = T - exc X (en n (wd k) i) ∧ s ≤ en n (wd k) i ∧ ∀ j, s < j → j ≤ en n (wd k) i → exc X j ≠ T
def Vf (X n s : Nat) (T : Int) (k i : Nat) (d : Int) : Prop := i < ln n k ∧ d = T - exc X (i * wd k) ∧ (∀ j, s < j → j ≤ i * wd k → exc X j ≠ T) ∧ s ≤ i * wd k ∧ ∃ j, i * wd k < j ∧ j ≤ en n (wd k) i ∧ exc X j = T
theorem mtf_iff (X n k i : Nat) (d : Int) (h : i < ln n k) : mtf X n k i d = true ↔ ∃ j, i * wd k < j ∧ j ≤ en n (wd k) i ∧ exc X j - exc X (i * wd k) = d := by
  rw [← begins_iff X n (wd k) i d (wd_pos k) ((ln_iff n k i).1 h)]
  unfold mtf
  simp
theorem mtb_iff (X n k i : Nat) (d : Int) (h : i < ln n k) : mtb X n k i d = true ↔ ∃ j, i * wd k ≤ j ∧ j < en n (wd k) i ∧ exc X (en n (wd k) i) - exc X j = d := by
  have hl := (ln_iff n k i).1 h
  have := ends_iff X n (wd k) i (nx X n (wd k) i - d) (wd_pos k) hl
  unfold mtb
  rw [Bool.and_eq_true, decide_eq_true_iff, decide_eq_true_iff, this, nx_eq X n (wd k) i (by omega)]
  constructor
  · rintro ⟨j, j1, j2, j3⟩
    exact ⟨j, j1, j2, by omega⟩
  · rintro ⟨j, j1, j2, j3⟩
    exact ⟨j, j1, j2, by omega⟩
theorem mtf_false {X n k i : Nat} {d : Int} (h : i < ln n k) (hm : mtf X n k i d = false) : ∀ j, i * wd k < j → j ≤ en n (wd k) i → exc X j - exc X (i * wd k) ≠ d := by
  intro j j1 j2 j3
  have := (mtf_iff X n k i d h).2 ⟨j, j1, j2, j3⟩
  rw [hm] at this
  cases this
theorem mtb_false {X n k i : Nat} {d : Int} (h : i < ln n k) (hm : mtb X n k i d = false) : ∀ j, i * wd k ≤ j → j < en n (wd k) i → exc X (en n (wd k) i) - exc X j ≠ d := by
  intro j j1 j2 j3
  have := (mtb_iff X n k i d h).2 ⟨j, j1, j2, j3⟩
  rw [hm] at this
  cases this
theorem xr_even (i : Nat) (h : i % 2 = 0) : xr i = i + 1 := if_pos h
theorem xr_odd (i : Nat) (h : i % 2 = 1) : xr i = i - 1 := if_neg (by omega)
theorem way_forth (X n s : Nat) (T : Int) (hn : n ≤ 4294967296) (hT : -(2 * n : Int) ≤ T ∧ T ≤ 2 * n) :
    Way (ln n) 0 (fun k i => nx X n (wd k) i) (mtf X n) (Uf X n s T) (Vf X n s T) (∀ j, s < j → j ≤ n → exc X j ≠ T) where
  smallU := by
    rintro k i d ⟨h1, rfl, h3⟩
    have := exc_bounds X (en n (wd k) i)
    have := en_le n (wd k) i
    omega
  smallV := by
    rintro k i d ⟨h1, rfl, h3⟩
    have := (ln_iff n k i).1 h1
    have := exc_bounds X (i * wd k)
    omega
  inU := fun k i d h => h.1
  inV := fun k i d h => h.1
  top := by
    rintro k i d ⟨h1, rfl, _, h3⟩ h j j1 j2
    have hk := ln_iff n k 1
    obtain rfl : i = 0 := by omega
    refine h3 j j1 ?_
    rw [en_last _ _ _ (by omega)]
    exact j2
  side := by
    rintro k i d ⟨h1, rfl, h2, h3⟩ hw hx hm
    have hx0 := xr_even i hw
    generalize xr i = q at *
    subst hx0
    have hl := (ln_iff n k _).1 hx
    obtain ⟨j, j1, j2, j3⟩ := (mtf_iff X n k _ _ hx).1 hm
    rw [en_full n (wd k) i (by omega)] at *
    exact ⟨hx, rfl, h3, h2, j, j1, j2, by omega⟩
  past := by
    rintro k i d ⟨h1, rfl, hse, h3⟩ hw hx hm
    have hx0 := xr_even i hw
    generalize xr i = q at *
    subst hx0
    have hl := (ln_iff n k _).1 hx
    have hf := mtf_false hx hm
    have he := en_full n (wd k) i (by omega)
    rw [he] at h3 hse hf ⊢
    have h2 : en n (wd (k + 1)) (i / 2) = en n (wd k) (i + 1) := by rw [wd_succ, en2, show 2 * (i / 2) + 1 = i + 1 from by omega]
    refine ⟨by rw [ln_succ]; omega, ?_, ?_, ?_⟩
    · rw [h2]
      show _ - nx X n (wd k) (i + 1) = _
      rw [nx_eq _ _ _ _ (by omega)]
      omega
    · rw [h2]
      have := en_lt n (wd k) (i + 1) (wd_pos k) hl
      omega
    · rw [h2]
      intro j j1 j2
      by_cases hj : j ≤ (i + 1) * wd k
      · exact h3 j j1 hj
      · have := hf j (by omega) j2
        omega
  up := by
    rintro k i d ⟨h1, rfl, hse, h3⟩ hno
    have h2 : en n (wd (k + 1)) (i / 2) = en n (wd k) i := by
      rw [wd_succ, en2]
      by_cases hw : i % 2 = 0
      · have hx0 := xr_even i hw
        have hl := (ln_iff n k (i + 1))
        have hl2 : n ≤ (i + 1) * wd k := by
          rw [hx0] at hno
          omega
        rw [en_last n (wd k) i hl2, show 2 * (i / 2) + 1 = i + 1 from by omega, en_last]
        rw [Nat.add_mul]
        omega
      · rw [show 2 * (i / 2) + 1 = i from by omega]
    refine ⟨by rw [ln_succ]; omega, ?_, ?_, ?_⟩
    · rw [h2]
    · rw [h2]
      exact hse
    · rw [h2]
      exact h3
  fits := by
    rintro k i d ⟨h1, h2⟩
    rw [ln_succ] at h1
    omega
  down := by
    rintro k i d ⟨h1, rfl, h3, h4, h5⟩ hm
    rw [ln_succ] at h1
    obtain ⟨j, j1, j2, j3⟩ := (mtf_iff X n k _ _ (by omega)).1 hm
    rw [wd_succ, st2] at *
    exact ⟨by omega, rfl, h3, h4, j, j1, j2, by rw [Nat.add_zero] at j3; omega⟩
  other := by
    rintro k i d ⟨h1, rfl, h3, h4, j, j1, j2, j3⟩ hm
    rw [ln_succ] at h1
    have hf := mtf_false (by omega) hm
    rw [Nat.add_zero] at *
    have hx0 := xr_even (2 * i) (by omega)
    rw [wd_succ, st2] at *
    rw [en2] at j2
    have hj : en n (wd k) (2 * i) < j := by
      by_cases hj : j ≤ en n (wd k) (2 * i)
      · have := hf j j1 hj
        omega
      · omega
    have hjn := en_le n (wd k) (2 * i + 1)
    have hl : (2 * i + 1) * wd k < n := by
      by_cases h : (2 * i + 1) * wd k < n
      · exact h
      · rw [en_last n (wd k) (2 * i) (by omega)] at hj
        omega
    have he := en_full n (wd k) (2 * i) (by omega)
    have hst : 2 * i * wd k ≤ n := by rw [Nat.add_mul] at hl; omega
    rw [hx0]
    refine ⟨(ln_iff n k _).2 hl, ?_, ?_, ?_, j, by omega, j2, j3⟩
    · show _ - nx X n (wd k) (2 * i) = _
      rw [nx_eq _ _ _ _ hst, he]
      omega
    · intro q q1 q2
      by_cases hq : q ≤ 2 * i * wd k
      · exact h3 q q1 hq
      · have := hf q (by omega) (by omega)
        omega
    · rw [Nat.add_mul]
      omega
def Ub (X n s : Nat) (T : Int) (k i : Nat) (d : Int) : Prop := i < ln n k ∧ d = exc X (i * wd k) - T ∧ i * wd k ≤ s ∧ ∀ j, i * wd k ≤ j → j < s → exc X j ≠ T
def Vb (X n s : Nat) (T : Int) (k i : Nat) (d : Int) : Prop := (i + 1) * wd k ≤ n ∧ d = exc X ((i + 1) * wd k) - T ∧ (∀ j, (i + 1) * wd k ≤ j → j < s → exc X j ≠ T) ∧ (i + 1) * wd k ≤ s ∧ ∃ j, i * wd k ≤ j ∧ j < (i + 1) * wd k ∧ exc X j = T
theorem vb_in {X n s k i : Nat} {T d : Int} (h : Vb X n s T k i d) : i < ln n k := by
  have h1 := h.1
  have := wd_pos k
  rw [ln_iff]
  rw [Nat.add_mul] at h1
  omega
theorem way_back (X n s : Nat) (T : Int) (hn : n ≤ 4294967296) (hT : -(2 * n : Int) ≤ T ∧ T ≤ 2 * n) :
    Way (ln n) 1 (fun k i => nx X n (wd k) i) (mtb X n) (Ub X n s T) (Vb X n s T) (∀ j, j < s → exc X j ≠ T) where
  smallU := by
    rintro k i d ⟨h1, rfl, h3⟩
    have := (ln_iff n k i).1 h1
    have := exc_bounds X (i * wd k)
    omega
  smallV := by
    rintro k i d ⟨h1, rfl, h3⟩
    have := exc_bounds X ((i + 1) * wd k)
    omega
  inU := fun k i d h => h.1
  inV := fun k i d h => vb_in h
  top := by
    rintro k i d ⟨h1, rfl, _, h3⟩ h j j1
    obtain rfl : i = 0 := by omega
    exact h3 j (by omega) j1
  side := by
    rintro k i d ⟨h1, rfl, h2, h3⟩ hw hx hm
    have hx0 := xr_odd i hw
    have hi : i - 1 + 1 = i := by omega
    generalize xr i = q at *
    subst hx0
    have hl := (ln_iff n k _).1 h1
    obtain ⟨j, j1, j2, j3⟩ := (mtb_iff X n k _ _ hx).1 hm
    rw [en_full n (wd k) (i - 1) (by rw [hi]; omega), hi] at j2 j3
    exact ⟨by rw [hi]; omega, by rw [hi], by rw [hi]; exact h3, by rw [hi]; exact h2, j, j1, by rw [hi]; exact j2, by omega⟩
  past := by
    rintro k i d ⟨h1, rfl, hse, h3⟩ hw hx hm
    have hx0 := xr_odd i hw
    have hi : i - 1 + 1 = i := by omega
    generalize xr i = q at *
    subst hx0
    have hl := (ln_iff n k _).1 h1
    have hf := mtb_false hx hm
    have he := en_full n (wd k) (i - 1) (by rw [hi]; omega)
    rw [hi] at he
    rw [he] at hf
    have h2 : i / 2 * wd (k + 1) = (i - 1) * wd k := by rw [wd_succ, st2, show 2 * (i / 2) = i - 1 from by omega]
    have hle : (i - 1) * wd k ≤ i * wd k := Nat.mul_le_mul_right _ (by omega)
    refine ⟨by rw [ln_succ]; omega, ?_, ?_, ?_⟩
    · rw [h2]
      show _ - nx X n (wd k) (i - 1) = _
      rw [nx_eq _ _ _ _ (by omega), he]
      omega
    · rw [h2]
      omega
    · rw [h2]
      intro j j1 j2
      by_cases hj : i * wd k ≤ j
      · exact h3 j hj j2
      · have := hf j j1 (by omega)
        omega
  up := by
    rintro k i d ⟨h1, rfl, hse, h3⟩ hno
    have hw : i % 2 = 0 := by
      by_cases hw : i % 2 = 1
      · have hx0 := xr_odd i hw
        exact absurd ⟨hw, by omega⟩ hno
      · omega
    have h2 : i / 2 * wd (k + 1) = i * wd k := by rw [wd_succ, st2, show 2 * (i / 2) = i from by omega]
    refine ⟨by rw [ln_succ]; omega, ?_, ?_, ?_⟩
    · rw [h2]
    · rw [h2]
      exact hse
    · rw [h2]
      exact h3
  fits := by
    intro k i d h
    have := vb_in h
    have h1 := h.1
    have hp := wd_pos k
    rw [ln_iff]
    rw [wd_succ, st2, show 2 * (i + 1) = 2 * i + 1 + 1 from by omega, Nat.add_mul] at h1
    omega
  down := by
    rintro k i d ⟨h1, rfl, h3, h4, h5⟩ hm
    have e : (i + 1) * wd (k + 1) = (2 * i + 1 + 1) * wd k := by rw [wd_succ, st2, show 2 * (i + 1) = 2 * i + 1 + 1 from by omega]
    rw [e] at h1 h3 h4 hm ⊢
    have hl : 2 * i + 1 < ln n k := by
      have hp := wd_pos k
      rw [ln_iff]
      have e3 : (2 * i + 1 + 1) * wd k = (2 * i + 1) * wd k + wd k := Nat.succ_mul _ _
      omega
    obtain ⟨j, j1, j2, j3⟩ := (mtb_iff X n k _ _ hl).1 hm
    rw [en_full n (wd k) _ h1] at j2 j3
    exact ⟨h1, rfl, h3, h4, j, j1, j2, by omega⟩
  other := by
    rintro k i d ⟨h1, rfl, h3, h4, j, j1, j2, j3⟩ hm
    have e : (i + 1) * wd (k + 1) = (2 * i + 1 + 1) * wd k := by rw [wd_succ, st2, show 2 * (i + 1) = 2 * i + 1 + 1 from by omega]
    have e2 : i * wd (k + 1) = 2 * i * wd k := by rw [wd_succ, st2]
    rw [e] at h1 h3 h4 j2 hm ⊢
    rw [e2] at j1
    have e3 : (2 * i + 1 + 1) * wd k = (2 * i + 1) * wd k + wd k := Nat.succ_mul _ _
    have hl : 2 * i + 1 < ln n k := by
      have hp := wd_pos k
      rw [ln_iff]
      omega
    have hf := mtb_false hl hm
    have he := en_full n (wd k) _ h1
    rw [he] at hf
    have hx0 := xr_odd (2 * i + 1) (by omega)
    rw [hx0, show 2 * i + 1 - 1 = 2 * i from by omega]
    refine ⟨by omega, ?_, ?_, by omega, j, j1, ?_, j3⟩
    · show _ - nx X n (wd k) (2 * i + 1) = _
      rw [nx_eq _ _ _ _ (by omega), he]
      omega
    · intro q q1 q2
      by_cases hq : (2 * i + 1 + 1) * wd k ≤ q
      · exact h3 q hq q2
      · have := hf q q1 (by omega)
        omega
    · by_cases hq : (2 * i + 1) * wd k ≤ j
      · have := hf j hq (by omega)
        omega
      · omega
end Mx
end Go.Proofs.YtmeclkmmgbndkaaGreatDoor
namespace Go.Proofs.YtmeclkmmgbndkaaGreatDoor
namespace Rk
open Wd Bt
/-- How many bits are 1 in the first k words of the block b. -/
def cn (X b k : Nat) : Nat := ones (X / 2 ^ (512 * b)) (64 * k)
theorem cn_le (X b k : Nat) : cn X b k ≤ 64 * k := ones_le _ _
theorem cn_zero (X b : Nat) : cn X b 0 = 0 := rfl
theorem ones_word (X a k : Nat) (hk : k ≤ 64) : ones (wd X a) k = ones (X / 2 ^ (64 * a)) k := ones_mod _ _ _ hk
theorem cn_succ (X b k : Nat) : cn X b (k + 1) = cn X b k + ones (wd X (8 * b + k)) 64 := by
  unfold cn
  rw [ones_word _ _ _ (Nat.le_refl _), show 64 * (k + 1) = 64 * k + 64 from by omega, ones_split, Nat.div_div_eq_div_mul, ← Nat.pow_add, show 512 * b + 64 * k = 64 * (8 * b + k) from by omega]
theorem ones_block (X b k : Nat) : ones X (512 * b + 64 * k) = ones X (512 * b) + cn X b k := ones_split _ _ _
/-- The counts ahead of the words 1 to k of the block b, side by side. -/
def pk (X b : Nat) : Nat → Nat
  | 0 => 0
  | k + 1 => pk X b k + cn X b (k + 1) * 2 ^ (9 * k)
theorem pk_zero (X b : Nat) : pk X b 0 = 0 := rfl
theorem pk_succ (X b k : Nat) : pk X b (k + 1) = pk X b k + cn X b (k + 1) * 2 ^ (9 * k) := rfl
theorem pk_lt (X b : Nat) : ∀ k, k ≤ 7 → pk X b k < 2 ^ (9 * k) := by
  intro k
  induction k with
  | zero => intro _; exact Nat.zero_lt_one
  | succ k ih =>
    intro hk
    have h1 := ih (by omega)
    have h2 := cn_le X b (k + 1)
    rw [pk_succ, show 9 * (k + 1) = 9 * k + 9 from by omega, Nat.pow_add]
    have h3 : cn X b (k + 1) + 1 ≤ 2 ^ 9 := by omega
    have h4 := Nat.mul_le_mul_right (2 ^ (9 * k)) h3
    rw [Nat.add_mul] at h4
    rw [Nat.mul_comm (2 ^ (9 * k))]
    omega
theorem pk_lt64 (X b k : Nat) (hk : k ≤ 7) : pk X b k < 18446744073709551616 :=
  Nat.lt_of_lt_of_le (pk_lt X b k hk) (Nat.le_trans (Nat.pow_le_pow_right (by decide) (show 9 * k ≤ 64 by omega)) (Nat.le_refl _))
theorem pk_field (X b j : Nat) : ∀ k, j < k → k ≤ 7 → pk X b k / 2 ^ (9 * j) % 2 ^ 9 = cn X b (j + 1) := by
  intro k
  induction k with
  | zero => intro h; omega
  | succ k ih =>
    intro h hk
    rw [pk_succ]
    have hp : 0 < 2 ^ (9 * j) := Nat.two_pow_pos _
    by_cases hj : j < k
    · rw [← ih hj (by omega)]
      have e : cn X b (k + 1) * 2 ^ (9 * k) = 2 ^ (9 * j) * (2 ^ 9 * (cn X b (k + 1) * 2 ^ (9 * (k - j - 1)))) := by
        have : 2 ^ (9 * k) = 2 ^ (9 * j) * 2 ^ 9 * 2 ^ (9 * (k - j - 1)) := by rw [← Nat.pow_add, ← Nat.pow_add]; congr 1; omega
        rw [this]
        ac_rfl
      rw [e, Nat.add_mul_div_left _ _ hp, Nat.add_mul_mod_self_left]
    · obtain rfl : j = k := by omega
      have h1 := pk_lt X b j (by omega)
      have h2 := cn_le X b (j + 1)
      rw [Nat.add_mul_div_right _ _ hp, Nat.div_eq_of_lt h1, Nat.zero_add, Nat.mod_eq_of_lt (by omega)]
/-- What Field tells of the counts. -/
theorem pk_fld (X b j : Nat) (hj : j < 8) : fld (pk X b 7) (((j : Int) - 1) * 9) 9 = cn X b j := by
  unfold fld
  rw [if_neg (by omega)]
  rcases Nat.eq_zero_or_pos j with rfl | h0
  · rw [if_pos (by omega), cn_zero]
    show pk X b 7 * 2 ^ 9 % 2 ^ 64 % 2 ^ 9 = 0
    rw [Nat.mod_mod_of_dvd _ (Nat.pow_dvd_pow 2 (by decide)), Nat.mul_mod_left]
  · rw [if_neg (by omega), show (((j : Int) - 1) * 9).toNat = 9 * (j - 1) from by omega, pk_field X b (j - 1) 7 (by omega) (by omega), show j - 1 + 1 = j from by omega]
/-- What the blocks and the word tell together. -/
theorem rank_eq (X i : Nat) : ones X (512 * (i / 512)) + cn X (i / 512) (i / 64 % 8) + ones (wd X (i / 64)) (i % 64) = ones X i := by
  rw [← ones_block, ones_word _ _ _ (by omega), show 512 * (i / 512) + 64 * (i / 64 % 8) = 64 * (i / 64) from by omega, ← ones_split, show 64 * (i / 64) + i % 64 = i from by omega]
end Rk
end Go.Proofs.YtmeclkmmgbndkaaGreatDoor
