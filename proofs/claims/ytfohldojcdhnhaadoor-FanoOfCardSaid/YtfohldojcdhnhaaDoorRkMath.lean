/-
  Numbers of layer 3: how many bits of a row are 1 ahead of a place, told by blocks of 512 bits and words of 64; seven counts of 9 bits side by side in a number.
-/
import Derived.Test.YtfohldojcdhnhaaDoorBtMath
namespace Go.Proofs.YtfohldojcdhnhaaDoor
namespace Rk
open Wd Bt
/-- How many bits are 1 in the first k words of the block b. -/
def cn (X b k : Nat) : Nat := ones (X / 2 ^ (512 * b)) (64 * k)
theorem cn_le (X b k : Nat) : cn X b k ≤ 64 * k := ones_le _ _
theorem cn_zero (X b : Nat) : cn X b 0 = 0 := rfl
theorem ones_word (X a k : Nat) (hk : k ≤ 64) : ones (wd X a) k = ones (X / 2 ^ (64 * a)) k := ones_mod _ _ _ hk
theorem cn_succ (X b k : Nat) : cn X b (k + 1) = cn X b k + ones (wd X (8 * b + k)) 64 := by
  unfold cn
  rw [ones_word _ _ _ (Nat.le_refl _), show 64 * (k + 1) = 64 * k + 64 from by omega, ones_split, Nat.div_div_eq_div_mul, ← Nat.pow_add, show 512 * b + 64 * k = 64 * (8 * b + k) from by omega]
theorem ones_block (X b k : Nat) : ones X (512 * b + 64 * k) = ones X (512 * b) + cn X b k := ones_split _ _ _
/-- The counts ahead of the words 1 to k of the block b, side by side. -/
def pk (X b : Nat) : Nat → Nat
  | 0 => 0
  | k + 1 => pk X b k + cn X b (k + 1) * 2 ^ (9 * k)
theorem pk_zero (X b : Nat) : pk X b 0 = 0 := rfl
theorem pk_succ (X b k : Nat) : pk X b (k + 1) = pk X b k + cn X b (k + 1) * 2 ^ (9 * k) := rfl
theorem pk_lt (X b : Nat) : ∀ k, k ≤ 7 → pk X b k < 2 ^ (9 * k) := by
  intro k
  induction k with
  | zero => intro _; exact Nat.zero_lt_one
  | succ k ih =>
    intro hk
    have h1 := ih (by omega)
    have h2 := cn_le X b (k + 1)
    rw [pk_succ, show 9 * (k + 1) = 9 * k + 9 from by omega, Nat.pow_add]
    have h3 : cn X b (k + 1) + 1 ≤ 2 ^ 9 := by omega
    have h4 := Nat.mul_le_mul_right (2 ^ (9 * k)) h3
    rw [Nat.add_mul] at h4
    rw [Nat.mul_comm (2 ^ (9 * k))]
    omega
theorem pk_lt64 (X b k : Nat) (hk : k ≤ 7) : pk X b k < 18446744073709551616 :=
  Nat.lt_of_lt_of_le (pk_lt X b k hk) (Nat.le_trans (Nat.pow_le_pow_right (by decide) (show 9 * k ≤ 64 by omega)) (Nat.le_refl _))
theorem pk_field (X b j : Nat) : ∀ k, j < k → k ≤ 7 → pk X b k / 2 ^ (9 * j) % 2 ^ 9 = cn X b (j + 1) := by
  intro k
  induction k with
  | zero => intro h; omega
  | succ k ih =>
    intro h hk
    rw [pk_succ]
    have hp : 0 < 2 ^ (9 * j) := Nat.two_pow_pos _
    by_cases hj : j < k
    · rw [← ih hj (by omega)]
      have e : cn X b (k + 1) * 2 ^ (9 * k) = 2 ^ (9 * j) * (2 ^ 9 * (cn X b (k + 1) * 2 ^ (9 * (k - j - 1)))) := by
        have : 2 ^ (9 * k) = 2 ^ (9 * j) * 2 ^ 9 * 2 ^ (9 * (k - j - 1)) := by rw [← Nat.pow_add, ← Nat.pow_add]; congr 1; omega
        rw [this]
        ac_rfl
      rw [e, Nat.add_mul_div_left _ _ hp, Nat.add_mul_mod_self_left]
    · obtain rfl : j = k := by omega
      have h1 := pk_lt X b j (by omega)
      have h2 := cn_le X b (j + 1)
      rw [Nat.add_mul_div_right _ _ hp, Nat.div_eq_of_lt h1, Nat.zero_add, Nat.mod_eq_of_lt (by omega)]
/-- What Field tells of the counts. -/
theorem pk_fld (X b j : Nat) (hj : j < 8) : fld (pk X b 7) (((j : Int) - 1) * 9) 9 = cn X b j := by
  unfold fld
  rw [if_neg (by omega)]
  rcases Nat.eq_zero_or_pos j with rfl | h0
  · rw [if_pos (by omega), cn_zero]
    show pk X b 7 * 2 ^ 9 % 2 ^ 64 % 2 ^ 9 = 0
    rw [Nat.mod_mod_of_dvd _ (Nat.pow_dvd_pow 2 (by decide)), Nat.mul_mod_left]
  · rw [if_neg (by omega), show (((j : Int) - 1) * 9).toNat = 9 * (j - 1) from by omega, pk_field X b (j - 1) 7 (by omega) (by omega), show j - 1 + 1 = j from by omega]
/-- What the blocks and the word tell together. -/
theorem rank_eq (X i : Nat) : ones X (512 * (i / 512)) + cn X (i / 512) (i / 64 % 8) + ones (wd X (i / 64)) (i % 64) = ones X i := by
  rw [← ones_block, ones_word _ _ _ (by omega), show 512 * (i / 512) + 64 * (i / 64 % 8) = 64 * (i / 64) from by omega, ← ones_split, show 64 * (i / 64) + i % 64 = i from by omega]
end Rk
end Go.Proofs.YtfohldojcdhnhaaDoor
