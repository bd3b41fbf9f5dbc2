/-
  Where a 1 of a number is: its place by how many others are ahead of it; the number of a row turned; the blocks that a search goes through.
-/
import Derived.Test.YtfohldojcdhnhaaDoorRkFill
import Derived.Laws.Bits64
namespace Go.Proofs.YtfohldojcdhnhaaDoor
open Go.RowKit
namespace Ck
open Wd Bt
/-- The largest place up to n ahead of which k bits or fewer are 1. -/
def pl (Y k : Nat) : Nat → Nat
  | 0 => 0
  | n + 1 => if ones Y (n + 1) ≤ k then n + 1 else pl Y k n
theorem pl_le (Y k n : Nat) : pl Y k n ≤ n := by
  induction n with
  | zero => exact Nat.le_refl _
  | succ n ih => unfold pl; split <;> omega
/-- The place of the 1 ahead of which k others are. -/
structure At (Y n k p : Nat) : Prop where
  lt : p < n
  one : bt Y p = 1
  cnt : ones Y p = k
theorem pl_at {Y k n : Nat} (h : k < ones Y n) : At Y n k (pl Y k n) := by
  induction n with
  | zero => simp [Wd.ones_zero] at h
  | succ n ih =>
    unfold pl
    rw [if_neg (by omega)]
    by_cases h2 : k < ones Y n
    · have := ih h2
      exact ⟨by have := this.lt; omega, this.one, this.cnt⟩
    · have h3 := ones_succ Y n
      have h4 := bt_lt Y n
      have e : pl Y k n = n := by
        cases n with
        | zero => rfl
        | succ n => unfold pl; rw [if_pos (by omega)]
      rw [e]
      exact ⟨by omega, by omega, by omega⟩
theorem At.unique {Y n m k p q : Nat} (h1 : At Y n k p) (h2 : At Y m k q) : p = q := by
  rcases Nat.lt_trichotomy p q with h | h | h
  · have := ones_lt Y p q h1.one h; have := h1.cnt; have := h2.cnt; omega
  · exact h
  · have := ones_lt Y q p h2.one h; have := h1.cnt; have := h2.cnt; omega
theorem pl_eq {Y n k p : Nat} (h : At Y n k p) : pl Y k n = p :=
  (pl_at (by have := ones_lt Y p n h.one h.lt; have := h.cnt; omega)).unique h
theorem At.below {Y n k p : Nat} (h : At Y n k p) : k < ones Y n := by
  have := ones_lt Y p n h.one h.lt; have := h.cnt; omega
/-- Ones ahead of a place tell on which side of the bit it is. -/
theorem At.ahead {Y n k p : Nat} (h : At Y n k p) (q : Nat) : k < ones Y q ↔ p < q := by
  constructor
  · intro h1
    rcases Nat.lt_or_ge p q with h2 | h2
    · exact h2
    · have := ones_mono Y q p h2; have := h.cnt; omega
  · intro h1
    have := ones_lt Y p q h.one h1; have := h.cnt; omega
theorem At.mono {Y n m k j p q : Nat} (h1 : At Y n k p) (h2 : At Y m j q) (h : k ≤ j) : p ≤ q := by
  rcases Nat.lt_or_ge q p with h3 | h3
  · have := ones_lt Y q p h2.one h3; have := h1.cnt; have := h2.cnt; omega
  · exact h3
theorem At.lt_of {Y n m k j p q : Nat} (h1 : At Y n k p) (h2 : At Y m j q) (h : k < j) : p < q := by
  have := h1.mono h2 (by omega)
  rcases Nat.lt_or_ge p q with h3 | h3
  · exact h3
  · obtain rfl : p = q := by omega
    have := h1.cnt; have := h2.cnt; omega
theorem wd_ones (Y a k : Nat) (hk : k ≤ 64) : ones Y (64 * a) + ones (wd Y a) k = ones Y (64 * a + k) := by
  rw [Rk.ones_word Y a k hk, ones_split]
/-- The bit is in the word a, or behind it. -/
theorem At.word {Y n k p a j : Nat} (h : At Y n k p) (ha : 64 * a ≤ p) (hj : ones Y (64 * a) + j = k) : j < ones (wd Y a) 64 ↔ p < 64 * (a + 1) := by
  have h1 := wd_ones Y a 64 (Nat.le_refl _)
  have h2 := h.ahead (64 * a + 64)
  omega
theorem At.sel {Y n k p a j : Nat} (h : At Y n k p) (ha : 64 * a ≤ p) (hj : ones Y (64 * a) + j = k) (hp : p < 64 * (a + 1)) : Wd.sel (wd Y a) (j : Int) + 64 * a = p := by
  have e : Wd.sel (wd Y a) (j : Int) = p - 64 * a := by
    refine sel_eq (.inl ⟨by omega, ?_, ?_⟩)
    · rw [bt_wd, if_pos (by omega), show 64 * a + (p - 64 * a) = p from by omega]
      exact h.one
    · have := wd_ones Y a (p - 64 * a) (by omega)
      rw [show 64 * a + (p - 64 * a) = p from by omega, h.cnt] at this
      omega
  omega
/-- The number of a row of n bits, seen by words that are turned by tv. -/
structure View (tv n X Y : Nat) : Prop where
  small : tv < 18446744073709551616
  word : ∀ a, 64 * a < n → bits .xor .u64 ((wd X a : Nat) : Int) (tv : Int) = ((wd Y a : Nat) : Int)
theorem View.same (n X : Nat) : View 0 n X X :=
  ⟨by decide, fun a _ => by rw [bits_xor_u64_nat _ 0 (wd_lt X a) (by decide), Nat.xor_zero]⟩
/-- The row's bits turned, up to the end of its last word. -/
def tn (X n : Nat) : Nat := 2 ^ (64 * ((n + 63) / 64)) - 1 - X
theorem bt_compl (X m i : Nat) (hX : X < 2 ^ m) (hi : i < m) : bt (2 ^ m - 1 - X) i = 1 - bt X i := by
  have h := Nat.testBit_two_pow_sub_succ (x := X) (n := m) hX i
  rw [show 2 ^ m - 1 - X = 2 ^ m - (X + 1) from by omega, bt_testBit, bt_testBit, h, decide_eq_true hi]
  cases X.testBit i <;> rfl
theorem tn_big (X n : Nat) (hX : X < 2 ^ n) : X < 2 ^ (64 * ((n + 63) / 64)) :=
  Nat.lt_of_lt_of_le hX (Nat.pow_le_pow_right (by decide) (by omega))
theorem bt_tn (X n i : Nat) (hX : X < 2 ^ n) (hi : i < 64 * ((n + 63) / 64)) : bt (tn X n) i = 1 - bt X i :=
  bt_compl X _ i (tn_big X n hX) hi
theorem ones_tn (X n p : Nat) (hX : X < 2 ^ n) (hp : p ≤ n) : ones (tn X n) p + ones X p = p := by
  induction p with
  | zero => rfl
  | succ p ih =>
    rw [ones_succ, ones_succ, bt_tn X n p hX (by omega)]
    have := ih (by omega)
    have := bt_lt X p
    omega
theorem wd_tn (X n a : Nat) (hX : X < 2 ^ n) (ha : 64 * a < n) : wd (tn X n) a = 2 ^ 64 - 1 - wd X a := by
  apply eq_of_bt
  intro i
  by_cases hi : i < 64
  · rw [bt_wd, if_pos hi, bt_tn X n _ hX (by omega), bt_compl _ 64 i (wd_lt' X a) hi, bt_wd, if_pos hi]
  · rw [bt_big _ 64 i (wd_lt' _ _) (by omega), bt_big _ 64 i (by omega) (by omega)]
theorem xor_all (x : Nat) (hx : x < 2 ^ 64) : x ^^^ 18446744073709551615 = 2 ^ 64 - 1 - x := by
  apply Nat.eq_of_testBit_eq
  intro i
  rw [show 2 ^ 64 - 1 - x = 2 ^ 64 - (x + 1) from by omega, Nat.testBit_two_pow_sub_succ hx, Nat.testBit_xor, show 18446744073709551615 = 2 ^ 64 - 1 from rfl, Nat.testBit_two_pow_sub_one]
  by_cases hi : i < 64
  · rw [decide_eq_true hi]; cases x.testBit i <;> rfl
  · rw [decide_eq_false hi, Nat.testBit_lt_two_pow (Nat.lt_of_lt_of_le hx (Nat.pow_le_pow_right (by decide) (by omega)))]; rfl
theorem View.turned (n X : Nat) (hX : X < 2 ^ n) : View 18446744073709551615 n X (tn X n) :=
  ⟨by decide, fun a ha => by rw [bits_xor_u64_nat _ _ (wd_lt X a) (by decide), xor_all _ (wd_lt' X a), wd_tn X n a hX ha]⟩
/-- How many samples there are. -/
def sn (Y n : Nat) : Nat := (ones Y n + 255) / 256
theorem sn_lt {Y n j : Nat} (h : j < sn Y n) : 256 * j < ones Y n := by unfold sn at h; omega
theorem sn_of {Y n k : Nat} (h : k < ones Y n) : k / 256 < sn Y n := by unfold sn; omega
theorem sn_le (Y n : Nat) : 256 * sn Y n ≤ n + 255 := by have := ones_le Y n; unfold sn; omega
end Ck
end Go.Proofs.YtfohldojcdhnhaaDoor
