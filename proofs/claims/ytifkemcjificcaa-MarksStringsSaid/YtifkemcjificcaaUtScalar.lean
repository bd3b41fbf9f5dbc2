/-
  The contracts of package utf's lengthBits and Scalar: for every string; what was there is not changed.
-/
import Derived.BigQuiet
import Derived.Deep.QuietTactic
import Derived.Laws.Bits64b
import Derived.Test.YtifkemcjificcaaUtWalk
namespace Go.Proofs.Ytifkemcjificcaa
open Go.RowKit
namespace Ut
theorem and_u8 (a b : Nat) (ha : a < 256) (hb : b < 256) : bits .and .u8 (a : Int) (b : Int) = ((a &&& b : Nat) : Int) := by
  have h1 : ∀ x : Nat, x < 256 → (BitVec.ofInt 8 (x : Int)).toNat = x := fun x hx => by
    rw [BitVec.ofInt_natCast, BitVec.toNat_ofNat]
    exact Nat.mod_eq_of_lt (by omega)
  show IntKind.u8.wrap ((BitVec.ofInt 8 (a : Int) &&& BitVec.ofInt 8 (b : Int)).toNat : Int) = _
  rw [BitVec.toNat_and, h1 a ha, h1 b hb, IntKind.wrap_u8]
  have : a &&& b ≤ a := Nat.and_le_left
  omega
theorem or_u8 (a b : Nat) (ha : a < 256) (hb : b < 256) : bits .or .u8 (a : Int) (b : Int) = ((a ||| b : Nat) : Int) := by
  have h1 : ∀ x : Nat, x < 256 → (BitVec.ofInt 8 (x : Int)).toNat = x := fun x hx => by
    rw [BitVec.ofInt_natCast, BitVec.toNat_ofNat]
    exact Nat.mod_eq_of_lt (by omega)
  show IntKind.u8.wrap ((BitVec.ofInt 8 (a : Int) ||| BitVec.ofInt 8 (b : Int)).toNat : Int) = _
  rw [BitVec.toNat_or, h1 a ha, h1 b hb, IntKind.wrap_u8]
  have : a ||| b < 2 ^ 8 := Nat.or_lt_two_pow ha hb
  omega
theorem and_i64 (a b : Nat) (ha : a < 9223372036854775808) (hb : b < 9223372036854775808) : bits .and .i64 (a : Int) (b : Int) = ((a &&& b : Nat) : Int) := by
  have h1 : ∀ x : Nat, x < 9223372036854775808 → (BitVec.ofInt 64 (x : Int)).toNat = x := fun x hx => by
    rw [BitVec.ofInt_natCast, BitVec.toNat_ofNat]
    exact Nat.mod_eq_of_lt (by omega)
  show IntKind.i64.wrap ((BitVec.ofInt 64 (a : Int) &&& BitVec.ofInt 64 (b : Int)).toNat : Int) = _
  rw [BitVec.toNat_and, h1 a ha, h1 b hb, IntKind.wrap_i64]
  have : a &&& b ≤ a := Nat.and_le_left
  omega
theorem or_i64 (a b : Nat) (ha : a < 9223372036854775808) (hb : b < 9223372036854775808) : bits .or .i64 (a : Int) (b : Int) = ((a ||| b : Nat) : Int) := by
  have h1 : ∀ x : Nat, x < 9223372036854775808 → (BitVec.ofInt 64 (x : Int)).toNat = x := fun x hx => by
    rw [BitVec.ofInt_natCast, BitVec.toNat_ofNat]
    exact Nat.mod_eq_of_lt (by omega)
  show IntKind.i64.wrap ((BitVec.ofInt 64 (a : Int) ||| BitVec.ofInt 64 (b : Int)).toNat : Int) = _
  rw [BitVec.toNat_or, h1 a ha, h1 b hb, IntKind.wrap_i64]
  have : a ||| b < 2 ^ 63 := Nat.or_lt_two_pow ha hb
  omega
theorem and63 (a : Nat) : a &&& 63 = a % 64 := Nat.and_two_pow_sub_one_eq_mod a 6
/-- How many bits of the first one of n bytes only tell n. -/
def lb (n : Nat) : Nat := if n = 1 then 1 else n + 1
theorem top_and (n b : Nat) (h0 : 0 < n) (h4 : n ≤ 4) (hb : b < 256) : bits .and .u8 (b : Int) (255 / 2 ^ min (lb n) 8) = ((top n b : Nat) : Int) := by
  obtain rfl | rfl | rfl | rfl : n = 1 ∨ n = 2 ∨ n = 3 ∨ n = 4 := by omega
  · show bits .and .u8 (b : Int) ((127 : Nat) : Int) = ((b % 128 : Nat) : Int)
    rw [and_u8 b 127 hb (by omega)]
    exact congrArg _ (Nat.and_two_pow_sub_one_eq_mod b 7)
  · show bits .and .u8 (b : Int) ((31 : Nat) : Int) = ((b % 32 : Nat) : Int)
    rw [and_u8 b 31 hb (by omega)]
    exact congrArg _ (Nat.and_two_pow_sub_one_eq_mod b 5)
  · show bits .and .u8 (b : Int) ((15 : Nat) : Int) = ((b % 16 : Nat) : Int)
    rw [and_u8 b 15 hb (by omega)]
    exact congrArg _ (Nat.and_two_pow_sub_one_eq_mod b 4)
  · show bits .and .u8 (b : Int) ((7 : Nat) : Int) = ((b % 8 : Nat) : Int)
    rw [and_u8 b 7 hb (by omega)]
    exact congrArg _ (Nat.and_two_pow_sub_one_eq_mod b 3)
theorem top_lt (n b : Nat) : top n b < 128 := by
  unfold top
  repeat' split
  all_goals omega
theorem vl_lt (l : List UInt8) (n k : Nat) : vl l n k < 128 * 64 ^ k := by
  induction k with
  | zero => exact top_lt _ _
  | succ k ih =>
    unfold vl
    rw [Nat.pow_succ]
    omega
theorem vl_or (c b : Nat) (hc : c < 33554432) : bits .or .i64 ((c : Int) * 64) ((b : Int) % 64) = ((c * 64 + b % 64 : Nat) : Int) := by
  have e := or_i64 (c * 64) (b % 64) (by omega) (by omega)
  have := Nat.two_pow_add_eq_or_of_lt (i := 6) (show b % 64 < 2 ^ 6 from by omega) c
  rw [show c * 64 = 2 ^ 6 * c from by omega, ← this] at e
  rw [show c * 64 = 2 ^ 6 * c from by omega, ← e]
  congr 1
  omega
theorem ld_four_le (l : List UInt8) : ld 0 l ≤ 4 := by
  cases l with
  | nil => exact Nat.zero_le _
  | cons a l =>
    by_cases h : ld 0 (a :: l) = 0
    · omega
    · rw [ld_rn a l h]
      unfold rn
      repeat' split
      all_goals omega
theorem vl_zero (s : ByteArray) (n : Nat) (h : 0 < s.size) : top n s[0].toNat = vl s.data.toList n 0 := by
  show _ = top n (s.data.toList.getD 0 0).toNat
  rw [List.getD_eq_getElem?_getD, List.getElem?_eq_getElem (show 0 < s.data.toList.length from h)]
  rfl
theorem vl_next (s : ByteArray) (n k : Nat) (h : k + 1 < s.size) : vl s.data.toList n (k + 1) = vl s.data.toList n k * 64 + s[k + 1].toNat % 64 := by
  show _ + (s.data.toList.getD (k + 1) 0).toNat % 64 = _
  rw [List.getD_eq_getElem?_getD, List.getElem?_eq_getElem (show k + 1 < s.data.toList.length from h)]
  rfl
end Ut
end Go.Proofs.Ytifkemcjificcaa
