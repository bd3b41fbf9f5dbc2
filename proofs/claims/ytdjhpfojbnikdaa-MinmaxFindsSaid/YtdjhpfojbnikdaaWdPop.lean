/-
  Plain mathematics: the sums of neighbouring fields by which math/bits counts the ones of a word of 64 bits come to how many of its bits are 1. Of no program; for every word below 2^64.
-/
import Derived.Test.YtdjhpfojbnikdaaWdMath
import Derived.Laws.Bits64b
import Derived.Laws.BitsLemmas
namespace Go.Proofs.Ytdjhpfojbnikdaa
namespace Wd

/-- k fields of b bits, each r. -/
def rep (b r : Nat) : Nat → Nat
  | 0 => 0
  | k + 1 => 2 ^ b * rep b r k + r
/-- k fields of b bits, each how many of x's bits there are 1. -/
def fl (b : Nat) : Nat → Nat → Nat
  | 0, _ => 0
  | k + 1, x => 2 ^ b * fl b k (x / 2 ^ b) + ones x b

theorem and4 (x m : Nat) : x &&& (4 * m + 1) = 4 * ((x / 4) &&& m) + x % 2 := by
  have h := and_fields 2 x m 1 (by decide)
  have e : x % 2 ^ 2 &&& 1 = x % 2 := by rw [Nat.and_one_is_mod]; omega
  rw [e] at h; exact h
theorem and16 (x m : Nat) : x &&& (16 * m + 3) = 16 * ((x / 16) &&& m) + x % 4 := by
  have h := and_fields 4 x m 3 (by decide)
  have e : x % 2 ^ 4 &&& 3 = x % 4 := by
    rw [show (3 : Nat) = 2 ^ 2 - 1 from rfl, Nat.and_two_pow_sub_one_eq_mod]; omega
  rw [e] at h; exact h
theorem and256 (x m : Nat) : x &&& (256 * m + 15) = 256 * ((x / 256) &&& m) + x % 16 := by
  have h := and_fields 8 x m 15 (by decide)
  have e : x % 2 ^ 8 &&& 15 = x % 16 := by
    rw [show (15 : Nat) = 2 ^ 4 - 1 from rfl, Nat.and_two_pow_sub_one_eq_mod]; omega
  rw [e] at h; exact h
theorem ones2 (x : Nat) : ones x 2 = x % 2 + x / 2 % 2 := by simp [ones, bt]
theorem ones4 (x : Nat) : ones x 4 = ones x 2 + ones (x / 4) 2 := ones_split x 2 2
theorem ones8 (x : Nat) : ones x 8 = ones x 4 + ones (x / 16) 4 := ones_split x 4 4

theorem pairs (k : Nat) : ∀ x, ((x / 2) &&& rep 2 1 k) + (x &&& rep 2 1 k) = fl 2 k x := by
  induction k with
  | zero => intro x; simp [rep, fl]
  | succ k ih =>
    intro x
    have h := ih (x / 4)
    simp only [rep, fl]
    rw [show (2 : Nat) ^ 2 = 4 from rfl, and4, and4, ones2, ← h, show x / 2 / 4 = x / 4 / 2 from by omega]
    omega
theorem fl_succ (b k x : Nat) : fl b (k + 1) x = 2 ^ b * fl b k (x / 2 ^ b) + ones x b := rfl
theorem quads (k : Nat) : ∀ x, ((fl 2 (2 * k) x / 4) &&& rep 4 3 k) + (fl 2 (2 * k) x &&& rep 4 3 k) = fl 4 k x := by
  induction k with
  | zero => intro x; simp [rep, fl]
  | succ k ih =>
    intro x
    have h := ih (x / 16)
    have e : fl 2 (2 * (k + 1)) x = 16 * fl 2 (2 * k) (x / 16) + 4 * ones (x / 4) 2 + ones x 2 := by
      rw [show 2 * (k + 1) = 2 * k + 1 + 1 from by omega, fl_succ, fl_succ, show x / 2 ^ 2 / 2 ^ 2 = x / 16 from by omega, show (2 : Nat) ^ 2 = 4 from rfl]
      omega
    have c0 := ones_le x 2
    have c1 := ones_le (x / 4) 2
    rw [e]
    generalize fl 2 (2 * k) (x / 16) = y at *
    simp only [rep, fl_succ]
    rw [show (2 : Nat) ^ 4 = 16 from rfl, and16, and16, ← h, ones4]
    rw [show (16 * y + 4 * ones (x / 4) 2 + ones x 2) / 4 / 16 = y / 4 from by omega, show (16 * y + 4 * ones (x / 4) 2 + ones x 2) / 16 = y from by omega]
    omega
theorem fl4_mod (k x : Nat) : fl 4 k x % 16 ≤ 4 := by
  cases k with
  | zero => simp [fl]
  | succ k => have := ones_le x 4; rw [fl_succ, show (2 : Nat) ^ 4 = 16 from rfl]; omega
theorem bytes (k : Nat) : ∀ x, (fl 4 (2 * k) x / 16 + fl 4 (2 * k) x) &&& rep 8 15 k = fl 8 k x := by
  induction k with
  | zero => intro x; simp [rep, fl]
  | succ k ih =>
    intro x
    have h := ih (x / 256)
    have e : fl 4 (2 * (k + 1)) x = 256 * fl 4 (2 * k) (x / 256) + 16 * ones (x / 16) 4 + ones x 4 := by
      rw [show 2 * (k + 1) = 2 * k + 1 + 1 from by omega, fl_succ, fl_succ, show x / 2 ^ 4 / 2 ^ 4 = x / 256 from by omega, show (2 : Nat) ^ 4 = 16 from rfl]
      omega
    have c0 := ones_le x 4
    have c1 := ones_le (x / 16) 4
    have c2 := fl4_mod (2 * k) (x / 256)
    rw [e]
    generalize fl 4 (2 * k) (x / 256) = y at *
    simp only [rep, fl_succ]
    rw [show (2 : Nat) ^ 8 = 256 from rfl, and256, ← h, ones8]
    rw [show ((256 * y + 16 * ones (x / 16) 4 + ones x 4) / 16 + (256 * y + 16 * ones (x / 16) 4 + ones x 4)) / 256 = y / 16 + y from by omega]
    omega
theorem fl_le (b k : Nat) : ∀ x, fl b k x ≤ b * rep b 1 k := by
  induction k with
  | zero => intro x; exact Nat.zero_le _
  | succ k ih =>
    intro x
    have h := ih (x / 2 ^ b)
    have c := ones_le x b
    have h2 : 2 ^ b * fl b k (x / 2 ^ b) ≤ 2 ^ b * (b * rep b 1 k) := Nat.mul_le_mul_left _ h
    rw [fl_succ, rep, Nat.mul_add, Nat.mul_one, Nat.mul_left_comm b]
    omega
theorem fl8 (x : Nat) : ∃ c0 c1 c2 c3 c4 c5 c6 c7 : Nat, fl 8 8 x = c0 + 256 * c1 + 65536 * c2 + 16777216 * c3 + 4294967296 * c4 + 1099511627776 * c5 + 281474976710656 * c6 + 72057594037927936 * c7 ∧
    c0 ≤ 8 ∧ c1 ≤ 8 ∧ c2 ≤ 8 ∧ c3 ≤ 8 ∧ c4 ≤ 8 ∧ c5 ≤ 8 ∧ c6 ≤ 8 ∧ c7 ≤ 8 ∧ ones x 64 = c0 + c1 + c2 + c3 + c4 + c5 + c6 + c7 := by
  refine ⟨ones x 8, ones (x / 2 ^ 8) 8, ones (x / 2 ^ 8 / 2 ^ 8) 8, ones (x / 2 ^ 8 / 2 ^ 8 / 2 ^ 8) 8, ones (x / 2 ^ 8 / 2 ^ 8 / 2 ^ 8 / 2 ^ 8) 8, ones (x / 2 ^ 8 / 2 ^ 8 / 2 ^ 8 / 2 ^ 8 / 2 ^ 8) 8,
    ones (x / 2 ^ 8 / 2 ^ 8 / 2 ^ 8 / 2 ^ 8 / 2 ^ 8 / 2 ^ 8) 8, ones (x / 2 ^ 8 / 2 ^ 8 / 2 ^ 8 / 2 ^ 8 / 2 ^ 8 / 2 ^ 8 / 2 ^ 8) 8, ?_, ones_le _ _, ones_le _ _, ones_le _ _, ones_le _ _, ones_le _ _, ones_le _ _, ones_le _ _, ones_le _ _, ?_⟩
  · simp only [fl]; omega
  · rw [show (64 : Nat) = 8 + 56 from rfl, ones_split, show (56 : Nat) = 8 + 48 from rfl, ones_split, show (48 : Nat) = 8 + 40 from rfl, ones_split, show (40 : Nat) = 8 + 32 from rfl, ones_split,
      show (32 : Nat) = 8 + 24 from rfl, ones_split, show (24 : Nat) = 8 + 16 from rfl, ones_split, show (16 : Nat) = 8 + 8 from rfl, ones_split]
    omega

theorem nat_div (a b : Nat) : (a : Int) / (b : Int) = ((a / b : Nat) : Int) := rfl

theorem stage1 (x : Nat) (h : x < 18446744073709551616) :
    IntKind.u64.wrap (bits .and .u64 ((x : Int) / 2) 6148914691236517205 + bits .and .u64 (x : Int) 6148914691236517205) = ((fl 2 32 x : Nat) : Int) := by
  have p := pairs 32 x
  rw [show rep 2 1 32 = 6148914691236517205 from by decide +kernel] at p
  have b := fl_le 2 32 x
  rw [show 2 * rep 2 1 32 = 12297829382473034410 from by decide +kernel] at b
  have e1 := bits_and_u64_nat (x / 2) 6148914691236517205 (by omega) (by omega)
  have e2 := bits_and_u64_nat x 6148914691236517205 h (by omega)
  rw [show ((6148914691236517205 : Nat) : Int) = 6148914691236517205 from rfl] at e1 e2
  rw [show (x : Int) / 2 = ((x / 2 : Nat) : Int) from rfl, e1, e2, IntKind.wrap_u64, ← p]
  omega
theorem stage2 (x : Nat) :
    IntKind.u64.wrap (bits .and .u64 ((fl 2 32 x : Int) / 4) 3689348814741910323 + bits .and .u64 (fl 2 32 x : Int) 3689348814741910323) = ((fl 4 16 x : Nat) : Int) := by
  have p := quads 16 x
  rw [show rep 4 3 16 = 3689348814741910323 from by decide +kernel] at p
  have b := fl_le 4 16 x
  rw [show 4 * rep 4 1 16 = 4919131752989213764 from by decide +kernel] at b
  have b2 := fl_le 2 32 x
  rw [show 2 * rep 2 1 32 = 12297829382473034410 from by decide +kernel] at b2
  rw [show 2 * 16 = 32 from rfl] at p
  generalize fl 2 32 x = y at *
  have e1 := bits_and_u64_nat (y / 4) 3689348814741910323 (by omega) (by omega)
  have e2 := bits_and_u64_nat y 3689348814741910323 (by omega) (by omega)
  rw [show ((3689348814741910323 : Nat) : Int) = 3689348814741910323 from rfl] at e1 e2
  rw [show (y : Int) / 4 = ((y / 4 : Nat) : Int) from rfl, e1, e2, IntKind.wrap_u64, ← p]
  omega
theorem stage3 (x : Nat) :
    bits .and .u64 (IntKind.u64.wrap ((fl 4 16 x : Int) / 16 + (fl 4 16 x : Int))) 1085102592571150095 = ((fl 8 8 x : Nat) : Int) := by
  have p := bytes 8 x
  rw [show rep 8 15 8 = 1085102592571150095 from by decide +kernel] at p
  have b := fl_le 4 16 x
  rw [show 4 * rep 4 1 16 = 4919131752989213764 from by decide +kernel] at b
  rw [show 2 * 8 = 16 from rfl] at p
  generalize fl 4 16 x = y at *
  have e0 : IntKind.u64.wrap ((y : Int) / 16 + (y : Int)) = ((y / 16 + y : Nat) : Int) := by rw [IntKind.wrap_u64]; omega
  have e1 := bits_and_u64_nat (y / 16 + y) 1085102592571150095 (by omega) (by omega)
  rw [show ((1085102592571150095 : Nat) : Int) = 1085102592571150095 from rfl] at e1
  rw [e0, e1, p]
theorem wrap_div (z d : Nat) (h : z + z / d < 18446744073709551616) : IntKind.u64.wrap ((z : Int) + (z : Int) / (d : Int)) = ((z + z / d : Nat) : Int) := by
  rw [nat_div, IntKind.wrap_u64]
  generalize z / d = q at *
  omega
theorem div_of (z d q r : Nat) (h : z = d * q + r) (hr : r < d) : z / d = q := by
  subst h
  rw [Nat.mul_add_div (by omega), Nat.div_eq_of_lt hr, Nat.add_zero]
theorem stage4 (x : Nat) : ∃ y : Nat, y < 18446744073709551616 ∧ y % 128 = ones x 64 ∧
    IntKind.u64.wrap (IntKind.u64.wrap (IntKind.u64.wrap ((fl 8 8 x : Int) + (fl 8 8 x : Int) / 256) + IntKind.u64.wrap ((fl 8 8 x : Int) + (fl 8 8 x : Int) / 256) / 65536) +
      IntKind.u64.wrap (IntKind.u64.wrap ((fl 8 8 x : Int) + (fl 8 8 x : Int) / 256) + IntKind.u64.wrap ((fl 8 8 x : Int) + (fl 8 8 x : Int) / 256) / 65536) / 4294967296) = (y : Int) := by
  obtain ⟨c0, c1, c2, c3, c4, c5, c6, c7, e, h0, h1, h2, h3, h4, h5, h6, h7, hs⟩ := fl8 x
  rw [hs]
  clear hs
  generalize fl 8 8 x = z at *
  have a1 : z / 256 = c1 + 256 * c2 + 65536 * c3 + 16777216 * c4 + 4294967296 * c5 + 1099511627776 * c6 + 281474976710656 * c7 := div_of _ _ _ c0 (by omega) (by omega)
  have e4 := wrap_div z 256 (by rw [a1]; omega)
  have f4 : z + z / 256 = 65536 * ((c2 + c3) + 256 * (c3 + c4) + 65536 * (c4 + c5) + 16777216 * (c5 + c6) + 4294967296 * (c6 + c7) + 1099511627776 * c7) + ((c0 + c1) + 256 * (c1 + c2)) := by rw [a1]; omega
  rw [show ((256 : Nat) : Int) = 256 from rfl] at e4
  rw [e4]
  clear e4 a1 e
  generalize z + z / 256 = y4 at *
  clear z
  have a2 : y4 / 65536 = (c2 + c3) + 256 * (c3 + c4) + 65536 * (c4 + c5) + 16777216 * (c5 + c6) + 4294967296 * (c6 + c7) + 1099511627776 * c7 := div_of _ _ _ _ f4 (by omega)
  have e5 := wrap_div y4 65536 (by rw [a2]; omega)
  have f5 : y4 + y4 / 65536 = 4294967296 * ((c4 + c5 + c6 + c7) + 256 * (c5 + c6 + c7) + 65536 * (c6 + c7) + 16777216 * c7) + ((c0 + c1 + c2 + c3) + 256 * (c1 + c2 + c3 + c4) + 65536 * (c2 + c3 + c4 + c5) + 16777216 * (c3 + c4 + c5 + c6)) := by rw [a2]; omega
  rw [show ((65536 : Nat) : Int) = 65536 from rfl] at e5
  rw [e5]
  clear e5 a2 f4
  generalize y4 + y4 / 65536 = y5 at *
  clear y4
  have a3 : y5 / 4294967296 = (c4 + c5 + c6 + c7) + 256 * (c5 + c6 + c7) + 65536 * (c6 + c7) + 16777216 * c7 := div_of _ _ _ _ f5 (by omega)
  have e6 := wrap_div y5 4294967296 (by rw [a3]; omega)
  rw [show ((4294967296 : Nat) : Int) = 4294967296 from rfl] at e6
  refine ⟨y5 + y5 / 4294967296, by rw [a3]; omega, by rw [a3]; omega, e6⟩
theorem and127 (y : Nat) (h : y < 18446744073709551616) : bits .and .i64 (IntKind.i64.wrap (y : Int)) 127 = ((y % 128 : Nat) : Int) := by
  rw [IntKind.wrap_i64]
  have e : BitVec.ofInt 64 (((y : Int) + 9223372036854775808) % 18446744073709551616 - 9223372036854775808) = BitVec.ofNat 64 y := by
    apply BitVec.eq_of_toNat_eq
    rw [BitVec.toNat_ofInt, BitVec.toNat_ofNat]
    omega
  show IntKind.i64.wrap ((BitVec.ofInt 64 _ &&& BitVec.ofInt 64 127).toNat : Int) = _
  rw [e, BitVec.toNat_and, BitVec.toNat_ofNat, show (BitVec.ofInt 64 127).toNat = 2 ^ 7 - 1 from rfl, Nat.and_two_pow_sub_one_eq_mod, IntKind.wrap_i64]
  omega
end Wd
end Go.Proofs.Ytdjhpfojbnikdaa
