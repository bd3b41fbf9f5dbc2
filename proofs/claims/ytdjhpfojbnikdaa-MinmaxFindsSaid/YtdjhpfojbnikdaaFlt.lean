/-
  Whole numbers as floats of 64 bits, of no program: below 2^53 in size each is its float exactly, so that floats of two of them stand to each other as the two numbers do.
-/
import Derived.Laws.Cover2
namespace Go.Proofs.Ytdjhpfojbnikdaa
namespace Flt
open Ieee

theorem cut_none (neg : Bool) (n : Nat) : Toward.even.cut neg n 0 = n := by
  unfold Toward.cut
  simp [Nat.mod_one]

theorem place_least : double.leastPlace = -1074 := by decide +kernel
theorem binade_eq : double.binade = 4503599627370496 := by decide +kernel
theorem inf_eq : double.infRung = 9218868437227405312 := by decide +kernel
theorem sign_eq : double.signWeight = 9223372036854775808 := by decide +kernel

theorem kept_bounds (m : Nat) (h0 : m ≠ 0) (h : m < 2 ^ 53) : m.log2 ≤ 52 ∧ 4503599627370496 ≤ m * 2 ^ (52 - m.log2) ∧ m * 2 ^ (52 - m.log2) < 9007199254740992 := by
  have hl : m.log2 < 53 := (Nat.log2_lt h0).2 h
  have h1 : 2 ^ m.log2 ≤ m := Nat.log2_self_le h0
  have h2 : m < 2 ^ (m.log2 + 1) := Nat.lt_log2_self
  have hp : 0 < 2 ^ (52 - m.log2) := Nat.two_pow_pos _
  have e1 : 2 ^ m.log2 * 2 ^ (52 - m.log2) = 4503599627370496 := by rw [← Nat.pow_add, show m.log2 + (52 - m.log2) = 52 from by omega]
  have e2 : 2 ^ (m.log2 + 1) * 2 ^ (52 - m.log2) = 9007199254740992 := by rw [← Nat.pow_add, show m.log2 + 1 + (52 - m.log2) = 53 from by omega]
  refine ⟨by omega, ?_, ?_⟩
  · rw [← e1]; exact Nat.mul_le_mul_right _ h1
  · rw [← e2]; exact Nat.mul_lt_mul_of_pos_right h2 hp

theorem nearest_eq (neg : Bool) (m : Nat) (h0 : m ≠ 0) (h : m < 2 ^ 53) :
    double.nearest neg m 0 = double.word neg ((m.log2 + 1022) * 4503599627370496 + m * 2 ^ (52 - m.log2)) := by
  obtain ⟨hl, h1, h2⟩ := kept_bounds m h0 h
  unfold Format.nearest
  rw [if_neg h0]
  have e : max (0 + (m.log2 : Int) - (double.fractionBits : Int)) double.leastPlace = (m.log2 : Int) - 52 := by
    rw [place_least, show ((double.fractionBits : Nat) : Int) = 52 from rfl]; omega
  simp only [e]
  rw [show (((m.log2 : Int) - 52) - 0).toNat = 0 from by omega, show (0 - ((m.log2 : Int) - 52)).toNat = 52 - m.log2 from by omega, cut_none, place_least, binade_eq, inf_eq, Nat.shiftLeft_eq,
    show (((m.log2 : Int) - 52) - (-1074)).toNat = m.log2 + 1022 from by omega]
  congr 1
  generalize m * 2 ^ (52 - m.log2) = K at *
  omega

/-- A datum that stands for a whole number: its magnitude at a place no higher than that of ones. -/
def Ex (d : Datum) (a : Int) : Prop := ∃ (s : Bool) (m : Nat) (i : Int), d = .number s m i ∧ i ≤ 0 ∧ signed s m 0 = a * 2 ^ (-i).toNat

theorem signed_zero (s : Bool) (m : Nat) : signed s m 0 = if s then -(m : Int) else (m : Int) := by
  unfold signed; rw [Nat.shiftLeft_zero]
theorem signed_up (s : Bool) (m u : Nat) : signed s m u = signed s m 0 * 2 ^ u := by
  rw [signed_zero]
  unfold signed
  rw [Nat.shiftLeft_eq]
  cases s
  · simp
  · simp [Int.neg_mul]

theorem read_word (neg : Bool) (R : Nat) (h1 : 4503599627370496 ≤ R) (h2 : R < 9218868437227405312) :
    double.read (double.word neg R) = .number neg (4503599627370496 + R % 4503599627370496) (-1074 + ((R / 4503599627370496 - 1 : Nat) : Int)) := by
  have e1 : double.word neg R / 9223372036854775808 % 2 = neg.toNat := by
    unfold Format.word; rw [sign_eq]; cases neg <;> simp <;> omega
  have e2 : double.word neg R % 9223372036854775808 = R := by
    unfold Format.word; rw [sign_eq]; cases neg <;> simp <;> omega
  unfold Format.read
  simp only [sign_eq, binade_eq, inf_eq, place_least, e1, e2]
  rw [if_neg (by omega), if_pos h2]
  cases neg <;> rfl

theorem read_int (n : Int) (h : n.natAbs < 2 ^ 53) : Ex (FloatKind.f64.format.read (floatOfInt .f64 n)) n := by
  show Ex (double.read (double.nearest (decide (n < 0)) n.natAbs 0)) n
  by_cases h0 : n = 0
  · subst h0
    exact ⟨false, 0, -1074, by decide +kernel, by decide, by decide +kernel⟩
  · have hm : n.natAbs ≠ 0 := by omega
    rw [nearest_eq _ _ hm h]
    obtain ⟨hl, h1, h2⟩ := kept_bounds _ hm h
    generalize hL : n.natAbs.log2 = L at *
    generalize hK : n.natAbs * 2 ^ (52 - L) = K at *
    rw [read_word _ _ (by omega) (by omega)]
    refine ⟨_, _, _, rfl, by omega, ?_⟩
    rw [show ((L + 1022) * 4503599627370496 + K) % 4503599627370496 = K - 4503599627370496 from by omega,
      show 4503599627370496 + (K - 4503599627370496) = K from by omega, signed_zero,
      show (-(-1074 + (((((L + 1022) * 4503599627370496 + K) / 4503599627370496 - 1 : Nat)) : Int))).toNat = 52 - L from by omega, ← hK]
    have hp : ((2 : Int) ^ (52 - L)) = ((2 ^ (52 - L) : Nat) : Int) := by simp
    rw [hp, Int.natCast_mul]
    by_cases hn : n < 0
    · simp only [hn, decide_true, if_true]
      rw [← Int.neg_mul, show (-(n.natAbs : Int)) = n from by omega]
    · simp only [hn, decide_false, Bool.false_eq_true, if_false]
      rw [show (n.natAbs : Int) = n from by omega]

theorem order_ex {d e : Datum} {a b : Int} (h1 : Ex d a) (h2 : Ex e b) : d.order e = some (compare a b) := by
  obtain ⟨s, m, i, rfl, hi, hs⟩ := h1
  obtain ⟨t, n, j, rfl, hj, ht⟩ := h2
  show some (compare (signed s m (i - min i j).toNat) (signed t n (j - min i j).toNat)) = _
  rw [signed_up s m, signed_up t n, hs, ht]
  have key : ∀ (c i : Int), i ≤ 0 → min i j ≤ i ∨ True → ∀ (k : Int), k ≤ i → c * 2 ^ (-i).toNat * 2 ^ (i - k).toNat = c * 2 ^ (-k).toNat := by
    intro c i hi _ k hk
    rw [Int.mul_assoc, ← Int.pow_add, show (-i).toNat + (i - k).toNat = (-k).toNat from by omega]
  rw [key a i hi (.inr trivial) (min i j) (by omega), key b j hj (.inr trivial) (min i j) (by omega)]
  have hp : (0 : Int) < 2 ^ (-min i j).toNat := Int.pow_pos (by decide)
  generalize (2 : Int) ^ (-min i j).toNat = q at *
  congr 1
  simp only [compare, compareOfLessAndEq]
  by_cases hlt : a < b
  · rw [if_pos hlt, if_pos (Int.mul_lt_mul_of_pos_right hlt hp)]
  · rw [if_neg hlt]
    by_cases he : a = b
    · rw [if_pos he, he, if_neg (Int.lt_irrefl _), if_pos rfl]
    · rw [if_neg he]
      have hgt : b * q < a * q := Int.mul_lt_mul_of_pos_right (by omega) hp
      rw [if_neg (by omega), if_neg (by omega)]

/-- Floats of whole numbers below 2^53 in size stand to each other as the numbers do. -/
theorem order_int (a b : Int) (ha : a.natAbs < 2 ^ 53) (hb : b.natAbs < 2 ^ 53) :
    FloatKind.f64.format.order (floatOfInt .f64 a) (floatOfInt .f64 b) = some (compare a b) := order_ex (read_int a ha) (read_int b hb)
end Flt
end Go.Proofs.Ytdjhpfojbnikdaa
