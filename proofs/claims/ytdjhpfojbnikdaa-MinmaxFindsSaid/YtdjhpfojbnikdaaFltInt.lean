/-
  A whole number, made a float of 64 bits and cut to a whole number again, is itself, below 2^53 in size. Of no program.
-/
import Derived.Test.YtdjhpfojbnikdaaFlt
import Derived.Laws.FloatArith
namespace Go.Proofs.Ytdjhpfojbnikdaa
namespace Flt
open Ieee
theorem cut_exact (neg : Bool) (m u : Nat) : Toward.zero.cut neg (m * 2 ^ u) u = m := by
  unfold Toward.cut
  by_cases hm : m = 0
  · subst hm; simp
  · have h1 : m * 2 ^ u ≠ 0 := Nat.mul_ne_zero hm (Nat.pos_iff_ne_zero.1 (Nat.two_pow_pos u))
    have h2 : u ≤ (m * 2 ^ u).log2 := by
      rw [Nat.le_log2 h1]
      exact Nat.le_mul_of_pos_left _ (by omega)
    rw [show min u ((m * 2 ^ u).log2 + 2) = u from by omega]
    simp only [Nat.shiftLeft_eq, Nat.one_mul, Bool.toNat_false, Nat.add_zero]
    exact Nat.mul_div_cancel _ (Nat.two_pow_pos u)
theorem toInt_ex {d : Datum} {a : Int} (h : Ex d a) : d.toInt .zero = some a := by
  obtain ⟨s, m, i, rfl, hi, hs⟩ := h
  rw [signed_zero] at hs
  unfold Datum.toInt Datum.integral
  simp only
  rw [show i.toNat = 0 from by omega, Nat.shiftLeft_zero, signed_zero]
  have hm : m = a.natAbs * 2 ^ (-i).toNat := by
    have := congrArg Int.natAbs hs
    rw [Int.natAbs_mul] at this
    have e2 : ((2 : Int) ^ (-i).toNat).natAbs = 2 ^ (-i).toNat := by rw [Int.natAbs_pow]; rfl
    rw [e2] at this
    rw [← this]
    cases s <;> simp
  rw [hm, cut_exact]
  congr 1
  have hp : (0 : Int) < 2 ^ (-i).toNat := Int.pow_pos (by decide)
  cases s
  · simp only [Bool.false_eq_true, if_false] at hs ⊢
    have : 0 ≤ a := by
      rcases Int.lt_or_le a 0 with h | h
      · have := Int.mul_neg_of_neg_of_pos h hp
        omega
      · exact h
    omega
  · simp only [if_true] at hs ⊢
    have : a ≤ 0 := by
      rcases Int.lt_or_le 0 a with h | h
      · have := Int.mul_pos h hp
        omega
      · exact h
    omega
theorem back_int (n : Int) (h : n.natAbs < 2 ^ 53) : floatToIntVal .f64 (floatOfInt .f64 n) .i64 = some n := by
  unfold floatToIntVal
  have e : (FloatKind.f64.decode (floatOfInt .f64 n)).toInt .zero = some n := toInt_ex (read_int n h)
  rw [e]
  simp only
  rw [if_pos]
  simp only [IntKind.min, IntKind.max, IntKind.signed, IntKind.bits]
  have : (2 : Nat) ^ 53 = 9007199254740992 := rfl
  simp
  omega
end Flt
end Go.Proofs.Ytdjhpfojbnikdaa
