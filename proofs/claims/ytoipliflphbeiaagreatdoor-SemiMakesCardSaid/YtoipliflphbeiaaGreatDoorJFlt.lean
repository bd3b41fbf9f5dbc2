/-
  Whole numbers as floats of 64 bits, of no program: below 2^53 in size each is its float exactly, so that floats of two of them stand to each other as the two numbers do.
  A whole number, made a float of 64 bits and cut to a whole number again, is itself, below 2^53 in size. Of no program.
  Floats of whole numbers: their sum, the lesser and the greater of two, below 2^52 in size exactly those of the numbers; likewise the complex numbers of two. Of no program.
-/
import Derived.Laws.Cover2
import Derived.Laws.FloatArith
import Derived.Laws.ComplexArith
namespace Go.Proofs.YtoipliflphbeiaaGreatDoor
namespace Flt
open Ieee

theorem cut_none (neg : Bool) (n : Nat) : Toward.even.cut neg n 0 = n := by
  unfold Toward.cut
  simp [Nat.mod_one]

theorem place_least : double.leastPlace = -1074 := by decide +kernel
theorem binade_eq : double.binade = 4503599627370496 := by decide +kernel
theorem inf_eq : double.infRung = 9218868437227405312 := by decide +kernel
theorem sign_eq : double.signWeight = 9223372036854775808 := by decide +kernel

theorem kept_bounds (m : Nat) (h0 : m ≠ 0) (h : m < 2 ^ 53) : m.log2 ≤ 52 ∧ 4503599627370496 ≤ m * 2 ^ (52 - m.log2) ∧ m * 2 ^ (52 - m.log2) < 9007199254740992 := by
  have hl : m.log2 < 53 := (Nat.log2_lt h0).2 h
  have h1 : 2 ^ m.log2 ≤ m := Nat.log2_self_le h0
  have h2 : m < 2 ^ (m.log2 + 1) := Nat.lt_log2_self
  have hp : 0 < 2 ^ (52 - m.log2) := Nat.two_pow_pos _
  have e1 : 2 ^ m.log2 * 2 ^ (52 - m.log2) = 4503599627370496 := by rw [← Nat.pow_add, show m.log2 + (52 - m.log2) = 52 from by omega]
  have e2 : 2 ^ (m.log2 + 1) * 2 ^ (52 - m.log2) = 9007199254740992 := by rw [← Nat.pow_add, show m.log2 + 1 + (52 - m.log2) = 53 from by omega]
  refine ⟨by omega, ?_, ?_⟩
  · rw [← e1]; exact Nat.mul_le_mul_right _ h1
  · rw [← e2]; exact Nat.mul_lt_mul_of_pos_right h2 hp

theorem nearest_eq (neg : Bool) (m : Nat) (h0 : m ≠ 0) (h : m < 2 ^ 53) :
    double.nearest neg m 0 = double.word neg ((m.log2 + 1022) * 4503599627370496 + m * 2 ^ (52 - m.log2)) := by
  obtain ⟨hl, h1, h2⟩ := kept_bounds m h0 h
  unfold Format.nearest
  rw [if_neg h0]
  have e : max (0 + (m.log2 : Int) - (double.fractionBits : Int)) double.leastPlace = (m.log2 : Int) - 52 := by
    rw [place_least, show ((double.fractionBits : Nat) : Int) = 52 from rfl]; omega
  simp only [e]
  rw [show (((m.log2 : Int) - 52) - 0).toNat = 0 from by omega, show (0 - ((m.log2 : Int) - 52)).toNat = 52 - m.log2 from by omega, cut_none, place_least, binade_eq, inf_eq, Nat.shiftLeft_eq,
    show (((m.log2 : Int) - 52) - (-1074)).toNat = m.log2 + 1022 from by omega]
  congr 1
  generalize m * 2 ^ (52 - m.log2) = K at *
  omega

/-- A datum that stands for a whole number: its magnitude at a place no higher than that of ones. -/
def Ex (d : Datum) (a : Int) : Prop := ∃ (s : Bool) (m : Nat) (i : Int), d = .number s m i ∧ i ≤ 0 ∧ signed s m 0 = a * 2 ^ (-i).toNat

theorem signed_zero (s : Bool) (m : Nat) : signed s m 0 = if s then -(m : Int) else (m : Int) := by
  unfold signed; rw [Nat.shiftLeft_zero]
theorem signed_up (s : Bool) (m u : Nat) : signed s m u = signed s m 0 * 2 ^ u := by
  rw [signed_zero]
  unfold signed
  rw [Nat.shiftLeft_eq]
  cases s
  · simp
  · simp [Int.neg_mul]

theorem read_word (neg : Bool) (R : Nat) (h1 : 4503599627370496 ≤ R) (h2 : R < 9218868437227405312) :
    double.read (double.word neg R) = .number neg (4503599627370496 + R % 4503599627370496) (-1074 + ((R / 4503599627370496 - 1 : Nat) : Int)) := by
  have e1 : double.word neg R / 9223372036854775808 % 2 = neg.toNat := by
    unfold Format.word; rw [sign_eq]; cases neg <;> simp <;> omega
  have e2 : double.word neg R % 9223372036854775808 = R := by
    unfold Format.word; rw [sign_eq]; cases neg <;> simp <;> omega
  unfold Format.read
  simp only [sign_eq, binade_eq, inf_eq, place_least, e1, e2]
  rw [if_neg (by omega), if_pos h2]
  cases neg <;> rfl

theorem read_int (n : Int) (h : n.natAbs < 2 ^ 53) : Ex (FloatKind.f64.format.read (floatOfInt .f64 n)) n := by
  show Ex (double.read (double.nearest (decide (n < 0)) n.natAbs 0)) n
  by_cases h0 : n = 0
  · subst h0
    exact ⟨false, 0, -1074, by decide +kernel, by decide, by decide +kernel⟩
  · have hm : n.natAbs ≠ 0 := by omega
    rw [nearest_eq _ _ hm h]
    obtain ⟨hl, h1, h2⟩ := kept_bounds _ hm h
    generalize hL : n.natAbs.log2 = L at *
    generalize hK : n.natAbs * 2 ^ (52 - L) = K at *
    rw [read_word _ _ (by omega) (by omega)]
    refine ⟨_, _, _, rfl, by omega, ?_⟩
    rw [show ((L + 1022) * 4503599627370496 + K) % 4503599627370496 = K - 4503599627370496 from by omega,
      show 4503599627370496 + (K - 4503599627370496) = K from by omega, signed_zero,
      show (-(-1074 + (((((L + 1022) * 4503599627370496 + K) / 4503599627370496 - 1 : Nat)) : Int))).toNat = 52 - L from by omega, ← hK]
    have hp : ((2 : Int) ^ (52 - L)) = ((2 ^ (52 - L) : Nat) : Int) := by simp
    rw [hp, Int.natCast_mul]
    by_cases hn : n < 0
    · simp only [hn, decide_true, if_true]
      rw [← Int.neg_mul, show (-(n.natAbs : Int)) = n from by omega]
    · simp only [hn, decide_false, Bool.false_eq_true, if_false]
      rw [show (n.natAbs : Int) = n from by omega]

theorem order_ex {d e : Datum} {a b : Int} (h1 : Ex d a) (h2 : Ex e b) : d.order e = some (compare a b) := by
  obtain ⟨s, m, i, rfl, hi, hs⟩ := h1
  obtain ⟨t, n, j, rfl, hj, ht⟩ := h2
  show some (compare (signed s m (i - min i j).toNat) (signed t n (j - min i j).toNat)) = _
  rw [signed_up s m, signed_up t n, hs, ht]
  have key : ∀ (c i : Int), i ≤ 0 → min i j ≤ i ∨ True → ∀ (k : Int), k ≤ i → c * 2 ^ (-i).toNat * 2 ^ (i - k).toNat = c * 2 ^ (-k).toNat := by
    intro c i hi _ k hk
    rw [Int.mul_assoc, ← Int.pow_add, show (-i).toNat + (i - k).toNat = (-k).toNat from by omega]
  rw [key a i hi (.inr trivial) (min i j) (by omega), key b j hj (.inr trivial) (min i j) (by omega)]
  have hp : (0 : Int) < 2 ^ (-min i j).toNat := Int.pow_pos (by decide)
  generalize (2 : Int) ^ (-min i j).toNat = q at *
  congr 1
  simp only [compare, compareOfLessAndEq]
  by_cases hlt : a < b
  · rw [if_pos hlt, if_pos (Int.mul_lt_mul_of_pos_right hlt hp)]
  · rw [if_neg hlt]
    by_cases he : a = b
    · rw [if_pos he, he, if_neg (Int.lt_irrefl _), if_pos rfl]
    · rw [if_neg he]
      have hgt : b * q < a * q := Int.mul_lt_mul_of_pos_right (by omega) hp
      rw [if_neg (by omega), if_neg (by omega)]

/-- Floats of whole numbers below 2^53 in size stand to each other as the numbers do. -/
theorem order_int (a b : Int) (ha : a.natAbs < 2 ^ 53) (hb : b.natAbs < 2 ^ 53) :
    FloatKind.f64.format.order (floatOfInt .f64 a) (floatOfInt .f64 b) = some (compare a b) := order_ex (read_int a ha) (read_int b hb)
end Flt
end Go.Proofs.YtoipliflphbeiaaGreatDoor
namespace Go.Proofs.YtoipliflphbeiaaGreatDoor
namespace Flt
open Ieee
theorem cut_exact (neg : Bool) (m u : Nat) : Toward.zero.cut neg (m * 2 ^ u) u = m := by
  unfold Toward.cut
  by_cases hm : m = 0
  · subst hm; simp
  · have h1 : m * 2 ^ u ≠ 0 := Nat.mul_ne_zero hm (Nat.pos_iff_ne_zero.1 (Nat.two_pow_pos u))
    have h2 : u ≤ (m * 2 ^ u).log2 := by
      rw [Nat.le_log2 h1]
      exact Nat.le_mul_of_pos_left _ (by omega)
    rw [show min u ((m * 2 ^ u).log2 + 2) = u from by omega]
    simp only [Nat.shiftLeft_eq, Nat.one_mul, Bool.toNat_false, Nat.add_zero]
    exact Nat.mul_div_cancel _ (Nat.two_pow_pos u)
theorem toInt_ex {d : Datum} {a : Int} (h : Ex d a) : d.toInt .zero = some a := by
  obtain ⟨s, m, i, rfl, hi, hs⟩ := h
  rw [signed_zero] at hs
  unfold Datum.toInt Datum.integral
  simp only
  rw [show i.toNat = 0 from by omega, Nat.shiftLeft_zero, signed_zero]
  have hm : m = a.natAbs * 2 ^ (-i).toNat := by
    have := congrArg Int.natAbs hs
    rw [Int.natAbs_mul] at this
    have e2 : ((2 : Int) ^ (-i).toNat).natAbs = 2 ^ (-i).toNat := by rw [Int.natAbs_pow]; rfl
    rw [e2] at this
    rw [← this]
    cases s <;> simp
  rw [hm, cut_exact]
  congr 1
  have hp : (0 : Int) < 2 ^ (-i).toNat := Int.pow_pos (by decide)
  cases s
  · simp only [Bool.false_eq_true, if_false] at hs ⊢
    have : 0 ≤ a := by
      rcases Int.lt_or_le a 0 with h | h
      · have := Int.mul_neg_of_neg_of_pos h hp
        omega
      · exact h
    omega
  · simp only [if_true] at hs ⊢
    have : a ≤ 0 := by
      rcases Int.lt_or_le 0 a with h | h
      · have := Int.mul_pos h hp
        omega
      · exact h
    omega
theorem back_int (n : Int) (h : n.natAbs < 2 ^ 53) : floatToIntVal .f64 (floatOfInt .f64 n) .i64 = some n := by
  unfold floatToIntVal
  have e : (FloatKind.f64.decode (floatOfInt .f64 n)).toInt .zero = some n := toInt_ex (read_int n h)
  rw [e]
  simp only
  rw [if_pos]
  simp only [IntKind.min, IntKind.max, IntKind.signed, IntKind.bits]
  have : (2 : Nat) ^ 53 = 9007199254740992 := rfl
  simp
  omega
end Flt
end Go.Proofs.YtoipliflphbeiaaGreatDoor
namespace Go.Proofs.YtoipliflphbeiaaGreatDoor
namespace Flt
open Ieee
theorem log2_up (m u : Nat) (h : m ≠ 0) : (m * 2 ^ u).log2 = m.log2 + u := by
  have hp := Nat.two_pow_pos u
  have h0 : m * 2 ^ u ≠ 0 := Nat.mul_ne_zero h (by omega)
  rw [Nat.log2_eq_iff h0]
  have h1 : 2 ^ m.log2 ≤ m := Nat.log2_self_le h
  have h2 : m < 2 ^ (m.log2 + 1) := Nat.lt_log2_self
  refine ⟨?_, ?_⟩
  · rw [Nat.pow_add]; exact Nat.mul_le_mul_right _ h1
  · rw [show m.log2 + u + 1 = m.log2 + 1 + u from by omega, Nat.pow_add]; exact Nat.mul_lt_mul_of_pos_right h2 hp
theorem even_exact (neg : Bool) (m u : Nat) : Toward.even.cut neg (m * 2 ^ u) u = m := by
  unfold Toward.cut
  by_cases hm : m = 0
  · subst hm
    simp
  · have h1 : m * 2 ^ u ≠ 0 := Nat.mul_ne_zero hm (Nat.pos_iff_ne_zero.1 (Nat.two_pow_pos u))
    have h2 : u ≤ (m * 2 ^ u).log2 := by rw [log2_up m u hm]; omega
    rw [show min u ((m * 2 ^ u).log2 + 2) = u from by omega]
    simp only [Nat.shiftLeft_eq, Nat.one_mul]
    have hp := Nat.two_pow_pos u
    rw [Nat.mul_mod_left, Nat.mul_div_cancel _ hp]
    simp
theorem nearest_up (neg : Bool) (m u : Nat) (h0 : m ≠ 0) (h : m < 2 ^ 53) : double.nearest neg (m * 2 ^ u) (-(u : Int)) = double.nearest neg m 0 := by
  rw [nearest_eq neg m h0 h]
  obtain ⟨hl, h1, h2⟩ := kept_bounds m h0 h
  have hp := Nat.two_pow_pos u
  have hz : m * 2 ^ u ≠ 0 := Nat.mul_ne_zero h0 (by omega)
  unfold Format.nearest
  rw [if_neg hz]
  have e : max (-(u : Int) + ((m * 2 ^ u).log2 : Int) - (double.fractionBits : Int)) double.leastPlace = (m.log2 : Int) - 52 := by
    rw [place_least, show ((double.fractionBits : Nat) : Int) = 52 from rfl, log2_up m u h0]; omega
  simp only [e]
  rw [place_least, binade_eq, inf_eq, show (((m.log2 : Int) - 52) - (-1074)).toNat = m.log2 + 1022 from by omega, Nat.shiftLeft_eq]
  have hc : Toward.even.cut neg (m * 2 ^ u * 2 ^ (-(u : Int) - ((m.log2 : Int) - 52)).toNat) (((m.log2 : Int) - 52) - -(u : Int)).toNat = m * 2 ^ (52 - m.log2) := by
    by_cases hu : u ≤ 52 - m.log2
    · rw [show (((m.log2 : Int) - 52) - -(u : Int)).toNat = 0 from by omega, cut_none, show (-(u : Int) - ((m.log2 : Int) - 52)).toNat = 52 - m.log2 - u from by omega, Nat.mul_assoc, ← Nat.pow_add, show u + (52 - m.log2 - u) = 52 - m.log2 from by omega]
    · rw [show (-(u : Int) - ((m.log2 : Int) - 52)).toNat = 0 from by omega, show (((m.log2 : Int) - 52) - -(u : Int)).toNat = u - (52 - m.log2) from by omega, Nat.pow_zero, Nat.mul_one,
        show u = (52 - m.log2) + (u - (52 - m.log2)) from by omega, Nat.pow_add, ← Nat.mul_assoc,
        show (52 - m.log2) + (u - (52 - m.log2)) - (52 - m.log2) = u - (52 - m.log2) from by omega, even_exact]
  rw [hc]
  congr 1
  generalize m * 2 ^ (52 - m.log2) = K at *
  omega
/-- As Ex, with the sign. -/
def Ey (d : Datum) (a : Int) : Prop := ∃ (s : Bool) (m : Nat) (i : Int), d = .number s m i ∧ i ≤ 0 ∧ signed s m 0 = a * 2 ^ (-i).toNat ∧ s = decide (a < 0)
theorem read_int' (n : Int) (h : n.natAbs < 2 ^ 53) : Ey (FloatKind.f64.format.read (floatOfInt .f64 n)) n := by
  obtain ⟨s, m, i, hd, hi, hs⟩ := read_int n h
  refine ⟨s, m, i, hd, hi, hs, ?_⟩
  rw [signed_zero] at hs
  have hp : (0 : Int) < 2 ^ (-i).toNat := Int.pow_pos (by decide)
  by_cases h0 : n = 0
  · subst h0
    have : FloatKind.f64.format.read (floatOfInt .f64 0) = .number false 0 (-1074) := by decide +kernel
    rw [this] at hd
    injection hd with h1 _ _
    rw [← h1]
    rfl
  · by_cases hn : n < 0
    · have : n * 2 ^ (-i).toNat < 0 := Int.mul_neg_of_neg_of_pos hn hp
      cases s
      · simp only [Bool.false_eq_true, if_false] at hs
        omega
      · simp [hn]
    · have : 0 < n * 2 ^ (-i).toNat := Int.mul_pos (by omega) hp
      cases s
      · simp [hn]
      · simp only [if_true] at hs
        omega
theorem add_int (a b : Int) (ha : a.natAbs < 2 ^ 52) (hb : b.natAbs < 2 ^ 52) : floatBits .add .f64 (floatOfInt .f64 a) (floatOfInt .f64 b) = some (floatOfInt .f64 (a + b)) := by
  show ((FloatKind.f64.format.read (floatOfInt .f64 a)).sum (FloatKind.f64.format.read (floatOfInt .f64 b))).map double.write = some (double.nearest (decide (a + b < 0)) (a + b).natAbs 0)
  obtain ⟨s, m, i, hd, hi, hs, hsa⟩ := read_int' a (by omega)
  obtain ⟨t, n, j, he, hj, ht, htb⟩ := read_int' b (by omega)
  rw [hd, he]
  show some (double.write (.number (if signed s m (i - min i j).toNat + signed t n (j - min i j).toNat = 0 then s && t else decide (signed s m (i - min i j).toNat + signed t n (j - min i j).toNat < 0)) (signed s m (i - min i j).toNat + signed t n (j - min i j).toNat).natAbs (min i j))) = _
  congr 1
  rw [signed_up s m, signed_up t n, hs, ht]
  have key : ∀ (c i : Int), i ≤ 0 → ∀ (k : Int), k ≤ i → c * 2 ^ (-i).toNat * 2 ^ (i - k).toNat = c * 2 ^ (-k).toNat := by
    intro c i hi k hk
    rw [Int.mul_assoc, ← Int.pow_add, show (-i).toNat + (i - k).toNat = (-k).toNat from by omega]
  rw [key a i hi (min i j) (by omega), key b j hj (min i j) (by omega), ← Int.add_mul]
  have hk : min i j = -(((-(min i j)).toNat : Nat) : Int) := by omega
  generalize (-(min i j)).toNat = u at *
  rw [hk]
  have hp : (0 : Int) < 2 ^ u := Int.pow_pos (by decide)
  have hpn : ((2 : Int) ^ u).natAbs = 2 ^ u := by rw [Int.natAbs_pow]; rfl
  show double.nearest _ _ _ = _
  rw [Int.natAbs_mul, hpn]
  by_cases h0 : a + b = 0
  · rw [h0, Int.zero_mul, if_pos rfl]
    have hst : (s && t) = false := by
      rw [hsa, htb]
      by_cases h1 : a < 0
      · have : ¬ b < 0 := by omega
        simp [this]
      · simp [h1]
    rw [hst]
    simp [Format.nearest]
  · have hne : (a + b) * 2 ^ u ≠ 0 := Int.mul_ne_zero h0 (by omega)
    rw [if_neg hne]
    have hsg : decide ((a + b) * 2 ^ u < 0) = decide (a + b < 0) := by
      congr 1
      apply propext
      constructor
      · intro h
        by_cases h1 : a + b < 0
        · exact h1
        · have : 0 ≤ (a + b) * 2 ^ u := Int.mul_nonneg (by omega) (by omega)
          omega
      · intro h
        exact Int.mul_neg_of_neg_of_pos h hp
    rw [hsg]
    exact nearest_up _ _ u (by omega) (by omega)
theorem csum_int (a b c d : Int) (ha : a.natAbs < 2 ^ 52) (hb : b.natAbs < 2 ^ 52) (hc : c.natAbs < 2 ^ 52) (hd : d.natAbs < 2 ^ 52) : cSumBits .add .f64 (floatOfInt .f64 a) (floatOfInt .f64 b) (floatOfInt .f64 c) (floatOfInt .f64 d) = some (floatOfInt .f64 (a + c), floatOfInt .f64 (b + d)) := by
  unfold cSumBits
  rw [add_int a c ha hc, add_int b d hb hd]
  rfl
theorem run_min_flt {P : Program} (w : World) (ts : Array TypeId) (t : TypeId) (a b : Int) (ha : a.natAbs < 2 ^ 53) (hb : b.natAbs < 2 ^ 53) :
    (Builtin.min_ ts t #[.float .f64 (floatOfInt .f64 a), .float .f64 (floatOfInt .f64 b)]).run P w = .ok (.float .f64 (floatOfInt .f64 (min a b))) w := by
  have ho := order_int a b ha hb
  have e : Builtin.min2 (.float .f64 (floatOfInt .f64 a)) (.float .f64 (floatOfInt .f64 b)) = pure (.float .f64 (floatOfInt .f64 (min a b))) := by
    unfold Builtin.min2
    simp only [ho]
    rcases Int.lt_trichotomy a b with h | h | h
    · rw [show compare a b = .lt from by simp [compare, compareOfLessAndEq, h]]
      rw [show min a b = a from by omega]
    · subst h
      rw [show compare a a = .eq from by simp [compare, compareOfLessAndEq]]
      simp
    · rw [show compare a b = .gt from by
        have h1 : ¬ a < b := by omega
        have h2 : ¬ a = b := by omega
        simp [compare, compareOfLessAndEq, h1, h2]]
      rw [show min a b = b from by omega]
  show ([Value.float .f64 (floatOfInt .f64 b)].foldlM Builtin.min2 (.float .f64 (floatOfInt .f64 a)) : Sem Value).run P w = _
  rw [List.foldlM_cons, e]
  rfl
theorem run_max_flt {P : Program} (w : World) (ts : Array TypeId) (t : TypeId) (a b : Int) (ha : a.natAbs < 2 ^ 53) (hb : b.natAbs < 2 ^ 53) :
    (Builtin.max_ ts t #[.float .f64 (floatOfInt .f64 a), .float .f64 (floatOfInt .f64 b)]).run P w = .ok (.float .f64 (floatOfInt .f64 (max a b))) w := by
  have ho := order_int a b ha hb
  have e : Builtin.max2 (.float .f64 (floatOfInt .f64 a)) (.float .f64 (floatOfInt .f64 b)) = pure (.float .f64 (floatOfInt .f64 (max a b))) := by
    unfold Builtin.max2
    simp only [ho]
    rcases Int.lt_trichotomy a b with h | h | h
    · rw [show compare a b = .lt from by simp [compare, compareOfLessAndEq, h]]
      rw [show max a b = b from by omega]
    · subst h
      rw [show compare a a = .eq from by simp [compare, compareOfLessAndEq]]
      simp
    · rw [show compare a b = .gt from by
        have h1 : ¬ a < b := by omega
        have h2 : ¬ a = b := by omega
        simp [compare, compareOfLessAndEq, h1, h2]]
      rw [show max a b = a from by omega]
  show ([Value.float .f64 (floatOfInt .f64 b)].foldlM Builtin.max2 (.float .f64 (floatOfInt .f64 a)) : Sem Value).run P w = _
  rw [List.foldlM_cons, e]
  rfl
theorem ge_zero (a : Int) (ha : a.natAbs < 2 ^ 53) : (FloatKind.f64.format.order (floatOfInt .f64 a) 0 == some .gt || FloatKind.f64.format.order (floatOfInt .f64 a) 0 == some .eq) = decide (0 ≤ a) := by
  rw [show (0 : Nat) = floatOfInt .f64 0 from by decide +kernel, order_int a 0 ha (by decide)]
  rcases Int.lt_trichotomy a 0 with h | h | h
  · rw [show compare a 0 = .lt from by simp [compare, compareOfLessAndEq, h]]
    have : ¬ 0 ≤ a := by omega
    simp [this]
  · subst h
    rw [show compare (0 : Int) 0 = .eq from by simp [compare, compareOfLessAndEq]]
    simp
  · rw [show compare a 0 = .gt from by
      have h1 : ¬ a < 0 := by omega
      have h2 : ¬ a = 0 := by omega
      simp [compare, compareOfLessAndEq, h1, h2]]
    have : 0 ≤ a := by omega
    simp [this]
end Flt
end Go.Proofs.YtoipliflphbeiaaGreatDoor
