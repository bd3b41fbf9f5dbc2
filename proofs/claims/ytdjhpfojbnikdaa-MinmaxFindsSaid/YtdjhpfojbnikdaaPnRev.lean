/-
  The contracts of math/bits.ReverseBytes64 and Reverse64 and of paren's turned: a word turned round, bit by bit; nothing in memory is changed.
-/
import Derived.Test.YtdjhpfojbnikdaaBtRef
import Derived.Test.YtdjhpfojbnikdaaPnMath
namespace Go.Proofs.Ytdjhpfojbnikdaa
open Go.RowKit
namespace Pn
open Wd Bt
/-- One stage: the bits under the mask go up, the ones above them down. -/
def sg (q m x : Nat) : Nat := (x / q &&& m) ||| ((x &&& m) * q % 18446744073709551616)
theorem sg_lt (q m x : Nat) (hm : m < 18446744073709551616) : sg q m x < 18446744073709551616 := by
  have h1 : x / q &&& m < 2 ^ 64 := Nat.and_lt_two_pow _ (by omega)
  exact Nat.or_lt_two_pow (n := 64) h1 (Nat.mod_lt _ (by decide))
theorem sg_int (q m x : Nat) (hx : x < 18446744073709551616) (hm : m < 18446744073709551616) :
    bits .or .u64 (bits .and .u64 ((x : Int) / (q : Int)) (m : Int)) (IntKind.u64.wrap (bits .and .u64 (x : Int) (m : Int) * (q : Int))) = ((sg q m x : Nat) : Int) := by
  have h1 : x / q < 18446744073709551616 := Nat.lt_of_le_of_lt (Nat.div_le_self _ _) hx
  have h2 : x / q &&& m < 2 ^ 64 := Nat.and_lt_two_pow _ (by omega)
  have e : IntKind.u64.wrap (((x &&& m : Nat) : Int) * (q : Int)) = (((x &&& m) * q % 18446744073709551616 : Nat) : Int) := by
    rw [IntKind.wrap_u64, ← Int.natCast_mul]
    omega
  rw [show (x : Int) / (q : Int) = ((x / q : Nat) : Int) from rfl, bits_and_u64_nat _ _ h1 hm, bits_and_u64_nat _ _ hx hm, e, bits_or_u64_nat _ _ (by omega) (Nat.mod_lt _ (by decide))]
  rfl
theorem sg_bit (s m x i : Nat) (hi : i < 64) (hc : (m.testBit i = true ∧ (s ≤ i → m.testBit (i - s) = false)) ∨ (m.testBit i = false ∧ s ≤ i ∧ m.testBit (i - s) = true)) :
    (sg (2 ^ s) m x).testBit i = x.testBit (if m.testBit i then s + i else i - s) := by
  have d : (x / 2 ^ s).testBit i = x.testBit (s + i) := by rw [testBit_bt, testBit_bt, bt_div]
  have u : ((x &&& m) * 2 ^ s % 18446744073709551616).testBit i = (decide (s ≤ i) && (x &&& m).testBit (i - s)) := by
    rw [show (18446744073709551616 : Nat) = 2 ^ 64 from rfl, testBit_bt, bt_mod, if_pos hi, bt_shl]
    by_cases h : s ≤ i
    · rw [if_pos h, decide_eq_true h, Bool.true_and, testBit_bt]
    · rw [if_neg h, decide_eq_false h, Bool.false_and]; rfl
  unfold sg
  rw [Nat.testBit_or, Nat.testBit_and, d, u, Nat.testBit_and]
  rcases hc with ⟨h1, h2⟩ | ⟨h1, h2, h3⟩
  · rw [h1, if_pos rfl, Bool.and_true]
    by_cases h : s ≤ i
    · rw [h2 h]; simp
    · rw [decide_eq_false h]; simp
  · rw [h1, h3, decide_eq_true h2]
    simp
def sg32 (x : Nat) : Nat := (x / 4294967296) ||| (x * 4294967296 % 18446744073709551616)
theorem sg32_lt (x : Nat) (hx : x < 18446744073709551616) : sg32 x < 18446744073709551616 :=
  Nat.or_lt_two_pow (n := 64) (Nat.lt_of_le_of_lt (Nat.div_le_self _ _) hx) (Nat.mod_lt _ (by decide))
theorem sg32_int (x : Nat) (hx : x < 18446744073709551616) : bits .or .u64 ((x : Int) / 4294967296) (IntKind.u64.wrap ((x : Int) * 4294967296)) = ((sg32 x : Nat) : Int) := by
  have e : IntKind.u64.wrap ((x : Int) * 4294967296) = ((x * 4294967296 % 18446744073709551616 : Nat) : Int) := by
    rw [IntKind.wrap_u64]; omega
  rw [show (x : Int) / 4294967296 = ((x / 4294967296 : Nat) : Int) from rfl, e, bits_or_u64_nat _ _ (by omega) (Nat.mod_lt _ (by decide))]
  rfl
theorem sg32_bit (x i : Nat) (hx : x < 18446744073709551616) (hi : i < 64) : (sg32 x).testBit i = x.testBit (if i < 32 then 32 + i else i - 32) := by
  have d : (x / 4294967296).testBit i = x.testBit (32 + i) := by rw [show (4294967296 : Nat) = 2 ^ 32 from rfl, testBit_bt, testBit_bt, bt_div]
  have u : (x * 4294967296 % 18446744073709551616).testBit i = (decide (32 ≤ i) && x.testBit (i - 32)) := by
    rw [show (18446744073709551616 : Nat) = 2 ^ 64 from rfl, show (4294967296 : Nat) = 2 ^ 32 from rfl, testBit_bt, bt_mod, if_pos hi, bt_shl]
    by_cases h : 32 ≤ i
    · rw [if_pos h, decide_eq_true h, Bool.true_and, testBit_bt]
    · rw [if_neg h, decide_eq_false h, Bool.false_and]; rfl
  unfold sg32
  rw [Nat.testBit_or, d, u]
  by_cases h : i < 32
  · rw [if_pos h, decide_eq_false (by omega)]; simp
  · rw [if_neg h, decide_eq_true (by omega), Bool.true_and, testBit_bt x (32 + i), bt_big x 64 _ hx (by omega)]
    simp
/-- All stages. -/
def rb (x : Nat) : Nat := sg32 (sg 65536 281470681808895 (sg 256 71777214294589695 x))
def r64 (x : Nat) : Nat := rb (sg 16 1085102592571150095 (sg 4 3689348814741910323 (sg 2 6148914691236517205 x)))
theorem rb_lt (x : Nat) : rb x < 18446744073709551616 := sg32_lt _ (sg_lt _ _ _ (by decide))
theorem turn_all : ∀ i < 64, (fun i5 => if i5 % 2 = 0 then i5 + 1 else i5 - 1) ((fun i4 => if i4 / 2 % 2 = 0 then i4 + 2 else i4 - 2) ((fun i3 => if i3 / 4 % 2 = 0 then i3 + 4 else i3 - 4) ((fun i2 => if i2 / 8 % 2 = 0 then i2 + 8 else i2 - 8) ((fun i1 => if i1 / 16 % 2 = 0 then i1 + 16 else i1 - 16) (if i < 32 then 32 + i else i - 32))))) = 63 - i := by decide +kernel
theorem r64_bit (x i : Nat) (hi : i < 64) : (r64 x).testBit i = x.testBit (63 - i) := by
  have f1 : ∀ i < 64, (6148914691236517205 : Nat).testBit i = decide (i % 2 = 0) := by decide +kernel
  have f2 : ∀ i < 64, (3689348814741910323 : Nat).testBit i = decide (i / 2 % 2 = 0) := by decide +kernel
  have f4 : ∀ i < 64, (1085102592571150095 : Nat).testBit i = decide (i / 4 % 2 = 0) := by decide +kernel
  have f8 : ∀ i < 64, (71777214294589695 : Nat).testBit i = decide (i / 8 % 2 = 0) := by decide +kernel
  have f16 : ∀ i < 64, (281470681808895 : Nat).testBit i = decide (i / 16 % 2 = 0) := by decide +kernel
  have g1 : ∀ (y i : Nat), i < 64 → (sg 2 6148914691236517205 y).testBit i = y.testBit (if i % 2 = 0 then i + 1 else i - 1) := by
    intro y i hi
    have := sg_bit 1 6148914691236517205 y i hi (by
      rw [f1 i hi]
      by_cases h : i % 2 = 0
      · left; refine ⟨by simp [h], fun hs => by rw [f1 _ (by omega)]; simp; omega⟩
      · right; refine ⟨by simp [h], by omega, by rw [f1 _ (by omega)]; simp; omega⟩)
    rw [f1 i hi] at this
    rw [show (2 : Nat) = 2 ^ 1 from rfl, this]
    congr 1
    by_cases h : i % 2 = 0
    · simp [h]; omega
    · simp [h]
  have g2 : ∀ (y i : Nat), i < 64 → (sg 4 3689348814741910323 y).testBit i = y.testBit (if i / 2 % 2 = 0 then i + 2 else i - 2) := by
    intro y i hi
    have := sg_bit 2 3689348814741910323 y i hi (by
      rw [f2 i hi]
      by_cases h : i / 2 % 2 = 0
      · left; refine ⟨by simp [h], fun hs => by rw [f2 _ (by omega)]; simp; omega⟩
      · right; refine ⟨by simp [h], by omega, by rw [f2 _ (by omega)]; simp; omega⟩)
    rw [f2 i hi] at this
    rw [show (4 : Nat) = 2 ^ 2 from rfl, this]
    congr 1
    by_cases h : i / 2 % 2 = 0
    · simp [h]; omega
    · simp [h]
  have g4 : ∀ (y i : Nat), i < 64 → (sg 16 1085102592571150095 y).testBit i = y.testBit (if i / 4 % 2 = 0 then i + 4 else i - 4) := by
    intro y i hi
    have := sg_bit 4 1085102592571150095 y i hi (by
      rw [f4 i hi]
      by_cases h : i / 4 % 2 = 0
      · left; refine ⟨by simp [h], fun hs => by rw [f4 _ (by omega)]; simp; omega⟩
      · right; refine ⟨by simp [h], by omega, by rw [f4 _ (by omega)]; simp; omega⟩)
    rw [f4 i hi] at this
    rw [show (16 : Nat) = 2 ^ 4 from rfl, this]
    congr 1
    by_cases h : i / 4 % 2 = 0
    · simp [h]; omega
    · simp [h]
  have g8 : ∀ (y i : Nat), i < 64 → (sg 256 71777214294589695 y).testBit i = y.testBit (if i / 8 % 2 = 0 then i + 8 else i - 8) := by
    intro y i hi
    have := sg_bit 8 71777214294589695 y i hi (by
      rw [f8 i hi]
      by_cases h : i / 8 % 2 = 0
      · left; refine ⟨by simp [h], fun hs => by rw [f8 _ (by omega)]; simp; omega⟩
      · right; refine ⟨by simp [h], by omega, by rw [f8 _ (by omega)]; simp; omega⟩)
    rw [f8 i hi] at this
    rw [show (256 : Nat) = 2 ^ 8 from rfl, this]
    congr 1
    by_cases h : i / 8 % 2 = 0
    · simp [h]; omega
    · simp [h]
  have g16 : ∀ (y i : Nat), i < 64 → (sg 65536 281470681808895 y).testBit i = y.testBit (if i / 16 % 2 = 0 then i + 16 else i - 16) := by
    intro y i hi
    have := sg_bit 16 281470681808895 y i hi (by
      rw [f16 i hi]
      by_cases h : i / 16 % 2 = 0
      · left; refine ⟨by simp [h], fun hs => by rw [f16 _ (by omega)]; simp; omega⟩
      · right; refine ⟨by simp [h], by omega, by rw [f16 _ (by omega)]; simp; omega⟩)
    rw [f16 i hi] at this
    rw [show (65536 : Nat) = 2 ^ 16 from rfl, this]
    congr 1
    by_cases h : i / 16 % 2 = 0
    · simp [h]; omega
    · simp [h]
  unfold r64 rb
  rw [sg32_bit _ i (sg_lt _ _ _ (by decide)) hi, g16 _ _ (by split <;> omega)]
  obtain ⟨i1, h1⟩ : ∃ i1, i1 = (if i < 32 then 32 + i else i - 32) := ⟨_, rfl⟩
  rw [← h1]
  obtain ⟨i2, h2⟩ : ∃ i2, i2 = (if i1 / 16 % 2 = 0 then i1 + 16 else i1 - 16) := ⟨_, rfl⟩
  have b1 : i1 < 64 := by split at h1 <;> omega
  have b2 : i2 < 64 := by split at h2 <;> omega
  rw [← h2, g8 _ _ b2]
  obtain ⟨i3, h3⟩ : ∃ i3, i3 = (if i2 / 8 % 2 = 0 then i2 + 8 else i2 - 8) := ⟨_, rfl⟩
  have b3 : i3 < 64 := by split at h3 <;> omega
  rw [← h3, g4 _ _ b3]
  obtain ⟨i4, h4⟩ : ∃ i4, i4 = (if i3 / 4 % 2 = 0 then i3 + 4 else i3 - 4) := ⟨_, rfl⟩
  have b4 : i4 < 64 := by split at h4 <;> omega
  rw [← h4, g2 _ _ b4]
  obtain ⟨i5, h5⟩ : ∃ i5, i5 = (if i4 / 2 % 2 = 0 then i4 + 2 else i4 - 2) := ⟨_, rfl⟩
  have b5 : i5 < 64 := by split at h5 <;> omega
  rw [← h5, g1 _ _ b5]
  congr 1
  subst h1 h2 h3 h4 h5
  exact turn_all i hi
theorem r64_rv (w n : Nat) (hn : n ≤ 64) : r64 (w * 2 ^ (64 - n) % 2 ^ 64) = rv w n := by
  apply eq_of_bt
  intro i
  rw [bt_rv]
  by_cases h : i < 64
  · rw [bt_testBit, r64_bit _ i h, ← bt_testBit, bt_mod, if_pos (by omega), bt_shl]
    by_cases hi : i < n
    · rw [if_pos (by omega), if_pos hi]
      congr 1
      omega
    · rw [if_neg hi]
      split
      · exact absurd ‹_› (by omega)
      · rfl
  · rw [if_neg (by omega)]
    exact bt_big _ 64 _ (rb_lt _) (by omega)
end Pn
set_option maxHeartbeats 1000000 in
theorem ReverseBytes64_any (x : Nat) (w : World) (hx : x < 18446744073709551616) :
    Calls Try.prog 65 #[.int .u64 x] w fun e w' => e = .returned (.int .u64 (Pn.rb x : Nat)) ∧ w' = w := by
  go_enter Try.func65, Try.ntmps65
  go_wp2
  go_ret
  refine ⟨ret_int ?_, rfl⟩
  have e1 : bits .or .u64 (bits .and .u64 (((x : Nat) : Int) / 256) 71777214294589695) (IntKind.u64.wrap (bits .and .u64 ((x : Nat) : Int) 71777214294589695 * 256)) = ((Pn.sg 256 71777214294589695 x : Nat) : Int) := Pn.sg_int 256 71777214294589695 x hx (by decide)
  have e2 : bits .or .u64 (bits .and .u64 (((Pn.sg 256 71777214294589695 x : Nat) : Int) / 65536) 281470681808895) (IntKind.u64.wrap (bits .and .u64 ((Pn.sg 256 71777214294589695 x : Nat) : Int) 281470681808895 * 65536)) = ((Pn.sg 65536 281470681808895 (Pn.sg 256 71777214294589695 x) : Nat) : Int) := Pn.sg_int 65536 281470681808895 (Pn.sg 256 71777214294589695 x) (Pn.sg_lt _ _ _ (by decide)) (by decide)
  have e3 := Pn.sg32_int (Pn.sg 65536 281470681808895 (Pn.sg 256 71777214294589695 x)) (Pn.sg_lt _ _ _ (by decide))
  rw [e1, e2, e3]
  rfl
set_option maxHeartbeats 1000000 in
theorem Reverse64_any (x : Nat) (w : World) (hx : x < 18446744073709551616) :
    Calls Try.prog 59 #[.int .u64 x] w fun e w' => e = .returned (.int .u64 (Pn.r64 x : Nat)) ∧ w' = w := by
  have e1 : bits .or .u64 (bits .and .u64 (((x : Nat) : Int) / 2) 6148914691236517205) (IntKind.u64.wrap (bits .and .u64 ((x : Nat) : Int) 6148914691236517205 * 2)) = ((Pn.sg 2 6148914691236517205 x : Nat) : Int) := Pn.sg_int 2 6148914691236517205 x hx (by decide)
  have e2 : bits .or .u64 (bits .and .u64 (((Pn.sg 2 6148914691236517205 x : Nat) : Int) / 4) 3689348814741910323) (IntKind.u64.wrap (bits .and .u64 ((Pn.sg 2 6148914691236517205 x : Nat) : Int) 3689348814741910323 * 4)) = ((Pn.sg 4 3689348814741910323 (Pn.sg 2 6148914691236517205 x) : Nat) : Int) := Pn.sg_int 4 3689348814741910323 (Pn.sg 2 6148914691236517205 x) (Pn.sg_lt _ _ _ (by decide)) (by decide)
  have e3 : bits .or .u64 (bits .and .u64 (((Pn.sg 4 3689348814741910323 (Pn.sg 2 6148914691236517205 x) : Nat) : Int) / 16) 1085102592571150095) (IntKind.u64.wrap (bits .and .u64 ((Pn.sg 4 3689348814741910323 (Pn.sg 2 6148914691236517205 x) : Nat) : Int) 1085102592571150095 * 16)) = ((Pn.sg 16 1085102592571150095 (Pn.sg 4 3689348814741910323 (Pn.sg 2 6148914691236517205 x)) : Nat) : Int) := Pn.sg_int 16 1085102592571150095 (Pn.sg 4 3689348814741910323 (Pn.sg 2 6148914691236517205 x)) (Pn.sg_lt _ _ _ (by decide)) (by decide)
  have E1 := hidden e1
  have E2 := hidden e2
  have E3 := hidden e3
  clear e1 e2 e3
  go_enter Try.func59, Try.ntmps59
  go_wp2_with (go_at_call 65; rw [E1.out, E2.out, E3.out]; refine (ReverseBytes64_any _ _ (Pn.sg_lt _ _ _ (by decide))).mono ?_; rintro e w' ⟨rfl, rfl⟩)
  go_ret
  exact ⟨rfl, rfl⟩
set_option maxHeartbeats 400000 in
theorem turned_any (x n : Nat) (w : World) (hn : n ≤ 64) :
    Calls Try.prog 51 #[.int .u64 x, .int .i64 (n : Nat)] w fun e w' => e = .returned (.int .u64 (Pn.rv x n : Nat)) ∧ w' = w := by
  have HR := hidden (Pn.r64_rv x n hn)
  have HS := hidden (Wd.shl_u64 x (64 - n))
  obtain ⟨s, hs⟩ : ∃ s : Nat, 64 - n = s := ⟨_, rfl⟩
  have hsn : (64 : Int) - (n : Int) = (s : Int) := by omega
  rw [hs] at HR HS
  clear hs
  go_enter Try.func51, Try.ntmps51
  go_wp2_with (go_at_call 59; rw [HS.out]; refine (Reverse64_any _ _ (Nat.mod_lt _ (by decide))).mono ?_; rintro e w' ⟨rfl, rfl⟩)
  go_ret
  exact ⟨ret_int (by rw [HR.out]), rfl⟩
end Go.Proofs.Ytdjhpfojbnikdaa
