/-
  The contracts of math/bits.ReverseBytes64 and Reverse64 and of paren's turned: a word turned round, bit by bit; nothing in memory is changed.
  The contracts of paren's ends and field, and of the two functions that read a stretch's bits from its beginning, or from its end, on: for every row; nothing in memory is changed.
  The contract of paren's meet: at a function that reads the bits of a number, for every number and every excess; nothing in memory is changed.
  The contracts of paren's Forth and Back: for every row, stretch and excess; memory is but made.
  The contracts of paren's Excess, Reach and Balanced: for every row and stretch.
  The contracts of the reference's functions of layer 6 (the package laceworkref06), for every list of bits; nothing in memory is changed.
  What the laws of layer 6 share: awake, and a row made of a list of bits wherever it lies.
-/
import Derived.Shelf.Abstract
import Derived.Test.YtmeclkmmgbndkaaGreatDoorJBtList
import Derived.Test.YtmeclkmmgbndkaaGreatDoorJMath
import Derived.Test.YtmeclkmmgbndkaaGreatDoorJScope
import Derived.Test.YtmeclkmmgbndkaaGreatDoorJFlt
namespace Go.Proofs.YtmeclkmmgbndkaaGreatDoor
open Go.RowKit
namespace Pn
open Wd Bt
/-- One stage: the bits under the mask go up, the ones above them down. -/
def sg (q m x : Nat) : Nat := (x / q &&& m) ||| ((x &&& m) * q % 18446744073709551616)
theorem sg_lt (q m x : Nat) (hm : m < 18446744073709551616) : sg q m x < 18446744073709551616 := by
  have h1 : x / q &&& m < 2 ^ 64 := Nat.and_lt_two_pow _ (by omega)
  exact Nat.or_lt_two_pow (n := 64) h1 (Nat.mod_lt _ (by decide))
theorem sg_int (q m x : Nat) (hx : x < 18446744073709551616) (hm : m < 18446744073709551616) :
    bits .or .u64 (bits .and .u64 ((x : Int) / (q : Int)) (m : Int)) (IntKind.u64.wrap (bits .and .u64 (x : Int) (m : Int) * (q : Int))) = ((sg q m x : Nat) : Int) := by
  have h1 : x / q < 18446744073709551616 := Nat.lt_of_le_of_lt (Nat.div_le_self _ _) hx
  have h2 : x / q &&& m < 2 ^ 64 := Nat.and_lt_two_pow _ (by omega)
  have e : IntKind.u64.wrap (((x &&& m : Nat) : Int) * (q : Int)) = (((x &&& m) * q % 18446744073709551616 : Nat) : Int) := by
    rw [IntKind.wrap_u64, ← Int.natCast_mul]
    omega
  rw [show (x : Int) / (q : Int) = ((x / q : Nat) : Int) from rfl, bits_and_u64_nat _ _ h1 hm, bits_and_u64_nat _ _ hx hm, e, bits_or_u64_nat _ _ (by omega) (Nat.mod_lt _ (by decide))]
  rfl
theorem sg_bit (s m x i : Nat) (hi : i < 64) (hc : (m.testBit i = true ∧ (s ≤ i → m.testBit (i - s) = false)) ∨ (m.testBit i = false ∧ s ≤ i ∧ m.testBit (i - s) = true)) :
    (sg (2 ^ s) m x).testBit i = x.testBit (if m.testBit i then s + i else i - s) := by
  have d : (x / 2 ^ s).testBit i = x.testBit (s + i) := by rw [testBit_bt, testBit_bt, bt_div]
  have u : ((x &&& m) * 2 ^ s % 18446744073709551616).testBit i = (decide (s ≤ i) && (x &&& m).testBit (i - s)) := by
    rw [show (18446744073709551616 : Nat) = 2 ^ 64 from rfl, testBit_bt, bt_mod, if_pos hi, bt_shl]
    by_cases h : s ≤ i
    · rw [if_pos h, decide_eq_true h, Bool.true_and, testBit_bt]
    · rw [if_neg h, decide_eq_false h, Bool.false_and]; rfl
  unfold sg
  rw [Nat.testBit_or, Nat.testBit_and, d, u, Nat.testBit_and]
  rcases hc with ⟨h1, h2⟩ | ⟨h1, h2, h3⟩
  · rw [h1, if_pos rfl, Bool.and_true]
    by_cases h : s ≤ i
    · rw [h2 h]; simp
    · rw [decide_eq_false h]; simp
  · rw [h1, h3, decide_eq_true h2]
    simp
def sg32 (x : Nat) : Nat := (x / 4294967296) ||| (x * 4294967296 % 18446744073709551616)
theorem sg32_lt (x : Nat) (hx : x < 18446744073709551616) : sg32 x < 18446744073709551616 :=
  Nat.or_lt_two_pow (n := 64) (Nat.lt_of_le_of_lt (Nat.div_le_self _ _) hx) (Nat.mod_lt _ (by decide))
theorem sg32_int (x : Nat) (hx : x < 18446744073709551616) : bits .or .u64 ((x : Int) / 4294967296) (IntKind.u64.wrap ((x : Int) * 4294967296)) = ((sg32 x : Nat) : Int) := by
  have e : IntKind.u64.wrap ((x : Int) * 4294967296) = ((x * 4294967296 % 18446744073709551616 : Nat) : Int) := by
    rw [IntKind.wrap_u64]; omega
  rw [show (x : Int) / 4294967296 = ((x / 4294967296 : Nat) : Int) from rfl, e, bits_or_u64_nat _ _ (by omega) (Nat.mod_lt _ (by decide))]
  rfl
theorem sg32_bit (x i : Nat) (hx : x < 18446744073709551616) (hi : i < 64) : (sg32 x).testBit i = x.testBit (if i < 32 then 32 + i else i - 32) := by
  have d : (x / 4294967296).testBit i = x.testBit (32 + i) := by rw [show (4294967296 : Nat) = 2 ^ 32 from rfl, testBit_bt, testBit_bt, bt_div]
  have u : (x * 4294967296 % 18446744073709551616).testBit i = (decide (32 ≤ i) && x.testBit (i - 32)) := by
    rw [show (18446744073709551616 : Nat) = 2 ^ 64 from rfl, show (4294967296 : Nat) = 2 ^ 32 from rfl, testBit_bt, bt_mod, if_pos hi, bt_shl]
    by_cases h : 32 ≤ i
    · rw [if_pos h, decide_eq_true h, Bool.true_and, testBit_bt]
    · rw [if_neg h, decide_eq_false h, Bool.false_and]; rfl
  unfold sg32
  rw [Nat.testBit_or, d, u]
  by_cases h : i < 32
  · rw [if_pos h, decide_eq_false (by omega)]; simp
  · rw [if_neg h, decide_eq_true (by omega), Bool.true_and, testBit_bt x (32 + i), bt_big x 64 _ hx (by omega)]
    simp
/-- All stages. -/
def rb (x : Nat) : Nat := sg32 (sg 65536 281470681808895 (sg 256 71777214294589695 x))
def r64 (x : Nat) : Nat := rb (sg 16 1085102592571150095 (sg 4 3689348814741910323 (sg 2 6148914691236517205 x)))
theorem rb_lt (x : Nat) : rb x < 18446744073709551616 := sg32_lt _ (sg_lt _ _ _ (by decide))
theorem turn_all : ∀ i < 64, (fun i5 => if i5 % 2 = 0 then i5 + 1 else i5 - 1) ((fun i4 => if i4 / 2 % 2 = 0 then i4 + 2 else i4 - 2) ((fun i3 => if i3 / 4 % 2 = 0 then i3 + 4 else i3 - 4) ((fun i2 => if i2 / 8 % 2 = 0 then i2 + 8 else i2 - 8) ((fun i1 => if i1 / 16 % 2 = 0 then i1 + 16 else i1 - 16) (if i < 32 then 32 + i else i - 32))))) = 63 - i := by decide +kernel
theorem r64_bit (x i : Nat) (hi : i < 64) : (r64 x).testBit i = x.testBit (63 - i) := by
  have f1 : ∀ i < 64, (6148914691236517205 : Nat).testBit i = decide (i % 2 = 0) := by decide +kernel
  have f2 : ∀ i < 64, (3689348814741910323 : Nat).testBit i = decide (i / 2 % 2 = 0) := by decide +kernel
  have f4 : ∀ i < 64, (1085102592571150095 : Nat).testBit i = decide (i / 4 % 2 = 0) := by decide +kernel
  have f8 : ∀ i < 64, (71777214294589695 : Nat).testBit i = decide (i / 8 % 2 = 0) := by decide +kernel
  have f16 : ∀ i < 64, (281470681808895 : Nat).testBit i = decide (i / 16 % 2 = 0) := by decide +kernel
  have g1 : ∀ (y i : Nat), i < 64 → (sg 2 6148914691236517205 y).testBit i = y.testBit (if i % 2 = 0 then i + 1 else i - 1) := by
    intro y i hi
    have := sg_bit 1 6148914691236517205 y i hi (by
      rw [f1 i hi]
      by_cases h : i % 2 = 0
      · left; refine ⟨by simp [h], fun hs => by rw [f1 _ (by omega)]; simp; omega⟩
      · right; refine ⟨by simp [h], by omega, by rw [f1 _ (by omega)]; simp; omega⟩)
    rw [f1 i hi] at this
    rw [show (2 : Nat) = 2 ^ 1 from rfl, this]
    congr 1
    by_cases h : i % 2 = 0
    · simp [h]; omega
    · simp [h]
  have g2 : ∀ (y i : Nat), i < 64 → (sg 4 3689348814741910323 y).testBit i = y.testBit (if i / 2 % 2 = 0 then i + 2 else i - 2) := by
    intro y i hi
    have := sg_bit 2 3689348814741910323 y i hi (by
      rw [f2 i hi]
      by_cases h : i / 2 % 2 = 0
      · left; refine ⟨by simp [h], fun hs => by rw [f2 _ (by omega)]; simp; omega⟩
      · right; refine ⟨by simp [h], by omega, by rw [f2 _ (by omega)]; simp; omega⟩)
    rw [f2 i hi] at this
    rw [show (4 : Nat) = 2 ^ 2 from rfl, this]
    congr 1
    by_cases h : i / 2 % 2 = 0
    · simp [h]; omega
    · simp [h]
  have g4 : ∀ (y i : Nat), i < 64 → (sg 16 1085102592571150095 y).testBit i = y.testBit (if i / 4 % 2 = 0 then i + 4 else i - 4) := by
    intro y i hi
    have := sg_bit 4 1085102592571150095 y i hi (by
      rw [f4 i hi]
      by_cases h : i / 4 % 2 = 0
      · left; refine ⟨by simp [h], fun hs => by rw [f4 _ (by omega)]; simp; omega⟩
      · right; refine ⟨by simp [h], by omega, by rw [f4 _ (by omega)]; simp; omega⟩)
    rw [f4 i hi] at this
    rw [show (16 : Nat) = 2 ^ 4 from rfl, this]
    congr 1
    by_cases h : i / 4 % 2 = 0
    · simp [h]; omega
    · simp [h]
  have g8 : ∀ (y i : Nat), i < 64 → (sg 256 71777214294589695 y).testBit i = y.testBit (if i / 8 % 2 = 0 then i + 8 else i - 8) := by
    intro y i hi
    have := sg_bit 8 71777214294589695 y i hi (by
      rw [f8 i hi]
      by_cases h : i / 8 % 2 = 0
      · left; refine ⟨by simp [h], fun hs => by rw [f8 _ (by omega)]; simp; omega⟩
      · right; refine ⟨by simp [h], by omega, by rw [f8 _ (by omega)]; simp; omega⟩)
    rw [f8 i hi] at this
    rw [show (256 : Nat) = 2 ^ 8 from rfl, this]
    congr 1
    by_cases h : i / 8 % 2 = 0
    · simp [h]; omega
    · simp [h]
  have g16 : ∀ (y i : Nat), i < 64 → (sg 65536 281470681808895 y).testBit i = y.testBit (if i / 16 % 2 = 0 then i + 16 else i - 16) := by
    intro y i hi
    have := sg_bit 16 281470681808895 y i hi (by
      rw [f16 i hi]
      by_cases h : i / 16 % 2 = 0
      · left; refine ⟨by simp [h], fun hs => by rw [f16 _ (by omega)]; simp; omega⟩
      · right; refine ⟨by simp [h], by omega, by rw [f16 _ (by omega)]; simp; omega⟩)
    rw [f16 i hi] at this
    rw [show (65536 : Nat) = 2 ^ 16 from rfl, this]
    congr 1
    by_cases h : i / 16 % 2 = 0
    · simp [h]; omega
    · simp [h]
  unfold r64 rb
  rw [sg32_bit _ i (sg_lt _ _ _ (by decide)) hi, g16 _ _ (by split <;> omega)]
  obtain ⟨i1, h1⟩ : ∃ i1, i1 = (if i < 32 then 32 + i else i - 32) := ⟨_, rfl⟩
  rw [← h1]
  obtain ⟨i2, h2⟩ : ∃ i2, i2 = (if i1 / 16 % 2 = 0 then i1 + 16 else i1 - 16) := ⟨_, rfl⟩
  have b1 : i1 < 64 := by split at h1 <;> omega
  have b2 : i2 < 64 := by split at h2 <;> omega
  rw [← h2, g8 _ _ b2]
  obtain ⟨i3, h3⟩ : ∃ i3, i3 = (if i2 / 8 % 2 = 0 then i2 + 8 else i2 - 8) := ⟨_, rfl⟩
  have b3 : i3 < 64 := by split at h3 <;> omega
  rw [← h3, g4 _ _ b3]
  obtain ⟨i4, h4⟩ : ∃ i4, i4 = (if i3 / 4 % 2 = 0 then i3 + 4 else i3 - 4) := ⟨_, rfl⟩
  have b4 : i4 < 64 := by split at h4 <;> omega
  rw [← h4, g2 _ _ b4]
  obtain ⟨i5, h5⟩ : ∃ i5, i5 = (if i4 / 2 % 2 = 0 then i4 + 2 else i4 - 2) := ⟨_, rfl⟩
  have b5 : i5 < 64 := by split at h5 <;> omega
  rw [← h5, g1 _ _ b5]
  congr 1
  subst h1 h2 h3 h4 h5
  exact turn_all i hi
theorem r64_rv (w n : Nat) (hn : n ≤ 64) : r64 (w * 2 ^ (64 - n) % 2 ^ 64) = rv w n := by
  apply eq_of_bt
  intro i
  rw [bt_rv]
  by_cases h : i < 64
  · rw [bt_testBit, r64_bit _ i h, ← bt_testBit, bt_mod, if_pos (by omega), bt_shl]
    by_cases hi : i < n
    · rw [if_pos (by omega), if_pos hi]
      congr 1
      omega
    · rw [if_neg hi]
      split
      · exact absurd ‹_› (by omega)
      · rfl
  · rw [if_neg (by omega)]
    exact bt_big _ 64 _ (rb_lt _) (by omega)
end Pn
set_option maxHeartbeats 1000000 in
theorem ReverseBytes64_any (x : Nat) (w : World) (hx : x < 18446744073709551616) :
    Calls Tryz.prog 105 #[.int .u64 x] w fun e w' => e = .returned (.int .u64 (Pn.rb x : Nat)) ∧ w' = w := by
  go_enter Tryz.func105, Tryz.ntmps105
  go_wp2
  go_ret
  refine ⟨ret_int ?_, rfl⟩
  have e1 : bits .or .u64 (bits .and .u64 (((x : Nat) : Int) / 256) 71777214294589695) (IntKind.u64.wrap (bits .and .u64 ((x : Nat) : Int) 71777214294589695 * 256)) = ((Pn.sg 256 71777214294589695 x : Nat) : Int) := Pn.sg_int 256 71777214294589695 x hx (by decide)
  have e2 : bits .or .u64 (bits .and .u64 (((Pn.sg 256 71777214294589695 x : Nat) : Int) / 65536) 281470681808895) (IntKind.u64.wrap (bits .and .u64 ((Pn.sg 256 71777214294589695 x : Nat) : Int) 281470681808895 * 65536)) = ((Pn.sg 65536 281470681808895 (Pn.sg 256 71777214294589695 x) : Nat) : Int) := Pn.sg_int 65536 281470681808895 (Pn.sg 256 71777214294589695 x) (Pn.sg_lt _ _ _ (by decide)) (by decide)
  have e3 := Pn.sg32_int (Pn.sg 65536 281470681808895 (Pn.sg 256 71777214294589695 x)) (Pn.sg_lt _ _ _ (by decide))
  rw [e1, e2, e3]
  rfl
set_option maxHeartbeats 1000000 in
theorem Reverse64_any (x : Nat) (w : World) (hx : x < 18446744073709551616) :
    Calls Tryz.prog 98 #[.int .u64 x] w fun e w' => e = .returned (.int .u64 (Pn.r64 x : Nat)) ∧ w' = w := by
  have e1 : bits .or .u64 (bits .and .u64 (((x : Nat) : Int) / 2) 6148914691236517205) (IntKind.u64.wrap (bits .and .u64 ((x : Nat) : Int) 6148914691236517205 * 2)) = ((Pn.sg 2 6148914691236517205 x : Nat) : Int) := Pn.sg_int 2 6148914691236517205 x hx (by decide)
  have e2 : bits .or .u64 (bits .and .u64 (((Pn.sg 2 6148914691236517205 x : Nat) : Int) / 4) 3689348814741910323) (IntKind.u64.wrap (bits .and .u64 ((Pn.sg 2 6148914691236517205 x : Nat) : Int) 3689348814741910323 * 4)) = ((Pn.sg 4 3689348814741910323 (Pn.sg 2 6148914691236517205 x) : Nat) : Int) := Pn.sg_int 4 3689348814741910323 (Pn.sg 2 6148914691236517205 x) (Pn.sg_lt _ _ _ (by decide)) (by decide)
  have e3 : bits .or .u64 (bits .and .u64 (((Pn.sg 4 3689348814741910323 (Pn.sg 2 6148914691236517205 x) : Nat) : Int) / 16) 1085102592571150095) (IntKind.u64.wrap (bits .and .u64 ((Pn.sg 4 3689348814741910323 (Pn.sg 2 6148914691236517205 x) : Nat) : Int) 1085102592571150095 * 16)) = ((Pn.sg 16 1085102592571150095 (Pn.sg 4 3689348814741910323 (Pn.sg 2 6148914691236517205 x)) : Nat) : Int) := Pn.sg_int 16 1085102592571150095 (Pn.sg 4 3689348814741910323 (Pn.sg 2 6148914691236517205 x)) (Pn.sg_lt _ _ _ (by decide)) (by decide)
  have E1 := hidden e1
  have E2 := hidden e2
  have E3 := hidden e3
  clear e1 e2 e3
  go_enter Tryz.func98, Tryz.ntmps98
  go_wp2_with (go_at_call 105; rw [E1.out, E2.out, E3.out]; refine (ReverseBytes64_any _ _ (Pn.sg_lt _ _ _ (by decide))).mono ?_; rintro e w' ⟨rfl, rfl⟩)
  go_ret
  exact ⟨rfl, rfl⟩
set_option maxHeartbeats 400000 in
theorem turned_any (x n : Nat) (w : World) (hn : n ≤ 64) :
    Calls Tryz.prog 87 #[.int .u64 x, .int .i64 (n : Nat)] w fun e w' => e = .returned (.int .u64 (Pn.rv x n : Nat)) ∧ w' = w := by
  have HR := hidden (Pn.r64_rv x n hn)
  have HS := hidden (Wd.shl_u64 x (64 - n))
  obtain ⟨s, hs⟩ : ∃ s : Nat, 64 - n = s := ⟨_, rfl⟩
  have hsn : (64 : Int) - (n : Int) = (s : Int) := by omega
  rw [hs] at HR HS
  clear hs
  go_enter Tryz.func87, Tryz.ntmps87
  go_wp2_with (go_at_call 98; rw [HS.out]; refine (Reverse64_any _ _ (Nat.mod_lt _ (by decide))).mono ?_; rintro e w' ⟨rfl, rfl⟩)
  go_ret
  exact ⟨ret_int (by rw [HR.out]), rfl⟩
end Go.Proofs.YtmeclkmmgbndkaaGreatDoor
namespace Go.Proofs.YtmeclkmmgbndkaaGreatDoor
open Go.RowKit
set_option maxHeartbeats 400000 in
theorem ends_any (r n X : Nat) (a t : Int) (u : Value) (w : World) (h : Rw w r n X u) :
    Calls Tryz.prog 80 #[.pointer (some ⟨r, 0, none⟩), .int .i64 a, .int .i64 t] w fun e w' => e = .returned (.tuple #[.int .i64 (Pn.fr n a : Nat), .int .i64 (Pn.to n a t : Nat)]) ∧ w' = w := by
  have h1 := Pn.fr_cast n a
  have h2 := Pn.to_cast n a t
  generalize Pn.fr n a = f at *
  generalize Pn.to n a t = g at *
  have HR := hidden h
  have hl := h.len
  clear h
  go_enter Tryz.func80, Tryz.ntmps80
  go_wp2_with (go_at_call 50; refine (RLen_any r _ _ u _ HR.out).mono ?_; rintro e w1 ⟨rfl, rfl⟩)
  go_ret2
  exact ⟨rfl, rfl⟩
set_option maxHeartbeats 400000 in
/-- The n bits from a on, which are there. -/
theorem pfield_in (r m X a n : Nat) (u : Value) (w : World) (h : Rw w r m X u) (hn : n ≤ 64) (ha : a + n ≤ m) :
    Calls Tryz.prog 83 #[.pointer (some ⟨r, 0, none⟩), .int .i64 (a : Nat), .int .i64 (n : Nat)] w fun e w' => e = .returned (.int .u64 ((Bt.fd X a n : Nat) : Int)) ∧ w' = w := by
  have HR := hidden h
  have hl := h.len
  clear h
  go_enter Tryz.func83, Tryz.ntmps83
  go_wp2_with (go_at_call 97; refine (RField_in r m X a n u _ HR.out hn (by omega)).mono ?_; rintro e w1 ⟨rfl, rfl⟩)
  go_ret
  exact ⟨rfl, rfl⟩
theorem Pn.fd_forth (X a j k : Nat) : Bt.fd X (a + j) k = Bt.fd (X / 2 ^ a) j k := by
  unfold Bt.fd
  rw [Nat.pow_add, Nat.div_div_eq_div_mul]
theorem Pn.fd_back (X b j k : Nat) (h : j + k ≤ b) : Pn.rv (Bt.fd X (b - j - k) k) k = Bt.fd (Pn.rv X b) j k := Pn.rv_word X b j k h
/-- A function that reads up to 64 of the n bits of Y, as words; it changes nothing. -/
structure Rd (f n Y : Nat) (cb : Array Value) (w : World) : Prop where
  enters : ∀ args w, (callFunc f args).run Tryz.prog w = .ok (.enter f args) w
  reads : ∀ j k : Nat, k ≤ 64 → j + k ≤ n → Calls Tryz.prog f (#[.int .i64 (j : Nat), .int .i64 (k : Nat)] ++ cb) w fun e w' => e = .returned (.int .u64 ((Bt.fd Y j k : Nat) : Int)) ∧ w' = w
set_option maxHeartbeats 400000 in
theorem forth_reads (r m X a b p q : Nat) (u : Value) (w : World) (h : Rw w r m X u) (hab : a ≤ b) (hb : b ≤ m) (cp : w.cell? ⟨p, 0, none⟩ = some (.pointer (some ⟨r, 0, none⟩))) (cq : w.cell? ⟨q, 0, none⟩ = some (.int .i64 (a : Nat))) :
    Rd 82 (b - a) (X / 2 ^ a) #[.pointer (some ⟨p, 0, none⟩), .pointer (some ⟨q, 0, none⟩)] w := by
  refine ⟨enters_of Tryz.func82 (by kernel_rfl) rfl, fun j k hk hj => ?_⟩
  rw [← Pn.fd_forth]
  have HR := hidden h
  have hl := h.len
  have hs : (a : Int) + (j : Int) = ((a + j : Nat) : Int) := by omega
  have hs2 : a + j + k ≤ m := by omega
  generalize a + j = s at *
  clear h
  show Calls Tryz.prog 82 #[.int .i64 (j : Nat), .int .i64 (k : Nat), .pointer (some ⟨p, 0, none⟩), .pointer (some ⟨q, 0, none⟩)] w _
  go_enter Tryz.func82, Tryz.ntmps82
  go_wp2_with (go_at_call 83; refine (pfield_in r m X s k u _ HR.out hk hs2).mono ?_; rintro e w1 ⟨rfl, rfl⟩)
  go_ret
  exact ⟨rfl, rfl⟩
set_option maxHeartbeats 400000 in
theorem back_reads (r m X a b p q : Nat) (u : Value) (w : World) (h : Rw w r m X u) (hab : a ≤ b) (hb : b ≤ m) (cp : w.cell? ⟨p, 0, none⟩ = some (.pointer (some ⟨r, 0, none⟩))) (cq : w.cell? ⟨q, 0, none⟩ = some (.int .i64 (b : Nat))) :
    Rd 86 (b - a) (Pn.rv X b) #[.pointer (some ⟨p, 0, none⟩), .pointer (some ⟨q, 0, none⟩)] w := by
  refine ⟨enters_of Tryz.func86 (by kernel_rfl) rfl, fun j k hk hj => ?_⟩
  rw [← Pn.fd_back X b j k (by omega)]
  have HR := hidden h
  have hl := h.len
  have hs0 : (b : Int) - (j : Int) - (k : Int) = ((b - j - k : Nat) : Int) := by omega
  have hs2 : b - j - k + k ≤ m := by omega
  have hj1 : (b : Int) - (j : Int) = ((b - j : Nat) : Int) := by omega
  generalize b - j = b1 at *
  have hs : (b1 : Int) - (k : Int) = ((b1 - k : Nat) : Int) := by omega
  generalize b1 - k = s at *
  clear h hs0
  show Calls Tryz.prog 86 #[.int .i64 (j : Nat), .int .i64 (k : Nat), .pointer (some ⟨p, 0, none⟩), .pointer (some ⟨q, 0, none⟩)] w _
  go_enter Tryz.func86, Tryz.ntmps86
  go_wp2_with (first
    | (go_at_call 83; refine (pfield_in r m X s k u _ HR.out hk hs2).mono ?_; rintro e w1 ⟨rfl, rfl⟩)
    | (go_at_call 87; refine (turned_any _ k _ hk).mono ?_; rintro e w1 ⟨rfl, rfl⟩))
  go_ret
  exact ⟨rfl, rfl⟩
end Go.Proofs.YtmeclkmmgbndkaaGreatDoor
namespace Go.Proofs.YtmeclkmmgbndkaaGreatDoor
open Go.RowKit
/-- Where the search stands at a label: behind the first i bits, none of whose beginnings has the excess. -/
def MeetAt (n Y : Nat) (d : Int) (f : Value) (w : World) (a' : Act) (w' : World) : Prop :=
  w' = w ∧ ∃ (i : Nat) (u8 u9 u10 u11 u12 u13 u14 u15 u16 u17 u18 u19 u20 u21 u22 u23 u24 u25 u26 u27 u28 u29 u30 u31 u32 u33 u34 u35 u36 u37 u38 u39 u40 u41 u42 u43 u44 u45 u46 u47 u48 u49 u50 u51 u52 u53 u54 u55 u56 u57 u58 u59 u60 u61 u62 u63 u64 u65 u66 u67 u68 u69 u70 u71 : Value), a' = { tmps := #[.int .i64 (n : Nat), .int .i64 (d - Wd.exc Y i), f, undef, undef, undef, .int .i64 0, .int .i64 (i : Nat), u8, u9, u10, u11, u12, u13, u14, u15, u16, u17, u18, u19, u20, u21, u22, u23, u24, u25, u26, u27, u28, u29, u30, u31, u32, u33, u34, u35, u36, u37, u38, u39, u40, u41, u42, u43, u44, u45, u46, u47, u48, u49, u50, u51, u52, u53, u54, u55, u56, u57, u58, u59, u60, u61, u62, u63, u64, u65, u66, u67, u68, u69, u70, u71], defers := [] } ∧ i ≤ n ∧ Pn.Unmet Y d i
theorem MeetAt.mk {n Y i : Nat} {d dd : Int} {f : Value} {w : World} {u8 u9 u10 u11 u12 u13 u14 u15 u16 u17 u18 u19 u20 u21 u22 u23 u24 u25 u26 u27 u28 u29 u30 u31 u32 u33 u34 u35 u36 u37 u38 u39 u40 u41 u42 u43 u44 u45 u46 u47 u48 u49 u50 u51 u52 u53 u54 u55 u56 u57 u58 u59 u60 u61 u62 u63 u64 u65 u66 u67 u68 u69 u70 u71 : Value} (hi : i ≤ n) (hu : Pn.Unmet Y d i) (hd : dd = d - Wd.exc Y i) : MeetAt n Y d f w { tmps := #[.int .i64 (n : Nat), .int .i64 dd, f, undef, undef, undef, .int .i64 0, .int .i64 (i : Nat), u8, u9, u10, u11, u12, u13, u14, u15, u16, u17, u18, u19, u20, u21, u22, u23, u24, u25, u26, u27, u28, u29, u30, u31, u32, u33, u34, u35, u36, u37, u38, u39, u40, u41, u42, u43, u44, u45, u46, u47, u48, u49, u50, u51, u52, u53, u54, u55, u56, u57, u58, u59, u60, u61, u62, u63, u64, u65, u66, u67, u68, u69, u70, u71], defers := [] } w := by
  subst hd
  exact ⟨rfl, i, u8, u9, u10, u11, u12, u13, u14, u15, u16, u17, u18, u19, u20, u21, u22, u23, u24, u25, u26, u27, u28, u29, u30, u31, u32, u33, u34, u35, u36, u37, u38, u39, u40, u41, u42, u43, u44, u45, u46, u47, u48, u49, u50, u51, u52, u53, u54, u55, u56, u57, u58, u59, u60, u61, u62, u63, u64, u65, u66, u67, u68, u69, u70, u71, rfl, hi, hu⟩
set_option maxHeartbeats 2000000 in
set_option maxRecDepth 100000 in
theorem meet_any (g n Y : Nat) (d : Int) (cb : Array Value) (w : World) (hg : Rd g n Y cb w) (hn : n ≤ 4294967296) :
    Calls Tryz.prog 81 #[.int .i64 (n : Nat), .int .i64 d, .func (.func g) #[] cb] w fun e w' => e = .returned (.int .i64 (Wd.find Y n d : Nat)) ∧ w' = w := by
  have eg := hg.enters
  have HG := hidden hg.reads
  clear hg
  by_cases hd : d ≤ (n : Int) ∧ -(n : Int) ≤ d
  · obtain ⟨hd1, hd2⟩ := hd
    go_enter Tryz.func81, Tryz.ntmps81
    go_wp2_with fail
    refine wp_scope_two 0 1 (MeetAt n Y d (.func (.func g) #[] cb) w) (MeetAt n Y d (.func (.func g) #[] cb) w) (fun a' _ => n - (intOf (a'.tmps.getD 7 undef)).toNat) rfl rfl ?_ ?_ ?_
    · go_wp2_with fail
      exact MeetAt.mk (Nat.zero_le n) (Pn.Unmet.zero Y d) (by rw [Wd.exc_zero, Int.sub_zero])
    · rintro a' w' ⟨rfl, i0, u8, u9, u10, u11, u12, u13, u14, u15, u16, u17, u18, u19, u20, u21, u22, u23, u24, u25, u26, u27, u28, u29, u30, u31, u32, u33, u34, u35, u36, u37, u38, u39, u40, u41, u42, u43, u44, u45, u46, u47, u48, u49, u50, u51, u52, u53, u54, u55, u56, u57, u58, u59, u60, u61, u62, u63, u64, u65, u66, u67, u68, u69, u70, u71, rfl, hi0, hu0⟩
      have HU0 := hidden hu0
      clear hu0
      have hm0 : (intOf (Value.int .i64 (i0 : Int))).toNat = i0 := by simp [intOf]
      go_hide hQ
      go_wp2_with fail
      go_loopw [1, 7] (fun s1 s7 wr => ∃ i : Nat, i0 ≤ i ∧ i ≤ n ∧ s1 = .int .i64 (d - Wd.exc Y i) ∧ s7 = .int .i64 (i : Nat) ∧ Hid (Pn.Unmet Y d i) ∧ wr = w') (fun _ s7 _ => n - (intOf s7).toNat)
      case atStart => exact ⟨i0, by omega, hi0, rfl, rfl, HU0.out, rfl⟩
      case round =>
        obtain ⟨i, hi1, hi2, rfl, rfl, HU, rfl⟩ := hrel
        have hb := Wd.exc_bounds Y i
        obtain ⟨dd, hdd⟩ : ∃ dd, dd = d - Wd.exc Y i := ⟨_, rfl⟩
        rw [← hdd]
        have hdb : -8589934592 ≤ dd ∧ dd ≤ 8589934592 := by omega
        have HDD := hidden hdd
        have HI1 := hidden hi1
        clear hdd hb hi1
        by_cases hlt : i + 64 ≤ n
        · have hge : (64 : Int) ≤ (n : Int) - (i : Int) := by omega
          have hF := Bt.fd_lt64 Y i 64 (by omega)
          obtain ⟨F, hFd⟩ : ∃ F, F = Bt.fd Y i 64 := ⟨_, rfl⟩
          rw [← hFd] at hF
          have HFD := hidden hFd
          have ho := Wd.ones_le F 64
          obtain ⟨o, hod⟩ : ∃ o, o = Wd.ones F 64 := ⟨_, rfl⟩
          rw [← hod] at ho
          have HOD := hidden hod
          clear hFd hod
          have HLT := hidden hlt
          clear hlt
          by_cases hc : dd ≤ (o : Int) ∧ (o : Int) - 64 ≤ dd
          · obtain ⟨hc1, hc2⟩ := hc
            go_wp2_with fail
            refine (HG.out i 64 (by omega) HLT.out).mono ?_
            rintro e1 w1 ⟨rfl, rfl⟩
            rw [← HFD.out]
            go_wp2_with fail
            refine (Ones_any F 64 _ hF).mono ?_
            rintro e1 w1 ⟨rfl, rfl⟩
            rw [show Wd.cl 64 = 64 from rfl, ← HOD.out]
            go_wp2_with fail
            go_step3
            subst hQ
            show _ ∧ _ ∧ _
            exact ⟨rfl, MeetAt.mk hi2 HU.out HDD.out, Nat.sub_le_sub_left HI1.out n⟩
          · have hc' : (o : Int) < dd ∨ (dd ≤ (o : Int) ∧ dd < (o : Int) - 64) := by omega
            have HC := hidden hc
            clear hc
            rcases hc' with hc1 | ⟨hc1, hc2⟩
            · go_wp2_with fail
              refine (HG.out i 64 (by omega) HLT.out).mono ?_
              rintro e1 w1 ⟨rfl, rfl⟩
              rw [← HFD.out]
              go_wp2_with fail
              refine (Ones_any F 64 _ hF).mono ?_
              rintro e1 w1 ⟨rfl, rfl⟩
              rw [show Wd.cl 64 = 64 from rfl, ← HOD.out]
              go_wp2_with fail
              go_roundw
              case rel =>
                have h1 := HC.out
                have h2 := HOD.out
                have h3 := HDD.out
                have h4 := HLT.out
                rw [HFD.out] at h2
                refine ⟨i + 64, by have := HI1.out; omega, h4, ?_, by go_num, HU.out.far (by rw [← h3]; unfold Bt.fd at h2; rw [← h2]; omega), trivial⟩
                rw [← Pn.far_on, ← h3]
                unfold Bt.fd at h2
                rw [← h2]
              case measure => have := HLT.out; simp [intOf]; omega
            · go_wp2_with fail
              refine (HG.out i 64 (by omega) HLT.out).mono ?_
              rintro e1 w1 ⟨rfl, rfl⟩
              rw [← HFD.out]
              go_wp2_with fail
              refine (Ones_any F 64 _ hF).mono ?_
              rintro e1 w1 ⟨rfl, rfl⟩
              rw [show Wd.cl 64 = 64 from rfl, ← HOD.out]
              go_wp2_with fail
              go_roundw
              case rel =>
                have h1 := HC.out
                have h2 := HOD.out
                have h3 := HDD.out
                have h4 := HLT.out
                rw [HFD.out] at h2
                refine ⟨i + 64, by have := HI1.out; omega, h4, ?_, by go_num, HU.out.far (by rw [← h3]; unfold Bt.fd at h2; rw [← h2]; omega), trivial⟩
                rw [← Pn.far_on, ← h3]
                unfold Bt.fd at h2
                rw [← h2]
              case measure => have := HLT.out; simp [intOf]; omega
        · have hge : (n : Int) - (i : Int) < 64 := by omega
          have HLT := hidden hlt
          clear hlt
          go_wp2_with fail
          subst hQ
          show _ ∧ _
          exact ⟨MeetAt.mk hi2 HU.out HDD.out, Nat.sub_le_sub_left HI1.out n⟩
    · rintro a' w' ⟨rfl, i, u8, u9, u10, u11, u12, u13, u14, u15, u16, u17, u18, u19, u20, u21, u22, u23, u24, u25, u26, u27, u28, u29, u30, u31, u32, u33, u34, u35, u36, u37, u38, u39, u40, u41, u42, u43, u44, u45, u46, u47, u48, u49, u50, u51, u52, u53, u54, u55, u56, u57, u58, u59, u60, u61, u62, u63, u64, u65, u66, u67, u68, u69, u70, u71, rfl, hi, hu⟩
      have HU := hidden hu
      clear hu
      have hb := Wd.exc_bounds Y i
      obtain ⟨dd, hdd⟩ : ∃ dd, dd = d - Wd.exc Y i := ⟨_, rfl⟩
      rw [← hdd]
      have hdb : -8589934592 ≤ dd ∧ dd ≤ 8589934592 := by omega
      have HDD := hidden hdd
      clear hdd hb
      go_hide hQ
      obtain ⟨m, hm⟩ : ∃ m : Nat, min 64 ((n : Int) - (i : Int)) = (m : Int) := ⟨(min 64 ((n : Int) - (i : Int))).toNat, by omega⟩
      have hm1 : m ≤ 64 ∧ i + m ≤ n ∧ (m < 64 → i + m = n) := by omega
      obtain ⟨hm1, hm2, hm3⟩ := hm1
      have HM2 := hidden hm2
      have HM3 := hidden hm3
      have hF := Bt.fd_lt64 Y i m hm1
      have hcl := Wd.cl_nat m hm1
      obtain ⟨F, hFd⟩ : ∃ F, F = Bt.fd Y i m := ⟨_, rfl⟩
      rw [← hFd] at hF
      have HFD := hidden hFd
      have hkl := Wd.find_le F m dd
      obtain ⟨k, hkd⟩ : ∃ k, k = Wd.find F m dd := ⟨_, rfl⟩
      rw [← hkd] at hkl
      have HKD := hidden hkd
      have HCL := hidden hcl
      clear hFd hkd hcl hm2 hm3
      go_wp2_with fail
      refine (HG.out i m hm1 HM2.out).mono ?_
      rintro e1 w1 ⟨rfl, rfl⟩
      rw [← HFD.out]
      go_wp2_with fail
      refine (Find_any F m dd _ hF).mono ?_
      rintro e1 w1 ⟨rfl, rfl⟩
      rw [HCL.out, ← HKD.out]
      by_cases hk : 0 < k
      · have hk' : (0 : Int) < (k : Int) := by omega
        go_wp2_with fail
        subst hQ
        simp only [Exit.jump]
        go_ret
        refine ⟨ret_int ?_, rfl⟩
        have h1 := HKD.out
        rw [HFD.out, HDD.out] at h1
        rw [HU.out.found HM2.out h1.symm hk]
        omega
      · obtain rfl : k = 0 := by omega
        have hu1 : Hid (Pn.Unmet Y d (i + m)) := HU.out.on (by have h1 := HKD.out; rw [HFD.out, HDD.out] at h1; exact h1.symm)
        by_cases hm64 : m < 64
        · have hm' : (m : Int) < 64 := by omega
          have HZ : Hid (Wd.find Y n d = 0) := Pn.Unmet.none (by rw [← HM3.out hm64]; exact hu1.out)
          go_wp2_with fail
          subst hQ
          simp only [Exit.jump]
          go_ret
          exact ⟨ret_int (by rw [HZ.out]; rfl), rfl⟩
        · obtain rfl : m = 64 := by omega
          have he : -64 ≤ Wd.exc F 64 ∧ Wd.exc F 64 ≤ 64 := Wd.exc_bounds F 64
          obtain ⟨x, hx⟩ : ∃ x, x = Wd.exc F 64 := ⟨_, rfl⟩
          rw [← hx] at he
          have HX := hidden hx
          clear hx hm64
          go_wp2_with fail
          refine (Excess_any F _ _ hF).mono ?_
          rintro e1 w1 ⟨rfl, rfl⟩
          rw [show Wd.cl 64 = 64 from rfl, ← HX.out]
          go_wp2_with fail
          go_step3
          subst hQ
          show _ ∧ _ ∧ _
          refine ⟨rfl, MeetAt.mk HM2.out hu1.out ?_, ?_⟩
          · rw [Pn.exc_on Y i 64, HX.out, HFD.out, HDD.out]
            unfold Bt.fd
            omega
          · have := HM2.out
            show n - (i + 64) < n - i
            omega
  · have HZ : Hid (Wd.find Y n d = 0) := Wd.find_eq (.inr ⟨rfl, fun j j1 j2 => by have := Wd.exc_bounds Y j; omega⟩)
    have hor : (n : Int) < d ∨ (d ≤ (n : Int) ∧ d < -(n : Int)) := by omega
    clear hd
    rcases hor with h | ⟨h1, h2⟩
    · go_enter Tryz.func81, Tryz.ntmps81
      go_wp2_with fail
      go_step3
      go_wp2_with fail
      rw [Exit.noGoto_ret]
      go_ret
      exact ⟨ret_int (by rw [HZ.out]; rfl), rfl⟩
    · go_enter Tryz.func81, Tryz.ntmps81
      go_wp2_with fail
      go_step3
      go_wp2_with fail
      rw [Exit.noGoto_ret]
      go_ret
      exact ⟨ret_int (by rw [HZ.out]; rfl), rfl⟩
end Go.Proofs.YtmeclkmmgbndkaaGreatDoor
namespace Go.Proofs.YtmeclkmmgbndkaaGreatDoor
open Go.RowKit
set_option maxHeartbeats 1000000 in
theorem Forth_any (r n X : Nat) (a t d : Int) (u : Value) (w : World) (h : Rw w r n X u) :
    Calls Tryz.prog 59 #[.pointer (some ⟨r, 0, none⟩), .int .i64 a, .int .i64 t, .int .i64 d] w fun e w' => e = .returned (.int .i64 (Pn.forth X (Pn.fr n a) (Pn.to n a t) d)) ∧ Below w.heap.size w w' := by
  have HR := hidden h
  have hl := h.len
  obtain ⟨hA, hB⟩ := Pn.fr_to n a t
  have HE := hidden (fun W => ends_any r n X a t u W)
  generalize Pn.fr n a = f at *
  generalize Pn.to n a t = g at *
  clear h
  go_enter Tryz.func59, Tryz.ntmps59
  go_wp2_with fail
  obtain ⟨w2, hw2⟩ : ∃ w2, w2 = ((w.alloc (.cells #[.pointer (some ⟨r, 0, none⟩)] 31)).alloc (.cells #[.int .i64 a] 3)) := ⟨_, rfl⟩
  rw [← hw2]
  have hk2 : w2.heap[w.heap.size]? = some (.cells #[.pointer (some ⟨r, 0, none⟩)] 31 (0, 0)) := by rw [hw2, Below.heap_alloc _ _ _ (by simp)]; exact heap_alloc_new _ _
  have hf2 : w2.heap[w.heap.size + 1]? = some (.cells #[.int .i64 a] 3 (0, 0)) := by rw [hw2]; exact heap_new_at (by simp)
  have hb2 : Below w.heap.size w w2 := by rw [hw2]; exact ((Below.refl _ _).alloc (Nat.le_refl _) _).alloc (by simp) _
  have HR2 := hidden (HR.out.below hb2 (Nat.le_refl _))
  have HB2 := hidden hb2
  have HK2 := hidden hk2
  have HF2 := hidden hf2
  clear hw2 hb2
  refine (HE.out _ HR2.out).mono ?_
  rintro e1 w3 ⟨rfl, rfl⟩
  have c0 := Lib.cell_of_heap hk2 0
  have c1 := Lib.cell_of_heap hf2 0
  have z1 := Lib.frozen_of_heap hf2 0
  clear hk2 hf2
  go_wp2_with fail
  obtain ⟨w4, hw4⟩ : ∃ w4, w4 = w3.setCell ⟨w.heap.size + 1, 0, none⟩ (.int .i64 (f : Int)) := ⟨_, rfl⟩
  rw [← hw4]
  have hb4 : Below w.heap.size w w4 := by rw [hw4]; exact HB2.out.setCell (by show _ ≤ w.heap.size + 1; omega) _
  have k4 : w4.cell? ⟨w.heap.size, 0, none⟩ = some (.pointer (some ⟨r, 0, none⟩)) := by
    have : w4.heap[w.heap.size]? = _ := (by rw [hw4]; exact setCell_heap_other _ _ _ _ (by show _ ≠ w.heap.size + 1; omega) : w4.heap[w.heap.size]? = w3.heap[w.heap.size]?).trans HK2.out
    exact Lib.cell_of_heap this 0
  have f4 : w4.cell? ⟨w.heap.size + 1, 0, none⟩ = some (.int .i64 (f : Int)) := by
    have : w4.heap[w.heap.size + 1]? = some (.cells #[.int .i64 (f : Int)] 3 (0, 0)) := by rw [hw4, setCell_heap_same _ _ _ _ _ _ _ HF2.out]; rfl
    exact Lib.cell_of_heap this 0
  have HR4 := hidden (HR.out.below hb4 (Nat.le_refl _))
  have HB4 := hidden hb4
  have K4 := hidden k4
  clear hw4 hb4 k4 c0 c1 z1
  have hgf : (g : Int) - (f : Int) = ((g - f : Nat) : Int) := by omega
  rw [hgf]
  refine (meet_any 82 (g - f) (X / 2 ^ f) d _ w4 (forth_reads r n X f g _ _ u w4 HR4.out hA hB K4.out f4) (by omega)).mono ?_
  rintro e1 w5 ⟨rfl, rfl⟩
  have hPF : Pn.forth X f g d = if Wd.find (X / 2 ^ f) (g - f) d = 0 then -1 else (f : Int) + Wd.find (X / 2 ^ f) (g - f) d - 1 := rfl
  have hle := Wd.find_le (X / 2 ^ f) (g - f) d
  obtain ⟨k, hk⟩ : ∃ k, k = Wd.find (X / 2 ^ f) (g - f) d := ⟨_, rfl⟩
  rw [← hk] at hPF hle ⊢
  have HPF := hidden hPF
  have hk2 : k ≤ 4294967296 := by omega
  clear hPF hk hle hgf
  by_cases hk0 : k = 0
  · subst hk0
    go_wp2_with fail
    go_ret
    exact ⟨ret_int (by rw [HPF.out]; rfl), HB4.out⟩
  · have hz : ((k : Int) == 0) = false := by simpa using hk0
    have HK0 := hidden hk0
    clear hk0
    go_wp2_with fail
    go_ret
    exact ⟨ret_int (by rw [HPF.out, if_neg HK0.out]), HB4.out⟩
set_option maxHeartbeats 1000000 in
theorem Back_any (r n X : Nat) (a t d : Int) (u : Value) (w : World) (h : Rw w r n X u) :
    Calls Tryz.prog 63 #[.pointer (some ⟨r, 0, none⟩), .int .i64 a, .int .i64 t, .int .i64 d] w fun e w' => e = .returned (.int .i64 (Pn.back X (Pn.fr n a) (Pn.to n a t) d)) ∧ Below w.heap.size w w' := by
  have HR := hidden h
  have hl := h.len
  obtain ⟨hA, hB⟩ := Pn.fr_to n a t
  have HE := hidden (fun W => ends_any r n X a t u W)
  generalize Pn.fr n a = f at *
  generalize Pn.to n a t = g at *
  clear h
  go_enter Tryz.func63, Tryz.ntmps63
  go_wp2_with fail
  obtain ⟨w2, hw2⟩ : ∃ w2, w2 = ((w.alloc (.cells #[.pointer (some ⟨r, 0, none⟩)] 31)).alloc (.cells #[.int .i64 t] 3)) := ⟨_, rfl⟩
  rw [← hw2]
  have hk2 : w2.heap[w.heap.size]? = some (.cells #[.pointer (some ⟨r, 0, none⟩)] 31 (0, 0)) := by rw [hw2, Below.heap_alloc _ _ _ (by simp)]; exact heap_alloc_new _ _
  have hf2 : w2.heap[w.heap.size + 1]? = some (.cells #[.int .i64 t] 3 (0, 0)) := by rw [hw2]; exact heap_new_at (by simp)
  have hb2 : Below w.heap.size w w2 := by rw [hw2]; exact ((Below.refl _ _).alloc (Nat.le_refl _) _).alloc (by simp) _
  have HR2 := hidden (HR.out.below hb2 (Nat.le_refl _))
  have HB2 := hidden hb2
  have HK2 := hidden hk2
  have HF2 := hidden hf2
  clear hw2 hb2
  refine (HE.out _ HR2.out).mono ?_
  rintro e1 w3 ⟨rfl, rfl⟩
  have c0 := Lib.cell_of_heap hk2 0
  have c1 := Lib.cell_of_heap hf2 0
  have z1 := Lib.frozen_of_heap hf2 0
  clear hk2 hf2
  go_wp2_with fail
  obtain ⟨w4, hw4⟩ : ∃ w4, w4 = w3.setCell ⟨w.heap.size + 1, 0, none⟩ (.int .i64 (g : Int)) := ⟨_, rfl⟩
  rw [← hw4]
  have hb4 : Below w.heap.size w w4 := by rw [hw4]; exact HB2.out.setCell (by show _ ≤ w.heap.size + 1; omega) _
  have k4 : w4.cell? ⟨w.heap.size, 0, none⟩ = some (.pointer (some ⟨r, 0, none⟩)) := by
    have : w4.heap[w.heap.size]? = _ := (by rw [hw4]; exact setCell_heap_other _ _ _ _ (by show _ ≠ w.heap.size + 1; omega) : w4.heap[w.heap.size]? = w3.heap[w.heap.size]?).trans HK2.out
    exact Lib.cell_of_heap this 0
  have f4 : w4.cell? ⟨w.heap.size + 1, 0, none⟩ = some (.int .i64 (g : Int)) := by
    have : w4.heap[w.heap.size + 1]? = some (.cells #[.int .i64 (g : Int)] 3 (0, 0)) := by rw [hw4, setCell_heap_same _ _ _ _ _ _ _ HF2.out]; rfl
    exact Lib.cell_of_heap this 0
  have HR4 := hidden (HR.out.below hb4 (Nat.le_refl _))
  have HB4 := hidden hb4
  have K4 := hidden k4
  clear hw4 hb4 k4 c0 c1 z1
  have hgf : (g : Int) - (f : Int) = ((g - f : Nat) : Int) := by omega
  rw [hgf]
  refine (meet_any 86 (g - f) (Pn.rv X g) d _ w4 (back_reads r n X f g _ _ u w4 HR4.out hA hB K4.out f4) (by omega)).mono ?_
  rintro e1 w5 ⟨rfl, rfl⟩
  have hPF : Pn.back X f g d = if Wd.find (Pn.rv X g) (g - f) d = 0 then -1 else (g : Int) - Wd.find (Pn.rv X g) (g - f) d := rfl
  have hle := Wd.find_le (Pn.rv X g) (g - f) d
  obtain ⟨k, hk⟩ : ∃ k, k = Wd.find (Pn.rv X g) (g - f) d := ⟨_, rfl⟩
  rw [← hk] at hPF hle ⊢
  have HPF := hidden hPF
  have hk2 : k ≤ 4294967296 := by omega
  clear hPF hk hle hgf
  by_cases hk0 : k = 0
  · subst hk0
    go_wp2_with fail
    go_ret
    exact ⟨ret_int (by rw [HPF.out]; rfl), HB4.out⟩
  · have hz : ((k : Int) == 0) = false := by simpa using hk0
    have HK0 := hidden hk0
    clear hk0
    go_wp2_with fail
    go_ret
    exact ⟨ret_int (by rw [HPF.out, if_neg HK0.out]), HB4.out⟩
end Go.Proofs.YtmeclkmmgbndkaaGreatDoor
namespace Go.Proofs.YtmeclkmmgbndkaaGreatDoor
open Go.RowKit
/-- One word on, of a stretch that is gone through by words. -/
theorem Pn.step_word (n j : Nat) (h : 64 * j < n) : ∃ k : Nat, 1 ≤ k ∧ k ≤ 64 ∧ min 64 ((n : Int) - 64 * (j : Int)) = (k : Int) ∧ 64 * j + k ≤ n ∧ min (64 * (j + 1)) n = 64 * j + k := by
  refine ⟨min 64 (n - 64 * j), by omega, by omega, by omega, by omega, by omega⟩
set_option maxHeartbeats 1000000 in
theorem PExcess_any (r n X : Nat) (a t : Int) (u : Value) (w : World) (h : Rw w r n X u) :
    Calls Tryz.prog 61 #[.pointer (some ⟨r, 0, none⟩), .int .i64 a, .int .i64 t] w fun e w' => e = .returned (.int .i64 (Wd.exc (X / 2 ^ Pn.fr n a) (Pn.to n a t - Pn.fr n a))) ∧ w' = w := by
  have HR := hidden h
  have hl := h.len
  obtain ⟨hA, hB⟩ := Pn.fr_to n a t
  have HE := hidden (ends_any r n X a t u w h)
  generalize Pn.fr n a = f at *
  generalize Pn.to n a t = g at *
  clear h
  go_enter Tryz.func61, Tryz.ntmps61
  go_wp2_with fail
  refine HE.out.mono ?_
  rintro e1 w1 ⟨rfl, rfl⟩
  go_wp2_with fail
  go_loopw [7, 8] (fun s7 s8 wr => ∃ j : Nat, 64 * j < g - f + 64 ∧ s7 = .int .i64 (Wd.exc (X / 2 ^ f) (min (64 * j) (g - f))) ∧ s8 = .int .i64 ((f + 64 * j : Nat) : Int) ∧ wr = w1) (fun _ s8 _ => g - (intOf s8).toNat)
  case atStart => exact ⟨0, by omega, by rw [show min (64 * 0) (g - f) = 0 from by omega]; rfl, rfl, rfl⟩
  case round =>
    obtain ⟨j, hj, rfl, rfl, rfl⟩ := hrel
    by_cases hlt : 64 * j < g - f
    · obtain ⟨k, hk1, hk2, hk3, hk4, hk5⟩ := Pn.step_word (g - f) j hlt
      have he := Wd.exc_bounds (X / 2 ^ f) (min (64 * j) (g - f))
      rw [show min (64 * j) (g - f) = 64 * j from by omega] at he ⊢
      have hF := Bt.fd_lt64 X (f + 64 * j) k hk2
      have hs : Wd.exc (X / 2 ^ f) (min (64 * (j + 1)) (g - f)) = Wd.exc (X / 2 ^ f) (64 * j) + Wd.exc (Bt.fd X (f + 64 * j) k) k := by
        rw [hk5, Pn.exc_on, Pn.fd_forth]
        rfl
      have hcl := Wd.cl_nat k hk2
      have hx := Wd.exc_bounds (Bt.fd X (f + 64 * j) k) k
      have HP := hidden (pfield_in r n X (f + 64 * j) k u wr HR.out hk2 (by omega))
      have hat : (f : Int) + 64 * (j : Int) = ((f + 64 * j : Nat) : Int) := by omega
      have hk6 : min 64 ((g : Int) - ((f + 64 * j : Nat) : Int)) = (k : Int) := by omega
      have hlt2 : f + 64 * j < g := by omega
      obtain ⟨q, hq⟩ : ∃ q, q = f + 64 * j := ⟨_, rfl⟩
      rw [← hq] at HP hF hs hx hat hk6 hlt2 ⊢
      obtain ⟨x, hxd⟩ : ∃ x, x = Wd.exc (Bt.fd X q k) k := ⟨_, rfl⟩
      obtain ⟨E, hE⟩ : ∃ E, E = Wd.exc (X / 2 ^ f) (64 * j) := ⟨_, rfl⟩
      rw [← hxd, ← hE] at hs
      rw [← hxd] at hx
      rw [← hE] at he ⊢
      have hb : -4294967296 ≤ E ∧ E ≤ 4294967296 := by omega
      have hb2 : -64 ≤ x ∧ x ≤ 64 := by omega
      have HS := hidden hs
      have HXD := hidden hxd
      have HCL := hidden hcl
      have HQ := hidden hq
      clear hs hxd hE hcl he hx hk3 hk5 hat hq
      go_wp2_with fail
      refine HP.out.mono ?_
      rintro e1 w2 ⟨rfl, rfl⟩
      go_wp2_with fail
      refine (Excess_any _ _ _ hF).mono ?_
      rintro e1 w2 ⟨rfl, rfl⟩
      rw [HCL.out, ← HXD.out]
      go_wp2_with fail
      go_roundw
      case rel => exact ⟨j + 1, by omega, by rw [HS.out], by have := HQ.out; go_num, trivial⟩
      case measure => simp [intOf]; omega
    · have hge : g ≤ f + 64 * j := by omega
      have hm : min (64 * j) (g - f) = g - f := by omega
      rw [hm]
      obtain ⟨q, hq⟩ : ∃ q, q = f + 64 * j := ⟨_, rfl⟩
      rw [← hq] at hge ⊢
      clear hm hq
      go_wp2_with fail
      go_ret
      exact ⟨rfl, rfl⟩
set_option maxHeartbeats 2000000 in
set_option maxRecDepth 100000 in
theorem PReach_any (r n X : Nat) (a t : Int) (u : Value) (w : World) (h : Rw w r n X u) :
    Calls Tryz.prog 69 #[.pointer (some ⟨r, 0, none⟩), .int .i64 a, .int .i64 t] w fun e w' => e = .returned (.complex .f64 (floatOfInt .f64 (Wd.lo (X / 2 ^ Pn.fr n a) (Pn.to n a t - Pn.fr n a))) (floatOfInt .f64 (Wd.hi (X / 2 ^ Pn.fr n a) (Pn.to n a t - Pn.fr n a)))) ∧ w' = w := by
  have HR := hidden h
  have hl := h.len
  obtain ⟨hA, hB⟩ := Pn.fr_to n a t
  have HE := hidden (ends_any r n X a t u w h)
  generalize Pn.fr n a = f at *
  generalize Pn.to n a t = g at *
  clear h
  obtain ⟨hl1, hh1⟩ := Pn.lo1_end (X / 2 ^ f) (g - f)
  rw [← hl1, ← hh1]
  clear hl1 hh1
  go_enter Tryz.func69, Tryz.ntmps69
  go_wp2_with fail
  refine HE.out.mono ?_
  rintro e1 w1 ⟨rfl, rfl⟩
  go_wp2_with fail
  go_loopw [7, 8, 9, 10] (fun s7 s8 s9 s10 wr => ∃ j : Nat, 64 * j < g - f + 64 ∧ s7 = .int .i64 (Wd.exc (X / 2 ^ f) (min (64 * j) (g - f))) ∧ s8 = .int .i64 (Pn.lo1 (X / 2 ^ f) (g - f) (min (64 * j) (g - f))) ∧ s9 = .int .i64 (Pn.hi1 (X / 2 ^ f) (g - f) (min (64 * j) (g - f))) ∧ s10 = .int .i64 ((f + 64 * j : Nat) : Int) ∧ wr = w1) (fun _ _ _ s10 _ => g - (intOf s10).toNat)
  case atStart =>
    refine ⟨0, by omega, by rw [show min (64 * 0) (g - f) = 0 from by omega]; rfl, ?_, ?_, rfl, rfl⟩
    · rw [show min (64 * 0) (g - f) = 0 from by omega]
      unfold Pn.lo1
      rw [if_pos rfl]
      go_num
    · rw [show min (64 * 0) (g - f) = 0 from by omega]
      unfold Pn.hi1
      rw [if_pos rfl]
      go_num
  case round =>
    obtain ⟨j, hj, rfl, rfl, rfl, rfl, rfl⟩ := hrel
    by_cases hlt : 64 * j < g - f
    · obtain ⟨k, hk1, hk2, hk3, hk4, hk5⟩ := Pn.step_word (g - f) j hlt
      rw [show min (64 * j) (g - f) = 64 * j from by omega]
      have he := Wd.exc_bounds (X / 2 ^ f) (64 * j)
      have hlb := Pn.lo1_bounds (X / 2 ^ f) (g - f) (64 * j) (by omega)
      have hF := Bt.fd_lt64 X (f + 64 * j) k hk2
      have hfd : Bt.fd X (f + 64 * j) k = X / 2 ^ f / 2 ^ (64 * j) % 2 ^ k := by rw [Pn.fd_forth]; rfl
      have hs : Wd.exc (X / 2 ^ f) (min (64 * (j + 1)) (g - f)) = Wd.exc (X / 2 ^ f) (64 * j) + Wd.exc (Bt.fd X (f + 64 * j) k) k := by
        rw [hk5, Pn.exc_on, hfd]
      obtain ⟨hon1, hon2⟩ := Pn.lo1_on (X / 2 ^ f) (g - f) (64 * j) k hk1 hk4
      rw [← hfd, ← hk5] at hon1 hon2
      have hcl := Wd.cl_nat k hk2
      have hx := Wd.exc_bounds (Bt.fd X (f + 64 * j) k) k
      have hlw := Wd.lo_bounds (Bt.fd X (f + 64 * j) k) k
      have hhw := Wd.hi_bounds (Bt.fd X (f + 64 * j) k) k
      have HP := hidden (pfield_in r n X (f + 64 * j) k u wr HR.out hk2 (by omega))
      have hk6 : min 64 ((g : Int) - ((f + 64 * j : Nat) : Int)) = (k : Int) := by omega
      have hlt2 : f + 64 * j < g := by omega
      obtain ⟨q, hq⟩ : ∃ q, q = f + 64 * j := ⟨_, rfl⟩
      rw [← hq] at HP hF hs hx hk6 hlt2 hlw hhw hon1 hon2 ⊢
      obtain ⟨x, hxd⟩ : ∃ x, x = Wd.exc (Bt.fd X q k) k := ⟨_, rfl⟩
      obtain ⟨lw, hlwd⟩ : ∃ x, x = Wd.lo (Bt.fd X q k) k := ⟨_, rfl⟩
      obtain ⟨hw, hhwd⟩ : ∃ x, x = Wd.hi (Bt.fd X q k) k := ⟨_, rfl⟩
      obtain ⟨E, hE⟩ : ∃ E, E = Wd.exc (X / 2 ^ f) (64 * j) := ⟨_, rfl⟩
      obtain ⟨lL, hlL⟩ : ∃ E, E = Pn.lo1 (X / 2 ^ f) (g - f) (64 * j) := ⟨_, rfl⟩
      obtain ⟨hH, hhH⟩ : ∃ E, E = Pn.hi1 (X / 2 ^ f) (g - f) (64 * j) := ⟨_, rfl⟩
      rw [← hxd, ← hE] at hs
      rw [← hxd] at hx
      rw [← hlwd, ← hE, ← hlL] at hon1
      rw [← hhwd, ← hE, ← hhH] at hon2
      rw [← hlwd] at hlw
      rw [← hhwd] at hhw
      rw [← hlL, ← hhH] at hlb
      rw [← hE] at he
      rw [← hE, ← hlL, ← hhH]
      have hb : -4294967296 ≤ E ∧ E ≤ 4294967296 := by omega
      have hb2 : -64 ≤ x ∧ x ≤ 64 := by omega
      have hb3 : -64 ≤ lw ∧ lw ≤ 64 := by omega
      have hb4 : -64 ≤ hw ∧ hw ≤ 64 := by omega
      have hb5 : -4294967296 ≤ lL ∧ lL ≤ 4294967296 := by omega
      have hb6 : -4294967296 ≤ hH ∧ hH ≤ 4294967296 := by omega
      have cv1 : ∀ w, (convert 78 3 (.float .f64 (floatOfInt .f64 lw))).run Tryz.prog w = .ok (.int .i64 lw) w := fun w => run_convert_float_int w 78 3 .f64 .i64 _ lw (by rw [Tryz.underlying78]; rfl) Tryz.underlying3 (Flt.back_int lw (by omega))
      have cv2 : ∀ w, (convert 78 3 (.float .f64 (floatOfInt .f64 hw))).run Tryz.prog w = .ok (.int .i64 hw) w := fun w => run_convert_float_int w 78 3 .f64 .i64 _ hw (by rw [Tryz.underlying78]; rfl) Tryz.underlying3 (Flt.back_int hw (by omega))
      have HS := hidden hs
      have HON1 := hidden hon1
      have HON2 := hidden hon2
      have HXD := hidden hxd
      have HLD := hidden hlwd
      have HHD := hidden hhwd
      have HCL := hidden hcl
      have HQ := hidden hq
      clear hs hxd hE hcl he hx hk3 hk5 hq hlwd hhwd hlL hhH hlw hhw hlb hon1 hon2 hfd
      go_wp2_with fail
      refine HP.out.mono ?_
      rintro e1 w2 ⟨rfl, rfl⟩
      go_wp2_with fail
      refine (Reach_any _ _ _ hF).mono ?_
      rintro e1 w2 ⟨rfl, rfl⟩
      rw [HCL.out, ← HLD.out, ← HHD.out]
      go_wp2_with fail
      refine (Excess_any _ _ _ hF).mono ?_
      rintro e1 w2 ⟨rfl, rfl⟩
      rw [HCL.out, ← HXD.out]
      go_wp2_with fail
      go_roundw
      case rel => exact ⟨j + 1, by omega, by rw [HS.out], by rw [← HON1.out], by rw [← HON2.out], by have := HQ.out; go_num, trivial⟩
      case measure => simp [intOf]; omega
    · have hge : g ≤ f + 64 * j := by omega
      have hm : min (64 * j) (g - f) = g - f := by omega
      rw [hm]
      obtain ⟨q, hq⟩ : ∃ q, q = f + 64 * j := ⟨_, rfl⟩
      rw [← hq] at hge ⊢
      clear hm hq
      go_wp2_with fail
      go_ret
      exact ⟨rfl, rfl⟩
end Go.Proofs.YtmeclkmmgbndkaaGreatDoor
namespace Go.Proofs.YtmeclkmmgbndkaaGreatDoor
open Go.RowKit
theorem Pn.exc_bit (L : List Bool) (f i : Nat) (o : Bool) (ho : o = L.getD (f + i) false) : Wd.exc (Bt.num L / 2 ^ f) (i + 1) = if o then Wd.exc (Bt.num L / 2 ^ f) i + 1 else Wd.exc (Bt.num L / 2 ^ f) i - 1 := by
  rw [Wd.exc_succ, Wd.bt_div, Bt.bt_num, ← ho]
  cases o
  · simp only [Bool.toNat_false, Bool.false_eq_true, if_false]; omega
  · simp only [Bool.toNat_true, if_true]; omega
theorem Pn.exc_bit_rv (L : List Bool) (g i : Nat) (o : Bool) (hi : i < g) (ho : o = L.getD (g - 1 - i) false) : Wd.exc (Pn.rv (Bt.num L) g) (i + 1) = if o then Wd.exc (Pn.rv (Bt.num L) g) i + 1 else Wd.exc (Pn.rv (Bt.num L) g) i - 1 := by
  rw [Wd.exc_succ, Pn.bt_rv, if_pos hi, Bt.bt_num, ← ho]
  cases o
  · simp only [Bool.toNat_false, Bool.false_eq_true, if_false]; omega
  · simp only [Bool.toNat_true, if_true]; omega
theorem Pn.bal_at (X n i : Nat) (hi : i ≤ n) (hp : ∀ j, 1 ≤ j → j < i → 0 ≤ Wd.exc X j) (h : i = n ∨ Wd.exc X i < 0) : Pn.bal X n = (Wd.exc X i == 0) := by
  by_cases h0 : Wd.exc X i < 0
  · rw [show (Wd.exc X i == 0) = false from by simp; omega]
    rw [Bool.eq_false_iff]
    intro hb
    by_cases hz : i = 0
    · subst hz
      rw [Wd.exc_zero] at h0
      omega
    · have := ((Pn.bal_iff X n).1 hb).2 i (by omega) hi
      omega
  · obtain rfl : i = n := by omega
    by_cases hz : Wd.exc X i = 0
    · rw [hz]
      refine (Pn.bal_iff X i).2 ⟨hz, fun j j1 j2 => ?_⟩
      by_cases e : j = i
      · subst e; omega
      · exact hp j j1 (by omega)
    · rw [show (Wd.exc X i == 0) = false from by simpa using hz]
      rw [Bool.eq_false_iff]
      intro hb
      exact hz ((Pn.bal_iff X i).1 hb).1
set_option maxHeartbeats 1000000 in
theorem rBalanced_any (L : List Bool) (v : Value) (w : World) (h : Bv w v L) (hL : L.length ≤ 4294967296) :
    Calls Tryz.prog 8 #[v] w fun e w' => e = .returned (.bool (Pn.bal (Bt.num L) L.length)) ∧ w' = w := by
  obtain ⟨ao, cap, rfl, hcap, hc⟩ := h
  have HC := hidden hc
  clear hc
  go_enter Tryz.func8, Tryz.ntmps8
  go_wp2_with fail
  go_loopw [3, 4] (fun s9 s10 wr => ∃ i : Nat, i ≤ L.length ∧ s9 = .int .i64 (Wd.exc (Bt.num L) i) ∧ s10 = .int .i64 (i : Nat) ∧ Hid (∀ j, 1 ≤ j → j < i → 0 ≤ Wd.exc (Bt.num L) j) ∧ wr = w) (fun _ s10 _ => L.length - (intOf s10).toNat)
  case atStart => exact ⟨0, by omega, rfl, rfl, fun j j1 j2 => by omega, rfl⟩
  case round =>
    obtain ⟨i, hi, rfl, rfl, HU, rfl⟩ := hrel
    have he := Wd.exc_bounds (Bt.num L) i
    by_cases hst : i = L.length ∨ Wd.exc (Bt.num L) i < 0
    · have HB := hidden (Pn.bal_at (Bt.num L) L.length i hi HU.out hst)
      generalize Wd.exc (Bt.num L) i = E at *
      by_cases h1 : i = L.length
      · subst h1
        clear hst
        go_wp2_with fail
        go_ret
        exact ⟨ret_bool HB.out.symm, rfl⟩
      · have h2 : E < 0 := by omega
        have h3 : i < L.length := by omega
        clear hst h1
        go_wp2_with fail
        go_ret
        exact ⟨ret_bool HB.out.symm, rfl⟩
    · have h1 : i < L.length := by omega
      have h2 : 0 ≤ Wd.exc (Bt.num L) i := by omega
      have HU2 : Hid (∀ j, 1 ≤ j → j < i + 1 → 0 ≤ Wd.exc (Bt.num L) j) := fun j j1 j2 => by
        by_cases e : j = i
        · subst e; exact h2
        · exact HU.out j j1 (by omega)
      obtain ⟨b, off, rfl, hb, hcell⟩ := HC.out (by omega)
      have c0 := hcell i h1
      obtain ⟨o, ho⟩ : ∃ o, o = L.getD i false := ⟨_, rfl⟩
      have hs := Pn.exc_bit L 0 i o (by rw [Nat.zero_add]; exact ho)
      rw [Nat.pow_zero, Nat.div_one] at hs
      rw [← ho] at c0
      generalize hE : Wd.exc (Bt.num L) i = E at *
      have HS := hidden hs
      clear hcell hs ho hst hE
      cases o
      · go_wp2_with fail
        go_roundw
        case rel => exact ⟨i + 1, by omega, by rw [HS.out]; rfl, by go_num, HU2, trivial⟩
        case measure => simp [intOf]; omega
      · go_wp2_with fail
        go_roundw
        case rel => exact ⟨i + 1, by omega, by rw [HS.out]; rfl, by go_num, HU2, trivial⟩
        case measure => simp [intOf]; omega
end Go.Proofs.YtmeclkmmgbndkaaGreatDoor
namespace Go.Proofs.YtmeclkmmgbndkaaGreatDoor
open Go.RowKit
theorem Bv.below {w w' : World} {v : Value} {L : List Bool} {C : Nat} (h : Bv w v L) (hb : Below C w w') (hC : w.heap.size ≤ C) : Bv w' v L := by
  obtain ⟨ao, cap, hu, hc, hf⟩ := h
  refine ⟨ao, cap, hu, hc, fun h0 => ?_⟩
  obtain ⟨b, off, ha, hlt, hcell⟩ := hf h0
  refine ⟨b, off, ha, by have := hb.size; omega, fun i hi => ?_⟩
  exact (hb.cell (p := ⟨b, _, none⟩) (by show b < C; omega)).trans (hcell i hi)
set_option maxHeartbeats 1000000 in
theorem Made_view (L : List Bool) (v : Value) (w : World) (h : Bv w v L) (hL : L.length ≤ 4294967295) :
    Calls Tryz.prog 7 #[v] w fun e w' => ∃ r u, e = .returned (.pointer (some ⟨r, 0, none⟩)) ∧ Rw w' r L.length (Bt.num L) u ∧ Below w.heap.size w w' := by
  obtain ⟨ao, cap, rfl, hcap, hc⟩ := h
  have HC := hidden hc
  clear hc
  go_enter Tryz.func7, Tryz.ntmps7
  go_wp2
  go_loopw [4] (fun i wr => ∃ (k : Nat) (vb : Value), k ≤ L.length ∧ i = .int .i64 k ∧ Bd wr w.heap.size w.heap.size (L.take k).length (Bt.num (L.take k)) vb ∧ Below w.heap.size w wr) (fun i _ => L.length - (intOf i).toNat)
  case atStart => exact ⟨0, .slice none 0 0, by omega, rfl, Bd.new w, (Below.refl _ _).alloc (Nat.le_refl _) _⟩
  case round =>
    obtain ⟨k, vb, hk, rfl, hb, hbel⟩ := hrel
    have HB := hidden hb
    have HBL := hidden hbel
    clear hb hbel
    by_cases hlt : k < L.length
    · obtain ⟨g, off, rfl, hg, hcell⟩ := HC.out (by omega)
      have c0 := (HBL.out.cell (p := ⟨g, off + k, none⟩) hg).trans (hcell k hlt)
      have hlen : (L.take k).length ≤ k := List.length_take_le _ _
      obtain ⟨o, ho⟩ : ∃ o, o = L.getD k false := ⟨_, rfl⟩
      rw [← ho] at c0
      have HO := hidden ho
      clear hcell ho
      go_wp2_with (go_at_call 23; refine (Bit_list w.heap.size w.heap.size (L.take k) vb o _ HB.out (by omega)).mono ?_; rintro e w1 ⟨rfl, v1, hq1, hq2⟩; have HQ1 := hidden hq1; have HQ2 := hidden hq2; clear hq1 hq2)
      go_roundw
      case rel => exact ⟨k + 1, v1, by omega, by go_num, by rw [take_next L k hlt, ← HO.out]; exact HQ1.out, HBL.out.trans (HQ2.out.below HB.out)⟩
      case measure => simp [intOf]; omega
    · obtain rfl : k = L.length := by omega
      have hz := HB.out
      rw [List.take_of_length_le (Nat.le_refl _)] at hz
      have HZ := hidden hz
      clear hz
      go_wp2_with (go_at_call 24; refine (BRow_any w.heap.size _ _ w.heap.size vb _ HZ.out).mono ?_; rintro e w1 ⟨r, u, rfl, hq⟩; have HQ := hidden hq; clear hq)
      go_ret
      have hs := HBL.out.size
      obtain ⟨q1, q2, q3, q4⟩ := HQ.out
      exact ⟨r, u, rfl, q1, HBL.out.trans (q2.mono hs)⟩
end Go.Proofs.YtmeclkmmgbndkaaGreatDoor
