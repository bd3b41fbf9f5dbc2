/-
  The contracts of (*Row).Len, Get, Word, field and Field: for every row and every number; nothing in memory is changed.
-/
import Derived.Test.YtdjhpfojbnikdaaBtRow
namespace Go.Proofs.Ytdjhpfojbnikdaa
open Go.RowKit
theorem Wd.cl_nat (n : Nat) (hn : n ≤ 64) : Wd.cl (n : Int) = n := by unfold Wd.cl; omega
set_option maxHeartbeats 400000 in
theorem RLen_any (r n X : Nat) (u : Value) (w : World) (h : Rw w r n X u) :
    Calls Try.prog 27 #[.pointer (some ⟨r, 0, none⟩)] w fun e w' => e = .returned (.int .i64 (n : Nat)) ∧ w' = w := by
  have c0 := h.cell0
  go_enter Try.func27, Try.ntmps27
  go_wp2
  go_ret
  exact ⟨rfl, rfl⟩
theorem Bt.get_eq (X i : Nat) : ((Wd.fld (Bt.wd X (i / 64)) ((i : Int) % 64) (Wd.cl 1) : Nat) : Int) = ((Wd.bt X i : Nat) : Int) := by
  rw [show ((i : Int) % 64) = ((i % 64 : Nat) : Int) from by omega, show Wd.cl 1 = 1 from rfl, Bt.get_one]
theorem Bt.bt_beq (X i : Nat) : (((Wd.bt X i : Nat) : Int) == 1) = X.testBit i := by
  rw [Wd.testBit_bt]
  have := Wd.bt_lt X i
  rcases (show Wd.bt X i = 0 ∨ Wd.bt X i = 1 from by omega) with e | e <;> rw [e] <;> rfl
set_option maxHeartbeats 400000 in
theorem Get_in (r n X i : Nat) (u : Value) (w : World) (h : Rw w r n X u) (hi : i < n) :
    Calls Try.prog 38 #[.pointer (some ⟨r, 0, none⟩), .int .i64 (i : Nat)] w fun e w' => e = .returned (.bool (X.testBit i)) ∧ w' = w := by
  have c0 := h.cell0
  have c1 := h.cell1
  have hl := h.len
  obtain ⟨ao, cap, rfl, hcap, hg⟩ := h.form
  obtain ⟨g, rfl, hcell⟩ := hg (by omega)
  have hc := hcell (i / 64) (by omega)
  obtain ⟨c, hcc⟩ : ∃ c, c = (n + 63) / 64 := ⟨_, rfl⟩
  have hic : i / 64 < c := by omega
  rw [← hcc] at c1 hcap
  have HV := Bt.wd_lt X (i / 64)
  clear hcell h hg hcc
  go_enter Try.func38, Try.ntmps38
  go_wp2_with (go_at_call 52; refine (Field_any _ _ _ _ HV).mono ?_; rintro e w' ⟨rfl, rfl⟩)
  go_ret
  exact ⟨ret_bool (by rw [Bt.get_eq, Bt.bt_beq]), rfl⟩
set_option maxHeartbeats 400000 in
theorem Get_out (r n X : Nat) (i : Int) (u : Value) (w : World) (h : Rw w r n X u) (hi : i < 0 ∨ (n : Int) ≤ i) :
    Calls Try.prog 38 #[.pointer (some ⟨r, 0, none⟩), .int .i64 i] w fun e w' => e = .returned (.bool false) ∧ w' = w := by
  have c0 := h.cell0
  have hl := h.len
  clear h
  rcases hi with hi | hi
  · go_enter Try.func38, Try.ntmps38
    go_wp2
    go_ret
    exact ⟨rfl, rfl⟩
  · go_enter Try.func38, Try.ntmps38
    go_wp2
    go_ret
    exact ⟨rfl, rfl⟩
theorem Get_any (r n X : Nat) (i : Int) (u : Value) (w : World) (h : Rw w r n X u) :
    Calls Try.prog 38 #[.pointer (some ⟨r, 0, none⟩), .int .i64 i] w fun e w' => e = .returned (.bool (decide (0 ≤ i) && X.testBit i.toNat)) ∧ w' = w := by
  by_cases h0 : 0 ≤ i
  · obtain ⟨j, rfl⟩ := Int.eq_ofNat_of_zero_le h0
    by_cases hj : j < n
    · rw [decide_eq_true h0, Bool.true_and, Int.toNat_natCast]
      exact Get_in r n X j u w h hj
    · have e : X.testBit j = false := Nat.testBit_lt_two_pow (Nat.lt_of_lt_of_le h.lt (Nat.pow_le_pow_right (by decide) (by omega)))
      rw [Int.toNat_natCast, e, Bool.and_false]
      exact Get_out r n X _ u w h (.inr (by omega))
  · rw [decide_eq_false h0, Bool.false_and]
    exact Get_out r n X i u w h (.inl (by omega))
/-- The word i of a number; 0 of none. -/
def Bt.wdI (X : Nat) (i : Int) : Nat := if 0 ≤ i then Bt.wd X i.toNat else 0
theorem Bt.wdI_nat (X i : Nat) : Bt.wdI X (i : Int) = Bt.wd X i := by simp [Bt.wdI]
theorem Bt.wdI_lt (X : Nat) (i : Int) : Bt.wdI X i < 18446744073709551616 := by
  unfold Bt.wdI
  split
  · exact Bt.wd_lt _ _
  · decide
set_option maxHeartbeats 400000 in
theorem Word_in (r n X i : Nat) (u : Value) (w : World) (h : Rw w r n X u) (hi : i < (n + 63) / 64) :
    Calls Try.prog 66 #[.pointer (some ⟨r, 0, none⟩), .int .i64 (i : Nat)] w fun e w' => e = .returned (.int .u64 ((Bt.wd X i : Nat) : Int)) ∧ w' = w := by
  have c1 := h.cell1
  have hl := h.len
  obtain ⟨ao, cap, rfl, hcap, hg⟩ := h.form
  obtain ⟨g, rfl, hcell⟩ := hg (by omega)
  have hc := hcell i hi
  obtain ⟨c, hcc⟩ : ∃ c, c = (n + 63) / 64 := ⟨_, rfl⟩
  have hc2 : c ≤ 4294967296 := by omega
  rw [← hcc] at c1 hcap hi
  clear hcell h hg hcc
  go_enter Try.func66, Try.ntmps66
  go_wp2
  go_ret
  exact ⟨rfl, rfl⟩
set_option maxHeartbeats 400000 in
theorem Word_out (r n X : Nat) (i : Int) (u : Value) (w : World) (h : Rw w r n X u) (hi : i < 0 ∨ (((n + 63) / 64 : Nat) : Int) ≤ i) :
    Calls Try.prog 66 #[.pointer (some ⟨r, 0, none⟩), .int .i64 i] w fun e w' => e = .returned (.int .u64 0) ∧ w' = w := by
  have c1 := h.cell1
  have hl := h.len
  obtain ⟨ao, cap, rfl, hcap, hg⟩ := h.form
  obtain ⟨c, hcc⟩ : ∃ c, c = (n + 63) / 64 := ⟨_, rfl⟩
  have hc2 : c ≤ 4294967296 := by omega
  rw [← hcc] at c1 hcap hi
  clear h hg hcc
  rcases hi with hi | hi
  · go_enter Try.func66, Try.ntmps66
    go_wp2
    go_ret
    exact ⟨rfl, rfl⟩
  · go_enter Try.func66, Try.ntmps66
    go_wp2
    go_ret
    exact ⟨rfl, rfl⟩
theorem Word_any (r n X : Nat) (i : Int) (u : Value) (w : World) (h : Rw w r n X u) :
    Calls Try.prog 66 #[.pointer (some ⟨r, 0, none⟩), .int .i64 i] w fun e w' => e = .returned (.int .u64 ((Bt.wdI X i : Nat) : Int)) ∧ w' = w := by
  by_cases h0 : 0 ≤ i
  · obtain ⟨j, rfl⟩ := Int.eq_ofNat_of_zero_le h0
    rw [Bt.wdI_nat]
    by_cases hj : j < (n + 63) / 64
    · exact Word_in r n X j u w h hj
    · rw [Bt.wd_big X n j h.lt (by omega)]
      exact Word_out r n X _ u w h (.inr (by omega))
  · have e : Bt.wdI X i = 0 := by unfold Bt.wdI; rw [if_neg h0]
    rw [e]
    exact Word_out r n X i u w h (.inl (by omega))
/-- The number of n bits from a on. -/
def Bt.fd (X a n : Nat) : Nat := X / 2 ^ a % 2 ^ n
theorem Bt.fd_lt (X a n : Nat) : Bt.fd X a n < 2 ^ n := Nat.mod_lt _ (Nat.two_pow_pos n)
theorem Bt.fd_lt64 (X a n : Nat) (hn : n ≤ 64) : Bt.fd X a n < 18446744073709551616 := lt_pow64 (Bt.fd_lt X a n) hn
theorem Bt.field_int (X a n : Nat) (hn : n ≤ 64) : bits BinOp.or IntKind.u64 ((Wd.fld (Bt.wdI X ((a : Int) / 64)) ((a : Int) % 64) (Wd.cl (n : Int)) : Nat) : Int) ((Wd.fld (Bt.wdI X ((a : Int) / 64 + 1)) ((a : Int) % 64 - 64) (Wd.cl (n : Int)) : Nat) : Int) = ((Bt.fd X a n : Nat) : Int) := by
  rw [show (a : Int) / 64 = ((a / 64 : Nat) : Int) from by omega, show ((a / 64 : Nat) : Int) + 1 = ((a / 64 + 1 : Nat) : Int) from by omega, show (a : Int) % 64 = ((a % 64 : Nat) : Int) from by omega, Bt.wdI_nat, Bt.wdI_nat, Wd.cl_nat n hn, bits_or_u64_nat _ _ (lt_pow64 (Wd.fld_lt _ _ n) hn) (lt_pow64 (Wd.fld_lt _ _ n) hn), Bt.field_two X a n hn]
  rfl
set_option maxHeartbeats 400000 in
theorem field_any (r m X a n : Nat) (u : Value) (w : World) (h : Rw w r m X u) (ha : a ≤ 9223372036854775000) (hn : n ≤ 64) :
    Calls Try.prog 64 #[.pointer (some ⟨r, 0, none⟩), .int .i64 (a : Nat), .int .i64 (n : Nat)] w fun e w' => e = .returned (.int .u64 ((Bt.fd X a n : Nat) : Int)) ∧ w' = w := by
  have HH : Hid _ := h
  have v1 := Bt.wdI_lt X ((a : Int) / 64)
  have v2 := Bt.wdI_lt X ((a : Int) / 64 + 1)
  clear h
  go_enter Try.func64, Try.ntmps64
  go_wp2_with fail
  refine (Word_any r m X _ u _ HH.out).mono ?_
  rintro e w1 ⟨rfl, rfl⟩
  go_wp2_with fail
  refine (Field_any _ _ _ _ v1).mono ?_
  rintro e w1 ⟨rfl, rfl⟩
  go_wp2_with fail
  refine (Word_any r m X _ u _ HH.out).mono ?_
  rintro e w1 ⟨rfl, rfl⟩
  go_wp2_with fail
  refine (Field_any _ _ _ _ v2).mono ?_
  rintro e w1 ⟨rfl, rfl⟩
  go_wp2_with fail
  go_ret
  exact ⟨ret_int (Bt.field_int X a n hn), rfl⟩
theorem ret_two {k l : IntKind} {a b c d : Int} (h : a = b) (h2 : c = d) : Ending.returned (.tuple #[.int k a, .int l c]) = .returned (.tuple #[.int k b, .int l d]) := by rw [h, h2]
/-- What Field answers: the number, and the error. -/
def Bt.fieldOf (X m : Nat) (a n : Int) : Nat × Int :=
  if n < 0 ∨ 64 < n then (0, 1) else if a < 0 ∨ (m : Int) - n < a then (0, 2) else (Bt.fd X a.toNat n.toNat, 0)
set_option maxHeartbeats 400000 in
theorem RField_arg (r : Nat) (a n : Int) (w : World) (hn : n < 0 ∨ 64 < n) :
    Calls Try.prog 57 #[.pointer (some ⟨r, 0, none⟩), .int .i64 a, .int .i64 n] w fun e w' => e = .returned (.tuple #[.int .u64 0, .int .i64 1]) ∧ w' = w := by
  rcases hn with hn | hn
  · go_enter Try.func57, Try.ntmps57
    go_wp2
    go_ret2
    exact ⟨rfl, rfl⟩
  · go_enter Try.func57, Try.ntmps57
    go_wp2
    go_ret2
    exact ⟨rfl, rfl⟩
set_option maxHeartbeats 400000 in
theorem RField_range (r m X : Nat) (a n : Int) (u : Value) (w : World) (h : Rw w r m X u) (h0 : 0 ≤ n) (h1 : n ≤ 64) (ha : a < 0 ∨ (m : Int) - n < a) :
    Calls Try.prog 57 #[.pointer (some ⟨r, 0, none⟩), .int .i64 a, .int .i64 n] w fun e w' => e = .returned (.tuple #[.int .u64 0, .int .i64 2]) ∧ w' = w := by
  have c0 := h.cell0
  have hl := h.len
  clear h
  rcases ha with ha | ha
  · go_enter Try.func57, Try.ntmps57
    go_wp2
    go_ret2
    exact ⟨rfl, rfl⟩
  · go_enter Try.func57, Try.ntmps57
    go_wp2
    all_goals go_ret2
    all_goals exact ⟨rfl, rfl⟩
set_option maxHeartbeats 400000 in
theorem RField_in (r m X a n : Nat) (u : Value) (w : World) (h : Rw w r m X u) (hn : n ≤ 64) (ha : (a : Int) ≤ (m : Int) - (n : Int)) :
    Calls Try.prog 57 #[.pointer (some ⟨r, 0, none⟩), .int .i64 (a : Nat), .int .i64 (n : Nat)] w fun e w' => e = .returned (.tuple #[.int .u64 ((Bt.fd X a n : Nat) : Int), .int .i64 0]) ∧ w' = w := by
  have c0 := h.cell0
  have hl := h.len
  have HH : Hid _ := h
  clear h
  go_enter Try.func57, Try.ntmps57
  go_wp2_with (go_at_call 64; refine (field_any r m X a n u _ HH.out (by omega) hn).mono ?_; rintro e w' ⟨rfl, rfl⟩)
  go_ret2
  exact ⟨rfl, rfl⟩
theorem RField_any (r m X : Nat) (a n : Int) (u : Value) (w : World) (h : Rw w r m X u) :
    Calls Try.prog 57 #[.pointer (some ⟨r, 0, none⟩), .int .i64 a, .int .i64 n] w fun e w' => e = .returned (.tuple #[.int .u64 (((Bt.fieldOf X m a n).1 : Nat) : Int), .int .i64 (Bt.fieldOf X m a n).2]) ∧ w' = w := by
  unfold Bt.fieldOf
  by_cases h1 : n < 0 ∨ 64 < n
  · rw [if_pos h1]
    exact RField_arg r a n w h1
  · rw [if_neg h1]
    by_cases h2 : a < 0 ∨ (m : Int) - n < a
    · rw [if_pos h2]
      exact RField_range r m X a n u w h (by omega) (by omega) h2
    · rw [if_neg h2]
      obtain ⟨i, rfl⟩ := Int.eq_ofNat_of_zero_le (show 0 ≤ n by omega)
      obtain ⟨j, rfl⟩ := Int.eq_ofNat_of_zero_le (show 0 ≤ a by omega)
      exact RField_in r m X j i u w h (by omega) (by omega)
end Go.Proofs.Ytdjhpfojbnikdaa
