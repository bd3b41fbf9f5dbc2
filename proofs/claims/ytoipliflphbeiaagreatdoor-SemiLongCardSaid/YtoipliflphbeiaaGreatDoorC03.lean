/-
  The contracts of package word's functions and of math/bits' that they call: what each call returns, for every word and every number; nothing in memory is changed. (A place that holds the library's table is asked of the world where the place of a 1 is told.)
-/
import Derived.WalkKit
import Derived.WalkSpells
import Derived.WalkLawsBesides
import Derived.Test.YtoipliflphbeiaaGreatDoorC01
import Derived.Test.YtoipliflphbeiaaGreatDoorRows
import Derived.Test.YtoipliflphbeiaaGreatDoorJWdMath
namespace Go.Proofs.YtoipliflphbeiaaGreatDoor
open Go.RowKit


namespace Wd
theorem and_one (y : Nat) (h : y < 18446744073709551616) : bits .and .u64 (y : Int) 1 = ((y % 2 : Nat) : Int) := by
  have e := bits_and_u64_nat y 1 h (by omega)
  rw [Nat.and_one_is_mod] at e
  exact e
theorem div_pow (x i : Nat) : (x : Int) / 2 ^ i = ((x / 2 ^ i : Nat) : Int) := by
  have : ((2 : Int) ^ i) = ((2 ^ i : Nat) : Int) := by simp
  rw [this]; rfl
theorem bit_and (x i : Nat) (h : x < 18446744073709551616) : bits .and .u64 ((x : Int) / 2 ^ i) 1 = ((bt x i : Nat) : Int) := by
  rw [div_pow, and_one _ (Nat.lt_of_le_of_lt (Nat.div_le_self _ _) h)]; rfl
theorem first_and (x n : Nat) (h : x < 18446744073709551616) (hn : n ≤ 64) :
    bits .and .u64 (x : Int) (IntKind.u64.wrap (IntKind.u64.wrap (2 ^ n) - 1)) = ((x % 2 ^ n : Nat) : Int) := by
  have hp : 0 < 2 ^ n := Nat.two_pow_pos n
  have hp2 : 2 ^ n ≤ 2 ^ 64 := Nat.pow_le_pow_right (by decide) hn
  have e : IntKind.u64.wrap (IntKind.u64.wrap (2 ^ n) - 1) = ((2 ^ n - 1 : Nat) : Int) := by
    have h2 : ((2 : Int) ^ n) = ((2 ^ n : Nat) : Int) := by simp
    rw [h2, IntKind.wrap_u64, IntKind.wrap_u64]
    generalize 2 ^ n = q at *
    omega
  rw [e, bits_and_u64_nat x (2 ^ n - 1) h (by omega), Nat.and_two_pow_sub_one_eq_mod]
end Wd

set_option maxHeartbeats 400000 in
theorem clip_any (n : Int) (w : World) :
    Calls Tryz.prog 147 #[.int .i64 n] w fun e w' => e = .returned (.int .i64 (Wd.cl n)) ∧ w' = w := by
  rw [Wd.cl_cast]
  rcases Int.lt_or_le n 0 with h | h
  · rw [show min (max n 0) 64 = 0 from by omega]
    go_enter Tryz.func147, Tryz.ntmps147
    go_wp2
    go_ret
    exact ⟨rfl, rfl⟩
  · rcases Int.lt_or_le 64 n with h2 | h2
    · rw [show min (max n 0) 64 = 64 from by omega]
      go_enter Tryz.func147, Tryz.ntmps147
      go_wp2
      go_ret
      exact ⟨rfl, rfl⟩
    · rw [show min (max n 0) 64 = n from by omega]
      go_enter Tryz.func147, Tryz.ntmps147
      go_wp2
      go_ret
      exact ⟨rfl, rfl⟩
set_option maxHeartbeats 400000 in
theorem first_any (x n : Nat) (w : World) (hx : x < 18446744073709551616) (hn : n ≤ 64) :
    Calls Tryz.prog 146 #[.int .u64 x, .int .i64 n] w fun e w' => e = .returned (.int .u64 ((x % 2 ^ n : Nat) : Int)) ∧ w' = w := by
  go_enter Tryz.func146, Tryz.ntmps146
  go_wp2
  go_ret
  exact ⟨ret_int (Wd.first_and x n hx hn), rfl⟩
set_option maxHeartbeats 400000 in
theorem step_any (x n : Nat) (w : World) (hx : x < 18446744073709551616) (hn : n < 64) :
    Calls Tryz.prog 189 #[.int .u64 x, .int .i64 n] w fun e w' => e = .returned (.int .i64 (2 * (Wd.bt x n : Int) - 1)) ∧ w' = w := by
  go_enter Tryz.func189, Tryz.ntmps189
  go_wp2
  go_ret
  refine ⟨ret_int ?_, rfl⟩
  have h := Wd.bt_lt x n
  rw [Wd.bit_and x n hx]
  simp only [wrap64]
  omega
set_option maxHeartbeats 1000000 in
theorem OnesCount64_any (x : Nat) (w : World) (hx : x < 18446744073709551616) :
    Calls Tryz.prog 145 #[.int .u64 x] w fun e w' => e = .returned (.int .i64 (Wd.ones x 64)) ∧ w' = w := by
  obtain ⟨y, hy, hm, e4⟩ := Wd.stage4 x
  have H4 : Hid _ := e4
  clear e4
  go_enter Tryz.func145, Tryz.ntmps145
  go_wp2
  go_ret
  refine ⟨ret_int ?_, rfl⟩
  rw [Wd.stage1 x hx, Wd.stage2, Wd.stage3, H4.out, ← hm]
  rw [show wrap64 (y : Int) = IntKind.i64.wrap (y : Int) from by unfold wrap64; rw [IntKind.wrap_i64]]
  exact Wd.and127 y hy
set_option maxHeartbeats 400000 in
theorem Ones_any (x : Nat) (n : Int) (w : World) (hx : x < 18446744073709551616) :
    Calls Tryz.prog 120 #[.int .u64 x, .int .i64 n] w fun e w' => e = .returned (.int .i64 (Wd.ones x (Wd.cl n))) ∧ w' = w := by
  have hc := Wd.cl_le n
  have hm : x % 2 ^ Wd.cl n < 18446744073709551616 := Nat.lt_of_le_of_lt (Nat.mod_le _ _) hx
  rw [← Wd.ones_first x _ hc]
  go_enter Tryz.func120, Tryz.ntmps120
  go_wp2_with (first
    | (go_at_call 147; refine (clip_any _ _).mono ?_; rintro e w' ⟨rfl, rfl⟩)
    | (go_at_call 146; refine (first_any x (Wd.cl n) _ hx hc).mono ?_; rintro e w' ⟨rfl, rfl⟩)
    | (go_at_call 145; refine (OnesCount64_any (x % 2 ^ Wd.cl n) _ hm).mono ?_; rintro e w' ⟨rfl, rfl⟩))
  go_ret
  exact ⟨rfl, rfl⟩
set_option maxHeartbeats 400000 in
theorem Excess_any (x : Nat) (n : Int) (w : World) (hx : x < 18446744073709551616) :
    Calls Tryz.prog 178 #[.int .u64 x, .int .i64 n] w fun e w' => e = .returned (.int .i64 (Wd.exc x (Wd.cl n))) ∧ w' = w := by
  have hc := Wd.cl_le n
  have ho := Wd.ones_le x (Wd.cl n)
  have he : Wd.exc x (Wd.cl n) = 2 * (Wd.ones x (Wd.cl n) : Int) - (Wd.cl n : Int) := rfl
  rw [he]
  clear he
  go_enter Tryz.func178, Tryz.ntmps178
  go_wp2_with (first
    | (go_at_call 147; refine (clip_any _ _).mono ?_; rintro e w' ⟨rfl, rfl⟩)
    | (go_at_call 120; refine (Ones_any x n _ hx).mono ?_; rintro e w' ⟨rfl, rfl⟩))
  go_ret
  exact ⟨ret_int (by first | rfl | (simp only [wrap64]; omega)), rfl⟩
namespace Wd
theorem shl_u64 (x s : Nat) : IntKind.u64.wrap ((x : Int) * 2 ^ s) = ((x * 2 ^ s % 2 ^ 64 : Nat) : Int) := by
  rw [IntKind.wrap_u64]
  have h2 : ((2 : Int) ^ s) = ((2 ^ s : Nat) : Int) := by simp
  rw [h2, ← Int.natCast_mul]
  omega
end Wd
set_option maxHeartbeats 400000 in
theorem Field_any (x : Nat) (a n : Int) (w : World) (hx : x < 18446744073709551616) :
    Calls Tryz.prog 143 #[.int .u64 x, .int .i64 a, .int .i64 n] w fun e w' => e = .returned (.int .u64 (Wd.fld x a (Wd.cl n))) ∧ w' = w := by
  have hc := Wd.cl_le n
  rcases Int.lt_or_le a 64 with h1 | h1
  · rcases Int.lt_or_le (-64) a with h2 | h2
    · rcases Int.lt_or_le a 0 with h3 | h3
      · have he : Wd.fld x a (Wd.cl n) = x * 2 ^ (-a).toNat % 2 ^ 64 % 2 ^ Wd.cl n := by
          unfold Wd.fld; rw [if_neg (by omega), if_pos h3]
        rw [he]
        clear he
        go_enter Tryz.func143, Tryz.ntmps143
        go_wp2_with (first
          | (go_at_call 147; refine (clip_any _ _).mono ?_; rintro e w' ⟨rfl, rfl⟩)
          | (go_at_call 146; rw [Wd.shl_u64]; refine (first_any (x * 2 ^ (-a).toNat % 2 ^ 64) (Wd.cl n) _ (Nat.mod_lt _ (by decide)) hc).mono ?_; rintro e w' ⟨rfl, rfl⟩))
        go_ret
        exact ⟨rfl, rfl⟩
      · have he : Wd.fld x a (Wd.cl n) = x / 2 ^ a.toNat % 2 ^ Wd.cl n := by
          unfold Wd.fld; rw [if_neg (by omega), if_neg (by omega)]
        rw [he]
        clear he
        go_enter Tryz.func143, Tryz.ntmps143
        go_wp2_with (first
          | (go_at_call 147; refine (clip_any _ _).mono ?_; rintro e w' ⟨rfl, rfl⟩)
          | (go_at_call 146; rw [Wd.div_pow]; refine (first_any (x / 2 ^ a.toNat) (Wd.cl n) _ (Nat.lt_of_le_of_lt (Nat.div_le_self _ _) hx) hc).mono ?_; rintro e w' ⟨rfl, rfl⟩))
        go_ret
        exact ⟨rfl, rfl⟩
    · have he : Wd.fld x a (Wd.cl n) = 0 := by unfold Wd.fld; rw [if_pos (by omega)]
      rw [he]
      clear he
      go_enter Tryz.func143, Tryz.ntmps143
      go_wp2_with (go_at_call 147; refine (clip_any _ _).mono ?_; rintro e w' ⟨rfl, rfl⟩)
      go_ret
      exact ⟨rfl, rfl⟩
  · have he : Wd.fld x a (Wd.cl n) = 0 := by unfold Wd.fld; rw [if_pos (by omega)]
    rw [he]
    clear he
    go_enter Tryz.func143, Tryz.ntmps143
    go_wp2_with (go_at_call 147; refine (clip_any _ _).mono ?_; rintro e w' ⟨rfl, rfl⟩)
    go_ret
    exact ⟨rfl, rfl⟩
/-- The world holds the library's table as its initialiser lays it. -/
def Tab (w : World) : Prop := ∀ j, j < 64 → w.cell? ⟨1, j, none⟩ = some (.int .u8 (Lib.deBruijn64tab.getD j 0 : Nat))
set_option maxHeartbeats 1000000 in
theorem tz64_core (x k idx : Nat) (w : World) (hx0 : ((x : Int) == 0) = false)
    (key : IntKind.u64.wrap (bits BinOp.and IntKind.u64 (x : Int) (IntKind.u64.wrap (-(x : Int))) * 285870213051353865) / 288230376151711744 = (idx : Int))
    (hi : idx < 64) (hk : k < 64) (hcell : w.cell? ⟨1, idx, none⟩ = some (.int .u8 k)) :
    Calls Tryz.prog 184 #[.int .u64 x] w fun e w' => e = .returned (.int .i64 k) ∧ w' = w := by
  go_enter Tryz.func184, Tryz.ntmps184
  go_wp2_with (simp only [key])
  go_ret
  exact ⟨rfl, rfl⟩
/-- Of a word that isn't 0: the place of its first 1. -/
theorem TrailingZeros64_any (x : Nat) (w : World) (hx : x < 18446744073709551616) (hx0 : x ≠ 0) (hT : Tab w) :
    Calls Tryz.prog 184 #[.int .u64 x] w fun e w' => e = .returned (.int .i64 (Wd.sel x 0)) ∧ w' = w := by
  rw [Wd.sel_zero x hx0 hx]
  obtain ⟨hlow, hk⟩ := Lib.lowest_bit 64 x hx0 hx
  obtain ⟨hi, htab⟩ := Lib.deBruijn64_at _ hk
  have hc := hT _ hi
  rw [htab] at hc
  refine tz64_core x _ _ w (by simpa using hx0) ?_ hi hk hc
  have e1 : IntKind.u64.wrap (-(x : Int)) = ((18446744073709551616 - x : Nat) : Int) := by rw [IntKind.wrap_u64]; omega
  rw [e1, bits_and_u64_nat x _ hx (by omega), show x &&& (18446744073709551616 - x) = 2 ^ Lib.ctz 64 x from hlow, IntKind.wrap_u64]
  clear hc htab hi hlow e1
  generalize 2 ^ Lib.ctz 64 x = q
  omega
end Go.Proofs.YtoipliflphbeiaaGreatDoor
