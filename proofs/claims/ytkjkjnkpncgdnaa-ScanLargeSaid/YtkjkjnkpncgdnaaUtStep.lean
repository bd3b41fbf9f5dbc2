/-
  The contracts of package utf's Step, and of what it calls: the state behind a byte; nothing in memory is changed.
-/
import Derived.WalkKit
import Derived.WalkSpells
import Derived.WalkLawsBesides
import Derived.Test.YtkjkjnkpncgdnaaUtSc
namespace Go.Proofs.Ytkjkjnkpncgdnaa
open Go.RowKit
theorem ret_int {k : IntKind} {a b : Int} (h : a = b) : Ending.returned (.int k a) = .returned (.int k b) := by rw [h]
theorem ret_bool {a b : Bool} (h : a = b) : Ending.returned (.bool a) = .returned (.bool b) := by rw [h]
set_option maxHeartbeats 1000000 in
set_option maxRecDepth 100000 in
theorem begin_any (b : Nat) (w : World) :
    Calls Try.prog 41 #[.int .u8 (b : Nat)] w fun e w' => e = .returned (.int .i64 ((Ut.st 0 b : Nat) : Int)) ∧ w' = w := by
  rcases Ut.st0 b with ⟨h3, e⟩ | ⟨h2, h3, e⟩ | ⟨h2, h3, e⟩ | ⟨h3, e⟩ | ⟨h3, e⟩ | ⟨h3, h4, h5, e⟩ | ⟨h3, e⟩ | ⟨h3, h4, e⟩ | ⟨h3, e⟩ | ⟨h3, e⟩
  all_goals rw [e]
  all_goals clear e
  all_goals first | subst h3 | skip
  all_goals go_enter Try.func41, Try.ntmps41
  all_goals go_wp2
  all_goals go_ret
  all_goals exact ⟨rfl, rfl⟩
set_option maxHeartbeats 1000000 in
theorem within_any (b lo hi : Nat) (q : Int) (w : World) :
    Calls Try.prog 42 #[.int .u8 (b : Nat), .int .u8 (lo : Nat), .int .u8 (hi : Nat), .int .i64 q] w fun e w' => e = .returned (.int .i64 (if lo ≤ b ∧ b ≤ hi then q else 8)) ∧ w' = w := by
  by_cases h1 : b < lo
  · rw [if_neg (by omega)]
    go_enter Try.func42, Try.ntmps42
    go_wp2
    go_ret
    exact ⟨rfl, rfl⟩
  · by_cases h2 : hi < b
    · rw [if_neg (by omega)]
      go_enter Try.func42, Try.ntmps42
      go_wp2
      go_ret
      exact ⟨rfl, rfl⟩
    · rw [if_pos (by omega)]
      go_enter Try.func42, Try.ntmps42
      go_wp2
      go_ret
      exact ⟨rfl, rfl⟩
theorem within_at (b : Nat) (lo hi q : Int) (x : Nat) (w : World) (l h p : Nat) (hl : lo = (l : Int)) (hh : hi = (h : Int)) (hq : q = (p : Int)) (hx : x = if l ≤ b ∧ b ≤ h then p else 8) :
    Calls Try.prog 42 #[.int .u8 (b : Nat), .int .u8 lo, .int .u8 hi, .int .i64 q] w fun e w' => e = .returned (.int .i64 ((x : Nat) : Int)) ∧ w' = w := by
  subst hl
  subst hh
  subst hq
  refine (within_any b l h p w).mono ?_
  rintro e w' ⟨rfl, rfl⟩
  refine ⟨?_, rfl⟩
  rw [hx]
  apply ret_int
  split <;> rfl
set_option maxHeartbeats 2000000 in
set_option maxRecDepth 100000 in
theorem Step_in (q b : Nat) (hq : q ≤ 7) (w : World) :
    Calls Try.prog 32 #[.int .i64 (q : Nat), .int .u8 (b : Nat)] w fun e w' => e = .returned (.int .i64 ((Ut.st q b : Nat) : Int)) ∧ w' = w := by
  obtain rfl | rfl | rfl | rfl | rfl | rfl | rfl | rfl : q = 0 ∨ q = 1 ∨ q = 2 ∨ q = 3 ∨ q = 4 ∨ q = 5 ∨ q = 6 ∨ q = 7 := by omega
  · go_enter Try.func32, Try.ntmps32
    go_wp2_with fail
    refine (begin_any b _).mono ?_
    rintro e w1 ⟨rfl, rfl⟩
    go_wp2_with fail
    go_ret
    exact ⟨rfl, rfl⟩
  · go_enter Try.func32, Try.ntmps32
    go_wp2_with fail
    refine (within_at b _ _ _ (Ut.st 1 b) _ 128 191 0 rfl rfl rfl rfl).mono ?_
    rintro e w1 ⟨rfl, rfl⟩
    go_wp2_with fail
    go_ret
    exact ⟨rfl, rfl⟩
  · go_enter Try.func32, Try.ntmps32
    go_wp2_with fail
    refine (within_at b _ _ _ (Ut.st 2 b) _ 128 191 1 rfl rfl rfl rfl).mono ?_
    rintro e w1 ⟨rfl, rfl⟩
    go_wp2_with fail
    go_ret
    exact ⟨rfl, rfl⟩
  · go_enter Try.func32, Try.ntmps32
    go_wp2_with fail
    refine (within_at b _ _ _ (Ut.st 3 b) _ 128 191 2 rfl rfl rfl rfl).mono ?_
    rintro e w1 ⟨rfl, rfl⟩
    go_wp2_with fail
    go_ret
    exact ⟨rfl, rfl⟩
  · go_enter Try.func32, Try.ntmps32
    go_wp2_with fail
    refine (within_at b _ _ _ (Ut.st 4 b) _ 160 191 1 rfl rfl rfl rfl).mono ?_
    rintro e w1 ⟨rfl, rfl⟩
    go_wp2_with fail
    go_ret
    exact ⟨rfl, rfl⟩
  · go_enter Try.func32, Try.ntmps32
    go_wp2_with fail
    refine (within_at b _ _ _ (Ut.st 5 b) _ 128 159 1 rfl rfl rfl rfl).mono ?_
    rintro e w1 ⟨rfl, rfl⟩
    go_wp2_with fail
    go_ret
    exact ⟨rfl, rfl⟩
  · go_enter Try.func32, Try.ntmps32
    go_wp2_with fail
    refine (within_at b _ _ _ (Ut.st 6 b) _ 144 191 2 rfl rfl rfl rfl).mono ?_
    rintro e w1 ⟨rfl, rfl⟩
    go_wp2_with fail
    go_ret
    exact ⟨rfl, rfl⟩
  · go_enter Try.func32, Try.ntmps32
    go_wp2_with fail
    refine (within_at b _ _ _ (Ut.st 7 b) _ 128 143 2 rfl rfl rfl rfl).mono ?_
    rintro e w1 ⟨rfl, rfl⟩
    go_wp2_with fail
    go_ret
    exact ⟨rfl, rfl⟩
set_option maxHeartbeats 1000000 in
set_option maxRecDepth 100000 in
theorem Step_out (z : Int) (b : Nat) (hz : z < 0 ∨ 7 < z) (w : World) :
    Calls Try.prog 32 #[.int .i64 z, .int .u8 (b : Nat)] w fun e w' => e = .returned (.int .i64 8) ∧ w' = w := by
  have h0 : (z == 0) = false := by rw [beq_eq_false_iff_ne]; omega
  have h1 : (z == 1) = false := by rw [beq_eq_false_iff_ne]; omega
  have h2 : (z == 2) = false := by rw [beq_eq_false_iff_ne]; omega
  have h3 : (z == 3) = false := by rw [beq_eq_false_iff_ne]; omega
  have h4 : (z == 4) = false := by rw [beq_eq_false_iff_ne]; omega
  have h5 : (z == 5) = false := by rw [beq_eq_false_iff_ne]; omega
  have h6 : (z == 6) = false := by rw [beq_eq_false_iff_ne]; omega
  have h7 : (z == 7) = false := by rw [beq_eq_false_iff_ne]; omega
  clear hz
  go_enter Try.func32, Try.ntmps32
  go_wp2
  go_ret
  exact ⟨rfl, rfl⟩
theorem Step_any (z : Int) (b : Nat) (w : World) :
    Calls Try.prog 32 #[.int .i64 z, .int .u8 (b : Nat)] w fun e w' => e = .returned (.int .i64 ((Ut.stz z b : Nat) : Int)) ∧ w' = w := by
  by_cases hz : z < 0 ∨ 7 < z
  · rw [show Ut.stz z b = 8 from if_pos hz]
    exact Step_out z b hz w
  · obtain ⟨q, rfl⟩ := Int.eq_ofNat_of_zero_le (show 0 ≤ z from by omega)
    rw [Ut.stz_nat q b (by omega)]
    exact Step_in q b (by omega) w
/-- Of a state that a step has told. -/
theorem Step_nat (q b : Nat) (hq : q ≤ 8) (w : World) :
    Calls Try.prog 32 #[.int .i64 (q : Nat), .int .u8 (b : Nat)] w fun e w' => e = .returned (.int .i64 ((Ut.st q b : Nat) : Int)) ∧ w' = w := by
  rw [← Ut.stz_nat q b hq]
  exact Step_any q b w
end Go.Proofs.Ytkjkjnkpncgdnaa
