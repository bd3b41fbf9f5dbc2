/-
  The contracts of word.Select, word.Need, word.Reach and word.Find, for every word and every number; nothing in memory is changed. Select: where the world holds the library's table.
-/
import Derived.Test.YtoipliflphbeiaaGreatDoorC03
import Derived.Test.YtoipliflphbeiaaGreatDoorC04
import Derived.Test.YtoipliflphbeiaaGreatDoorJScope
namespace Go.Proofs.YtoipliflphbeiaaGreatDoor
open Go.RowKit
theorem Wd.and_pred_u64 (y : Nat) (h0 : y ≠ 0) (hy : y < 18446744073709551616) : bits .and .u64 (y : Int) ((y : Int) - 1) = ((y &&& (y - 1) : Nat) : Int) := by
  rw [← bits_and_u64_nat y (y - 1) hy (by omega)]
  congr 1
  omega
set_option maxHeartbeats 400000 in
theorem Select_nonneg (x : Nat) (k : Int) (w : World) (hx : x < 18446744073709551616) (hk : 0 ≤ k) (hk2 : k ≤ 9223372036854775807) (hT : Tab w) :
    Calls Tryz.prog 169 #[.int .u64 x, .int .i64 k] w fun e w' => e = .returned (.int .i64 (Wd.sel x k)) ∧ w' = w := by
  have HT : Hid (Tab w) := hT
  clear hT
  go_enter Tryz.func169, Tryz.ntmps169
  go_wp2
  refine wp_scope_label 0 (fun a' w' => w' = w ∧ ∃ (y : Nat) (k' : Int) (u5 u6 u7 u8 u9 u10 u11 u12 u13 u14 u15 u16 u17 u18 : Value), a' = { tmps := #[.int .u64 y, .int .i64 k', undef, undef, .int .i64 0, u5, u6, u7, u8, u9, u10, u11, u12, u13, u14, u15, u16, u17, u18], defers := [] } ∧ y < 18446744073709551616 ∧ 0 ≤ k' ∧ k' ≤ 9223372036854775807 ∧ Wd.sel y k' = Wd.sel x k) (fun a' _ => (intOf (a'.tmps.getD 0 undef)).toNat) rfl ?_ ?_
  · go_wp2
    exact ⟨by trivial, x, k, _, _, _, _, _, _, _, _, _, _, _, _, _, _, rfl, hx, hk, hk2, rfl⟩
  · rintro a' w' ⟨rfl, y, k', u5, u6, u7, u8, u9, u10, u11, u12, u13, u14, u15, u16, u17, u18, rfl, hy, hk', hk2', hs⟩
    have Hs : Hid _ := hs
    clear hs
    by_cases h0 : y = 0
    · subst h0
      have hs := Hs.out
      rw [Wd.sel_of_zero] at hs
      go_wp2
      simp only [Exit.jump]
      go_ret
      exact ⟨ret_int (by rw [← hs]; rfl), rfl⟩
    · have hz : ((y : Int) == 0) = false := by simpa using h0
      by_cases hp : 0 < k'
      · have hb := Wd.and_pred_u64 y h0 hy
        obtain ⟨hn, hlt⟩ := Wd.sel_next y k' h0 hy hp
        have Hn : Hid _ := hn
        clear hn
        go_wp2
        go_step3
        refine ⟨rfl, ⟨rfl, y &&& (y - 1), k' - 1, _, _, _, _, _, _, _, _, _, _, _, _, _, _, rfl, ?_⟩, ?_⟩
        · exact ⟨by omega, by omega, by omega, by rw [Hn.out, Hs.out]⟩
        · simp [intOf]
          exact hlt
      · obtain rfl : k' = 0 := by omega
        go_wp2_with (go_at_call 184; refine (TrailingZeros64_any y _ hy h0 HT.out).mono ?_; rintro e w' ⟨rfl, rfl⟩)
        simp only [Exit.jump]
        go_ret
        exact ⟨ret_int (by rw [Hs.out]), rfl⟩
theorem Select_any (x : Nat) (k : Int) (w : World) (hx : x < 18446744073709551616) (hk2 : k ≤ 9223372036854775807) (hT : Tab w) :
    Calls Tryz.prog 169 #[.int .u64 x, .int .i64 k] w fun e w' => e = .returned (.int .i64 (Wd.sel x k)) ∧ w' = w := by
  by_cases h : k < 0
  · rw [Wd.sel_neg x k h]
    go_enter Tryz.func169, Tryz.ntmps169
    go_wp2
    go_step3
    go_wp2
    rw [Exit.noGoto_ret]
    go_ret
    exact ⟨rfl, rfl⟩
  · exact Select_nonneg x k w hx (by omega) hk2 hT
set_option maxHeartbeats 400000 in
theorem Need_any (x : Nat) (w : World) (hx : x < 18446744073709551616) :
    Calls Tryz.prog 103 #[.int .u64 x] w fun e w' => e = .returned (.int .i64 (Wd.needTo x 64)) ∧ w' = w := by
  rw [← Wd.bitLen_need x hx]
  go_enter Tryz.func103, Tryz.ntmps103
  go_wp2_with (go_at_call 138; refine (Len64_any x _ hx).mono ?_; rintro e w' ⟨rfl, rfl⟩)
  go_ret
  exact ⟨rfl, rfl⟩
theorem Wd.float_zero : floatOfInt .f64 0 = 0 := by decide +kernel
set_option maxHeartbeats 400000 in
theorem Reach_some (x : Nat) (n : Int) (w : World) (hx : x < 18446744073709551616) (h1 : 1 ≤ Wd.cl n) :
    Calls Tryz.prog 180 #[.int .u64 x, .int .i64 n] w fun e w' => e = .returned (.complex .f64 (floatOfInt .f64 (Wd.lo x (Wd.cl n))) (floatOfInt .f64 (Wd.hi x (Wd.cl n)))) ∧ w' = w := by
  have hc := Wd.cl_le n
  have hz : (((Wd.cl n : Nat) : Int) == 0) = false := by simp; omega
  have hb0 := Wd.bt_lt x 0
  go_enter Tryz.func180, Tryz.ntmps180
  go_wp2_with (first
    | (go_at_call 147; refine (clip_any _ _).mono ?_; rintro e w' ⟨rfl, rfl⟩)
    | (go_at_call 189; refine (step_any x 0 _ hx (by omega)).mono ?_; rintro e w' ⟨rfl, rfl⟩))
  go_loop [5, 6, 7, 8] (fun e l m i => ∃ k : Nat, 1 ≤ k ∧ k ≤ Wd.cl n ∧ i = .int .i64 k ∧ e = .int .i64 (Wd.exc x k) ∧ l = .int .i64 (Wd.lo x k) ∧ m = .int .i64 (Wd.hi x k)) (fun _ _ _ i => 64 - (intOf i).toNat)
  case atStart =>
    have e : 2 * (Wd.bt x 0 : Int) - 1 = Wd.exc x 1 := by
      have := Wd.exc_succ x 0
      rw [Wd.exc_zero, show 0 + 1 = 1 from rfl] at this
      omega
    rw [e]
    exact ⟨1, by omega, h1, rfl, rfl, rfl, rfl⟩
  case round =>
    obtain ⟨k, hk1, hk, rfl, rfl, rfl, rfl⟩ := hrel
    have he := Wd.exc_bounds x k
    have hb := Wd.bt_lt x k
    by_cases hlt : k < Wd.cl n
    · have hs : Hid _ := Wd.exc_succ x k
      have hl : Hid _ := Wd.lo_succ x k hk1
      have hh : Hid _ := Wd.hi_succ x k hk1
      go_wp2_with (go_at_call 189; refine (step_any x k _ hx (by omega)).mono ?_; rintro e w' ⟨rfl, rfl⟩)
      rw [← hs.out, ← hl.out, ← hh.out]
      exact ⟨⟨k + 1, by omega, by omega, rfl, rfl, rfl, rfl⟩, by simp [intOf]; omega⟩
    · obtain rfl : k = Wd.cl n := by omega
      go_wp2
      go_ret
      exact ⟨rfl, rfl⟩
set_option maxHeartbeats 400000 in
theorem Reach_none (x : Nat) (n : Int) (w : World) (h1 : Wd.cl n = 0) :
    Calls Tryz.prog 180 #[.int .u64 x, .int .i64 n] w fun e w' => e = .returned (.complex .f64 0 0) ∧ w' = w := by
  have hz : (((Wd.cl n : Nat) : Int) == 0) = true := by simp [h1]
  clear h1
  go_enter Tryz.func180, Tryz.ntmps180
  go_wp2_with (go_at_call 147; refine (clip_any _ _).mono ?_; rintro e w' ⟨rfl, rfl⟩)
  go_ret
  exact ⟨rfl, rfl⟩
theorem Reach_any (x : Nat) (n : Int) (w : World) (hx : x < 18446744073709551616) :
    Calls Tryz.prog 180 #[.int .u64 x, .int .i64 n] w fun e w' => e = .returned (.complex .f64 (floatOfInt .f64 (Wd.lo x (Wd.cl n))) (floatOfInt .f64 (Wd.hi x (Wd.cl n)))) ∧ w' = w := by
  by_cases h : Wd.cl n = 0
  · rw [h, show Wd.lo x 0 = 0 from rfl, show Wd.hi x 0 = 0 from rfl, Wd.float_zero]
    exact Reach_none x n w h
  · exact Reach_some x n w hx (by omega)
end Go.Proofs.YtoipliflphbeiaaGreatDoor
