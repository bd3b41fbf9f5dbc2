/-
  The contracts of the reference's functions of layer 1 (the package laceworkref01), for every word and every number: each returns what the plain mathematics says; nothing in memory is changed.
-/
import Derived.Test.YtjhimeedkejnlaaWdSel
namespace Go.Proofs.Ytjhimeedkejnlaa
open Go.RowKit
set_option maxHeartbeats 400000 in
theorem rBit_in (x i : Nat) (w : World) (hx : x < 18446744073709551616) (hi : i < 64) :
    Calls Try.prog 36 #[.int .u64 x, .int .i64 i] w fun e w' => e = .returned (.bool ((Wd.bt x i : Int) == 1)) ∧ w' = w := by
  go_enter Try.func36, Try.ntmps36
  go_wp2
  go_ret
  refine ⟨ret_bool ?_, rfl⟩
  rw [Wd.bit_and x i hx]
set_option maxHeartbeats 400000 in
theorem rBit_out (x : Nat) (i : Int) (w : World) (hi : i < 0 ∨ 64 ≤ i) :
    Calls Try.prog 36 #[.int .u64 x, .int .i64 i] w fun e w' => e = .returned (.bool false) ∧ w' = w := by
  rcases hi with h | h
  · go_enter Try.func36, Try.ntmps36
    go_wp2
    go_ret
    exact ⟨rfl, rfl⟩
  · go_enter Try.func36, Try.ntmps36
    go_wp2
    go_ret
    exact ⟨rfl, rfl⟩
theorem rBit_any (x : Nat) (i : Int) (w : World) (hx : x < 18446744073709551616) :
    Calls Try.prog 36 #[.int .u64 x, .int .i64 i] w fun e w' => e = .returned (.bool ((Wd.btI x i : Int) == 1)) ∧ w' = w := by
  by_cases h : 0 ≤ i ∧ i < 64
  · obtain ⟨j, rfl⟩ := Int.eq_ofNat_of_zero_le h.1
    rw [Wd.btI_nat]
    exact rBit_in x j w hx (by omega)
  · have e : Wd.btI x i = 0 := by
      unfold Wd.btI
      split
      · exact Wd.bt_big x 64 _ hx (by omega)
      · rfl
    rw [e]
    exact rBit_out x i w (by omega)
set_option maxHeartbeats 400000 in
theorem rNeed_any (x : Nat) (w : World) (hx : x < 18446744073709551616) :
    Calls Try.prog 35 #[.int .u64 x] w fun e w' => e = .returned (.int .i64 (Wd.needTo x 64)) ∧ w' = w := by
  go_enter Try.func35, Try.ntmps35
  go_wp2
  go_loop [3, 4] (fun c i => ∃ k : Nat, k ≤ 64 ∧ i = .int .i64 k ∧ c = .int .i64 (Wd.needTo x k)) (fun _ i => 64 - (intOf i).toNat)
  case atStart => exact ⟨0, by omega, rfl, rfl⟩
  case round =>
    obtain ⟨k, hk, rfl, rfl⟩ := hrel
    by_cases hlt : k < 64
    · have hbl := Wd.bt_lt x k
      have hs : Hid (Wd.needTo x (k + 1) = if Wd.bt x k = 1 then k + 1 else Wd.needTo x k) := rfl
      by_cases hb : Wd.bt x k = 1
      · have hbb : ((Wd.bt x k : Int) == 1) = true := by simp [hb]
        have Hb : Hid _ := hb
        clear hb
        go_wp2_with (go_at_call 36; refine (rBit_in x k _ hx hlt).mono ?_; rintro e w' ⟨rfl, rfl⟩)
        go_round
        case rel => exact ⟨k + 1, by omega, by go_num, by rw [hs.out, if_pos Hb.out]; go_num⟩
        case measure => simp [intOf]; omega
      · have hbb : ((Wd.bt x k : Int) == 1) = false := by simp; omega
        have Hb : Hid _ := hb
        clear hb
        go_wp2_with (go_at_call 36; refine (rBit_in x k _ hx hlt).mono ?_; rintro e w' ⟨rfl, rfl⟩)
        go_round
        case rel => exact ⟨k + 1, by omega, by go_num, by rw [hs.out, if_neg Hb.out]⟩
        case measure => simp [intOf]; omega
    · obtain rfl : k = 64 := by omega
      go_wp2
      go_ret
      exact ⟨rfl, rfl⟩
end Go.Proofs.Ytjhimeedkejnlaa
