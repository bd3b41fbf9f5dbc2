/-
  The contracts of the reference's functions of layer 1 (the package laceworkref01), for every word and every number: each returns what the plain mathematics says; nothing in memory is changed.
-/
import Derived.Test.YtlpcpaibhgooeaaDoorWdSel
namespace Go.Proofs.YtlpcpaibhgooeaaDoor
open Go.RowKit
set_option maxHeartbeats 400000 in
theorem rBit_in (x i : Nat) (w : World) (hx : x < 18446744073709551616) (hi : i < 64) :
    Calls Tryd.prog 27 #[.int .u64 x, .int .i64 i] w fun e w' => e = .returned (.bool ((Wd.bt x i : Int) == 1)) ∧ w' = w := by
  go_enter Tryd.func27, Tryd.ntmps27
  go_wp2
  go_ret
  refine ⟨ret_bool ?_, rfl⟩
  rw [Wd.bit_and x i hx]
set_option maxHeartbeats 400000 in
theorem rBit_out (x : Nat) (i : Int) (w : World) (hi : i < 0 ∨ 64 ≤ i) :
    Calls Tryd.prog 27 #[.int .u64 x, .int .i64 i] w fun e w' => e = .returned (.bool false) ∧ w' = w := by
  rcases hi with h | h
  · go_enter Tryd.func27, Tryd.ntmps27
    go_wp2
    go_ret
    exact ⟨rfl, rfl⟩
  · go_enter Tryd.func27, Tryd.ntmps27
    go_wp2
    go_ret
    exact ⟨rfl, rfl⟩
theorem rBit_any (x : Nat) (i : Int) (w : World) (hx : x < 18446744073709551616) :
    Calls Tryd.prog 27 #[.int .u64 x, .int .i64 i] w fun e w' => e = .returned (.bool ((Wd.btI x i : Int) == 1)) ∧ w' = w := by
  by_cases h : 0 ≤ i ∧ i < 64
  · obtain ⟨j, rfl⟩ := Int.eq_ofNat_of_zero_le h.1
    rw [Wd.btI_nat]
    exact rBit_in x j w hx (by omega)
  · have e : Wd.btI x i = 0 := by
      unfold Wd.btI
      split
      · exact Wd.bt_big x 64 _ hx (by omega)
      · rfl
    rw [e]
    exact rBit_out x i w (by omega)
set_option maxHeartbeats 400000 in
theorem rOnes_any (x : Nat) (n : Int) (w : World) (hx : x < 18446744073709551616) :
    Calls Tryd.prog 11 #[.int .u64 x, .int .i64 n] w fun e w' => e = .returned (.int .i64 (Wd.ones x (Wd.cl n))) ∧ w' = w := by
  have hc := Wd.cl_cast n
  have HC : Hid _ := hc
  clear hc
  go_enter Tryd.func11, Tryd.ntmps11
  go_wp2
  go_loop [5, 6] (fun c i => ∃ k : Nat, k ≤ Wd.cl n ∧ i = .int .i64 k ∧ c = .int .i64 (Wd.ones x k)) (fun _ i => 64 - (intOf i).toNat)
  case atStart => exact ⟨0, by omega, rfl, rfl⟩
  case round =>
    obtain ⟨k, hk, rfl, rfl⟩ := hrel
    have hcl := Wd.cl_le n
    have ho := Wd.ones_le x k
    by_cases hlt : k < Wd.cl n
    · have hn : (k : Int) < n := by have := HC.out; omega
      have hs : Hid _ := Wd.ones_succ x k
      have hbl := Wd.bt_lt x k
      by_cases hb : Wd.bt x k = 1
      · have hbb : ((Wd.bt x k : Int) == 1) = true := by simp [hb]
        have Hb : Hid _ := hb
        clear hb
        go_wp2_with (go_at_call 27; refine (rBit_in x k _ hx (by omega)).mono ?_; rintro e w' ⟨rfl, rfl⟩)
        go_round
        case rel => exact ⟨k + 1, by omega, by go_num, by rw [hs.out, Hb.out]; go_num⟩
        case measure => simp [intOf]; omega
      · have hbb : ((Wd.bt x k : Int) == 1) = false := by simp; omega
        have Hb : Hid (Wd.bt x k = 0) := by show _ = _; omega
        clear hb
        go_wp2_with (go_at_call 27; refine (rBit_in x k _ hx (by omega)).mono ?_; rintro e w' ⟨rfl, rfl⟩)
        go_round
        case rel => exact ⟨k + 1, by omega, by go_num, by rw [hs.out, Hb.out]; go_num⟩
        case measure => simp [intOf]; omega
    · obtain rfl : k = Wd.cl n := by omega
      have hor : ((Wd.cl n : Nat) : Int) < n ∨ n ≤ ((Wd.cl n : Nat) : Int) := by omega
      rcases hor with h | h
      · have h2 : (64 : Int) ≤ ((Wd.cl n : Nat) : Int) := by have := HC.out; omega
        go_wp2
        go_ret
        exact ⟨rfl, rfl⟩
      · go_wp2
        go_ret
        exact ⟨rfl, rfl⟩
set_option maxHeartbeats 400000 in
theorem rExcess_any (x : Nat) (n : Int) (w : World) (hx : x < 18446744073709551616) :
    Calls Tryd.prog 21 #[.int .u64 x, .int .i64 n] w fun e w' => e = .returned (.int .i64 (Wd.exc x (Wd.cl n))) ∧ w' = w := by
  have HC : Hid _ := Wd.cl_cast n
  go_enter Tryd.func21, Tryd.ntmps21
  go_wp2
  go_loop [5, 6] (fun c i => ∃ k : Nat, k ≤ Wd.cl n ∧ i = .int .i64 k ∧ c = .int .i64 (Wd.exc x k)) (fun _ i => 64 - (intOf i).toNat)
  case atStart => exact ⟨0, by omega, rfl, rfl⟩
  case round =>
    obtain ⟨k, hk, rfl, rfl⟩ := hrel
    have hcl := Wd.cl_le n
    have ho := Wd.exc_bounds x k
    by_cases hlt : k < Wd.cl n
    · have hn : (k : Int) < n := by have := HC.out; omega
      have hs : Hid _ := Wd.exc_succ x k
      have hbl := Wd.bt_lt x k
      by_cases hb : Wd.bt x k = 1
      · have hbb : ((Wd.bt x k : Int) == 1) = true := by simp [hb]
        have Hb : Hid _ := hb
        clear hb
        go_wp2_with (go_at_call 27; refine (rBit_in x k _ hx (by omega)).mono ?_; rintro e w' ⟨rfl, rfl⟩)
        go_round
        case rel => exact ⟨k + 1, by omega, by go_num, by rw [hs.out, Hb.out]; go_num⟩
        case measure => simp [intOf]; omega
      · have hbb : ((Wd.bt x k : Int) == 1) = false := by simp; omega
        have Hb : Hid (Wd.bt x k = 0) := by show _ = _; omega
        clear hb
        go_wp2_with (go_at_call 27; refine (rBit_in x k _ hx (by omega)).mono ?_; rintro e w' ⟨rfl, rfl⟩)
        go_round
        case rel => exact ⟨k + 1, by omega, by go_num, by rw [hs.out, Hb.out]; go_num⟩
        case measure => simp [intOf]; omega
    · obtain rfl : k = Wd.cl n := by omega
      have hor : ((Wd.cl n : Nat) : Int) < n ∨ n ≤ ((Wd.cl n : Nat) : Int) := by omega
      rcases hor with h | h
      · have h2 : (64 : Int) ≤ ((Wd.cl n : Nat) : Int) := by have := HC.out; omega
        go_wp2
        go_ret
        exact ⟨rfl, rfl⟩
      · go_wp2
        go_ret
        exact ⟨rfl, rfl⟩
set_option maxHeartbeats 400000 in
theorem rSelect_any (x : Nat) (d : Int) (w : World) (hx : x < 18446744073709551616) :
    Calls Tryd.prog 13 #[.int .u64 x, .int .i64 d] w fun e w' => e = .returned (.int .i64 (Wd.sel x d)) ∧ w' = w := by
  go_enter Tryd.func13, Tryd.ntmps13
  go_wp2
  go_loop [5] (fun i => ∃ k : Nat, k ≤ 64 ∧ i = .int .i64 k ∧ Hid (Wd.selFrom x d (64 - k) k = Wd.sel x d)) (fun i => 64 - (intOf i).toNat)
  case atStart => exact ⟨0, by omega, rfl, rfl⟩
  case round =>
    obtain ⟨k, hk, rfl, Hk⟩ := hrel
    by_cases hlt : k < 64
    · have hs : Hid (Wd.selFrom x d (64 - k) k = if Wd.bt x k = 1 ∧ (Wd.ones x k : Int) = d then k else Wd.selFrom x d (64 - (k + 1)) (k + 1)) := by
        show _ = _
        rw [show 64 - k = 64 - (k + 1) + 1 from by omega]
        rfl
      have hbl := Wd.bt_lt x k
      have ho := Wd.ones_le x k
      have hck : Wd.cl (k : Int) = k := by unfold Wd.cl; omega
      have hO : Hid _ := rOnes_any x k
      by_cases hb : Wd.bt x k = 1
      · have hbb : ((Wd.bt x k : Int) == 1) = true := by simp [hb]
        by_cases hd : (Wd.ones x k : Int) = d
        · have hdd : ((Wd.ones x k : Int) == d) = true := by simp [hd]
          have Hf : Hid (Wd.sel x d = k) := by show _ = _; rw [← Hk.out, hs.out, if_pos ⟨hb, hd⟩]
          have Hck : Hid _ := hck
          clear hb hd hck
          go_wp2_with (first
            | (go_at_call 27; refine (rBit_in x k _ hx hlt).mono ?_; rintro e w' ⟨rfl, rfl⟩)
            | (go_at_call 11; refine (hO.out _ hx).mono ?_; rw [Hck.out]; rintro e w' ⟨rfl, rfl⟩))
          go_ret
          exact ⟨ret_int (by rw [Hf.out]), rfl⟩
        · have hdd : ((Wd.ones x k : Int) == d) = false := by simp [hd]
          have Hn : Hid (Wd.selFrom x d (64 - (k + 1)) (k + 1) = Wd.sel x d) := by show _ = _; rw [← Hk.out, hs.out, if_neg (fun h => hd h.2)]
          have Hck : Hid _ := hck
          clear hb hd hck
          go_wp2_with (first
            | (go_at_call 27; refine (rBit_in x k _ hx hlt).mono ?_; rintro e w' ⟨rfl, rfl⟩)
            | (go_at_call 11; refine (hO.out _ hx).mono ?_; rw [Hck.out]; rintro e w' ⟨rfl, rfl⟩))
          go_round
          case rel => exact ⟨k + 1, by omega, by go_num, Hn⟩
          case measure => simp [intOf]; omega
      · have hbb : ((Wd.bt x k : Int) == 1) = false := by simp; omega
        have Hn : Hid (Wd.selFrom x d (64 - (k + 1)) (k + 1) = Wd.sel x d) := by show _ = _; rw [← Hk.out, hs.out, if_neg (fun h => hb h.1)]
        clear hb hck
        go_wp2_with (go_at_call 27; refine (rBit_in x k _ hx hlt).mono ?_; rintro e w' ⟨rfl, rfl⟩)
        go_round
        case rel => exact ⟨k + 1, by omega, by go_num, Hn⟩
        case measure => simp [intOf]; omega
    · obtain rfl : k = 64 := by omega
      have Hf : Hid (Wd.sel x d = 64) := by show _ = _; rw [← Hk.out]; rfl
      go_wp2
      go_ret
      exact ⟨ret_int (by rw [Hf.out]; rfl), rfl⟩
set_option maxHeartbeats 400000 in
theorem rNeed_any (x : Nat) (w : World) (hx : x < 18446744073709551616) :
    Calls Tryd.prog 15 #[.int .u64 x] w fun e w' => e = .returned (.int .i64 (Wd.needTo x 64)) ∧ w' = w := by
  go_enter Tryd.func15, Tryd.ntmps15
  go_wp2
  go_loop [3, 4] (fun c i => ∃ k : Nat, k ≤ 64 ∧ i = .int .i64 k ∧ c = .int .i64 (Wd.needTo x k)) (fun _ i => 64 - (intOf i).toNat)
  case atStart => exact ⟨0, by omega, rfl, rfl⟩
  case round =>
    obtain ⟨k, hk, rfl, rfl⟩ := hrel
    by_cases hlt : k < 64
    · have hbl := Wd.bt_lt x k
      have hs : Hid (Wd.needTo x (k + 1) = if Wd.bt x k = 1 then k + 1 else Wd.needTo x k) := rfl
      by_cases hb : Wd.bt x k = 1
      · have hbb : ((Wd.bt x k : Int) == 1) = true := by simp [hb]
        have Hb : Hid _ := hb
        clear hb
        go_wp2_with (go_at_call 27; refine (rBit_in x k _ hx hlt).mono ?_; rintro e w' ⟨rfl, rfl⟩)
        go_round
        case rel => exact ⟨k + 1, by omega, by go_num, by rw [hs.out, if_pos Hb.out]; go_num⟩
        case measure => simp [intOf]; omega
      · have hbb : ((Wd.bt x k : Int) == 1) = false := by simp; omega
        have Hb : Hid _ := hb
        clear hb
        go_wp2_with (go_at_call 27; refine (rBit_in x k _ hx hlt).mono ?_; rintro e w' ⟨rfl, rfl⟩)
        go_round
        case rel => exact ⟨k + 1, by omega, by go_num, by rw [hs.out, if_neg Hb.out]⟩
        case measure => simp [intOf]; omega
    · obtain rfl : k = 64 := by omega
      go_wp2
      go_ret
      exact ⟨rfl, rfl⟩
namespace Wd
theorem or_pow (v i : Nat) (hv : v < 2 ^ i) (hi : i < 64) : bits .or .u64 (v : Int) (IntKind.u64.wrap (2 ^ i)) = ((v + 2 ^ i : Nat) : Int) := by
  have hp : 2 ^ i < 18446744073709551616 := Nat.lt_of_lt_of_le (Nat.pow_lt_pow_right (by decide) hi) (by decide)
  have h2 : ((2 : Int) ^ i) = ((2 ^ i : Nat) : Int) := by simp
  have e : IntKind.u64.wrap (2 ^ i) = ((2 ^ i : Nat) : Int) := by rw [h2, IntKind.wrap_u64]; omega
  rw [e, bits_or_u64_nat v _ (by omega) hp, Nat.or_comm]
  have := Nat.two_pow_add_eq_or_of_lt hv 1
  rw [Nat.mul_one] at this
  rw [← this, Nat.add_comm]
end Wd
set_option maxHeartbeats 400000 in
theorem rField_in (x : Nat) (a n : Int) (w : World) (hx : x < 18446744073709551616) (h1 : -64 < a) (h2 : a < 64) :
    Calls Tryd.prog 17 #[.int .u64 x, .int .i64 a, .int .i64 n] w fun e w' => e = .returned (.int .u64 (Wd.fld x a (Wd.cl n))) ∧ w' = w := by
  rw [← Wd.fldTo_eq x a (Wd.cl n) (Wd.cl_le n) h1 h2]
  have HC : Hid _ := Wd.cl_cast n
  go_enter Tryd.func17, Tryd.ntmps17
  go_wp2
  go_loop [7, 8] (fun c i => ∃ k : Nat, k ≤ Wd.cl n ∧ i = .int .i64 k ∧ c = .int .u64 (Wd.fldTo x a k)) (fun _ i => 64 - (intOf i).toNat)
  case atStart => exact ⟨0, by omega, rfl, rfl⟩
  case round =>
    obtain ⟨k, hk, rfl, rfl⟩ := hrel
    have hcl := Wd.cl_le n
    by_cases hlt : k < Wd.cl n
    · have hn : (k : Int) < n := by have := HC.out; omega
      have hs : Hid (Wd.fldTo x a (k + 1) = Wd.fldTo x a k + Wd.btI x (a + k) * 2 ^ k) := rfl
      have hbl := Wd.btI_lt x (a + k)
      by_cases hb : Wd.btI x (a + k) = 1
      · have hbb : ((Wd.btI x (a + k) : Int) == 1) = true := by simp [hb]
        have Hb : Hid _ := hb
        have Ho : Hid _ := Wd.or_pow (Wd.fldTo x a k) k (Wd.fldTo_lt x a k) (by omega)
        clear hb
        go_wp2_with (go_at_call 27; refine (rBit_any x (a + k) _ hx).mono ?_; rintro e w' ⟨rfl, rfl⟩)
        go_round
        case rel => exact ⟨k + 1, by omega, by go_num, by rw [Ho.out, hs.out, Hb.out, Nat.one_mul]⟩
        case measure => simp [intOf]; omega
      · have hbb : ((Wd.btI x (a + k) : Int) == 1) = false := by simp; omega
        have Hb : Hid (Wd.btI x (a + k) = 0) := by show _ = _; omega
        clear hb
        go_wp2_with (go_at_call 27; refine (rBit_any x (a + k) _ hx).mono ?_; rintro e w' ⟨rfl, rfl⟩)
        go_round
        case rel => exact ⟨k + 1, by omega, by go_num, by rw [hs.out, Hb.out, Nat.zero_mul, Nat.add_zero]⟩
        case measure => simp [intOf]; omega
    · obtain rfl : k = Wd.cl n := by omega
      have hor : ((Wd.cl n : Nat) : Int) < 64 ∨ 64 ≤ ((Wd.cl n : Nat) : Int) := by omega
      rcases hor with h | h
      · have h2 : n ≤ ((Wd.cl n : Nat) : Int) := by have := HC.out; omega
        go_wp2
        go_ret
        exact ⟨rfl, rfl⟩
      · go_wp2
        go_ret
        exact ⟨rfl, rfl⟩
set_option maxHeartbeats 400000 in
theorem rField_out (x : Nat) (a n : Int) (w : World) (h : a ≤ -64 ∨ 64 ≤ a) :
    Calls Tryd.prog 17 #[.int .u64 x, .int .i64 a, .int .i64 n] w fun e w' => e = .returned (.int .u64 0) ∧ w' = w := by
  have HC : Hid _ := Wd.cl_cast n
  go_enter Tryd.func17, Tryd.ntmps17
  go_wp2
  go_loop [7, 8] (fun c i => ∃ k : Nat, k ≤ Wd.cl n ∧ i = .int .i64 k ∧ c = .int .u64 0) (fun _ i => 64 - (intOf i).toNat)
  case atStart => exact ⟨0, by omega, rfl, rfl⟩
  case round =>
    obtain ⟨k, hk, rfl, rfl⟩ := hrel
    have hcl := Wd.cl_le n
    by_cases hlt : k < Wd.cl n
    · have hn : (k : Int) < n := by have := HC.out; omega
      rcases h with h | h
      · go_wp2
        go_round
        case rel => exact ⟨k + 1, by omega, by go_num, rfl⟩
        case measure => simp [intOf]; omega
      · go_wp2
        go_round
        case rel => exact ⟨k + 1, by omega, by go_num, rfl⟩
        case measure => simp [intOf]; omega
    · obtain rfl : k = Wd.cl n := by omega
      clear h
      have hor : ((Wd.cl n : Nat) : Int) < 64 ∨ 64 ≤ ((Wd.cl n : Nat) : Int) := by omega
      rcases hor with h | h
      · have h2 : n ≤ ((Wd.cl n : Nat) : Int) := by have := HC.out; omega
        go_wp2
        go_ret
        exact ⟨rfl, rfl⟩
      · go_wp2
        go_ret
        exact ⟨rfl, rfl⟩
theorem rField_any (x : Nat) (a n : Int) (w : World) (hx : x < 18446744073709551616) :
    Calls Tryd.prog 17 #[.int .u64 x, .int .i64 a, .int .i64 n] w fun e w' => e = .returned (.int .u64 (Wd.fld x a (Wd.cl n))) ∧ w' = w := by
  by_cases h : -64 < a ∧ a < 64
  · exact rField_in x a n w hx h.1 h.2
  · have e : Wd.fld x a (Wd.cl n) = 0 := by unfold Wd.fld; rw [if_pos (by omega)]
    rw [e]
    exact rField_out x a n w (by omega)
set_option maxHeartbeats 400000 in
theorem rFind_any (x : Nat) (n d : Int) (w : World) (hx : x < 18446744073709551616) :
    Calls Tryd.prog 23 #[.int .u64 x, .int .i64 n, .int .i64 d] w fun e w' => e = .returned (.int .i64 (Wd.find x (Wd.cl n) d)) ∧ w' = w := by
  have HC : Hid _ := Wd.cl_cast n
  go_enter Tryd.func23, Tryd.ntmps23
  go_wp2
  go_loop [7] (fun i => ∃ k : Nat, 1 ≤ k ∧ k ≤ Wd.cl n + 1 ∧ i = .int .i64 k ∧ Hid (∀ j, 1 ≤ j → j < k → Wd.exc x j ≠ d)) (fun i => 65 - (intOf i).toNat)
  case atStart => exact ⟨1, by omega, by omega, rfl, fun j a b => by omega⟩
  case round =>
    obtain ⟨k, hk1, hk, rfl, Hk⟩ := hrel
    have hcl := Wd.cl_le n
    by_cases hlt : k ≤ Wd.cl n
    · have hn : (k : Int) ≤ n := by have := HC.out; omega
      have Hck : Hid (Wd.cl (k : Int) = k) := by show _ = _; unfold Wd.cl; omega
      have hO : Hid _ := rExcess_any x k
      by_cases hd : Wd.exc x k = d
      · have hdd : (Wd.exc x k == d) = true := by simp [hd]
        have Hf : Hid (Wd.find x (Wd.cl n) d = k) := Wd.find_eq (.inl ⟨hk1, hlt, hd, Hk.out⟩)
        clear hd
        go_wp2_with (go_at_call 21; refine (hO.out _ hx).mono ?_; rw [Hck.out]; rintro e w' ⟨rfl, rfl⟩)
        go_ret
        exact ⟨ret_int (by rw [Hf.out]), rfl⟩
      · have hdd : (Wd.exc x k == d) = false := by simp [hd]
        have Hd : Hid _ := hd
        clear hd
        go_wp2_with (go_at_call 21; refine (hO.out _ hx).mono ?_; rw [Hck.out]; rintro e w' ⟨rfl, rfl⟩)
        go_round
        case rel =>
          refine ⟨k + 1, by omega, by omega, by go_num, fun j a b => ?_⟩
          by_cases e : j = k
          · subst e; exact Hd.out
          · exact Hk.out j a (by omega)
        case measure => simp [intOf]; omega
    · have Hf : Hid (Wd.find x (Wd.cl n) d = 0) := Wd.find_eq (.inr ⟨rfl, fun j a b => Hk.out j a (by omega)⟩)
      have hor : (k : Int) ≤ n ∨ n < (k : Int) := by omega
      rcases hor with h | h
      · have h2 : (64 : Int) < k := by have := HC.out; omega
        go_wp2
        go_ret
        exact ⟨ret_int (by rw [Hf.out]; rfl), rfl⟩
      · go_wp2
        go_ret
        exact ⟨ret_int (by rw [Hf.out]; rfl), rfl⟩
namespace Wd
/-- The least, and the greatest, as the reference carries them along: 64 and -64 of none. -/
def lo0 (x j : Nat) : Int := if j = 0 then 64 else lo x j
def hi0 (x j : Nat) : Int := if j = 0 then -64 else hi x j
theorem lo0_succ (x j : Nat) (hj : j < 64) : min (lo0 x j) (exc x (j + 1)) = lo0 x (j + 1) := by
  unfold lo0
  by_cases h : j = 0
  · subst h
    have := exc_bounds x 1
    simp only [lo, if_true, if_false, Nat.zero_add, Nat.one_ne_zero]
    omega
  · rw [if_neg h, if_neg (by omega), lo_succ x j (by omega)]
theorem hi0_succ (x j : Nat) (hj : j < 64) : max (hi0 x j) (exc x (j + 1)) = hi0 x (j + 1) := by
  unfold hi0
  by_cases h : j = 0
  · subst h
    have := exc_bounds x 1
    simp only [hi, if_true, if_false, Nat.zero_add, Nat.one_ne_zero]
    omega
  · rw [if_neg h, if_neg (by omega), hi_succ x j (by omega)]
end Wd
set_option maxHeartbeats 400000 in
theorem rReach_some (x : Nat) (n : Int) (w : World) (hx : x < 18446744073709551616) (h1 : 1 ≤ n) :
    Calls Tryd.prog 18 #[.int .u64 x, .int .i64 n] w fun e w' => e = .returned (.tuple #[.int .i64 (Wd.lo x (Wd.cl n)), .int .i64 (Wd.hi x (Wd.cl n))]) ∧ w' = w := by
  have HC : Hid _ := Wd.cl_cast n
  go_enter Tryd.func18, Tryd.ntmps18
  go_wp2
  go_loop [6, 7, 8] (fun l m i => ∃ k : Nat, k ≤ Wd.cl n ∧ i = .int .i64 (k + 1) ∧ l = .int .i64 (Wd.lo0 x k) ∧ m = .int .i64 (Wd.hi0 x k)) (fun _ _ i => 65 - (intOf i).toNat)
  case atStart => exact ⟨0, by omega, rfl, rfl, rfl⟩
  case round =>
    obtain ⟨k, hk, rfl, rfl, rfl⟩ := hrel
    have hcl := Wd.cl_le n
    by_cases hlt : k < Wd.cl n
    · have hn : (k : Int) + 1 ≤ n := by have := HC.out; omega
      have h64 : (k : Int) + 1 ≤ 64 := by omega
      have Hck : Hid (Wd.cl ((k : Int) + 1) = k + 1) := by show _ = _; unfold Wd.cl; omega
      have hO : Hid _ := rExcess_any x ((k : Int) + 1)
      have hl : Hid _ := Wd.lo0_succ x k (by omega)
      have hh : Hid _ := Wd.hi0_succ x k (by omega)
      go_wp2_with (go_at_call 21; refine (hO.out _ hx).mono ?_; rw [Hck.out]; rintro e w' ⟨rfl, rfl⟩)
      rw [hl.out, hh.out]
      exact ⟨⟨k + 1, by omega, rfl, rfl, rfl⟩, by simp [intOf]; omega⟩
    · obtain rfl : k = Wd.cl n := by omega
      have hne : Wd.cl n ≠ 0 := by have := HC.out; omega
      have el : Hid (Wd.lo0 x (Wd.cl n) = Wd.lo x (Wd.cl n)) := by show _ = _; unfold Wd.lo0; rw [if_neg hne]
      have eh : Hid (Wd.hi0 x (Wd.cl n) = Wd.hi x (Wd.cl n)) := by show _ = _; unfold Wd.hi0; rw [if_neg hne]
      have hor : ((Wd.cl n : Nat) : Int) + 1 ≤ n ∨ n < ((Wd.cl n : Nat) : Int) + 1 := by omega
      rcases hor with h | h
      · have h2 : (64 : Int) < ((Wd.cl n : Nat) : Int) + 1 := by have := HC.out; omega
        go_wp2
        go_ret2
        exact ⟨by rw [← el.out, ← eh.out]; rfl, rfl⟩
      · go_wp2
        go_ret2
        exact ⟨by rw [← el.out, ← eh.out]; rfl, rfl⟩
set_option maxHeartbeats 400000 in
theorem rReach_none (x : Nat) (n : Int) (w : World) (h1 : n < 1) :
    Calls Tryd.prog 18 #[.int .u64 x, .int .i64 n] w fun e w' => e = .returned (.tuple #[.int .i64 0, .int .i64 0]) ∧ w' = w := by
  go_enter Tryd.func18, Tryd.ntmps18
  go_wp2
  go_ret2
  exact ⟨rfl, rfl⟩
theorem rReach_any (x : Nat) (n : Int) (w : World) (hx : x < 18446744073709551616) :
    Calls Tryd.prog 18 #[.int .u64 x, .int .i64 n] w fun e w' => e = .returned (.tuple #[.int .i64 (Wd.lo x (Wd.cl n)), .int .i64 (Wd.hi x (Wd.cl n))]) ∧ w' = w := by
  by_cases h : n < 1
  · have e : Wd.cl n = 0 := by have := Wd.cl_cast n; omega
    rw [e]
    exact rReach_none x n w h
  · exact rReach_some x n w hx (by omega)
end Go.Proofs.YtlpcpaibhgooeaaDoor
