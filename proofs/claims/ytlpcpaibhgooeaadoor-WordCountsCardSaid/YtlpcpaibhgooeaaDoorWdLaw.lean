/-
  The walks of layer 1's laws: each returns true, for every argument, in every world that holds the library's table; nothing in memory is changed.
-/
import Derived.Test.YtlpcpaibhgooeaaDoorWdRef
import Derived.Test.YtlpcpaibhgooeaaDoorFlt
namespace Go.Proofs.YtlpcpaibhgooeaaDoor
open Go.RowKit
theorem Flt.eq_int (a : Int) (ha : a.natAbs < 2 ^ 53) : FloatKind.f64.format.order (floatOfInt .f64 a) (floatOfInt .f64 a) = some .eq := by
  rw [Flt.order_int a a ha ha]
  simp [compare, compareOfLessAndEq]
theorem Flt.lt_of {a b : Int} (h : compare a b = .lt) : a < b := by
  simp only [compare, compareOfLessAndEq] at h
  split at h
  · assumption
  · split at h <;> cases h
theorem Flt.eq_of {a b : Int} (h : compare a b = .eq) : a = b := by
  simp only [compare, compareOfLessAndEq] at h
  split at h
  · cases h
  · split at h
    · assumption
    · cases h
theorem Flt.gt_of {a b : Int} (h : compare a b = .gt) : b < a := by
  simp only [compare, compareOfLessAndEq] at h
  split at h
  · cases h
  · split at h
    · cases h
    · omega
theorem Flt.le_cases {a b : Int} (ha : a.natAbs < 2 ^ 53) (hb : b.natAbs < 2 ^ 53) (h : a ≤ b) :
    FloatKind.f64.format.order (floatOfInt .f64 a) (floatOfInt .f64 b) = some .lt ∨ FloatKind.f64.format.order (floatOfInt .f64 a) (floatOfInt .f64 b) = some .eq := by
  rw [Flt.order_int a b ha hb]
  simp only [compare, compareOfLessAndEq]
  by_cases h1 : a < b
  · rw [if_pos h1]; exact .inl rfl
  · rw [if_neg h1, if_pos (by omega)]; exact .inr rfl
theorem Flt.ge_cases {a b : Int} (ha : a.natAbs < 2 ^ 53) (hb : b.natAbs < 2 ^ 53) (h : b ≤ a) :
    FloatKind.f64.format.order (floatOfInt .f64 a) (floatOfInt .f64 b) = some .gt ∨ FloatKind.f64.format.order (floatOfInt .f64 a) (floatOfInt .f64 b) = some .eq := by
  rw [Flt.order_int a b ha hb]
  simp only [compare, compareOfLessAndEq]
  rw [if_neg (by omega)]
  by_cases h1 : a = b
  · rw [if_pos h1]; exact .inr rfl
  · rw [if_neg h1]; exact .inl rfl
theorem awake_any (w : World) (hT : Tab w) : Calls Tryd.prog 9 #[] w fun e w' => e = .returned (.bool true) ∧ w' = w := by
  have e1 : Wd.sel 5 1 = 2 := by decide +kernel
  have e2 : Wd.exc 7 (Wd.cl 3) = 3 := by decide +kernel
  have h1 : ((Wd.sel 5 1 : Int) == 2) = true := by rw [e1]; rfl
  have h2 : (Wd.exc 7 (Wd.cl 3) == 3) = true := by rw [e2]; rfl
  have HT : Hid _ := hT
  clear hT e1 e2
  go_enter Tryd.func9, Tryd.ntmps9
  go_wp2_with (first
    | (go_at_call 12; refine (Select_any 5 1 _ (by decide) (by decide) HT.out).mono ?_; rintro e w' ⟨rfl, rfl⟩)
    | (go_at_call 20; refine (Excess_any 7 3 _ (by decide)).mono ?_; rintro e w' ⟨rfl, rfl⟩))
  go_ret
  exact ⟨rfl, rfl⟩
set_option maxHeartbeats 400000 in
theorem WordFields_walk (x : Nat) (a n : Int) (w : World) (hx : x < 18446744073709551616) (hT : Tab w) :
    Calls Tryd.prog 4 #[.int .u64 x, .int .i64 a, .int .i64 n] w fun e w' => e = .returned (.bool true) ∧ w' = w := by
  have HT : Hid _ := hT
  clear hT
  go_enter Tryd.func4, Tryd.ntmps4
  go_wp2_with (first
    | (go_at_call 9; refine (awake_any _ HT.out).mono ?_; rintro e w' ⟨rfl, rfl⟩)
    | (go_at_call 16; refine (Field_any x a n _ hx).mono ?_; rintro e w' ⟨rfl, rfl⟩)
    | (go_at_call 17; refine (rField_any x a n _ hx).mono ?_; rintro e w' ⟨rfl, rfl⟩))
  go_ret
  exact ⟨rfl, rfl⟩
set_option maxHeartbeats 400000 in
theorem WordCounts_walk (x : Nat) (n k : Int) (w : World) (hx : x < 18446744073709551616) (hk : k ≤ 9223372036854775807) (hT : Tab w) :
    Calls Tryd.prog 3 #[.int .u64 x, .int .i64 n, .int .i64 k] w fun e w' => e = .returned (.bool true) ∧ w' = w := by
  have HT : Hid _ := hT
  clear hT
  go_enter Tryd.func3, Tryd.ntmps3
  go_wp2_with (first
    | (go_at_call 9; refine (awake_any _ HT.out).mono ?_; rintro e w' ⟨rfl, rfl⟩)
    | (go_at_call 10; refine (Ones_any x n _ hx).mono ?_; rintro e w' ⟨rfl, rfl⟩)
    | (go_at_call 11; refine (rOnes_any x n _ hx).mono ?_; rintro e w' ⟨rfl, rfl⟩)
    | (go_at_call 12; refine (Select_any x k _ hx hk HT.out).mono ?_; rintro e w' ⟨rfl, rfl⟩)
    | (go_at_call 13; refine (rSelect_any x k _ hx).mono ?_; rintro e w' ⟨rfl, rfl⟩)
    | (go_at_call 14; refine (Need_any x _ hx).mono ?_; rintro e w' ⟨rfl, rfl⟩)
    | (go_at_call 15; refine (rNeed_any x _ hx).mono ?_; rintro e w' ⟨rfl, rfl⟩))
  go_ret
  exact ⟨rfl, rfl⟩
set_option maxHeartbeats 400000 in
theorem WordFinds_walk (x : Nat) (n d : Int) (w : World) (hx : x < 18446744073709551616) (hT : Tab w) :
    Calls Tryd.prog 6 #[.int .u64 x, .int .i64 n, .int .i64 d] w fun e w' => e = .returned (.bool true) ∧ w' = w := by
  have HT : Hid _ := hT
  clear hT
  go_enter Tryd.func6, Tryd.ntmps6
  go_wp2_with (first
    | (go_at_call 9; refine (awake_any _ HT.out).mono ?_; rintro e w' ⟨rfl, rfl⟩)
    | (go_at_call 22; refine (Find_any x n d _ hx).mono ?_; rintro e w' ⟨rfl, rfl⟩)
    | (go_at_call 23; refine (rFind_any x n d _ hx).mono ?_; rintro e w' ⟨rfl, rfl⟩))
  go_ret
  exact ⟨rfl, rfl⟩
set_option maxHeartbeats 400000 in
theorem WordReach_walk (x : Nat) (n : Int) (w : World) (hx : x < 18446744073709551616) (hT : Tab w) :
    Calls Tryd.prog 5 #[.int .u64 x, .int .i64 n] w fun e w' => e = .returned (.bool true) ∧ w' = w := by
  have HT : Hid _ := hT
  clear hT
  have hc := Wd.cl_le n
  have h1 := Flt.eq_int (Wd.lo x (Wd.cl n)) (by have := Wd.lo_bounds x (Wd.cl n); omega)
  have h2 := Flt.eq_int (Wd.hi x (Wd.cl n)) (by have := Wd.hi_bounds x (Wd.cl n); omega)
  go_enter Tryd.func5, Tryd.ntmps5
  go_wp2_with (first
    | (go_at_call 9; refine (awake_any _ HT.out).mono ?_; rintro e w' ⟨rfl, rfl⟩)
    | (go_at_call 18; refine (rReach_any x n _ hx).mono ?_; rintro e w' ⟨rfl, rfl⟩)
    | (go_at_call 19; refine (Reach_any x n _ hx).mono ?_; rintro e w' ⟨rfl, rfl⟩)
    | (go_at_call 20; refine (Excess_any x n _ hx).mono ?_; rintro e w' ⟨rfl, rfl⟩)
    | (go_at_call 21; refine (rExcess_any x n _ hx).mono ?_; rintro e w' ⟨rfl, rfl⟩))
  go_ret
  exact ⟨rfl, rfl⟩
set_option maxHeartbeats 1000000 in
theorem WordEach_walk (x : Nat) (d : Int) (w : World) (hx : x < 18446744073709551616) (hd1 : -128 ≤ d) (hd2 : d ≤ 127) (hT : Tab w) :
    Calls Tryd.prog 7 #[.int .u64 x, .int .i8 d] w fun e w' => e = .returned (.bool true) ∧ w' = w := by
  have HT : Hid _ := hT
  clear hT
  go_enter Tryd.func7, Tryd.ntmps7
  go_wp2_with (go_at_call 9; refine (awake_any _ HT.out).mono ?_; rintro e w' ⟨rfl, rfl⟩)
  go_loop [5, 6] (fun c i => ∃ k : Nat, k ≤ 64 ∧ i = .int .i64 k ∧ c = .int .i64 (Wd.ones x k)) (fun _ i => 64 - (intOf i).toNat)
  case atStart => exact ⟨0, by omega, rfl, rfl⟩
  case round =>
    obtain ⟨k, hk, rfl, rfl⟩ := hrel
    have ho := Wd.ones_le x k
    by_cases hlt : k < 64
    · have hbl := Wd.bt_lt x k
      have Hfld : Hid (Wd.fld x k (Wd.cl 1) = Wd.bt x k) := by
        show _ = _
        unfold Wd.fld
        rw [if_neg (by omega), if_neg (by omega), Int.toNat_natCast]
        rfl
      have Hone : Hid (Wd.ones x (Wd.cl (k : Int)) = Wd.ones x k) := by
        show _ = _
        rw [show Wd.cl (k : Int) = k from by unfold Wd.cl; omega]
      have hs : Hid _ := Wd.ones_succ x k
      by_cases hb : Wd.bt x k = 1
      · have hbb : ((Wd.bt x k : Int) == 1) = true := by simp [hb]
        have Hsel : Hid (Wd.sel x (Wd.ones x k : Nat) = k) := Wd.sel_eq (.inl ⟨hlt, hb, rfl⟩)
        have Hb : Hid _ := hb
        clear hb
        go_wp2_with (first
          | (go_at_call 16; refine (Field_any x k 1 _ hx).mono ?_; rw [Hfld.out]; rintro e w' ⟨rfl, rfl⟩)
          | (go_at_call 12; refine (Select_any x (Wd.ones x k : Nat) _ hx (by omega) HT.out).mono ?_; rw [Hsel.out]; rintro e w' ⟨rfl, rfl⟩)
          | (go_at_call 10; refine (Ones_any x k _ hx).mono ?_; rw [Hone.out]; rintro e w' ⟨rfl, rfl⟩))
        go_round
        case rel => exact ⟨k + 1, by omega, by go_num, by rw [hs.out, Hb.out]; go_num⟩
        case measure => simp [intOf]; omega
      · have hbb : ((Wd.bt x k : Int) == 1) = false := by simp; omega
        have Hb : Hid (Wd.bt x k = 0) := by show _ = _; omega
        clear hb
        go_wp2_with (go_at_call 16; refine (Field_any x k 1 _ hx).mono ?_; rw [Hfld.out]; rintro e w' ⟨rfl, rfl⟩)
        go_round
        case rel => exact ⟨k + 1, by omega, by go_num, by rw [hs.out, Hb.out]; go_num⟩
        case measure => simp [intOf]; omega
    · obtain rfl : k = 64 := by omega
      have hf0 := Wd.find_le x 64 d
      have hl := Wd.lo_bounds x 64
      have hh := Wd.hi_bounds x 64
      have hp := Wd.find_pos x 64 d (by omega)
      have he := Wd.find_exc x 64 d
      have Hcf : Hid (Wd.cl (Wd.find x 64 d : Nat) = Wd.find x 64 d) := by show _ = _; unfold Wd.cl; omega
      have Hsel : Hid (Wd.sel x (Wd.ones x 64 : Nat) = 64) := Wd.sel_eq (.inr ⟨rfl, .inr (by omega)⟩)
      have o1 := Flt.order_int d (Wd.lo x 64) (by omega) (by omega)
      have o2 := Flt.order_int d (Wd.hi x 64) (by omega) (by omega)
      have hlh := Wd.reach_exc x 64 1 (by omega) (by omega)
      obtain ⟨X, hX⟩ : ∃ X, compare d (Wd.lo x 64) = X := ⟨_, rfl⟩
      obtain ⟨Y, hY⟩ : ∃ Y, compare d (Wd.hi x 64) = Y := ⟨_, rfl⟩
      rw [hX] at o1
      rw [hY] at o2
      have cX : (X = .lt ∧ d < Wd.lo x 64) ∨ (X = .eq ∧ Hid (d = Wd.lo x 64)) ∨ (X = .gt ∧ Wd.lo x 64 < d) := by
        cases X
        · exact .inl ⟨rfl, Flt.lt_of hX⟩
        · exact .inr (.inl ⟨rfl, Flt.eq_of hX⟩)
        · exact .inr (.inr ⟨rfl, Flt.gt_of hX⟩)
      have cY : (Y = .lt ∧ d < Wd.hi x 64) ∨ (Y = .eq ∧ Hid (d = Wd.hi x 64)) ∨ (Y = .gt ∧ Wd.hi x 64 < d) := by
        cases Y
        · exact .inl ⟨rfl, Flt.lt_of hY⟩
        · exact .inr (.inl ⟨rfl, Flt.eq_of hY⟩)
        · exact .inr (.inr ⟨rfl, Flt.gt_of hY⟩)
      clear hX hY
      have hin : (X ≠ .lt ∧ Y ≠ .gt ∧ 0 < Wd.find x 64 d) ∨ ((X = .lt ∨ Y = .gt) ∧ Wd.find x 64 d = 0) := by
        have q1 := @Hid.out (d = Wd.lo x 64)
        have q2 := @Hid.out (d = Wd.hi x 64)
        rcases cX with ⟨rfl, cx⟩ | ⟨rfl, cx⟩ | ⟨rfl, cx⟩
        · refine .inr ⟨.inl rfl, ?_⟩; omega
        · have cx' := q1 cx
          rcases cY with ⟨rfl, cy⟩ | ⟨rfl, cy⟩ | ⟨rfl, cy⟩
          · exact .inl ⟨by simp, by simp, by omega⟩
          · have cy' := q2 cy
            exact .inl ⟨by simp, by simp, by omega⟩
          · refine .inr ⟨.inr rfl, ?_⟩; omega
        · rcases cY with ⟨rfl, cy⟩ | ⟨rfl, cy⟩ | ⟨rfl, cy⟩
          · exact .inl ⟨by simp, by simp, by omega⟩
          · have cy' := q2 cy
            exact .inl ⟨by simp, by simp, by omega⟩
          · refine .inr ⟨.inr rfl, ?_⟩; omega
      clear cX cY hp hl hh hlh
      rcases hin with ⟨hx1, hy1, hpos⟩ | ⟨hxy, h0⟩
      · have hz : ((Wd.find x 64 d : Int) == 0) = false := by simp; omega
        have hee : (Wd.exc x (Wd.find x 64 d) == d) = true := by simp [he (by omega)]
        clear he
        cases X <;> cases Y <;> first | exact absurd rfl hx1 | exact absurd rfl hy1 | skip
        all_goals clear hx1 hy1
        all_goals go_wp2_with (first
          | (go_at_call 19; refine (Reach_any x 64 _ hx).mono ?_; rw [show Wd.cl 64 = 64 from rfl]; rintro e w' ⟨rfl, rfl⟩)
          | (go_at_call 22; refine (Find_any x 64 d _ hx).mono ?_; rw [show Wd.cl 64 = 64 from rfl]; rintro e w' ⟨rfl, rfl⟩)
          | (go_at_call 12; refine (Select_any x (Wd.ones x 64 : Nat) _ hx (by omega) HT.out).mono ?_; rw [Hsel.out]; rintro e w' ⟨rfl, rfl⟩)
          | (go_at_call 10; refine (Ones_any x 64 _ hx).mono ?_; rw [show Wd.cl 64 = 64 from rfl]; rintro e w' ⟨rfl, rfl⟩)
          | (go_at_call 20; refine (Excess_any x (Wd.find x 64 d : Nat) _ hx).mono ?_; rw [Hcf.out]; rintro e w' ⟨rfl, rfl⟩))
        all_goals go_ret
        all_goals exact ⟨rfl, rfl⟩
      · have hz : ((Wd.find x 64 d : Int) == 0) = true := by simp [h0]
        have hn : (Wd.find x 64 d : Int) ≤ 0 := by omega
        clear he h0
        cases X <;> cases Y <;> first | (exfalso; rcases hxy with h | h <;> cases h; done) | skip
        all_goals clear hxy
        all_goals go_wp2_with (first
          | (go_at_call 19; refine (Reach_any x 64 _ hx).mono ?_; rw [show Wd.cl 64 = 64 from rfl]; rintro e w' ⟨rfl, rfl⟩)
          | (go_at_call 22; refine (Find_any x 64 d _ hx).mono ?_; rw [show Wd.cl 64 = 64 from rfl]; rintro e w' ⟨rfl, rfl⟩)
          | (go_at_call 12; refine (Select_any x (Wd.ones x 64 : Nat) _ hx (by omega) HT.out).mono ?_; rw [Hsel.out]; rintro e w' ⟨rfl, rfl⟩)
          | (go_at_call 10; refine (Ones_any x 64 _ hx).mono ?_; rw [show Wd.cl 64 = 64 from rfl]; rintro e w' ⟨rfl, rfl⟩)
          | (go_at_call 20; refine (Excess_any x (Wd.find x 64 d : Nat) _ hx).mono ?_; rw [Hcf.out]; rintro e w' ⟨rfl, rfl⟩))
        all_goals go_ret
        all_goals exact ⟨rfl, rfl⟩
set_option maxHeartbeats 1000000 in
theorem WordParts_walk (x : Nat) (n : Int) (w : World) (hx : x < 18446744073709551616) (hd1 : 0 ≤ n) (hd2 : n ≤ 255) (hT : Tab w) :
    Calls Tryd.prog 8 #[.int .u64 x, .int .u8 n] w fun e w' => e = .returned (.bool true) ∧ w' = w := by
  have HT : Hid _ := hT
  clear hT
  obtain ⟨k, hk⟩ : ∃ k : Nat, n % 65 = k := ⟨(n % 65).toNat, by omega⟩
  have hk64 : k ≤ 64 := by omega
  have hc1 : Wd.cl (k : Int) = k := by unfold Wd.cl; omega
  have hc2 : Wd.cl (64 - (k : Int)) = 64 - k := by unfold Wd.cl; omega
  have hc3 : Wd.cl 64 = 64 := rfl
  have hf : Wd.fld x (k : Int) 64 = x / 2 ^ k := by
    unfold Wd.fld
    by_cases h : k = 64
    · rw [if_pos (by omega), h, Nat.div_eq_of_lt hx]
    · rw [if_neg (by omega), if_neg (by omega), Int.toNat_natCast]
      exact Nat.mod_eq_of_lt (Nat.lt_of_le_of_lt (Nat.div_le_self _ _) hx)
  have hr : x / 2 ^ k < 18446744073709551616 := Nat.lt_of_le_of_lt (Nat.div_le_self _ _) hx
  have s1 := Wd.ones_split x k (64 - k)
  have s2 := Wd.exc_split x k (64 - k)
  rw [show k + (64 - k) = 64 from by omega] at s1 s2
  have b1 := Wd.ones_le x k
  have b2 := Wd.ones_le (x / 2 ^ k) (64 - k)
  have b3 := Wd.exc_bounds x k
  have b4 := Wd.exc_bounds (x / 2 ^ k) (64 - k)
  have t1 : (((Wd.ones x k : Nat) : Int) + ((Wd.ones (x / 2 ^ k) (64 - k) : Nat) : Int) == ((Wd.ones x 64 : Nat) : Int)) = true := by rw [s1]; simp
  have t2 : (Wd.exc x k + Wd.exc (x / 2 ^ k) (64 - k) == Wd.exc x 64) = true := by rw [s2]; simp
  clear s1 s2
  by_cases h0 : k = 0
  · have tz : ((k : Int) == 0) = true := by simp [h0]
    have H0 : Hid _ := h0
    clear h0
    generalize x / 2 ^ k = r at *
    go_enter Tryd.func8, Tryd.ntmps8
    go_wp2_with (first
      | (go_at_call 9; refine (awake_any _ HT.out).mono ?_; rintro e w' ⟨rfl, rfl⟩)
      | (go_at_call 16; refine (Field_any x k 64 _ hx).mono ?_; rw [hc3, hf]; rintro e w' ⟨rfl, rfl⟩)
      | (go_at_call 19; refine (Reach_any _ _ _ hx).mono ?_; rintro e w' ⟨rfl, rfl⟩)
      | (go_at_call 10; refine (Ones_any _ _ _ (by assumption)).mono ?_; rintro e w' ⟨rfl, rfl⟩)
      | (go_at_call 20; refine (Excess_any _ _ _ (by assumption)).mono ?_; rintro e w' ⟨rfl, rfl⟩))
    go_ret
    exact ⟨rfl, rfl⟩
  · have tz : ((k : Int) == 0) = false := by simp [h0]
    have m := Wd.lo_mono x k (by omega) 64 hk64
    have l1 := Wd.lo_bounds x k
    have l2 := Wd.lo_bounds x 64
    have l3 := Wd.hi_bounds x k
    have l4 := Wd.hi_bounds x 64
    have o1 := Flt.le_cases (a := Wd.lo x 64) (b := Wd.lo x k) (by omega) (by omega) m.1
    have o2 := Flt.ge_cases (a := Wd.hi x 64) (b := Wd.hi x k) (by omega) (by omega) m.2
    clear m l1 l2 l3 l4
    generalize x / 2 ^ k = r at *
    rcases o1 with o1 | o1 <;> rcases o2 with o2 | o2
    all_goals go_enter Tryd.func8, Tryd.ntmps8
    all_goals go_wp2_with (first
      | (go_at_call 9; refine (awake_any _ HT.out).mono ?_; rintro e w' ⟨rfl, rfl⟩)
      | (go_at_call 16; refine (Field_any x k 64 _ hx).mono ?_; rw [hc3, hf]; rintro e w' ⟨rfl, rfl⟩)
      | (go_at_call 19; refine (Reach_any _ _ _ hx).mono ?_; rintro e w' ⟨rfl, rfl⟩)
      | (go_at_call 10; refine (Ones_any _ _ _ (by assumption)).mono ?_; rintro e w' ⟨rfl, rfl⟩)
      | (go_at_call 20; refine (Excess_any _ _ _ (by assumption)).mono ?_; rintro e w' ⟨rfl, rfl⟩))
    all_goals go_ret
    all_goals exact ⟨rfl, rfl⟩
end Go.Proofs.YtlpcpaibhgooeaaDoor
