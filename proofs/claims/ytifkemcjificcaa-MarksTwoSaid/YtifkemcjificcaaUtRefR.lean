/-
  The contract of laceworkref09's Scalar: for every string; nothing that was there is changed.
-/
import Derived.Lib.QuietBelow
import Derived.Test.YtifkemcjificcaaUtRefP
namespace Go.Proofs.Ytifkemcjificcaa
open Go.RowKit Go.Sort
namespace Ut
theorem extract_list (s : ByteArray) (a b : Nat) : (s.extract a b).data.toList = (s.data.toList.drop a).take (b - a) := by
  obtain ⟨⟨l⟩⟩ := s
  rw [ByteArray.extract_mk]
theorem extract_take (s : ByteArray) (n : Nat) : (s.extract 0 n).data.toList = s.data.toList.take n := by
  rw [extract_list, List.drop_zero, Nat.sub_zero]
theorem first (s : ByteArray) (h : 0 < s.size) : s.data.toList = s[0] :: s.data.toList.tail := by
  obtain ⟨⟨l⟩⟩ := s
  cases l with
  | nil => exact absurd h (by simp [ByteArray.size])
  | cons a l => rfl
theorem sc_nil (s : ByteArray) (h : s.size = 0) : sc s.data.toList = (0, 0) := by
  have : s.data.toList = [] := List.eq_nil_of_length_eq_zero h
  rw [this]
  rfl
theorem sc_byte (s : ByteArray) (h : 0 < s.size) (h2 : s[0].toNat < 128) : sc s.data.toList = (s[0].toNat, 1) := by
  have h1 : ld 0 s.data.toList = 1 := by
    rw [first s h]
    exact ld_byte _ _ h2
  have h3 := vl_zero s 1 h
  unfold sc
  rw [h1, if_neg (by decide), ← h3]
  show (s[0].toNat % 128, 1) = _
  rw [Nat.mod_eq_of_lt h2]
theorem sc_odd (s : ByteArray) (h : 0 < s.size) (h2 : rn s[0].toNat = 0) : sc s.data.toList = (0, 0) := by
  have h1 : ld 0 s.data.toList = 0 := by
    rw [first s h]
    exact ld_odd _ _ h2
  unfold sc
  rw [h1, if_pos rfl]
theorem sc_short (s : ByteArray) (h : 0 < s.size) (h2 : s.size < rn s[0].toNat) : sc s.data.toList = (0, 0) := by
  have hl : s.data.toList.length = s.size := rfl
  have h1 : ld 0 s.data.toList = 0 := by
    rw [first s h]
    refine ld_short _ _ ?_
    rw [List.length_tail, hl]
    omega
  unfold sc
  rw [h1, if_pos rfl]
theorem sc_long (s : ByteArray) (n : Nat) (h : 0 < s.size) (hn : rn s[0].toNat = n) (h0 : n ≠ 0) (h2 : n ≤ s.size) : (enc (vl s.data.toList n (n - 1)) = s.data.toList.take n ∧ sc s.data.toList = (vl s.data.toList n (n - 1), n)) ∨ (enc (vl s.data.toList n (n - 1)) ≠ s.data.toList.take n ∧ sc s.data.toList = (0, 0)) := by
  have hl : s.data.toList.length = s.size := rfl
  have := back_any s[0] s.data.toList.tail (by rw [hn]; exact h0) (by rw [hn, List.length_tail, hl]; omega)
  rw [← first s h, hn] at this
  unfold sc
  rcases this with ⟨h3, h4⟩ | ⟨h3, h4⟩
  · refine .inl ⟨h3, ?_⟩
    rw [h4, if_neg h0]
  · refine .inr ⟨h3, ?_⟩
    rw [h4, if_pos rfl]
end Ut
theorem uret_two {k j : IntKind} {a b c d : Int} (h1 : a = c) (h2 : b = d) : Ending.returned (.tuple #[.int k a, .int j b]) = .returned (.tuple #[.int k c, .int j d]) := by rw [h1, h2]
set_option maxHeartbeats 2000000 in
set_option maxRecDepth 100000 in
theorem rScalar_nil (s : ByteArray) (w : World) (h : s.size = 0) :
    Calls Try.prog 25 #[.string s] w fun e w' => e = .returned (.tuple #[.int .i64 0, .int .i64 0]) ∧ w' = w := by
  go_enter Try.func25, Try.ntmps25
  go_wp2_with fail
  go_ret2
  exact ⟨rfl, rfl⟩
set_option maxHeartbeats 2000000 in
set_option maxRecDepth 100000 in
theorem rScalar_byte (s : ByteArray) (w : World) (h : 0 < s.size) (h2 : s[0].toNat < 128) :
    Calls Try.prog 25 #[.string s] w fun e w' => e = .returned (.tuple #[.int .i64 (s[0].toNat : Int), .int .i64 1]) ∧ w' = w := by
  go_enter Try.func25, Try.ntmps25
  go_wp2_with fail
  go_ret2
  exact ⟨rfl, rfl⟩
set_option maxHeartbeats 2000000 in
set_option maxRecDepth 100000 in
theorem rScalar_odd (s : ByteArray) (w : World) (h : 0 < s.size) (h2 : 128 ≤ s[0].toNat ∧ s[0].toNat < 192 ∨ 248 ≤ s[0].toNat) :
    Calls Try.prog 25 #[.string s] w fun e w' => e = .returned (.tuple #[.int .i64 0, .int .i64 0]) ∧ w' = w := by
  have hb := s[0].toNat_lt
  rcases h2 with ⟨h2, h3⟩ | h2
  · go_enter Try.func25, Try.ntmps25
    go_wp2_with fail
    go_ret2
    exact ⟨rfl, rfl⟩
  · go_enter Try.func25, Try.ntmps25
    go_wp2_with fail
    go_ret2
    exact ⟨rfl, rfl⟩
set_option maxHeartbeats 2000000 in
set_option maxRecDepth 100000 in
theorem rScalar_short2 (s : ByteArray) (w : World) (hs : s.size ≤ 9223372036854775807) (h : 0 < s.size) (h2 : 192 ≤ s[0].toNat) (h3 : s[0].toNat < 224) (h4 : s.size < 2) :
    Calls Try.prog 25 #[.string s] w fun e w' => e = .returned (.tuple #[.int .i64 0, .int .i64 0]) ∧ w' = w := by
  go_enter Try.func25, Try.ntmps25
  go_wp2_with fail
  go_ret2
  exact ⟨rfl, rfl⟩
set_option maxHeartbeats 2000000 in
set_option maxRecDepth 100000 in
theorem rScalar_short3 (s : ByteArray) (w : World) (hs : s.size ≤ 9223372036854775807) (h : 0 < s.size) (h2 : 224 ≤ s[0].toNat) (h3 : s[0].toNat < 240) (h4 : s.size < 3) :
    Calls Try.prog 25 #[.string s] w fun e w' => e = .returned (.tuple #[.int .i64 0, .int .i64 0]) ∧ w' = w := by
  go_enter Try.func25, Try.ntmps25
  go_wp2_with fail
  go_ret2
  exact ⟨rfl, rfl⟩
set_option maxHeartbeats 2000000 in
set_option maxRecDepth 100000 in
theorem rScalar_short4 (s : ByteArray) (w : World) (hs : s.size ≤ 9223372036854775807) (h : 0 < s.size) (h2 : 240 ≤ s[0].toNat) (h3 : s[0].toNat < 248) (h4 : s.size < 4) :
    Calls Try.prog 25 #[.string s] w fun e w' => e = .returned (.tuple #[.int .i64 0, .int .i64 0]) ∧ w' = w := by
  go_enter Try.func25, Try.ntmps25
  go_wp2_with fail
  go_ret2
  exact ⟨rfl, rfl⟩
set_option maxHeartbeats 4000000 in
set_option maxRecDepth 100000 in
theorem rScalar_long2 (s : ByteArray) (w : World) (hs : s.size ≤ 9223372036854775807) (h : 0 < s.size) (h2 : 192 ≤ s[0].toNat) (h3 : s[0].toNat < 224) (h4 : 2 ≤ s.size) :
    Calls Try.prog 25 #[.string s] w fun e w' => e = .returned (.tuple #[.int .i64 ((Ut.sc s.data.toList).1 : Nat), .int .i64 ((Ut.sc s.data.toList).2 : Nat)]) ∧ Below w.heap.size w w' := by
  have hv0 := Ut.vl_zero s 2 h
  have hv1 : ((s[0].toNat : Int) - 192) = ((Ut.vl s.data.toList 2 0 : Nat) : Int) := by
    rw [← hv0]
    show _ = ((s[0].toNat % 32 : Nat) : Int)
    omega
  have HV := hidden hv1
  clear hv0 hv1
  go_enter Try.func25, Try.ntmps25
  go_wp2_with fail
  rw [HV.out]
  go_loop [5, 6] (fun v i => ∃ k : Nat, k < 2 ∧ i = .int .i64 ((k : Int) + 1) ∧ v = .int .i64 ((Ut.vl s.data.toList 2 k : Nat) : Int)) (fun _ i => 2 - (intOf i).toNat)
  case atStart => exact ⟨0, by decide, rfl, rfl⟩
  case round =>
    obtain ⟨k, hk, rfl, rfl⟩ := hrel
    by_cases hlt : k + 1 < 2
    · have hi : k + 1 < s.size := by omega
      have hn := hidden (Ut.vl_next s 2 k hi)
      have hv := Ut.vl_lt s.data.toList 2 k
      have hv2 : Ut.vl s.data.toList 2 k < 33554432 := by
        refine Nat.lt_of_lt_of_le hv ?_
        obtain rfl | rfl | rfl : k = 0 ∨ k = 1 ∨ k = 2 := by omega
        all_goals decide
      have hb := s[k + 1].toNat_lt
      clear hv
      go_wp2_with fail
      go_round
      case rel => exact ⟨k + 1, hlt, by go_num, by rw [hn.out]; rfl⟩
      case measure => simp [intOf]; omega
    · obtain rfl : k = 1 := by omega
      obtain ⟨c, hc⟩ : ∃ c, c = Ut.vl s.data.toList 2 1 := ⟨_, rfl⟩
      rw [← hc]
      have hsc := Ut.sc_long s 2 h (by unfold Ut.rn; rw [if_neg (by omega), if_neg (by omega), if_pos h3]) (by decide) h4
      rw [show 2 - 1 = 1 from rfl, ← hc] at hsc
      have HSC := hidden hsc
      clear hsc hc
      have QP : Hid (∀ d os, Calls Try.prog 31 #[.int .i64 (c : Nat)] (grow (redrawn w d) os) fun e w'' => e = .returned (.string ⟨(Ut.enc c).toArray⟩) ∧ ∃ p : Regrown, w'' = grow (redrawn w p.d) p.os) := fun d os => by
        have := urPut_any (c : Int) (grow (redrawn w d) os)
        rw [Ut.encz_nat] at this
        exact Calls.regrown_of this
      go_wp2_with fail
      refine wp_region_quiet_below (by kernel_rfl) (by kernel_rfl) ?_
      repeat (go_big_quiet_step (first
        | (go_at_call 31; exact QP.out _ _)))
      refine wpQuiet_nil ?_
      intro _ hw'
      obtain ⟨⟨dq, osq⟩, hw''⟩ := hw'
      subst hw''
      go_wp2_with fail
      · rename_i hne
        have hne2 : Ut.enc c ≠ s.data.toList.take 2 := by
          intro e
          rw [e, Go.ByteArray.toList_eq, Ut.extract_take] at hne
          simp at hne
        rcases HSC.out with ⟨h5, _⟩ | ⟨_, h5⟩
        · exact absurd h5 hne2
        · go_ret2
          rw [h5]
          exact ⟨rfl, below_regrown w dq osq⟩
      · rename_i heq
        have heq2 : Ut.enc c = s.data.toList.take 2 := by
          rw [Go.ByteArray.toList_eq, Ut.extract_take] at heq
          simpa using heq
        rcases HSC.out with ⟨_, h5⟩ | ⟨h5, _⟩
        · go_ret2
          rw [h5]
          exact ⟨rfl, below_regrown w dq osq⟩
        · exact absurd heq2 h5
set_option maxHeartbeats 4000000 in
set_option maxRecDepth 100000 in
theorem rScalar_long3 (s : ByteArray) (w : World) (hs : s.size ≤ 9223372036854775807) (h : 0 < s.size) (h2 : 224 ≤ s[0].toNat) (h3 : s[0].toNat < 240) (h4 : 3 ≤ s.size) :
    Calls Try.prog 25 #[.string s] w fun e w' => e = .returned (.tuple #[.int .i64 ((Ut.sc s.data.toList).1 : Nat), .int .i64 ((Ut.sc s.data.toList).2 : Nat)]) ∧ Below w.heap.size w w' := by
  have hv0 := Ut.vl_zero s 3 h
  have hv1 : ((s[0].toNat : Int) - 224) = ((Ut.vl s.data.toList 3 0 : Nat) : Int) := by
    rw [← hv0]
    show _ = ((s[0].toNat % 16 : Nat) : Int)
    omega
  have HV := hidden hv1
  clear hv0 hv1
  go_enter Try.func25, Try.ntmps25
  go_wp2_with fail
  rw [HV.out]
  go_loop [5, 6] (fun v i => ∃ k : Nat, k < 3 ∧ i = .int .i64 ((k : Int) + 1) ∧ v = .int .i64 ((Ut.vl s.data.toList 3 k : Nat) : Int)) (fun _ i => 3 - (intOf i).toNat)
  case atStart => exact ⟨0, by decide, rfl, rfl⟩
  case round =>
    obtain ⟨k, hk, rfl, rfl⟩ := hrel
    by_cases hlt : k + 1 < 3
    · have hi : k + 1 < s.size := by omega
      have hn := hidden (Ut.vl_next s 3 k hi)
      have hv := Ut.vl_lt s.data.toList 3 k
      have hv2 : Ut.vl s.data.toList 3 k < 33554432 := by
        refine Nat.lt_of_lt_of_le hv ?_
        obtain rfl | rfl | rfl : k = 0 ∨ k = 1 ∨ k = 2 := by omega
        all_goals decide
      have hb := s[k + 1].toNat_lt
      clear hv
      go_wp2_with fail
      go_round
      case rel => exact ⟨k + 1, hlt, by go_num, by rw [hn.out]; rfl⟩
      case measure => simp [intOf]; omega
    · obtain rfl : k = 2 := by omega
      obtain ⟨c, hc⟩ : ∃ c, c = Ut.vl s.data.toList 3 2 := ⟨_, rfl⟩
      rw [← hc]
      have hsc := Ut.sc_long s 3 h (by unfold Ut.rn; rw [if_neg (by omega), if_neg (by omega), if_neg (by omega), if_pos h3]) (by decide) h4
      rw [show 3 - 1 = 2 from rfl, ← hc] at hsc
      have HSC := hidden hsc
      clear hsc hc
      have QP : Hid (∀ d os, Calls Try.prog 31 #[.int .i64 (c : Nat)] (grow (redrawn w d) os) fun e w'' => e = .returned (.string ⟨(Ut.enc c).toArray⟩) ∧ ∃ p : Regrown, w'' = grow (redrawn w p.d) p.os) := fun d os => by
        have := urPut_any (c : Int) (grow (redrawn w d) os)
        rw [Ut.encz_nat] at this
        exact Calls.regrown_of this
      go_wp2_with fail
      refine wp_region_quiet_below (by kernel_rfl) (by kernel_rfl) ?_
      repeat (go_big_quiet_step (first
        | (go_at_call 31; exact QP.out _ _)))
      refine wpQuiet_nil ?_
      intro _ hw'
      obtain ⟨⟨dq, osq⟩, hw''⟩ := hw'
      subst hw''
      go_wp2_with fail
      · rename_i hne
        have hne2 : Ut.enc c ≠ s.data.toList.take 3 := by
          intro e
          rw [e, Go.ByteArray.toList_eq, Ut.extract_take] at hne
          simp at hne
        rcases HSC.out with ⟨h5, _⟩ | ⟨_, h5⟩
        · exact absurd h5 hne2
        · go_ret2
          rw [h5]
          exact ⟨rfl, below_regrown w dq osq⟩
      · rename_i heq
        have heq2 : Ut.enc c = s.data.toList.take 3 := by
          rw [Go.ByteArray.toList_eq, Ut.extract_take] at heq
          simpa using heq
        rcases HSC.out with ⟨_, h5⟩ | ⟨h5, _⟩
        · go_ret2
          rw [h5]
          exact ⟨rfl, below_regrown w dq osq⟩
        · exact absurd heq2 h5
set_option maxHeartbeats 4000000 in
set_option maxRecDepth 100000 in
theorem rScalar_long4 (s : ByteArray) (w : World) (hs : s.size ≤ 9223372036854775807) (h : 0 < s.size) (h2 : 240 ≤ s[0].toNat) (h3 : s[0].toNat < 248) (h4 : 4 ≤ s.size) :
    Calls Try.prog 25 #[.string s] w fun e w' => e = .returned (.tuple #[.int .i64 ((Ut.sc s.data.toList).1 : Nat), .int .i64 ((Ut.sc s.data.toList).2 : Nat)]) ∧ Below w.heap.size w w' := by
  have hv0 := Ut.vl_zero s 4 h
  have hv1 : ((s[0].toNat : Int) - 240) = ((Ut.vl s.data.toList 4 0 : Nat) : Int) := by
    rw [← hv0]
    show _ = ((s[0].toNat % 8 : Nat) : Int)
    omega
  have HV := hidden hv1
  clear hv0 hv1
  go_enter Try.func25, Try.ntmps25
  go_wp2_with fail
  rw [HV.out]
  rename_i a1 a2 a3 a4 a5 a6 _k _a
  have H2 := hidden h2
  have H3 := hidden h3
  clear a1 a2 a3 a4 a5 a6 h2 h3
  go_loop [5, 6] (fun v i => ∃ k : Nat, k < 4 ∧ i = .int .i64 ((k : Int) + 1) ∧ v = .int .i64 ((Ut.vl s.data.toList 4 k : Nat) : Int)) (fun _ i => 4 - (intOf i).toNat)
  case atStart => exact ⟨0, by decide, rfl, rfl⟩
  case round =>
    obtain ⟨k, hk, rfl, rfl⟩ := hrel
    by_cases hlt : k + 1 < 4
    · have hi : k + 1 < s.size := by omega
      have hn := hidden (Ut.vl_next s 4 k hi)
      have hv := Ut.vl_lt s.data.toList 4 k
      have hv2 : Ut.vl s.data.toList 4 k < 33554432 := by
        refine Nat.lt_of_lt_of_le hv ?_
        obtain rfl | rfl | rfl : k = 0 ∨ k = 1 ∨ k = 2 := by omega
        all_goals decide
      have hb := s[k + 1].toNat_lt
      clear hv
      go_wp2_with fail
      go_round
      case rel => exact ⟨k + 1, hlt, by go_num, by rw [hn.out]; rfl⟩
      case measure => simp [intOf]; omega
    · obtain rfl : k = 3 := by omega
      obtain ⟨c, hc⟩ : ∃ c, c = Ut.vl s.data.toList 4 3 := ⟨_, rfl⟩
      rw [← hc]
      have hsc := Ut.sc_long s 4 h (by unfold Ut.rn; have h2 := H2.out; have h3 := H3.out; rw [if_neg (by omega), if_neg (by omega), if_neg (by omega), if_neg (by omega), if_pos h3]) (by decide) h4
      rw [show 4 - 1 = 3 from rfl, ← hc] at hsc
      have HSC := hidden hsc
      clear hsc hc
      have QP : Hid (∀ d os, Calls Try.prog 31 #[.int .i64 (c : Nat)] (grow (redrawn w d) os) fun e w'' => e = .returned (.string ⟨(Ut.enc c).toArray⟩) ∧ ∃ p : Regrown, w'' = grow (redrawn w p.d) p.os) := fun d os => by
        have := urPut_any (c : Int) (grow (redrawn w d) os)
        rw [Ut.encz_nat] at this
        exact Calls.regrown_of this
      go_wp2_with fail
      refine wp_region_quiet_below (by kernel_rfl) (by kernel_rfl) ?_
      repeat (go_big_quiet_step (first
        | (go_at_call 31; exact QP.out _ _)))
      refine wpQuiet_nil ?_
      intro _ hw'
      obtain ⟨⟨dq, osq⟩, hw''⟩ := hw'
      subst hw''
      go_wp2_with fail
      · rename_i hne
        have hne2 : Ut.enc c ≠ s.data.toList.take 4 := by
          intro e
          rw [e, Go.ByteArray.toList_eq, Ut.extract_take] at hne
          simp at hne
        rcases HSC.out with ⟨h5, _⟩ | ⟨_, h5⟩
        · exact absurd h5 hne2
        · go_ret2
          rw [h5]
          exact ⟨rfl, below_regrown w dq osq⟩
      · rename_i heq
        have heq2 : Ut.enc c = s.data.toList.take 4 := by
          rw [Go.ByteArray.toList_eq, Ut.extract_take] at heq
          simpa using heq
        rcases HSC.out with ⟨_, h5⟩ | ⟨h5, _⟩
        · go_ret2
          rw [h5]
          exact ⟨rfl, below_regrown w dq osq⟩
        · exact absurd heq2 h5
theorem rScalar_any (s : ByteArray) (w : World) (hs : s.size ≤ 9223372036854775807) :
    Calls Try.prog 25 #[.string s] w fun e w' => e = .returned (.tuple #[.int .i64 ((Ut.sc s.data.toList).1 : Nat), .int .i64 ((Ut.sc s.data.toList).2 : Nat)]) ∧ Below w.heap.size w w' := by
  have none : ∀ (x : Nat × Nat), x = (0, 0) → Calls Try.prog 25 #[.string s] w (fun e w' => e = .returned (.tuple #[.int .i64 0, .int .i64 0]) ∧ w' = w) → Calls Try.prog 25 #[.string s] w fun e w' => e = .returned (.tuple #[.int .i64 (x.1 : Nat), .int .i64 (x.2 : Nat)]) ∧ Below w.heap.size w w' := by
    intro x hx h
    subst hx
    refine h.mono ?_
    rintro e w' ⟨rfl, rfl⟩
    exact ⟨rfl, Below.refl _ _⟩
  by_cases h0 : s.size = 0
  · exact none _ (Ut.sc_nil s h0) (rScalar_nil s w h0)
  · have h : 0 < s.size := by omega
    have hr : Ut.rn s[0].toNat = if s[0].toNat < 128 then 1 else if s[0].toNat < 192 then 0 else if s[0].toNat < 224 then 2 else if s[0].toNat < 240 then 3 else if s[0].toNat < 248 then 4 else 0 := rfl
    by_cases h1 : s[0].toNat < 128
    · rw [Ut.sc_byte s h h1]
      refine (rScalar_byte s w h h1).mono ?_
      rintro e w' ⟨rfl, rfl⟩
      exact ⟨rfl, Below.refl _ _⟩
    rw [if_neg h1] at hr
    by_cases h2 : s[0].toNat < 192
    · rw [if_pos h2] at hr
      exact none _ (Ut.sc_odd s h hr) (rScalar_odd s w h (.inl ⟨by omega, h2⟩))
    rw [if_neg h2] at hr
    by_cases h3 : s[0].toNat < 224
    · rw [if_pos h3] at hr
      by_cases h4 : s.size < 2
      · exact none _ (Ut.sc_short s h (by omega)) (rScalar_short2 s w hs h (by omega) h3 h4)
      · exact rScalar_long2 s w hs h (by omega) h3 (by omega)
    rw [if_neg h3] at hr
    by_cases h4 : s[0].toNat < 240
    · rw [if_pos h4] at hr
      by_cases h5 : s.size < 3
      · exact none _ (Ut.sc_short s h (by omega)) (rScalar_short3 s w hs h (by omega) h4 h5)
      · exact rScalar_long3 s w hs h (by omega) h4 (by omega)
    rw [if_neg h4] at hr
    by_cases h5 : s[0].toNat < 248
    · rw [if_pos h5] at hr
      by_cases h6 : s.size < 4
      · exact none _ (Ut.sc_short s h (by omega)) (rScalar_short4 s w hs h (by omega) h5 h6)
      · exact rScalar_long4 s w hs h (by omega) h5 (by omega)
    rw [if_neg h5] at hr
    exact none _ (Ut.sc_odd s h hr) (rScalar_odd s w h (.inr (by omega)))
end Go.Proofs.Ytifkemcjificcaa
