/-
  The contracts of package utf's walk, Live, Right and leading: for every string; nothing in memory is changed.
-/
import Derived.Test.YtjhjkahjljikhaaUtStep
namespace Go.Proofs.Ytjhjkahjljikhaa
open Go.RowKit
theorem hidden {p : Prop} (h : p) : Hid p := h
theorem take_next (s : ByteArray) (q k : Nat) (h : k < s.size) : Ut.run q (s.data.toList.take (k + 1)) = Ut.st (Ut.run q (s.data.toList.take k)) (s[k]).toNat := Ut.run_take_succ q s.data.toList k h
theorem take_all (s : ByteArray) : s.data.toList.take s.size = s.data.toList := List.take_length
set_option maxHeartbeats 1000000 in
theorem walk_any (s : ByteArray) (w : World) (hs : s.size ≤ 9223372036854775807) :
    Calls Try.prog 46 #[.string s] w fun e w' => e = .returned (.tuple #[.int .i64 ((Ut.alive 0 s.data.toList : Nat) : Int), .int .i64 ((Ut.run 0 s.data.toList : Nat) : Int)]) ∧ w' = w := by
  go_enter Try.func46, Try.ntmps46
  go_wp2_with fail
  go_loop [4, 8] (fun v i => ∃ k : Nat, k ≤ s.size ∧ i = .int .i64 k ∧ v = .int .i64 ((Ut.run 0 (s.data.toList.take k) : Nat) : Int) ∧ Ut.run 0 (s.data.toList.take k) ≤ 7) (fun _ i => s.size - (intOf i).toNat)
  case atStart => exact ⟨0, by omega, rfl, rfl, Nat.zero_le _⟩
  case round =>
    obtain ⟨k, hk, rfl, rfl, h8⟩ := hrel
    by_cases hlt : k < s.size
    · have hn := take_next s 0 k hlt
      have hd := Ut.died 0 s.data.toList k hlt (by omega)
      obtain ⟨q, hq⟩ : ∃ q, q = Ut.run 0 (s.data.toList.take k) := ⟨_, rfl⟩
      rw [← hq] at hn hd h8
      rw [← hq]
      have hle := Ut.st_le q (s[k]).toNat
      obtain ⟨p, hp⟩ : ∃ p, p = Ut.st q (s[k]).toNat := ⟨_, rfl⟩
      have hd2 : p = 8 → _ := fun e => hd (hp.symm.trans e)
      rw [← hp] at hn hle
      have HN := hidden hn
      have HD := hidden hd2
      have HP := hidden hp
      clear hn hd hd2 hp hq
      by_cases h : p = 8
      · have hD := HD.out h
        have HD2 := hidden hD
        clear hD
        have HH := hidden h
        go_wp2_with fail
        refine (Step_nat q _ (by omega) _).mono ?_
        rintro e w1 ⟨rfl, rfl⟩
        rw [← HP.out, HH.out]
        go_wp2_with fail
        go_ret2
        rw [HD2.out.1, HD2.out.2]
        exact ⟨rfl, rfl⟩
      · have h7 : p ≤ 7 := by omega
        have hb : (((p : Nat) : Int) == 8) = false := by rw [beq_eq_false_iff_ne]; omega
        clear h
        go_wp2_with fail
        refine (Step_nat q _ (by omega) _).mono ?_
        rintro e w1 ⟨rfl, rfl⟩
        rw [← HP.out]
        go_wp2_with fail
        go_round
        case rel => exact ⟨k + 1, by omega, by go_num, by rw [HN.out], by rw [HN.out]; exact h7⟩
        case measure => simp [intOf]; omega
    · obtain rfl : k = s.size := by omega
      rw [take_all] at h8
      rw [take_all]
      have ha := hidden (Ut.alive_all 0 s.data.toList (by omega))
      have HS : Hid (s.data.toList.length = s.size) := hidden rfl
      obtain ⟨q, hq⟩ : ∃ q, q = Ut.run 0 s.data.toList := ⟨_, rfl⟩
      rw [← hq] at h8
      rw [← hq]
      have HQ := hidden hq
      clear hq
      go_wp2_with fail
      go_ret2
      rw [ha.out, HS.out, ← HQ.out]
      exact ⟨rfl, rfl⟩
theorem Right_any (s : ByteArray) (w : World) (hs : s.size ≤ 9223372036854775807) :
    Calls Try.prog 37 #[.string s] w fun e w' => e = .returned (.bool (Ut.run 0 s.data.toList == 0)) ∧ w' = w := by
  go_enter Try.func37, Try.ntmps37
  go_wp2_with fail
  refine (walk_any s _ hs).mono ?_
  rintro e w1 ⟨rfl, rfl⟩
  go_wp2_with fail
  go_ret
  refine ⟨ret_bool ?_, rfl⟩
  rw [Bool.eq_iff_iff]
  simp
set_option maxHeartbeats 1000000 in
theorem leading_any (s : ByteArray) (w : World) (hs : s.size ≤ 9223372036854775807) :
    Calls Try.prog 35 #[.string s] w fun e w' => e = .returned (.int .i64 ((Ut.ld 0 s.data.toList : Nat) : Int)) ∧ w' = w := by
  go_enter Try.func35, Try.ntmps35
  go_wp2_with fail
  go_loop [3, 7] (fun v i => ∃ k : Nat, k ≤ s.size ∧ i = .int .i64 k ∧ v = .int .i64 ((Ut.run 0 (s.data.toList.take k) : Nat) : Int) ∧ Ut.run 0 (s.data.toList.take k) ≤ 7 ∧ ∀ i, 0 < i → i ≤ k → Ut.run 0 (s.data.toList.take i) ≠ 0) (fun _ i => s.size - (intOf i).toNat)
  case atStart => exact ⟨0, by omega, rfl, rfl, Nat.zero_le _, fun i h1 h2 => by omega⟩
  case round =>
    obtain ⟨k, hk, rfl, rfl, h8, hf⟩ := hrel
    have HF := hidden hf
    clear hf
    have HS : Hid (s.data.toList.length = s.size) := hidden rfl
    by_cases hlt : k < s.size
    · have hn := take_next s 0 k hlt
      obtain ⟨q, hq⟩ : ∃ q, q = Ut.run 0 (s.data.toList.take k) := ⟨_, rfl⟩
      rw [← hq] at hn h8
      rw [← hq]
      have hle := Ut.st_le q (s[k]).toNat
      obtain ⟨p, hp⟩ : ∃ p, p = Ut.st q (s[k]).toNat := ⟨_, rfl⟩
      rw [← hp] at hn hle
      have HN := hidden hn
      have HP := hidden hp
      clear hn hp hq
      by_cases h0 : p = 0
      · have hL : Ut.ld 0 s.data.toList = k + 1 := Ut.ld_of 0 _ (k + 1) (by omega) (by rw [HS.out]; omega) (by rw [HN.out]; exact h0) (fun i h1 h2 => HF.out i h1 (by omega))
        have HL := hidden hL
        clear hL
        have HH := hidden h0
        clear h0
        go_wp2_with fail
        refine (Step_nat q _ (by omega) _).mono ?_
        rintro e w1 ⟨rfl, rfl⟩
        rw [← HP.out, HH.out]
        go_wp2_with fail
        go_ret
        rw [HL.out]
        exact ⟨ret_int (by omega), rfl⟩
      · by_cases h : p = 8
        · have hL : Ut.ld 0 s.data.toList = 0 := by
            refine Ut.ld_zero_of 0 _ (fun i h1 h2 => ?_)
            by_cases h3 : i ≤ k
            · exact HF.out i h1 h3
            · have e : s.data.toList.take i = s.data.toList.take (k + 1) ++ (s.data.toList.take i).drop (k + 1) := by
                conv => lhs; rw [← List.take_append_drop (k + 1) (s.data.toList.take i)]
                rw [List.take_take, Nat.min_eq_left (by omega)]
              rw [e, Ut.run_append, HN.out, h, Ut.run_dead]
              decide
          have HL := hidden hL
          clear hL
          have HH := hidden h
          clear h h0
          go_wp2_with fail
          refine (Step_nat q _ (by omega) _).mono ?_
          rintro e w1 ⟨rfl, rfl⟩
          rw [← HP.out, HH.out]
          go_wp2_with fail
          go_ret
          rw [HL.out]
          exact ⟨rfl, rfl⟩
        · have h7 : p ≤ 7 := by omega
          have hb : (((p : Nat) : Int) == 8) = false := by rw [beq_eq_false_iff_ne]; omega
          have hb0 : (((p : Nat) : Int) == 0) = false := by rw [beq_eq_false_iff_ne]; omega
          have H0 := hidden h0
          clear h h0
          go_wp2_with fail
          refine (Step_nat q _ (by omega) _).mono ?_
          rintro e w1 ⟨rfl, rfl⟩
          rw [← HP.out]
          go_wp2_with fail
          go_round
          case rel =>
            refine ⟨k + 1, by omega, by go_num, by rw [HN.out], by rw [HN.out]; exact h7, fun i h1 h2 => ?_⟩
            by_cases h3 : i ≤ k
            · exact HF.out i h1 h3
            · obtain rfl : i = k + 1 := by omega
              rw [HN.out]
              exact H0.out
          case measure => simp [intOf]; omega
    · obtain rfl : k = s.size := by omega
      have hL : Ut.ld 0 s.data.toList = 0 := Ut.ld_zero_of 0 _ (fun i h1 h2 => HF.out i h1 (by rw [HS.out] at h2; exact h2))
      have HL := hidden hL
      clear hL
      obtain ⟨q, hq⟩ : ∃ q, q = Ut.run 0 (s.data.toList.take s.size) := ⟨_, rfl⟩
      rw [← hq] at h8
      rw [← hq]
      clear hq
      go_wp2_with fail
      go_ret
      rw [HL.out]
      exact ⟨rfl, rfl⟩
end Go.Proofs.Ytjhjkahjljikhaa
