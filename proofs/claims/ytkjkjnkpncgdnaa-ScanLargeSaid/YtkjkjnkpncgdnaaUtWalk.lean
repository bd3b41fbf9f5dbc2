/-
  The contracts of package utf's walk, Live, Right and leading: for every string; nothing in memory is changed.
-/
import Derived.Test.YtkjkjnkpncgdnaaUtStep
namespace Go.Proofs.Ytkjkjnkpncgdnaa
open Go.RowKit
theorem hidden {p : Prop} (h : p) : Hid p := h
theorem take_next (s : ByteArray) (q k : Nat) (h : k < s.size) : Ut.run q (s.data.toList.take (k + 1)) = Ut.st (Ut.run q (s.data.toList.take k)) (s[k]).toNat := Ut.run_take_succ q s.data.toList k h
theorem take_all (s : ByteArray) : s.data.toList.take s.size = s.data.toList := List.take_length
set_option maxHeartbeats 1000000 in
theorem walk_any (s : ByteArray) (w : World) (hs : s.size ≤ 9223372036854775807) :
    Calls Try.prog 18 #[.string s] w fun e w' => e = .returned (.tuple #[.int .i64 ((Ut.alive 0 s.data.toList : Nat) : Int), .int .i64 ((Ut.run 0 s.data.toList : Nat) : Int)]) ∧ w' = w := by
  go_enter Try.func18, Try.ntmps18
  go_wp2_with fail
  go_loop [4, 8] (fun v i => ∃ k : Nat, k ≤ s.size ∧ i = .int .i64 k ∧ v = .int .i64 ((Ut.run 0 (s.data.toList.take k) : Nat) : Int) ∧ Ut.run 0 (s.data.toList.take k) ≤ 7) (fun _ i => s.size - (intOf i).toNat)
  case atStart => exact ⟨0, by omega, rfl, rfl, Nat.zero_le _⟩
  case round =>
    obtain ⟨k, hk, rfl, rfl, h8⟩ := hrel
    by_cases hlt : k < s.size
    · have hn := take_next s 0 k hlt
      have hd := Ut.died 0 s.data.toList k hlt (by omega)
      obtain ⟨q, hq⟩ : ∃ q, q = Ut.run 0 (s.data.toList.take k) := ⟨_, rfl⟩
      rw [← hq] at hn hd h8
      rw [← hq]
      have hle := Ut.st_le q (s[k]).toNat
      obtain ⟨p, hp⟩ : ∃ p, p = Ut.st q (s[k]).toNat := ⟨_, rfl⟩
      have hd2 : p = 8 → _ := fun e => hd (hp.symm.trans e)
      rw [← hp] at hn hle
      have HN := hidden hn
      have HD := hidden hd2
      have HP := hidden hp
      clear hn hd hd2 hp hq
      by_cases h : p = 8
      · have hD := HD.out h
        have HD2 := hidden hD
        clear hD
        have HH := hidden h
        go_wp2_with fail
        refine (Step_nat q _ (by omega) _).mono ?_
        rintro e w1 ⟨rfl, rfl⟩
        rw [← HP.out, HH.out]
        go_wp2_with fail
        go_ret2
        rw [HD2.out.1, HD2.out.2]
        exact ⟨rfl, rfl⟩
      · have h7 : p ≤ 7 := by omega
        have hb : (((p : Nat) : Int) == 8) = false := by rw [beq_eq_false_iff_ne]; omega
        clear h
        go_wp2_with fail
        refine (Step_nat q _ (by omega) _).mono ?_
        rintro e w1 ⟨rfl, rfl⟩
        rw [← HP.out]
        go_wp2_with fail
        go_round
        case rel => exact ⟨k + 1, by omega, by go_num, by rw [HN.out], by rw [HN.out]; exact h7⟩
        case measure => simp [intOf]; omega
    · obtain rfl : k = s.size := by omega
      rw [take_all] at h8
      rw [take_all]
      have ha := hidden (Ut.alive_all 0 s.data.toList (by omega))
      have HS : Hid (s.data.toList.length = s.size) := hidden rfl
      obtain ⟨q, hq⟩ : ∃ q, q = Ut.run 0 s.data.toList := ⟨_, rfl⟩
      rw [← hq] at h8
      rw [← hq]
      have HQ := hidden hq
      clear hq
      go_wp2_with fail
      go_ret2
      rw [ha.out, HS.out, ← HQ.out]
      exact ⟨rfl, rfl⟩
theorem Live_any (s : ByteArray) (w : World) (hs : s.size ≤ 9223372036854775807) :
    Calls Try.prog 14 #[.string s] w fun e w' => e = .returned (.int .i64 ((Ut.alive 0 s.data.toList : Nat) : Int)) ∧ w' = w := by
  go_enter Try.func14, Try.ntmps14
  go_wp2_with fail
  refine (walk_any s _ hs).mono ?_
  rintro e w1 ⟨rfl, rfl⟩
  go_wp2_with fail
  go_ret
  exact ⟨rfl, rfl⟩
end Go.Proofs.Ytkjkjnkpncgdnaa
