/-
  The walk of the law UtfLong: it returns true for every string; nothing that was there is changed.
-/
import Derived.Test.YteennbohfjiheaaUtRefP
namespace Go.Proofs.Yteennbohfjiheaa
open Go.RowKit
set_option maxHeartbeats 1000000 in
theorem UtfLong_long (s : ByteArray) (w : World) (hl : 300 < s.size) (hm : s.size ≤ 9223372036854775807) :
    Calls Try.prog 7 #[.string s] w fun e w' => e = .returned (.bool true) ∧ Below w.heap.size w w' := by
  go_enter Try.func7, Try.ntmps7
  go_wp2_with fail
  refine (awake_any w).mono ?_
  rintro e w1 ⟨rfl, hq1⟩
  have HQ1 := hidden hq1
  clear hq1
  go_wp2_with fail
  refine (awake_any w1).mono ?_
  rintro e w2 ⟨rfl, hq2⟩
  have HQ2 := hidden hq2
  clear hq2
  go_wp2_with fail
  go_ret
  exact ⟨rfl, HQ1.out.trans (HQ2.out.mono HQ1.out.size)⟩
set_option maxHeartbeats 1000000 in
theorem UtfLong_short (s : ByteArray) (w : World) (hl : s.size ≤ 300) :
    Calls Try.prog 7 #[.string s] w fun e w' => e = .returned (.bool true) ∧ Below w.heap.size w w' := by
  obtain ⟨A, hA⟩ : ∃ A, A = Ut.alive 0 s.data.toList := ⟨_, rfl⟩
  obtain ⟨R, hR⟩ : ∃ R, R = Ut.run 0 s.data.toList := ⟨_, rfl⟩
  have HL := hidden (fun w => Live_any s w (by omega))
  have HG := hidden (fun w => Right_any s w (by omega))
  rw [← hA] at HL
  rw [← hR] at HG
  have HA := hidden hA
  have HR := hidden hR
  have HS : Hid (s.data.toList.length = s.size) := hidden rfl
  clear hA hR
  go_enter Try.func7, Try.ntmps7
  go_wp2_with fail
  refine (awake_any w).mono ?_
  rintro e w1 ⟨rfl, hq1⟩
  have HQ1 := hidden hq1
  clear hq1
  go_wp2_with fail
  go_loop [3, 4] (fun v i => ∃ k : Nat, k ≤ s.size ∧ i = .int .i64 k ∧ v = .int .i64 ((Ut.run 0 (s.data.toList.take k) : Nat) : Int) ∧ Ut.run 0 (s.data.toList.take k) ≤ 7) (fun _ i => s.size - (intOf i).toNat)
  case atStart => exact ⟨0, by omega, rfl, rfl, Nat.zero_le _⟩
  case round =>
    obtain ⟨k, hk, rfl, rfl, h8⟩ := hrel
    by_cases hlt : k < s.size
    · have hn := take_next s 0 k hlt
      have hd := Ut.died 0 s.data.toList k hlt (by omega)
      obtain ⟨q, hq⟩ : ∃ q, q = Ut.run 0 (s.data.toList.take k) := ⟨_, rfl⟩
      rw [← hq] at hn hd h8
      rw [← hq]
      have hle := Ut.st_le q (s[k]).toNat
      obtain ⟨p, hp⟩ : ∃ p, p = Ut.st q (s[k]).toNat := ⟨_, rfl⟩
      have hd2 : p = 8 → _ := fun e => hd (hp.symm.trans e)
      rw [← hp] at hn hle
      have HN := hidden hn
      have HD := hidden hd2
      have HP := hidden hp
      clear hn hd hd2 hp hq
      by_cases h : p = 8
      · have hD := HD.out h
        rw [← HA.out, ← HR.out] at hD
        obtain ⟨rfl, rfl⟩ := hD
        have HH := hidden h
        clear h
        go_wp2_with fail
        refine (Step_nat q _ (by omega) _).mono ?_
        rintro e w2 ⟨rfl, rfl⟩
        rw [← HP.out, HH.out]
        go_wp2_with fail
        refine (HL.out _).mono ?_
        rintro e w3 ⟨rfl, rfl⟩
        go_wp2_with fail
        refine (HG.out _).mono ?_
        rintro e w4 ⟨rfl, rfl⟩
        go_wp2_with fail
        go_ret
        exact ⟨rfl, HQ1.out⟩
      · have h7 : p ≤ 7 := by omega
        have hb : (((p : Nat) : Int) == 8) = false := by rw [beq_eq_false_iff_ne]; omega
        clear h
        go_wp2_with fail
        refine (Step_nat q _ (by omega) _).mono ?_
        rintro e w2 ⟨rfl, rfl⟩
        rw [← HP.out]
        go_wp2_with fail
        go_round
        case rel => exact ⟨k + 1, by omega, by go_num, by rw [HN.out], by rw [HN.out]; exact h7⟩
        case measure => simp [intOf]; omega
    · obtain rfl : k = s.size := by omega
      rw [take_all] at h8
      rw [take_all, ← HR.out]
      rw [← HR.out] at h8
      have hAl : A = s.size := by
        have := Ut.alive_all 0 s.data.toList (by rw [← HR.out]; omega)
        rw [← HA.out, HS.out] at this
        exact this
      subst hAl
      go_wp2_with fail
      refine (HL.out _).mono ?_
      rintro e w3 ⟨rfl, rfl⟩
      go_wp2_with fail
      refine (HG.out _).mono ?_
      rintro e w4 ⟨rfl, rfl⟩
      go_wp2_with fail
      go_ret
      refine ⟨ret_bool ?_, HQ1.out⟩
      by_cases h0 : R = 0
      · subst h0
        rfl
      · have e1 : (R == 0) = false := by rw [beq_eq_false_iff_ne]; exact h0
        have e2 : ((R : Int) == 0) = false := by rw [beq_eq_false_iff_ne]; omega
        rw [e1, e2]
        rfl
theorem UtfLong_walk (s : ByteArray) (w : World) (hm : s.size ≤ 9223372036854775807) :
    Calls Try.prog 7 #[.string s] w fun e w' => e = .returned (.bool true) ∧ Below w.heap.size w w' := by
  by_cases hl : s.size ≤ 300
  · exact UtfLong_short s w hl
  · exact UtfLong_long s w (by omega) hm
end Go.Proofs.Yteennbohfjiheaa
