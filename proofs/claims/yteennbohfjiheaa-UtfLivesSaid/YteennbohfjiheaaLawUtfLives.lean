/-
  The walk of the law UtfLives: it returns true for every string; nothing that was there is changed.
-/
import Derived.Test.YteennbohfjiheaaUtLive
namespace Go.Proofs.Yteennbohfjiheaa
open Go.RowKit
set_option maxHeartbeats 1000000 in
theorem UtfLives_long (s : ByteArray) (w : World) (hl : 300 < s.size) (hm : s.size ≤ 9223372036854775807) :
    Calls Try.prog 4 #[.string s] w fun e w' => e = .returned (.bool true) ∧ Below w.heap.size w w' := by
  go_enter Try.func4, Try.ntmps4
  go_wp2_with fail
  refine (awake_any w).mono ?_
  rintro e w1 ⟨rfl, hq1⟩
  have HQ1 := hidden hq1
  clear hq1
  go_wp2_with fail
  refine (awake_any w1).mono ?_
  rintro e w2 ⟨rfl, hq2⟩
  have HQ2 := hidden hq2
  clear hq2
  go_wp2_with fail
  go_ret
  exact ⟨rfl, HQ1.out.trans (HQ2.out.mono HQ1.out.size)⟩
set_option maxHeartbeats 1000000 in
theorem UtfLives_short (s : ByteArray) (w : World) (hl : s.size ≤ 300) :
    Calls Try.prog 4 #[.string s] w fun e w' => e = .returned (.bool true) ∧ Below w.heap.size w w' := by
  have HG := hidden (fun w => Right_any s w (by omega))
  have HRG := hidden (fun w => rRight_any s w hl)
  have HL := hidden (fun w => Live_any s w (by omega))
  have HRL := hidden (fun w => rLive_any s w hl)
  obtain ⟨A, hA⟩ : ∃ A, A = Ut.alive 0 s.data.toList := ⟨_, rfl⟩
  obtain ⟨R, hR⟩ : ∃ R, R = (Ut.run 0 s.data.toList == 0) := ⟨_, rfl⟩
  rw [← hA] at HL HRL
  rw [← hR] at HG HRG
  clear hA hR
  have hAA : ((A : Int) == (A : Int)) = true := by simp
  have hRR : (R == R) = true := by simp
  go_enter Try.func4, Try.ntmps4
  go_wp2_with fail
  refine (awake_any w).mono ?_
  rintro e w1 ⟨rfl, hq1⟩
  have HQ1 := hidden hq1
  clear hq1
  go_wp2_with fail
  refine (HG.out _).mono ?_
  rintro e w2 ⟨rfl, rfl⟩
  go_wp2_with fail
  refine (HRG.out _).mono ?_
  rintro e w3 ⟨rfl, hq3⟩
  have HQ3 := hidden (HQ1.out.trans (hq3.mono HQ1.out.size))
  clear hq3
  go_wp2_with fail
  refine (HL.out _).mono ?_
  rintro e w4 ⟨rfl, rfl⟩
  go_wp2_with fail
  refine (HRL.out _).mono ?_
  rintro e w5 ⟨rfl, hq5⟩
  have HQ5 := hidden (HQ3.out.trans (hq5.mono HQ3.out.size))
  clear hq5
  go_wp2_with fail
  go_ret
  exact ⟨rfl, HQ5.out⟩
theorem UtfLives_walk (s : ByteArray) (w : World) (hm : s.size ≤ 9223372036854775807) :
    Calls Try.prog 4 #[.string s] w fun e w' => e = .returned (.bool true) ∧ Below w.heap.size w w' := by
  by_cases hl : s.size ≤ 300
  · exact UtfLives_short s w hl
  · exact UtfLives_long s w (by omega) hm
end Go.Proofs.Yteennbohfjiheaa
