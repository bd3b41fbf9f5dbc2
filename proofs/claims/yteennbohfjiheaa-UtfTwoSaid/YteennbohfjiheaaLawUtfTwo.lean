/-
  The walk of the law UtfTwo: it returns true for every two strings; nothing that was there is changed.
-/
import Derived.Test.YteennbohfjiheaaUtRefP
namespace Go.Proofs.Yteennbohfjiheaa
open Go.RowKit
theorem append_list (s t : ByteArray) : (s ++ t).data.toList = s.data.toList ++ t.data.toList := by
  rw [ByteArray.data_append, Array.toList_append]
set_option maxHeartbeats 1000000 in
theorem UtfTwo_long (s t : ByteArray) (w : World) (hl : 150 < s.size ∨ s.size ≤ 150 ∧ 150 < t.size) (hm : s.size ≤ 9223372036854775807) (hm2 : t.size ≤ 9223372036854775807) :
    Calls Try.prog 8 #[.string s, .string t] w fun e w' => e = .returned (.bool true) ∧ Below w.heap.size w w' := by
  rcases hl with hl | ⟨hl, hl2⟩
  all_goals go_enter Try.func8, Try.ntmps8
  all_goals go_wp2_with fail
  all_goals refine (awake_any w).mono ?_
  all_goals rintro e w1 ⟨rfl, hq1⟩
  all_goals have HQ1 := hidden hq1
  all_goals clear hq1
  all_goals go_wp2_with fail
  all_goals refine (awake_any w1).mono ?_
  all_goals rintro e w2 ⟨rfl, hq2⟩
  all_goals have HQ2 := hidden hq2
  all_goals clear hq2
  all_goals go_wp2_with fail
  all_goals go_ret
  all_goals exact ⟨rfl, HQ1.out.trans (HQ2.out.mono HQ1.out.size)⟩
set_option maxHeartbeats 1000000 in
theorem UtfTwo_not (s t : ByteArray) (w : World) (hl : s.size ≤ 150) (hl2 : t.size ≤ 150) (h : (Ut.run 0 s.data.toList == 0) = false) :
    Calls Try.prog 8 #[.string s, .string t] w fun e w' => e = .returned (.bool true) ∧ Below w.heap.size w w' := by
  have HG := hidden (fun w => Right_any s w (by omega))
  rw [h] at HG
  clear h
  go_enter Try.func8, Try.ntmps8
  go_wp2_with fail
  refine (awake_any w).mono ?_
  rintro e w1 ⟨rfl, hq1⟩
  have HQ1 := hidden hq1
  clear hq1
  go_wp2_with fail
  refine (HG.out _).mono ?_
  rintro e w2 ⟨rfl, rfl⟩
  go_wp2_with fail
  refine (awake_any _).mono ?_
  rintro e w3 ⟨rfl, hq2⟩
  have HQ2 := hidden hq2
  clear hq2
  go_wp2_with fail
  go_ret
  exact ⟨rfl, HQ1.out.trans (HQ2.out.mono HQ1.out.size)⟩
set_option maxHeartbeats 1000000 in
theorem UtfTwo_right (s t : ByteArray) (w : World) (hl : s.size ≤ 150) (hl2 : t.size ≤ 150) (h : (Ut.run 0 s.data.toList == 0) = true) :
    Calls Try.prog 8 #[.string s, .string t] w fun e w' => e = .returned (.bool true) ∧ Below w.heap.size w w' := by
  have h0 : Ut.run 0 s.data.toList = 0 := eq_of_beq h
  have hsz : (s ++ t).size ≤ 9223372036854775807 := by
    rw [ByteArray.size_append]
    omega
  have HG := hidden (fun w => Right_any s w (by omega))
  rw [h] at HG
  have HT := hidden (fun w => Live_any t w (by omega))
  have HU := hidden (fun w => Right_any t w (by omega))
  have HST := hidden (fun w => Live_any (s ++ t) w hsz)
  have HSU := hidden (fun w => Right_any (s ++ t) w hsz)
  have ha := Ut.run_alive 0 s.data.toList t.data.toList (by rw [h0]; decide)
  have hr := Ut.run_append 0 s.data.toList t.data.toList
  rw [h0] at ha hr
  rw [append_list, ha, show s.data.toList.length = s.size from rfl, show ((s.size + Ut.alive 0 t.data.toList : Nat) : Int) = (s.size : Int) + ((Ut.alive 0 t.data.toList : Nat) : Int) from by omega] at HST
  rw [append_list, hr] at HSU
  have hAl := Ut.alive_le 0 t.data.toList
  rw [show t.data.toList.length = t.size from rfl] at hAl
  obtain ⟨A, hA⟩ : ∃ A, A = Ut.alive 0 t.data.toList := ⟨_, rfl⟩
  obtain ⟨R, hR⟩ : ∃ R, R = (Ut.run 0 t.data.toList == 0) := ⟨_, rfl⟩
  rw [← hA] at HT HST hAl
  rw [← hR] at HU HSU
  clear h h0 hsz ha hr hA hR
  go_enter Try.func8, Try.ntmps8
  go_wp2_with fail
  refine (awake_any w).mono ?_
  rintro e w1 ⟨rfl, hq1⟩
  have HQ1 := hidden hq1
  clear hq1
  go_wp2_with fail
  refine (HG.out _).mono ?_
  rintro e w2 ⟨rfl, rfl⟩
  go_wp2_with fail
  refine (HST.out _).mono ?_
  rintro e w3 ⟨rfl, rfl⟩
  go_wp2_with fail
  refine (HT.out _).mono ?_
  rintro e w4 ⟨rfl, rfl⟩
  go_wp2_with fail
  refine (HSU.out _).mono ?_
  rintro e w5 ⟨rfl, rfl⟩
  go_wp2_with fail
  refine (HU.out _).mono ?_
  rintro e w6 ⟨rfl, rfl⟩
  go_wp2_with fail
  go_ret
  refine ⟨ret_bool ?_, HQ1.out⟩
  cases R <;> rfl
theorem UtfTwo_walk (s t : ByteArray) (w : World) (hm : s.size ≤ 9223372036854775807) (hm2 : t.size ≤ 9223372036854775807) :
    Calls Try.prog 8 #[.string s, .string t] w fun e w' => e = .returned (.bool true) ∧ Below w.heap.size w w' := by
  by_cases hl : s.size ≤ 150
  · by_cases hl2 : t.size ≤ 150
    · cases h : (Ut.run 0 s.data.toList == 0) with
      | true => exact UtfTwo_right s t w hl hl2 h
      | false => exact UtfTwo_not s t w hl hl2 h
    · exact UtfTwo_long s t w (.inr ⟨hl, by omega⟩) hm hm2
  · exact UtfTwo_long s t w (.inl (by omega)) hm hm2
end Go.Proofs.Yteennbohfjiheaa
