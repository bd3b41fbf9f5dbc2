/-
  The walk of the law EscTexts: it returns true for every string; nothing that was there is changed.
-/
import Derived.Test.YtjhjkahjljikhaaEsRefT
import Derived.Test.YtjhjkahjljikhaaEsAwake
namespace Go.Proofs.Ytjhjkahjljikhaa
open Go.RowKit
set_option maxHeartbeats 1000000 in
theorem EscTexts_long (s : ByteArray) (w : World) (hl : 300 < s.size) (hm : s.size ≤ 9223372036854775807) :
    Calls Try.prog 3 #[.string s] w fun e w' => e = .returned (.bool true) ∧ Below w.heap.size w w' := by
  go_enter Try.func3, Try.ntmps3
  go_wp2_with fail
  refine (awake11_any w).mono ?_
  rintro e w1 ⟨rfl, h1⟩
  have HB1 := hidden h1
  clear h1
  go_wp2_with fail
  refine (awake11_any w1).mono ?_
  rintro e w2 ⟨rfl, h2⟩
  have HB2 := hidden (Es.below_after HB1.out h2)
  clear h2
  go_wp2_with fail
  go_ret
  exact ⟨rfl, HB2.out⟩
set_option maxHeartbeats 2000000 in
set_option maxRecDepth 100000 in
theorem EscTexts_no (s : ByteArray) (w : World) (hl : s.size ≤ 300) (h : Es.ok s.data.toList = false) :
    Calls Try.prog 3 #[.string s] w fun e w' => e = .returned (.bool true) ∧ Below w.heap.size w w' := by
  have HT := hidden (fun w => esText_any s w (by omega))
  have HR := hidden (fun w => rText_any s w (by omega))
  have HI := hidden (fun w => esIs_any s w (by omega))
  have HE := hidden (fun w => esEqual_any s ⟨#[]⟩ w (by omega) (by decide))
  obtain ⟨t1, t2⟩ := Es.txt_no h
  have he : Es.eqv s.data.toList (⟨#[]⟩ : ByteArray).data.toList = false := by
    unfold Es.eqv
    rw [h]
    rfl
  rw [t1, t2] at HT
  rw [t1, h] at HR
  rw [h] at HI
  rw [he] at HE
  clear h t1 t2 he
  go_enter Try.func3, Try.ntmps3
  go_wp2_with fail
  refine (awake11_any w).mono ?_
  rintro e w1 ⟨rfl, h1⟩
  have HB1 := hidden h1
  clear h1
  go_wp2_with fail
  refine (HT.out w1).mono ?_
  rintro e w2 ⟨rfl, h2⟩
  have HB2 := hidden (Es.below_after HB1.out h2)
  clear h2
  go_wp2_with fail
  refine (HR.out w2).mono ?_
  rintro e w3 ⟨rfl, h3⟩
  have HB3 := hidden (Es.below_after HB2.out h3)
  clear h3
  go_wp2_with fail
  refine (HI.out w3).mono ?_
  rintro e w4 ⟨rfl, h4⟩
  have HB4 := hidden (Es.below_after HB3.out h4)
  clear h4
  go_wp2_with fail
  refine (HE.out w4).mono ?_
  rintro e w5 ⟨rfl, h5⟩
  have HB5 := hidden (Es.below_after HB4.out h5)
  clear h5
  go_wp2_with fail
  go_ret
  exact ⟨rfl, HB5.out⟩
set_option maxHeartbeats 2000000 in
set_option maxRecDepth 100000 in
theorem EscTexts_yes (s : ByteArray) (w : World) (hl : s.size ≤ 300) (h : Es.ok s.data.toList = true) :
    Calls Try.prog 3 #[.string s] w fun e w' => e = .returned (.bool true) ∧ Below w.heap.size w w' := by
  have HT := hidden (fun w => esText_any s w (by omega))
  have HR := hidden (fun w => rText_any s w (by omega))
  have HI := hidden (fun w => esIs_any s w (by omega))
  obtain ⟨t1, t2⟩ := Es.txt_yes h
  obtain ⟨T, hT⟩ : ∃ T : ByteArray, T = ⟨(Es.tx s.data.toList).toArray⟩ := ⟨_, rfl⟩
  have hTs : T.size ≤ s.size := by rw [hT]; exact Es.tx_len s.data.toList
  have HE := hidden (fun w => esEqual_any s T w (by omega) (by omega))
  have he : Es.eqv s.data.toList T.data.toList = true := by
    unfold Es.eqv
    rw [h, hT]
    simp
  rw [t1, t2, ← hT] at HT
  rw [t1, h, ← hT] at HR
  rw [h] at HI
  rw [he] at HE
  clear h t1 t2 he hT
  go_enter Try.func3, Try.ntmps3
  go_wp2_with fail
  refine (awake11_any w).mono ?_
  rintro e w1 ⟨rfl, h1⟩
  have HB1 := hidden h1
  clear h1
  go_wp2_with fail
  refine (HT.out w1).mono ?_
  rintro e w2 ⟨rfl, h2⟩
  have HB2 := hidden (Es.below_after HB1.out h2)
  clear h2
  go_wp2_with fail
  refine (HR.out w2).mono ?_
  rintro e w3 ⟨rfl, h3⟩
  have HB3 := hidden (Es.below_after HB2.out h3)
  clear h3
  go_wp2_with fail
  refine (HI.out w3).mono ?_
  rintro e w4 ⟨rfl, h4⟩
  have HB4 := hidden (Es.below_after HB3.out h4)
  clear h4
  go_wp2_with fail
  refine (HE.out w4).mono ?_
  rintro e w5 ⟨rfl, h5⟩
  have HB5 := hidden (Es.below_after HB4.out h5)
  clear h5
  go_wp2_with fail
  go_ret
  exact ⟨rfl, HB5.out⟩
theorem EscTexts_walk (s : ByteArray) (w : World) (hm : s.size ≤ 9223372036854775807) :
    Calls Try.prog 3 #[.string s] w fun e w' => e = .returned (.bool true) ∧ Below w.heap.size w w' := by
  by_cases hl : s.size ≤ 300
  · cases h : Es.ok s.data.toList with
    | true => exact EscTexts_yes s w hl h
    | false => exact EscTexts_no s w hl h
  · exact EscTexts_long s w (by omega) hm
end Go.Proofs.Ytjhjkahjljikhaa
