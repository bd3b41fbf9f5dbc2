/-
  The walk of the law EscQuotes: it returns true for every string; nothing that was there is changed.
-/
import Derived.Test.YtjhjkahjljikhaaEsRefB
import Derived.Test.YtjhjkahjljikhaaLawEscTwo
namespace Go.Proofs.Ytjhjkahjljikhaa
open Go.RowKit
set_option maxHeartbeats 1000000 in
theorem EscQuotes_long (t : ByteArray) (w : World) (hl : 300 < t.size) (hm : t.size ≤ 9223372036854775807) :
    Calls Try.prog 5 #[.string t] w fun e w' => e = .returned (.bool true) ∧ Below w.heap.size w w' := by
  go_enter Try.func5, Try.ntmps5
  go_wp2_with fail
  refine (awake11_any w).mono ?_
  rintro e w1 ⟨rfl, h1⟩
  have HB1 := hidden h1
  clear h1
  go_wp2_with fail
  refine (awake11_any w1).mono ?_
  rintro e w2 ⟨rfl, h2⟩
  have HB2 := hidden (Es.below_after HB1.out h2)
  clear h2
  go_wp2_with fail
  go_ret
  exact ⟨rfl, HB2.out⟩
set_option maxHeartbeats 2000000 in
set_option maxRecDepth 100000 in
theorem EscQuotes_no (t : ByteArray) (w : World) (hl : t.size ≤ 300) (h : Ut.run 0 t.data.toList ≠ 0) :
    Calls Try.prog 5 #[.string t] w fun e w' => e = .returned (.bool true) ∧ Below w.heap.size w w' := by
  have HQ := hidden (fun w => esQuote_any t w (by omega))
  have HZ := hidden (fun w => esSingle_any t w (by omega))
  have HR := hidden (fun w => rRight_es t w hl)
  rw [Es.be_no h, Es.bt_no _ h] at HQ HZ
  rw [show (Ut.run 0 t.data.toList == 0) = false from by rw [beq_eq_false_iff_ne]; exact h] at HR
  clear h
  go_enter Try.func5, Try.ntmps5
  go_wp2_with fail
  refine (awake11_any w).mono ?_
  rintro e w1 ⟨rfl, h1⟩
  have HB1 := hidden h1
  clear h1
  go_wp2_with fail
  refine (HQ.out w1).mono ?_
  rintro e w2 ⟨rfl, h2⟩
  have HB2 := hidden (Es.below_after HB1.out h2)
  clear h2
  go_wp2_with fail
  refine (HZ.out w2).mono ?_
  rintro e w3 ⟨rfl, h3⟩
  have HB3 := hidden (Es.below_after HB2.out h3)
  clear h3
  go_wp2_with fail
  refine (HR.out w3).mono ?_
  rintro e w4 ⟨rfl, h4⟩
  have HB4 := hidden (Es.below_after HB3.out h4)
  clear h4
  go_wp2_with fail
  go_ret
  exact ⟨rfl, HB4.out⟩
set_option maxHeartbeats 2000000 in
set_option maxRecDepth 100000 in
theorem EscQuotes_yes (t : ByteArray) (w : World) (hl : t.size ≤ 300) (h : Ut.run 0 t.data.toList = 0) :
    Calls Try.prog 5 #[.string t] w fun e w' => e = .returned (.bool true) ∧ Below w.heap.size w w' := by
  have HQ := hidden (fun w => esQuote_any t w (by omega))
  have HZ := hidden (fun w => esSingle_any t w (by omega))
  have HR := hidden (fun w => rRight_es t w hl)
  have HP := hidden (fun w => rQuote_any t w (by omega))
  have HB := hidden (fun w => rBetween_any t 39 w (by omega))
  rw [Es.be_yes h, Es.bt_yes _ h] at HQ HZ
  rw [show (Ut.run 0 t.data.toList == 0) = true from by rw [beq_iff_eq]; exact h] at HR
  obtain ⟨Q, hQ⟩ : ∃ Q : ByteArray, Q = ⟨(Es.qu 34 t.data.toList).toArray⟩ := ⟨_, rfl⟩
  obtain ⟨Z, hZ⟩ : ∃ Z : ByteArray, Z = ⟨(Es.qu 39 t.data.toList).toArray⟩ := ⟨_, rfl⟩
  rw [← hQ] at HQ HP
  rw [← hZ] at HZ HB
  clear h hQ hZ
  go_enter Try.func5, Try.ntmps5
  go_wp2_with fail
  refine (awake11_any w).mono ?_
  rintro e w1 ⟨rfl, h1⟩
  have HB1 := hidden h1
  clear h1
  go_wp2_with fail
  refine (HQ.out w1).mono ?_
  rintro e w2 ⟨rfl, h2⟩
  have HB2 := hidden (Es.below_after HB1.out h2)
  clear h2
  go_wp2_with fail
  refine (HZ.out w2).mono ?_
  rintro e w3 ⟨rfl, h3⟩
  have HB3 := hidden (Es.below_after HB2.out h3)
  clear h3
  go_wp2_with fail
  refine (HR.out w3).mono ?_
  rintro e w4 ⟨rfl, h4⟩
  have HB4 := hidden (Es.below_after HB3.out h4)
  clear h4
  go_wp2_with fail
  refine (HP.out w4).mono ?_
  rintro e w5 ⟨rfl, h5⟩
  have HB5 := hidden (Es.below_after HB4.out h5)
  clear h5
  go_wp2_with fail
  refine (HB.out w5).mono ?_
  rintro e w6 ⟨rfl, h6⟩
  have HB6 := hidden (Es.below_after HB5.out h6)
  clear h6
  go_wp2_with fail
  go_ret
  exact ⟨rfl, HB6.out⟩
theorem EscQuotes_walk (t : ByteArray) (w : World) (hm : t.size ≤ 9223372036854775807) :
    Calls Try.prog 5 #[.string t] w fun e w' => e = .returned (.bool true) ∧ Below w.heap.size w w' := by
  by_cases hl : t.size ≤ 300
  · by_cases h : Ut.run 0 t.data.toList = 0
    · exact EscQuotes_yes t w hl h
    · exact EscQuotes_no t w hl h
  · exact EscQuotes_long t w (by omega) hm
end Go.Proofs.Ytjhjkahjljikhaa
