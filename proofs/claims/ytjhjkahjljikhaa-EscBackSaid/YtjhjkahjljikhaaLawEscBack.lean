/-
  The walk of the law EscBack: it returns true for every string; nothing that was there is changed.
-/
import Derived.Test.YtjhjkahjljikhaaLawEscTwo
namespace Go.Proofs.Ytjhjkahjljikhaa
open Go.RowKit
namespace Es
theorem mk_data (s : ByteArray) : (⟨s.data.toList.toArray⟩ : ByteArray) = s := by
  obtain ⟨⟨l⟩⟩ := s
  rfl
theorem qu_txt (l : List UInt8) (h : Ut.run 0 l = 0) : txt (qu 34 l) = l ∧ txe (qu 34 l) = 0 ∧ eqv (qu 34 l) l = true := by
  obtain ⟨h1, h2⟩ := qu_text l h
  obtain ⟨h3, h4⟩ := txt_yes h1
  refine ⟨by rw [h3, h2], h4, ?_⟩
  unfold eqv
  rw [h1, h2]
  simp
end Es
set_option maxHeartbeats 1000000 in
theorem EscBack_long (s : ByteArray) (w : World) (hl : 300 < s.size) (hm : s.size ≤ 9223372036854775807) :
    Calls Try.prog 6 #[.string s] w fun e w' => e = .returned (.bool true) ∧ Below w.heap.size w w' := by
  go_enter Try.func6, Try.ntmps6
  go_wp2_with fail
  refine (awake11_any w).mono ?_
  rintro e w1 ⟨rfl, h1⟩
  have HB1 := hidden h1
  clear h1
  go_wp2_with fail
  refine (awake11_any w1).mono ?_
  rintro e w2 ⟨rfl, h2⟩
  have HB2 := hidden (Es.below_after HB1.out h2)
  clear h2
  go_wp2_with fail
  go_ret
  exact ⟨rfl, HB2.out⟩
set_option maxRecDepth 100000 in
set_option maxHeartbeats 4000000 in
theorem EscBack_ry (s : ByteArray) (w : World) (hl : s.size ≤ 300) (h : Ut.run 0 s.data.toList = 0) (h2 : Es.ok s.data.toList = true) :
    Calls Try.prog 6 #[.string s] w fun e w' => e = .returned (.bool true) ∧ Below w.heap.size w w' := by
  have HQ := hidden (fun w => esQuote_any s w (by omega))
  have HT := hidden (fun w => esText_any s w (by omega))
  obtain ⟨a1, a2, a3⟩ := Es.qu_txt _ h
  have al := Es.qu_len 34 s.data.toList
  rw [show s.data.toList.length = s.size from rfl] at al
  rw [Es.be_yes h, Es.bt_yes _ h] at HQ
  obtain ⟨Q, hQ⟩ : ∃ Q : ByteArray, Q = ⟨(Es.qu 34 s.data.toList).toArray⟩ := ⟨_, rfl⟩
  have sQ : Q.size = (Es.qu 34 s.data.toList).length := by rw [hQ]; rfl
  have dQ : Q.data.toList = Es.qu 34 s.data.toList := by rw [hQ]
  have HTQ := hidden (fun w => esText_any Q w (by omega))
  rw [dQ, a1, a2, Es.mk_data] at HTQ
  have HEQ := hidden (fun w => esEqual_any Q s w (by omega) (by omega))
  rw [dQ, a3] at HEQ
  rw [← hQ] at HQ
  obtain ⟨t1, t2⟩ := Es.txt_yes h2
  rw [t1, t2] at HT
  have hr := Es.tx_right _ h2
  have hs := Es.tx_short _ h2
  have htl := Es.tx_len s.data.toList
  obtain ⟨b1, b2, _⟩ := Es.qu_txt _ hr
  obtain ⟨T, hT⟩ : ∃ T : ByteArray, T = ⟨(Es.tx s.data.toList).toArray⟩ := ⟨_, rfl⟩
  have sT : T.size = (Es.tx s.data.toList).length := by rw [hT]; rfl
  have dT : T.data.toList = Es.tx s.data.toList := by rw [hT]
  rw [show s.data.toList.length = s.size from rfl] at hs htl
  have HQT := hidden (fun w => esQuote_any T w (by omega))
  rw [dT, Es.be_yes hr, Es.bt_yes _ hr] at HQT
  obtain ⟨P, hP⟩ : ∃ P : ByteArray, P = ⟨(Es.qu 34 (Es.tx s.data.toList)).toArray⟩ := ⟨_, rfl⟩
  have sP : P.size = (Es.qu 34 (Es.tx s.data.toList)).length := by rw [hP]; rfl
  have dP : P.data.toList = Es.qu 34 (Es.tx s.data.toList) := by rw [hP]
  have HTP := hidden (fun w => esText_any P w (by omega))
  rw [dP, b1, b2, ← hT] at HTP
  rw [← hP] at HQT
  rw [← hT] at HT
  have hle : P.size ≤ s.size := by omega
  have hli : ((P.size : Int) ≤ (s.size : Int)) := by omega
  clear h h2 t1 t2 a1 a2 a3 al hQ sQ dQ hr hs htl b1 b2 hT sT dT hP sP dP hle
  go_enter Try.func6, Try.ntmps6
  go_wp2_with fail
  refine (awake11_any w).mono ?_
  rintro e w1 ⟨rfl, h1⟩
  have HB1 := hidden h1
  clear h1
  go_wp2_with fail
  refine (HQ.out w1).mono ?_
  rintro e w2 ⟨rfl, h2⟩
  have HB2 := hidden (Es.below_after HB1.out h2)
  clear h2
  go_wp2_with fail
  refine (HTQ.out w2).mono ?_
  rintro e w3 ⟨rfl, h3⟩
  have HB3 := hidden (Es.below_after HB2.out h3)
  clear h3
  go_wp2_with fail
  refine (HEQ.out w3).mono ?_
  rintro e w4 ⟨rfl, h4⟩
  have HB4 := hidden (Es.below_after HB3.out h4)
  clear h4
  go_wp2_with fail
  refine (HT.out w4).mono ?_
  rintro e w5 ⟨rfl, h5⟩
  have HB5 := hidden (Es.below_after HB4.out h5)
  clear h5
  go_wp2_with fail
  refine (HQT.out w5).mono ?_
  rintro e w6 ⟨rfl, h6⟩
  have HB6 := hidden (Es.below_after HB5.out h6)
  clear h6
  go_wp2_with fail
  refine (HTP.out w6).mono ?_
  rintro e w7 ⟨rfl, h7⟩
  have HB7 := hidden (Es.below_after HB6.out h7)
  clear h7
  go_wp2_with fail
  go_ret
  exact ⟨rfl, HB7.out⟩
set_option maxRecDepth 100000 in
set_option maxHeartbeats 4000000 in
theorem EscBack_rn (s : ByteArray) (w : World) (hl : s.size ≤ 300) (h : Ut.run 0 s.data.toList = 0) (h2 : Es.ok s.data.toList = false) :
    Calls Try.prog 6 #[.string s] w fun e w' => e = .returned (.bool true) ∧ Below w.heap.size w w' := by
  have HQ := hidden (fun w => esQuote_any s w (by omega))
  have HT := hidden (fun w => esText_any s w (by omega))
  obtain ⟨a1, a2, a3⟩ := Es.qu_txt _ h
  have al := Es.qu_len 34 s.data.toList
  rw [show s.data.toList.length = s.size from rfl] at al
  rw [Es.be_yes h, Es.bt_yes _ h] at HQ
  obtain ⟨Q, hQ⟩ : ∃ Q : ByteArray, Q = ⟨(Es.qu 34 s.data.toList).toArray⟩ := ⟨_, rfl⟩
  have sQ : Q.size = (Es.qu 34 s.data.toList).length := by rw [hQ]; rfl
  have dQ : Q.data.toList = Es.qu 34 s.data.toList := by rw [hQ]
  have HTQ := hidden (fun w => esText_any Q w (by omega))
  rw [dQ, a1, a2, Es.mk_data] at HTQ
  have HEQ := hidden (fun w => esEqual_any Q s w (by omega) (by omega))
  rw [dQ, a3] at HEQ
  rw [← hQ] at HQ
  obtain ⟨t1, t2⟩ := Es.txt_no h2
  rw [t1, t2] at HT
  have HI := hidden (fun w => esIs_any s w (by omega))
  rw [h2] at HI
  clear h h2 t1 t2 a1 a2 a3 al hQ sQ dQ
  go_enter Try.func6, Try.ntmps6
  go_wp2_with fail
  refine (awake11_any w).mono ?_
  rintro e w1 ⟨rfl, h1⟩
  have HB1 := hidden h1
  clear h1
  go_wp2_with fail
  refine (HQ.out w1).mono ?_
  rintro e w2 ⟨rfl, h2⟩
  have HB2 := hidden (Es.below_after HB1.out h2)
  clear h2
  go_wp2_with fail
  refine (HTQ.out w2).mono ?_
  rintro e w3 ⟨rfl, h3⟩
  have HB3 := hidden (Es.below_after HB2.out h3)
  clear h3
  go_wp2_with fail
  refine (HEQ.out w3).mono ?_
  rintro e w4 ⟨rfl, h4⟩
  have HB4 := hidden (Es.below_after HB3.out h4)
  clear h4
  go_wp2_with fail
  refine (HT.out w4).mono ?_
  rintro e w5 ⟨rfl, h5⟩
  have HB5 := hidden (Es.below_after HB4.out h5)
  clear h5
  go_wp2_with fail
  refine (HI.out w5).mono ?_
  rintro e w6 ⟨rfl, h6⟩
  have HB6 := hidden (Es.below_after HB5.out h6)
  clear h6
  go_wp2_with fail
  go_ret
  exact ⟨rfl, HB6.out⟩
set_option maxRecDepth 100000 in
set_option maxHeartbeats 4000000 in
theorem EscBack_ny (s : ByteArray) (w : World) (hl : s.size ≤ 300) (h : Ut.run 0 s.data.toList ≠ 0) (h2 : Es.ok s.data.toList = true) :
    Calls Try.prog 6 #[.string s] w fun e w' => e = .returned (.bool true) ∧ Below w.heap.size w w' := by
  have HQ := hidden (fun w => esQuote_any s w (by omega))
  have HT := hidden (fun w => esText_any s w (by omega))
  rw [Es.be_no h, Es.bt_no _ h] at HQ
  obtain ⟨t1, t2⟩ := Es.txt_yes h2
  rw [t1, t2] at HT
  have hr := Es.tx_right _ h2
  have hs := Es.tx_short _ h2
  have htl := Es.tx_len s.data.toList
  obtain ⟨b1, b2, _⟩ := Es.qu_txt _ hr
  obtain ⟨T, hT⟩ : ∃ T : ByteArray, T = ⟨(Es.tx s.data.toList).toArray⟩ := ⟨_, rfl⟩
  have sT : T.size = (Es.tx s.data.toList).length := by rw [hT]; rfl
  have dT : T.data.toList = Es.tx s.data.toList := by rw [hT]
  rw [show s.data.toList.length = s.size from rfl] at hs htl
  have HQT := hidden (fun w => esQuote_any T w (by omega))
  rw [dT, Es.be_yes hr, Es.bt_yes _ hr] at HQT
  obtain ⟨P, hP⟩ : ∃ P : ByteArray, P = ⟨(Es.qu 34 (Es.tx s.data.toList)).toArray⟩ := ⟨_, rfl⟩
  have sP : P.size = (Es.qu 34 (Es.tx s.data.toList)).length := by rw [hP]; rfl
  have dP : P.data.toList = Es.qu 34 (Es.tx s.data.toList) := by rw [hP]
  have HTP := hidden (fun w => esText_any P w (by omega))
  rw [dP, b1, b2, ← hT] at HTP
  rw [← hP] at HQT
  rw [← hT] at HT
  have hle : P.size ≤ s.size := by omega
  have hli : ((P.size : Int) ≤ (s.size : Int)) := by omega
  clear h h2 t1 t2 hr hs htl b1 b2 hT sT dT hP sP dP hle
  go_enter Try.func6, Try.ntmps6
  go_wp2_with fail
  refine (awake11_any w).mono ?_
  rintro e w1 ⟨rfl, h1⟩
  have HB1 := hidden h1
  clear h1
  go_wp2_with fail
  refine (HQ.out w1).mono ?_
  rintro e w2 ⟨rfl, h2⟩
  have HB2 := hidden (Es.below_after HB1.out h2)
  clear h2
  go_wp2_with fail
  refine (HT.out w2).mono ?_
  rintro e w3 ⟨rfl, h3⟩
  have HB3 := hidden (Es.below_after HB2.out h3)
  clear h3
  go_wp2_with fail
  refine (HQT.out w3).mono ?_
  rintro e w4 ⟨rfl, h4⟩
  have HB4 := hidden (Es.below_after HB3.out h4)
  clear h4
  go_wp2_with fail
  refine (HTP.out w4).mono ?_
  rintro e w5 ⟨rfl, h5⟩
  have HB5 := hidden (Es.below_after HB4.out h5)
  clear h5
  go_wp2_with fail
  go_ret
  exact ⟨rfl, HB5.out⟩
set_option maxRecDepth 100000 in
set_option maxHeartbeats 4000000 in
theorem EscBack_nn (s : ByteArray) (w : World) (hl : s.size ≤ 300) (h : Ut.run 0 s.data.toList ≠ 0) (h2 : Es.ok s.data.toList = false) :
    Calls Try.prog 6 #[.string s] w fun e w' => e = .returned (.bool true) ∧ Below w.heap.size w w' := by
  have HQ := hidden (fun w => esQuote_any s w (by omega))
  have HT := hidden (fun w => esText_any s w (by omega))
  rw [Es.be_no h, Es.bt_no _ h] at HQ
  obtain ⟨t1, t2⟩ := Es.txt_no h2
  rw [t1, t2] at HT
  have HI := hidden (fun w => esIs_any s w (by omega))
  rw [h2] at HI
  clear h h2 t1 t2
  go_enter Try.func6, Try.ntmps6
  go_wp2_with fail
  refine (awake11_any w).mono ?_
  rintro e w1 ⟨rfl, h1⟩
  have HB1 := hidden h1
  clear h1
  go_wp2_with fail
  refine (HQ.out w1).mono ?_
  rintro e w2 ⟨rfl, h2⟩
  have HB2 := hidden (Es.below_after HB1.out h2)
  clear h2
  go_wp2_with fail
  refine (HT.out w2).mono ?_
  rintro e w3 ⟨rfl, h3⟩
  have HB3 := hidden (Es.below_after HB2.out h3)
  clear h3
  go_wp2_with fail
  refine (HI.out w3).mono ?_
  rintro e w4 ⟨rfl, h4⟩
  have HB4 := hidden (Es.below_after HB3.out h4)
  clear h4
  go_wp2_with fail
  go_ret
  exact ⟨rfl, HB4.out⟩
theorem EscBack_walk (s : ByteArray) (w : World) (hm : s.size ≤ 9223372036854775807) :
    Calls Try.prog 6 #[.string s] w fun e w' => e = .returned (.bool true) ∧ Below w.heap.size w w' := by
  by_cases hl : s.size ≤ 300
  · by_cases h : Ut.run 0 s.data.toList = 0
    · cases h2 : Es.ok s.data.toList with
      | true => exact EscBack_ry s w hl h h2
      | false => exact EscBack_rn s w hl h h2
    · cases h2 : Es.ok s.data.toList with
      | true => exact EscBack_ny s w hl h h2
      | false => exact EscBack_nn s w hl h h2
  · exact EscBack_long s w (by omega) hm
end Go.Proofs.Ytjhjkahjljikhaa
