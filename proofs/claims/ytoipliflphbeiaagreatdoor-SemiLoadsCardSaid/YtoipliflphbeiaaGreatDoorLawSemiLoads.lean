/-
  The walk of the law SemiLoads: it returns true for every two strings; nothing that was there is changed.
-/
import Derived.Test.YtoipliflphbeiaaGreatDoorC16
import Derived.Test.YtoipliflphbeiaaGreatDoorC18
import Derived.Test.YtoipliflphbeiaaGreatDoorC19
namespace Go.Proofs.YtoipliflphbeiaaGreatDoor
open Go.RowKit
theorem SemiLoads_long (s t : ByteArray) (w : World) (hl : 400 < s.size ∨ 900 < t.size) (hT : Tab w) :
    Calls Tryz.prog 4 #[.string s, .string t] w fun e w' => e = .returned (.bool true) ∧ Below w.heap.size w w' := by
  have HT := hidden hT
  have hlt : (decide ((400 : Int) < (s.size : Int)) = true) ∨ (decide ((400 : Int) < (s.size : Int)) = false ∧ decide ((900 : Int) < (t.size : Int)) = true) := by
    by_cases h : 400 < s.size
    · exact .inl (decide_eq_true (by omega))
    · exact .inr ⟨decide_eq_false (by omega), decide_eq_true (by omega)⟩
  clear hl hT
  rcases hlt with hlt | ⟨hlt, hlt2⟩ <;>
  · go_enter Tryz.func4, Tryz.ntmps4
    go_wp2_with fail
    refine (awake14_any w HT.out).mono ?_
    rintro e w1 ⟨rfl, h1⟩
    have HB1 := hidden h1
    have HT1 := hidden (HT.out.below h1 (Nat.le_refl _))
    clear h1
    go_wp2_with fail
    refine (awake14_any _ HT1.out).mono ?_
    rintro e w2 ⟨rfl, h2⟩
    have HB2 := hidden (Sm.on2 HB1.out h2)
    clear h2
    go_wp2_with fail
    go_ret
    exact ⟨rfl, HB2.out⟩
set_option maxHeartbeats 4000000 in
theorem SemiLoads_in (s t : ByteArray) (w : World) (hs : ¬ 400 < s.size) (ht : ¬ 900 < t.size) (hT : Tab w) :
    Calls Tryz.prog 4 #[.string s, .string t] w fun e w' => e = .returned (.bool true) ∧ Below w.heap.size w w' := by
  have HT := hidden hT
  have hls : decide ((400 : Int) < (s.size : Int)) = false := decide_eq_false (by omega)
  have hlt : decide ((900 : Int) < (t.size : Int)) = false := decide_eq_false (by omega)
  have HL := hidden (fun w (hT : Tab w) => smLoad_any s t w (by omega) (by omega) hT)
  have HE := hidden (fun w => rError14_any s w (by omega))
  have HI := hidden (fun w p (h : SmIx w p s) => Is14_any s p w h (by omega))
  have HR := hidden (fun w => rRow14_any t w (by omega))
  have HY := hidden (fun w => rBytes14_any s w (by omega))
  have HIS : Hid (∀ w (q : ByteArray), q.data.toList = Sm.seqT t.data.toList → Calls Tryz.prog 14 #[.string q] w fun e w' => (∃ r, e = .returned (.bool r) ∧ (r = true ↔ Fn.IsOf (Sm.seqT t.data.toList))) ∧ Below w.heap.size w w') := hidden (fun w q hq => by
    have hsz : q.size ≤ 1000 := by
      have h1 : q.data.toList.length = q.size := rfl
      have h2 : t.data.toList.length = t.size := rfl
      rw [hq] at h1
      unfold Sm.seqT at h1
      rw [List.length_take, List.length_drop, h2] at h1
      omega
    have h := Is5_any q w hsz
    rw [hq] at h
    exact h)
  have HFX := hidden (fun (h : Sm.er s.data.toList = 0) => Sm.form_ix h)
  obtain ⟨Y, hY⟩ : ∃ Y, Y = (⟨(Sm.ixB s.data.toList).toArray⟩ : ByteArray) := ⟨_, rfl⟩
  have HYL : Hid (Y.data.toList = Sm.ixB s.data.toList) := hidden (by rw [hY])
  rw [← hY] at HY
  clear hT hY
  go_enter Tryz.func4, Tryz.ntmps4
  go_wp2_with fail
  refine (awake14_any w HT.out).mono ?_
  rintro e w1 ⟨rfl, h1⟩
  have HB1 := hidden h1
  have HT1 := hidden (HT.out.below h1 (Nat.le_refl _))
  clear h1
  go_wp2_with fail
  refine (HL.out _ HT1.out).mono ?_
  rintro e w2 ⟨hm, h2⟩
  have HB2 := hidden (Sm.on2 HB1.out h2)
  clear h2
  rcases hm with ⟨he, rfl⟩ | ⟨he, hno, rfl⟩ | ⟨he, hf, hne, rfl⟩ | ⟨he, heq, p, rfl, hx⟩
  · obtain ⟨E, hE⟩ : ∃ E, E = Sm.er s.data.toList := ⟨_, rfl⟩
    rw [← hE] at he HE ⊢
    have e1 : (E == 0) = false := by rw [beq_eq_false_iff_ne]; exact he
    have e2 : (E != 0) = true := by rw [bne_iff_ne]; exact he
    clear he hE
    go_wp2_with fail
    refine (HE.out _).mono ?_
    rintro e w3 ⟨rfl, h3⟩
    have HB3 := hidden (Sm.on2 HB2.out h3)
    clear h3
    go_wp2_with fail
    go_ret
    exact ⟨rfl, HB3.out⟩
  · rw [he] at HE
    have HNO := hidden hno
    clear he hno
    go_wp2_with fail
    refine (HE.out _).mono ?_
    rintro e w3 ⟨rfl, h3⟩
    have HB3 := hidden (Sm.on2 HB2.out h3)
    clear h3
    go_wp2_with fail
    refine (HR.out _).mono ?_
    rintro e w4 ⟨⟨v4, q4, b4, rfl, hb4⟩, h4⟩
    have HB4 := hidden (Sm.on2 HB3.out h4)
    clear h4
    rcases hb4 with ⟨rfl, hc, hr, hq⟩ | ⟨rfl, hn4⟩
    · have HQ := hidden hq
      have HNI : Hid (¬ Fn.IsOf (Sm.seqT t.data.toList)) := hidden (fun h => HNO.out ⟨hc, h, hr⟩)
      clear hc hr hq
      go_wp2_with fail
      refine (HIS.out _ _ HQ.out).mono ?_
      rintro e w5 ⟨⟨r5, rfl, hr5⟩, h5⟩
      have HB5 := hidden (Sm.on2 HB4.out h5)
      obtain rfl : r5 = false := by
        cases r5 with
        | false => rfl
        | true => exact absurd (hr5.1 rfl) HNI.out
      clear h5 hr5
      go_wp2_with fail
      go_ret
      exact ⟨rfl, HB5.out⟩
    · clear hn4
      go_wp2_with fail
      go_ret
      exact ⟨rfl, HB4.out⟩
  · have HF := hidden hf
    have HNE : Hid (t ≠ Y) := hidden (fun h => hne (by rw [h]; exact HYL.out))
    rw [he] at HE
    clear hf hne he
    go_wp2_with fail
    refine (HE.out _).mono ?_
    rintro e w3 ⟨rfl, h3⟩
    have HB3 := hidden (Sm.on2 HB2.out h3)
    clear h3
    go_wp2_with fail
    refine (HR.out _).mono ?_
    rintro e w4 ⟨⟨v4, q4, b4, rfl, hb4⟩, h4⟩
    have HB4 := hidden (Sm.on2 HB3.out h4)
    clear h4
    rcases hb4 with ⟨rfl, hc, hr, hq⟩ | ⟨rfl, hn4⟩
    · have HQ := hidden hq
      clear hc hr hq
      go_wp2_with fail
      refine (HIS.out _ _ HQ.out).mono ?_
      rintro e w5 ⟨⟨r5, rfl, hr5⟩, h5⟩
      have HB5 := hidden (Sm.on2 HB4.out h5)
      obtain rfl : r5 = true := hr5.2 HF.out.2.1
      clear h5 hr5
      go_wp2_with fail
      refine (HY.out _).mono ?_
      rintro e w6 ⟨rfl, h6⟩
      have HB6 := hidden (Sm.on2 HB5.out h6)
      clear h6
      have e1 : (t.toList == Y.toList) = false := by
        rw [beq_eq_false_iff_ne, Go.ByteArray.toList_eq, Go.ByteArray.toList_eq]
        exact fun h => HNE.out (ByteArray.ext (Array.toList_inj.1 h))
      go_wp2_with fail
      go_ret
      exact ⟨rfl, HB6.out⟩
    · exact absurd ⟨HF.out.1, HF.out.2.2⟩ hn4
  · have HF : Hid (Sm.Form t.data.toList) := hidden (by rw [heq]; exact HFX.out he)
    have HEQ : Hid (t = Y) := hidden (ByteArray.ext (Array.toList_inj.1 (heq.trans HYL.out.symm)))
    have HX2 := hidden hx
    rw [he] at HE
    clear heq hx he
    go_wp2_with fail
    refine (HE.out _).mono ?_
    rintro e w3 ⟨rfl, h3⟩
    have HB3 := hidden (Sm.on2 HB2.out h3)
    have HX3 := hidden (HX2.out.later h3)
    clear h3
    go_wp2_with fail
    refine (HR.out _).mono ?_
    rintro e w4 ⟨⟨v4, q4, b4, rfl, hb4⟩, h4⟩
    have HB4 := hidden (Sm.on2 HB3.out h4)
    have HX4 := hidden (HX3.out.later h4)
    clear h4
    rcases hb4 with ⟨rfl, hc, hr, hq⟩ | ⟨rfl, hn4⟩
    · have HQ := hidden hq
      clear hc hr hq
      go_wp2_with fail
      refine (HIS.out _ _ HQ.out).mono ?_
      rintro e w5 ⟨⟨r5, rfl, hr5⟩, h5⟩
      have HB5 := hidden (Sm.on2 HB4.out h5)
      have HX5 := hidden (HX4.out.later h5)
      obtain rfl : r5 = true := hr5.2 HF.out.2.1
      clear h5 hr5
      go_wp2_with fail
      refine (HY.out _).mono ?_
      rintro e w6 ⟨rfl, h6⟩
      have HB6 := hidden (Sm.on2 HB5.out h6)
      have HX6 := hidden (HX5.out.later h6)
      clear h6
      have e1 : (t.toList == Y.toList) = true := by rw [HEQ.out]; exact beq_self_eq_true _
      go_wp2_with fail
      refine (HI.out _ _ HX6.out).mono ?_
      rintro e w7 ⟨rfl, h7⟩
      have HB7 := hidden (Sm.on2 HB6.out h7)
      clear h7
      go_wp2_with fail
      go_ret
      exact ⟨rfl, HB7.out⟩
    · exact absurd ⟨HF.out.1, HF.out.2.2⟩ hn4
theorem SemiLoads_walk (s t : ByteArray) (w : World) (hT : Tab w) :
    Calls Tryz.prog 4 #[.string s, .string t] w fun e w' => e = .returned (.bool true) ∧ Below w.heap.size w w' := by
  by_cases hs : 400 < s.size
  · exact SemiLoads_long s t w (.inl hs) hT
  · by_cases ht : 900 < t.size
    · exact SemiLoads_long s t w (.inr ht) hT
    · exact SemiLoads_in s t w hs ht hT
end Go.Proofs.YtoipliflphbeiaaGreatDoor
