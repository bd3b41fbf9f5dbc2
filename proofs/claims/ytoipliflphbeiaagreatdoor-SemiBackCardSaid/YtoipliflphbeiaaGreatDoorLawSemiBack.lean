/-
  The walk of the law SemiBack: it returns true for every two strings; nothing that was there is changed.
-/
import Derived.Test.YtoipliflphbeiaaGreatDoorSmAwake
import Derived.Test.YtoipliflphbeiaaGreatDoorC19
namespace Go.Proofs.YtoipliflphbeiaaGreatDoor
open Go.RowKit
theorem SemiBack_long (s t : ByteArray) (w : World) (hl : 400 < s.size ∨ 400 < t.size) (hT : Tab w) :
    Calls Tryz.prog 5 #[.string s, .string t] w fun e w' => e = .returned (.bool true) ∧ Below w.heap.size w w' := by
  have HT := hidden hT
  have hlt : (decide ((400 : Int) < (s.size : Int)) = true) ∨ (decide ((400 : Int) < (s.size : Int)) = false ∧ decide ((400 : Int) < (t.size : Int)) = true) := by
    by_cases h : 400 < s.size
    · exact .inl (decide_eq_true (by omega))
    · exact .inr ⟨decide_eq_false (by omega), decide_eq_true (by omega)⟩
  clear hl hT
  rcases hlt with hlt | ⟨hlt, hlt2⟩ <;>
  · go_enter Tryz.func5, Tryz.ntmps5
    go_wp2_with fail
    refine (awake14_any w HT.out).mono ?_
    rintro e w1 ⟨rfl, h1⟩
    have HB1 := hidden h1
    have HT1 := hidden (HT.out.below h1 (Nat.le_refl _))
    clear h1
    go_wp2_with fail
    refine (awake14_any _ HT1.out).mono ?_
    rintro e w2 ⟨rfl, h2⟩
    have HB2 := hidden (Sm.on2 HB1.out h2)
    clear h2
    go_wp2_with fail
    go_ret
    exact ⟨rfl, HB2.out⟩
set_option maxHeartbeats 4000000 in
theorem SemiBack_in (s t : ByteArray) (w : World) (hs : ¬ 400 < s.size) (ht : ¬ 400 < t.size) (hT : Tab w) :
    Calls Tryz.prog 5 #[.string s, .string t] w fun e w' => e = .returned (.bool true) ∧ Below w.heap.size w w' := by
  have HT := hidden hT
  have hls : decide ((400 : Int) < (s.size : Int)) = false := decide_eq_false (by omega)
  have hlt : decide ((400 : Int) < (t.size : Int)) = false := decide_eq_false (by omega)
  have HS := hidden (fun w (hT : Tab w) => smMake_any s w (by omega) hT)
  have HU := hidden (fun w (hT : Tab w) => smMake_any t w (by omega) hT)
  have HFX := hidden (fun (h : Sm.er s.data.toList = 0) => Sm.form_ix h)
  obtain ⟨X, hX⟩ : ∃ X, X = (⟨(Sm.ixB s.data.toList).toArray⟩ : ByteArray) := ⟨_, rfl⟩
  obtain ⟨Y, hY⟩ : ∃ Y, Y = (⟨(Sm.ixB t.data.toList).toArray⟩ : ByteArray) := ⟨_, rfl⟩
  have HXL : Hid (X.data.toList = Sm.ixB s.data.toList) := hidden (by rw [hX])
  have HYL : Hid (Y.data.toList = Sm.ixB t.data.toList) := hidden (by rw [hY])
  have HBX : Hid (∀ w p, SmIx w p s → Calls Tryz.prog 16 #[.pointer (some p)] w fun e w' => e = .returned (.string X) ∧ Below w.heap.size w w') := hidden (fun w p h => by
    rw [hX]
    exact h.bytes w (Below.refl _ _))
  have HBY : Hid (∀ w p, SmIx w p t → Calls Tryz.prog 16 #[.pointer (some p)] w fun e w' => e = .returned (.string Y) ∧ Below w.heap.size w w') := hidden (fun w p h => by
    rw [hY]
    exact h.bytes w (Below.refl _ _))
  have HLS : Hid (∀ w, Tab w → Sm.er s.data.toList = 0 → Calls Tryz.prog 12 #[.string s, .string X] w fun e w' => (∃ p, e = .returned (.tuple #[.pointer (some p), .int .i64 0]) ∧ SmIx w' p s) ∧ Below w.heap.size w w') := hidden (fun w hT he => by
    have h6 := (Sm.er_zero he).1
    refine (smLoad_any s X w (by omega) (by
      rw [hX]
      show (Sm.ixB s.data.toList).length ≤ _
      exact Sm.ix_small h6) hT).mono ?_
    rintro e w' ⟨h, hb⟩
    refine ⟨?_, hb⟩
    rcases h with ⟨h0, _⟩ | ⟨_, hno, _⟩ | ⟨_, _, hne, _⟩ | ⟨_, _, p, he, hx⟩
    · exact absurd he h0
    · exact absurd (by rw [HXL.out]; exact HFX.out he) hno
    · exact absurd HXL.out hne
    · exact ⟨p, he, hx⟩)
  have HLT : Hid (∀ w, Tab w → Sm.er s.data.toList = 0 → Sm.er t.data.toList = 0 → Calls Tryz.prog 12 #[.string t, .string X] w fun e w' => (∃ p : Option Addr, ∃ h : Int, e = .returned (.tuple #[.pointer p, .int .i64 h]) ∧ (h == 0) = (Y.toList == X.toList)) ∧ Below w.heap.size w w') := hidden (fun w hT he hf => by
    have h6 := (Sm.er_zero he).1
    refine (smLoad_any t X w (by omega) (by
      rw [hX]
      show (Sm.ixB s.data.toList).length ≤ _
      exact Sm.ix_small h6) hT).mono ?_
    rintro e w' ⟨h, hb⟩
    refine ⟨?_, hb⟩
    rcases h with ⟨h0, _⟩ | ⟨_, hno, _⟩ | ⟨_, _, hne, he2⟩ | ⟨_, heq, p, he2, _⟩
    · exact absurd hf h0
    · exact absurd (by rw [HXL.out]; exact HFX.out he) hno
    · refine ⟨_, _, he2, ?_⟩
      have e1 : (Y.toList == X.toList) = false := by
        rw [beq_eq_false_iff_ne, Go.ByteArray.toList_eq, Go.ByteArray.toList_eq]
        intro h
        exact hne (by rw [← h]; exact HYL.out)
      rw [e1]
      rfl
    · refine ⟨_, _, he2, ?_⟩
      have e1 : (Y.toList == X.toList) = true := by
        rw [beq_iff_eq, Go.ByteArray.toList_eq, Go.ByteArray.toList_eq, HYL.out]
        exact heq.symm
      rw [e1]
      rfl)
  clear hT hX hY HFX HXL HYL
  go_enter Tryz.func5, Tryz.ntmps5
  go_wp2_with fail
  refine (awake14_any w HT.out).mono ?_
  rintro e w1 ⟨rfl, h1⟩
  have HB1 := hidden h1
  have HT1 := hidden (HT.out.below h1 (Nat.le_refl _))
  clear h1
  go_wp2_with fail
  refine (HS.out _ HT1.out).mono ?_
  rintro e w2 ⟨hm, h2⟩
  have HB2 := hidden (Sm.on2 HB1.out h2)
  have HT2 := hidden (HT1.out.below h2 (Nat.le_refl _))
  clear h2
  rcases hm with ⟨he, rfl⟩ | ⟨he, p, rfl, hx⟩
  · obtain ⟨E, hE⟩ : ∃ E, E = Sm.er s.data.toList := ⟨_, rfl⟩
    rw [← hE] at he ⊢
    have e1 : (E == 0) = false := by rw [beq_eq_false_iff_ne]; exact he
    have e2 : (E != 0) = true := by rw [bne_iff_ne]; exact he
    clear he hE
    go_wp2_with fail
    refine (HU.out _ HT2.out).mono ?_
    rintro e w3 ⟨hm, h3⟩
    have HB3 := hidden (Sm.on2 HB2.out h3)
    clear h3
    rcases hm with ⟨he, rfl⟩ | ⟨he, q, rfl, hy⟩
    · obtain ⟨F, hF⟩ : ∃ F, F = Sm.er t.data.toList := ⟨_, rfl⟩
      rw [← hF] at he ⊢
      have f1 : (F == 0) = false := by rw [beq_eq_false_iff_ne]; exact he
      have f2 : (F != 0) = true := by rw [bne_iff_ne]; exact he
      clear he hF
      go_wp2_with fail
      go_ret
      exact ⟨rfl, HB3.out⟩
    · clear he hy
      go_wp2_with fail
      go_ret
      exact ⟨rfl, HB3.out⟩
  · have HX2 := hidden hx
    have HE := hidden he
    clear hx he
    go_wp2_with fail
    refine (HU.out _ HT2.out).mono ?_
    rintro e w3 ⟨hm, h3⟩
    have HB3 := hidden (Sm.on2 HB2.out h3)
    have HX3 := hidden (HX2.out.later h3)
    have HT3 := hidden (HT2.out.below h3 (Nat.le_refl _))
    clear h3
    rcases hm with ⟨he, rfl⟩ | ⟨he, q, rfl, hy⟩
    · obtain ⟨E, hE⟩ : ∃ E, E = Sm.er t.data.toList := ⟨_, rfl⟩
      rw [← hE] at he ⊢
      have e1 : (E == 0) = false := by rw [beq_eq_false_iff_ne]; exact he
      have e2 : (E != 0) = true := by rw [bne_iff_ne]; exact he
      clear he hE
      go_wp2_with fail
      go_ret
      exact ⟨rfl, HB3.out⟩
    · have HY3 := hidden hy
      have HF := hidden he
      clear hy he
      go_wp2_with fail
      refine (HBX.out _ _ HX3.out).mono ?_
      rintro e w4 ⟨rfl, h4⟩
      have HB4 := hidden (Sm.on2 HB3.out h4)
      have HX4 := hidden (HX3.out.later h4)
      have HY4 := hidden (HY3.out.later h4)
      have HT4 := hidden (HT3.out.below h4 (Nat.le_refl _))
      clear h4
      go_wp2_with fail
      refine (HLS.out _ HT4.out HE.out).mono ?_
      rintro e w5 ⟨⟨r, rfl, hz⟩, h5⟩
      have HB5 := hidden (Sm.on2 HB4.out h5)
      have HX5 := hidden (HX4.out.later h5)
      have HY5 := hidden (HY4.out.later h5)
      have HT5 := hidden (HT4.out.below h5 (Nat.le_refl _))
      have HZ5 := hidden hz
      clear h5 hz
      go_wp2_with fail
      refine (HBX.out _ _ HX5.out).mono ?_
      rintro e w6 ⟨rfl, h6⟩
      have HB6 := hidden (Sm.on2 HB5.out h6)
      have HX6 := hidden (HX5.out.later h6)
      have HY6 := hidden (HY5.out.later h6)
      have HZ6 := hidden (HZ5.out.later h6)
      have HT6 := hidden (HT5.out.below h6 (Nat.le_refl _))
      clear h6
      go_wp2_with fail
      refine (HLT.out _ HT6.out HE.out HF.out).mono ?_
      rintro e w7 ⟨⟨q7, h7v, rfl, hq7⟩, h7⟩
      have HB7 := hidden (Sm.on2 HB6.out h7)
      have HX7 := hidden (HX6.out.later h7)
      have HY7 := hidden (HY6.out.later h7)
      have HZ7 := hidden (HZ6.out.later h7)
      have HQ7 := hidden hq7
      clear h7 hq7
      go_wp2_with fail
      refine (HBX.out _ _ HZ7.out).mono ?_
      rintro e w8 ⟨rfl, h8⟩
      have HB8 := hidden (Sm.on2 HB7.out h8)
      have HX8 := hidden (HX7.out.later h8)
      have HY8 := hidden (HY7.out.later h8)
      clear h8
      go_wp2_with fail
      refine (HBX.out _ _ HX8.out).mono ?_
      rintro e w9 ⟨rfl, h9⟩
      have HB9 := hidden (Sm.on2 HB8.out h9)
      have HX9 := hidden (HX8.out.later h9)
      have HY9 := hidden (HY8.out.later h9)
      clear h9
      go_wp2_with fail
      refine (HBY.out _ _ HY9.out).mono ?_
      rintro e w10 ⟨rfl, h10⟩
      have HB10 := hidden (Sm.on2 HB9.out h10)
      have HX10 := hidden (HX9.out.later h10)
      clear h10
      go_wp2_with fail
      refine (HBX.out _ _ HX10.out).mono ?_
      rintro e w11 ⟨rfl, h11⟩
      have HB11 := hidden (Sm.on2 HB10.out h11)
      clear h11
      have hq := HQ7.out
      obtain ⟨O, hO⟩ : ∃ O, O = (Y.toList == X.toList) := ⟨_, rfl⟩
      rw [← hO] at hq
      have hO2 := hO.symm
      clear hO
      go_wp2_with fail
      go_ret
      exact ⟨rfl, HB11.out⟩
theorem SemiBack_walk (s t : ByteArray) (w : World) (hT : Tab w) :
    Calls Tryz.prog 5 #[.string s, .string t] w fun e w' => e = .returned (.bool true) ∧ Below w.heap.size w w' := by
  by_cases hs : 400 < s.size
  · exact SemiBack_long s t w (.inl hs) hT
  · by_cases ht : 400 < t.size
    · exact SemiBack_long s t w (.inr ht) hT
    · exact SemiBack_in s t w hs ht hT
end Go.Proofs.YtoipliflphbeiaaGreatDoor
