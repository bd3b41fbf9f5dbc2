/-
  The walk of the law SemiMakes: it returns true for every string; nothing that was there is changed.
-/
import Derived.Test.YtoipliflphbeiaaGreatDoorC16
namespace Go.Proofs.YtoipliflphbeiaaGreatDoor
open Go.RowKit
theorem SemiMakes_long (s : ByteArray) (w : World) (hl : 600 < s.size) (hT : Tab w) :
    Calls Tryz.prog 3 #[.string s] w fun e w' => e = .returned (.bool true) ∧ Below w.heap.size w w' := by
  have HT := hidden hT
  have hlt : decide ((600 : Int) < (s.size : Int)) = true := decide_eq_true (by omega)
  clear hl hT
  go_enter Tryz.func3, Tryz.ntmps3
  go_wp2_with fail
  refine (awake14_any w HT.out).mono ?_
  rintro e w1 ⟨rfl, h1⟩
  have HB1 := hidden h1
  have HT1 := hidden (HT.out.below h1 (Nat.le_refl _))
  clear h1
  go_wp2_with fail
  refine (awake14_any _ HT1.out).mono ?_
  rintro e w2 ⟨rfl, h2⟩
  have HB2 := hidden (Sm.on2 HB1.out h2)
  clear h2
  go_wp2_with fail
  go_ret
  exact ⟨rfl, HB2.out⟩
set_option maxHeartbeats 2000000 in
theorem SemiMakes_in (s : ByteArray) (w : World) (hs : ¬ 600 < s.size) (hT : Tab w) :
    Calls Tryz.prog 3 #[.string s] w fun e w' => e = .returned (.bool true) ∧ Below w.heap.size w w' := by
  have HT := hidden hT
  have hls : decide ((600 : Int) < (s.size : Int)) = false := decide_eq_false (by omega)
  have HS := hidden (fun w (hT : Tab w) => smMake_any s w (by omega) hT)
  have HE := hidden (fun w => rError14_any s w (by omega))
  have HI := hidden (fun w p (h : SmIx w p s) => Is14_any s p w h (by omega))
  clear hT
  go_enter Tryz.func3, Tryz.ntmps3
  go_wp2_with fail
  refine (awake14_any w HT.out).mono ?_
  rintro e w1 ⟨rfl, h1⟩
  have HB1 := hidden h1
  have HT1 := hidden (HT.out.below h1 (Nat.le_refl _))
  clear h1
  go_wp2_with fail
  refine (HS.out _ HT1.out).mono ?_
  rintro e w2 ⟨hm, h2⟩
  have HB2 := hidden (Sm.on2 HB1.out h2)
  clear h2
  rcases hm with ⟨he, rfl⟩ | ⟨he, p, rfl, hx⟩
  · obtain ⟨E, hE⟩ : ∃ E, E = Sm.er s.data.toList := ⟨_, rfl⟩
    rw [← hE] at he HE ⊢
    have e1 : (E == 0) = false := by rw [beq_eq_false_iff_ne]; exact he
    have e2 : (E != 0) = true := by rw [bne_iff_ne]; exact he
    clear he hE
    go_wp2_with fail
    refine (HE.out _).mono ?_
    rintro e w3 ⟨rfl, h3⟩
    have HB3 := hidden (Sm.on2 HB2.out h3)
    clear h3
    go_wp2_with fail
    go_ret
    exact ⟨rfl, HB3.out⟩
  · have HX2 := hidden hx
    rw [he] at HE
    clear hx he
    go_wp2_with fail
    refine (HE.out _).mono ?_
    rintro e w3 ⟨rfl, h3⟩
    have HB3 := hidden (Sm.on2 HB2.out h3)
    have HX3 := hidden (HX2.out.later h3)
    clear h3
    go_wp2_with fail
    refine (HI.out _ _ HX3.out).mono ?_
    rintro e w4 ⟨rfl, h4⟩
    have HB4 := hidden (Sm.on2 HB3.out h4)
    clear h4
    go_wp2_with fail
    go_ret
    exact ⟨rfl, HB4.out⟩
theorem SemiMakes_walk (s : ByteArray) (w : World) (hT : Tab w) :
    Calls Tryz.prog 3 #[.string s] w fun e w' => e = .returned (.bool true) ∧ Below w.heap.size w w' := by
  by_cases hs : 600 < s.size
  · exact SemiMakes_long s w hs hT
  · exact SemiMakes_in s w hs hT
end Go.Proofs.YtoipliflphbeiaaGreatDoor
