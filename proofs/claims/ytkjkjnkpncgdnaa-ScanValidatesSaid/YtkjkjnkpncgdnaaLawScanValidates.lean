/-
  The walk of the law ScanValidates: it returns true for every string and every deep; nothing that was there is changed.
-/
import Derived.Test.YtkjkjnkpncgdnaaJsAwake
import Derived.Test.YtkjkjnkpncgdnaaJsRefT
namespace Go.Proofs.Ytkjkjnkpncgdnaa
open Go.RowKit
set_option maxHeartbeats 1000000 in
theorem ScanValidates_walk (s : ByteArray) (z : Int) (w : World) (hm : s.size ≤ 9223372036854775807) :
    Calls Try.prog 3 #[.string s, .int .i64 z] w fun e w' => e = .returned (.bool true) ∧ Below w.heap.size w w' := by
  by_cases hl : 300 < s.size
  · have hlt : (300 : Int) < (s.size : Int) := by omega
    go_enter Try.func3, Try.ntmps3
    go_wp2_with fail
    refine (awake12_any w).mono ?_
    rintro e w1 ⟨rfl, h1⟩
    have HB1 := hidden h1
    clear h1
    go_wp2_with fail
    refine (awake12_any w1).mono ?_
    rintro e w2 ⟨rfl, h2⟩
    have HB2 := hidden (Js.bel_then HB1.out h2)
    clear h2
    go_wp2_with fail
    go_ret
    exact ⟨rfl, HB2.out⟩
  · have hlt : ¬ (300 : Int) < (s.size : Int) := by omega
    have HSV := hidden (fun w => sValidate_any s z w hm)
    have HRV := hidden (fun w => jValidate_any s z w hm)
    by_cases h1 : 1 ≤ z
    · by_cases h2 : z ≤ 4096
      · have d1 : ¬ z < 1 := by omega
        have d2 : ¬ 4096 < z := by omega
        rw [Js.ansV_in s.data.toList z h1 h2, Js.ansP_in s.data.toList z h1 h2, Js.ansE_in z h1 h2] at HSV
        generalize (Js.val s.data.toList z).1 = V at HSV HRV
        generalize (Js.val s.data.toList z).2 = P at HSV HRV
        clear h1 h2
        go_enter Try.func3, Try.ntmps3
        go_wp2_with fail
        refine (awake12_any w).mono ?_
        rintro e w1 ⟨rfl, h1⟩
        have HB1 := hidden h1
        clear h1
        go_wp2_with fail
        refine (HSV.out w1).mono ?_
        rintro e w2 ⟨rfl, h2⟩
        have HB2 := hidden (Js.bel_then HB1.out h2)
        clear h2
        go_wp2_with fail
        refine (HRV.out w2).mono ?_
        rintro e w3 ⟨rfl, h3⟩
        have HB3 := hidden (Js.bel_then HB2.out h3)
        clear h3
        go_wp2_with fail
        go_ret
        exact ⟨by simp, HB3.out⟩
      · have d1 : ¬ z < 1 := by omega
        have d2 : 4096 < z := by omega
        rw [Js.ansV_out s.data.toList z (fun h => h2 h.2), Js.ansP_out s.data.toList z (fun h => h2 h.2), Js.ansE_out z (fun h => h2 h.2)] at HSV
        clear h1 h2
        go_enter Try.func3, Try.ntmps3
        go_wp2_with fail
        refine (awake12_any w).mono ?_
        rintro e w1 ⟨rfl, h1⟩
        have HB1 := hidden h1
        clear h1
        go_wp2_with fail
        refine (HSV.out w1).mono ?_
        rintro e w2 ⟨rfl, h2⟩
        have HB2 := hidden (Js.bel_then HB1.out h2)
        clear h2
        go_wp2_with fail
        go_ret
        exact ⟨rfl, HB2.out⟩
    · have d1 : z < 1 := by omega
      rw [Js.ansV_out s.data.toList z (fun h => h1 h.1), Js.ansP_out s.data.toList z (fun h => h1 h.1), Js.ansE_out z (fun h => h1 h.1)] at HSV
      clear h1
      go_enter Try.func3, Try.ntmps3
      go_wp2_with fail
      refine (awake12_any w).mono ?_
      rintro e w1 ⟨rfl, h1⟩
      have HB1 := hidden h1
      clear h1
      go_wp2_with fail
      refine (HSV.out w1).mono ?_
      rintro e w2 ⟨rfl, h2⟩
      have HB2 := hidden (Js.bel_then HB1.out h2)
      clear h2
      go_wp2_with fail
      go_ret
      exact ⟨rfl, HB2.out⟩
end Go.Proofs.Ytkjkjnkpncgdnaa
