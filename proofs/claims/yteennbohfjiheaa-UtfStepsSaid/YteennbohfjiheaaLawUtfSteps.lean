/-
  The walk of the law UtfSteps: it returns true for every number and every byte; nothing that was there is changed.
-/
import Derived.Test.YteennbohfjiheaaUtRefS
namespace Go.Proofs.Yteennbohfjiheaa
open Go.RowKit
set_option maxHeartbeats 1000000 in
theorem UtfSteps_walk (z : Int) (b : Nat) (w : World) (hb : b < 256) :
    Calls Try.prog 3 #[.int .i64 z, .int .u8 (b : Nat)] w fun e w' => e = .returned (.bool true) ∧ Below w.heap.size w w' := by
  go_enter Try.func3, Try.ntmps3
  go_wp2_with fail
  refine (awake_any w).mono ?_
  rintro e w1 ⟨rfl, hq1⟩
  have HQ1 := hidden hq1
  clear hq1
  go_wp2_with fail
  refine (Step_any z b _).mono ?_
  rintro e w2 ⟨rfl, rfl⟩
  go_wp2_with fail
  refine (rStep_any z b _ hb).mono ?_
  rintro e w3 ⟨rfl, hq3⟩
  have HQ3 := hidden (HQ1.out.trans (hq3.mono HQ1.out.size))
  clear hq3
  go_wp2_with fail
  go_ret
  exact ⟨rfl, HQ3.out⟩
theorem UtfSteps_int (z a : Int) (w : World) (h0 : 0 ≤ a) (h1 : a ≤ 255) :
    Calls Try.prog 3 #[.int .i64 z, .int .u8 a] w fun e w' => e = .returned (.bool true) ∧ Below w.heap.size w w' := by
  obtain ⟨b, rfl⟩ := Int.eq_ofNat_of_zero_le h0
  exact UtfSteps_walk z b w (by omega)
end Go.Proofs.Yteennbohfjiheaa
