/-
  The contract of laceworklaw10's awake; and what a sign ahead turns.
-/
import Derived.Test.YthimbaflodphmaaDoorNuAsk
namespace Go.Proofs.YthimbaflodphmaaDoor
open Go.RowKit
open Nu
namespace Nu
theorem wake_w : wholeZ (Nu.read [45, 49, 46, 53, 48, 101, 49]) = (-15, true) := by decide +kernel
theorem wake_i : (Nu.read [48]).isSome = true := by decide +kernel
end Nu
set_option maxHeartbeats 1000000 in
set_option maxRecDepth 100000 in
theorem awake10_any (w : World) (hT : Ten w) :
    Calls Tryd.prog 10 #[] w fun e w' => e = .returned (.bool true) ∧ Below w.heap.size w w' := by
  have hW := Whole_any [45, 49, 46, 53, 48, 101, 49] w (by simp) hT
  have hI := fun v => Is_any [48] v (by simp)
  rw [wake_w] at hW
  simp only [wake_i] at hI
  have HI := hidden hI
  clear hI
  go_enter Tryd.func10, Tryd.ntmps10
  go_wp2_with fail
  refine hW.mono ?_
  rintro e w1 ⟨rfl, hb1⟩
  have HB := hidden hb1
  clear hb1
  go_wp2_with fail
  refine (HI.out _).mono ?_
  rintro e w2 ⟨rfl, hb2⟩
  have HB2 := hidden (below_after HB.out hb2)
  clear hb2
  go_wp2_with fail
  go_ret
  exact ⟨rfl, HB2.out⟩
end Go.Proofs.YthimbaflodphmaaDoor
