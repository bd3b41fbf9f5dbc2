/-
  The contract of law 14's awake: it answers true; nothing that was there is changed.
-/
import Derived.Test.YtoipliflphbeiaaGreatDoorSmNums
namespace Go.Proofs.YtoipliflphbeiaaGreatDoor
open Go.RowKit
set_option maxHeartbeats 1000000 in
theorem awake14_any (w : World) (hT : Tab w) :
    Calls Tryz.prog 8 #[] w fun e w' => e = .returned (.bool true) ∧ Below w.heap.size w w' := by
  have HM := hidden (smMake_any ⟨#[91, 49, 44, 50, 93]⟩ w (by decide) hT)
  have h0 : Sm.er (⟨#[91, 49, 44, 50, 93]⟩ : ByteArray).data.toList = 0 := by decide +kernel
  have H3 : Hid ((Sm.P (⟨#[91, 49, 44, 50, 93]⟩ : ByteArray).data.toList).length = 3) := hidden (by decide +kernel)
  have H0 := hidden h0
  clear h0 hT
  go_enter Tryz.func8, Tryz.ntmps8
  go_wp2_with fail
  refine HM.out.mono ?_
  rintro e w1 ⟨h, h1⟩
  have HB1 := hidden h1
  rcases h with ⟨hn, _⟩ | ⟨_, p, rfl, hx⟩
  · exact absurd H0.out hn
  · have HX := hidden (hx.marks w1 (Below.refl _ _))
    rw [H3.out] at HX
    clear hx h1
    go_wp2_with fail
    refine HX.out.mono ?_
    rintro e w2 ⟨rfl, h2⟩
    have HB2 := hidden (Sm.on2 HB1.out h2)
    clear h2
    go_wp2_with fail
    go_ret
    exact ⟨rfl, HB2.out⟩
end Go.Proofs.YtoipliflphbeiaaGreatDoor
