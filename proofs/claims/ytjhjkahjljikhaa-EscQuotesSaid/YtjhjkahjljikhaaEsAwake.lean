/-
  The contract of law 11's awake: it answers true; nothing that was there is changed.
-/
import Derived.Test.YtjhjkahjljikhaaEsQuote
namespace Go.Proofs.Ytjhjkahjljikhaa
open Go.RowKit
set_option maxHeartbeats 1000000 in
theorem awake11_any (w : World) :
    Calls Try.prog 9 #[] w fun e w' => e = .returned (.bool true) ∧ Below w.heap.size w w' := by
  have HT := hidden (fun w => esText_any ⟨#[34, 97, 92, 110, 34]⟩ w (by decide))
  rw [show Es.txt (⟨#[34, 97, 92, 110, 34]⟩ : ByteArray).data.toList = [97, 10] from by decide +kernel, show Es.txe (⟨#[34, 97, 92, 110, 34]⟩ : ByteArray).data.toList = 0 from by decide +kernel] at HT
  have HI := hidden (fun w => esIs_any ⟨#[34, 34]⟩ w (by decide))
  rw [show Es.ok (⟨#[34, 34]⟩ : ByteArray).data.toList = true from by decide +kernel] at HI
  go_enter Try.func9, Try.ntmps9
  go_wp2_with fail
  refine (HT.out _).mono ?_
  rintro e w1 ⟨rfl, h1⟩
  have HB1 := hidden h1
  clear h1
  go_wp2_with fail
  refine (HI.out _).mono ?_
  rintro e w2 ⟨rfl, h2⟩
  have HB2 := hidden (Es.below_after HB1.out h2)
  clear h2
  go_wp2_with fail
  go_ret
  exact ⟨rfl, HB2.out⟩
end Go.Proofs.Ytjhjkahjljikhaa
