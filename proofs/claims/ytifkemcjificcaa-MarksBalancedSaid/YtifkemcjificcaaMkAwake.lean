/-
  The contract of law 13's awake: it answers true; nothing that was there is changed. What the laws' walks want of lists.
-/
import Derived.Test.YtifkemcjificcaaMkScan
namespace Go.Proofs.Ytifkemcjificcaa
open Go.RowKit
theorem Mk.bel_then {a w w' : World} (h : Below a.heap.size a w) (h2 : Below w.heap.size w w') : Below a.heap.size a w' := h.trans (h2.mono h.size)
theorem Mk.Li.kept {B : Nat} {u u' : World} {v : Value} {l : List Nat} (h : Li u B v l) (hb : Below u.heap.size u u') : Li u' B v l := ow_kept h hb (Nat.le_refl _)
theorem Mk.Lb.kept {B : Nat} {u u' : World} {v : Value} {l : List Bool} (h : Lb u B v l) (hb : Below u.heap.size u u') : Lb u' B v l := ow_kept h hb (Nat.le_refl _)
theorem Mk.pl_le (l : List UInt8) : ∀ (q i : Nat), (pl q i l).length ≤ l.length := by
  induction l with
  | nil => intro q i; exact Nat.le_refl _
  | cons b l ih =>
    intro q i
    by_cases hm : q = 0 ∧ isM b.toNat = true
    · obtain ⟨rfl, hm⟩ := hm
      rw [pl_mark i b l hm]
      exact Nat.succ_le_succ (ih _ _)
    · rw [pl_other q i b l hm]
      exact Nat.le_succ_of_le (ih _ _)
set_option maxHeartbeats 1000000 in
theorem awake13_any (w : World) :
    Calls Try.prog 7 #[] w fun e w' => e = .returned (.bool true) ∧ Below w.heap.size w w' := by
  have HP := hidden (fun w => kPlaces_any ⟨#[91, 49, 93]⟩ w (by decide))
  rw [show Mk.pl 0 0 (⟨#[91, 49, 93]⟩ : ByteArray).data.toList = [0, 2] from by decide +kernel] at HP
  have HI := hidden (fun w => kIs_any 44 w (by decide))
  rw [show Mk.isM 44 = true from rfl] at HI
  go_enter Try.func7, Try.ntmps7
  go_wp2_with fail
  refine (HP.out _).mono ?_
  rintro e w1 ⟨⟨v, rfl, hv⟩, h1⟩
  have HB1 := hidden h1
  obtain ⟨ao, ca, rfl, hca, hfa⟩ := hv.get (n := 2) rfl
  obtain ⟨g, rfl, hg, hga⟩ := hfa (by decide)
  have c1 : w1.cell? ⟨g, 1, none⟩ = some (.int .i64 2) := hga 1 (by decide)
  have hca2 : (2 : Nat) ≤ ca := hca
  clear h1 hv hfa hga hg
  go_wp2_with fail
  refine (HI.out _).mono ?_
  rintro e w2 ⟨rfl, h2⟩
  have HB2 := hidden (Mk.bel_then HB1.out h2)
  clear h2
  go_wp2_with fail
  go_ret
  exact ⟨rfl, HB2.out⟩
end Go.Proofs.Ytifkemcjificcaa
