/-
  The contract of awake: it returns true; nothing that was there is changed.
-/
import Derived.Test.YtkendkohobfnnaaBtList
namespace Go.Proofs.Ytkendkohobfnnaa
open Go.RowKit
set_option maxHeartbeats 1000000 in
theorem awake_any (w : World) :
    Calls Try.prog 9 #[] w fun e w' => e = .returned (.bool true) ∧ Below w.heap.size w w' := by
  have HN := hidden (Bd.new w)
  go_enter Try.func9, Try.ntmps9
  go_wp2_with fail
  refine (Put_ok w.heap.size 0 0 5 3 w.heap.size (.slice none 0 0) _ HN.out (by decide) (by decide) (by decide)).mono ?_
  rintro e w1 ⟨rfl, v1, hb1, hk1⟩
  have HB1 : Hid (Bd w1 w.heap.size w.heap.size 3 5 v1) := hb1
  have HL1 : Hid (Below w.heap.size w w1) := ((Below.refl _ _).alloc (Nat.le_refl _) _).trans (hk1.below HN.out)
  clear hb1 hk1
  go_wp2_with fail
  refine (BLen_any w.heap.size 3 5 w.heap.size v1 _ HB1.out).mono ?_
  rintro e w2 ⟨rfl, rfl⟩
  go_wp2_with fail
  refine (BRow_any w.heap.size 3 5 w.heap.size v1 _ HB1.out).mono ?_
  rintro e w3 ⟨r1, u1, rfl, hq1, hq2, hq3, hq4⟩
  have HB3 : Hid (Bd w3 w.heap.size w.heap.size 3 5 v1) := HB1.out.below hq2 (Nat.le_refl _)
  have HL3 : Hid (Below w.heap.size w w3) := HL1.out.trans (hq2.mono HL1.out.size)
  clear hq1 hq2 hq3 hq4
  go_wp2_with fail
  refine (BRow_any w.heap.size 3 5 w.heap.size v1 _ HB3.out).mono ?_
  rintro e w4 ⟨r2, u2, rfl, hq1, hq2, hq3, hq4⟩
  have HR4 := hidden hq1
  have HL4 : Hid (Below w.heap.size w w4) := HL3.out.trans (hq2.mono HL3.out.size)
  clear hq1 hq2 hq3 hq4
  go_wp2_with fail
  refine (Get_is r2 3 5 2 true u2 _ HR4.out (by decide) (by decide)).mono ?_
  rintro e w5 ⟨rfl, rfl⟩
  go_wp2_with fail
  go_ret
  exact ⟨rfl, HL4.out⟩
end Go.Proofs.Ytkendkohobfnnaa
