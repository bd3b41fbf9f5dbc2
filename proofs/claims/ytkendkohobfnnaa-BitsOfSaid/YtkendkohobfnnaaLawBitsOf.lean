/-
  The walk of the law BitsOf: it returns true for every string; nothing that was there is changed.
-/
import Derived.Test.YtkendkohobfnnaaBtAwake
import Derived.Test.YtkendkohobfnnaaBtRefO
namespace Go.Proofs.Ytkendkohobfnnaa
open Go.RowKit
set_option maxHeartbeats 1000000 in
theorem BitsOf_long (s : ByteArray) (w : World) (hl : 600 < s.size) (hm : s.size ≤ 9223372036854775807) :
    Calls Try.prog 6 #[.string s] w fun e w' => e = .returned (.bool true) ∧ Below w.heap.size w w' := by
  go_enter Try.func6, Try.ntmps6
  go_wp2_with fail
  refine (awake_any w).mono ?_
  rintro e w1 ⟨rfl, hq1⟩
  have HQ1 := hidden hq1
  clear hq1
  go_wp2_with fail
  refine (awake_any w1).mono ?_
  rintro e w2 ⟨rfl, hq2⟩
  have HQ2 := hidden hq2
  clear hq2
  go_wp2_with fail
  go_ret
  exact ⟨rfl, HQ1.out.trans (HQ2.out.mono HQ1.out.size)⟩
set_option maxHeartbeats 1000000 in
theorem BitsOf_none (s : ByteArray) (w : World) (hl : s.size ≤ 600) (h : Bt.ofB s.data.toList = none) :
    Calls Try.prog 6 #[.string s] w fun e w' => e = .returned (.bool true) ∧ Below w.heap.size w w' := by
  have HH := hidden h
  clear h
  go_enter Try.func6, Try.ntmps6
  go_wp2_with fail
  refine (awake_any w).mono ?_
  rintro e w1 ⟨rfl, hq1⟩
  have HQ1 := hidden hq1
  clear hq1
  go_wp2_with fail
  refine (Of_none s _ (by omega) HH.out).mono ?_
  rintro e w2 ⟨rfl, hq2⟩
  have HQ2 := hidden (HQ1.out.trans (hq2.mono HQ1.out.size))
  clear hq2
  go_wp2_with fail
  refine (rOf_any s _ hl).mono ?_
  rintro e w3 ⟨hq3, v3, ⟨_, rfl⟩ | ⟨n, X, hs, _⟩⟩
  · have HQ3 := hidden (HQ2.out.trans (hq3.mono HQ2.out.size))
    clear hq3
    go_wp2_with fail
    go_ret
    exact ⟨rfl, HQ3.out⟩
  · rw [HH.out] at hs
    cases hs
set_option maxHeartbeats 1000000 in
theorem BitsOf_some (s : ByteArray) (n X : Nat) (w : World) (hl : s.size ≤ 600) (h : Bt.ofB s.data.toList = some (n, X)) :
    Calls Try.prog 6 #[.string s] w fun e w' => e = .returned (.bool true) ∧ Below w.heap.size w w' := by
  have HH := hidden h
  have hsp := Bt.ofB_some h
  have HX := hidden hsp.2.1
  clear h hsp
  go_enter Try.func6, Try.ntmps6
  go_wp2_with fail
  refine (awake_any w).mono ?_
  rintro e w1 ⟨rfl, hq1⟩
  have HQ1 := hidden hq1
  clear hq1
  go_wp2_with fail
  refine (Of_some s n X _ (by omega) HH.out).mono ?_
  rintro e w2 ⟨r2, u2, rfl, hr2, hq2, _, _⟩
  have HR2 := hidden hr2
  have HQ2 := hidden (HQ1.out.trans (hq2.mono HQ1.out.size))
  clear hq2 hr2
  go_wp2_with fail
  refine (rOf_any s _ hl).mono ?_
  rintro e w3 ⟨hq3, v3, ⟨hs, _⟩ | ⟨n3, X3, hs, rfl, hv3⟩⟩
  · rw [HH.out] at hs
    cases hs
  · rw [HH.out] at hs
    simp only [Option.some.injEq, Prod.mk.injEq] at hs
    obtain ⟨rfl, rfl⟩ := hs
    have HV3 : Hid (Bl w3 v3 (Bt.bitsTo X n)) := hv3
    have HR3 : Hid (Rw w3 r2 (Bt.bitsTo X n).length (Bt.num (Bt.bitsTo X n)) u2) := by
      show Rw w3 r2 (Bt.bitsTo X n).length (Bt.num (Bt.bitsTo X n)) u2
      rw [Bt.bitsTo_length, Bt.num_bitsTo_of X n HX.out]
      exact HR2.out.below hq3 (Nat.le_refl _)
    have HQ3 := hidden (HQ2.out.trans (hq3.mono HQ2.out.size))
    clear hq3 hv3
    go_wp2_with fail
    refine (Is_true r2 _ u2 v3 _ HR3.out HV3.out.view).mono ?_
    rintro e w4 ⟨rfl, m4, hm4⟩
    have HM4 := hidden hm4
    clear hm4
    go_wp2_with fail
    go_ret
    refine ⟨rfl, ?_⟩
    rw [HM4.out]
    exact drewN_below HQ3.out m4
theorem BitsOf_walk (s : ByteArray) (w : World) (hm : s.size ≤ 9223372036854775807) :
    Calls Try.prog 6 #[.string s] w fun e w' => e = .returned (.bool true) ∧ Below w.heap.size w w' := by
  by_cases hl : s.size ≤ 600
  · cases h : Bt.ofB s.data.toList with
    | none => exact BitsOf_none s w hl h
    | some p => exact BitsOf_some s p.1 p.2 w hl h
  · exact BitsOf_long s w (by omega) hm
end Go.Proofs.Ytkendkohobfnnaa
