/-
  The walk of the law UtfScalars: it returns true for every string and every number; nothing that was there is changed.
-/
import Derived.Test.YteennbohfjiheaaUtRefR
namespace Go.Proofs.Yteennbohfjiheaa
open Go.RowKit
theorem drewN_below {B : Nat} {a w : World} (h : Below B a w) (n : Nat) : Below B a (w.drewN n) := ⟨h.os, h.tape, h.output, h.size, h.block⟩
theorem Scalar_any (s : ByteArray) (w : World) (hs : s.size ≤ 9223372036854775807) :
    Calls Try.prog 16 #[.string s] w fun e w' => e = .returned (.tuple #[.int .i64 ((Ut.sc s.data.toList).1 : Nat), .int .i64 ((Ut.sc s.data.toList).2 : Nat)]) ∧ ∃ m, w' = w.drewN m := by
  by_cases h : Ut.ld 0 s.data.toList = 0
  · rw [show Ut.sc s.data.toList = (0, 0) from if_pos h]
    refine (Scalar_none s w hs h).mono ?_
    rintro e w' ⟨rfl, rfl⟩
    exact ⟨rfl, 0, rfl⟩
  · rw [show Ut.sc s.data.toList = _ from if_neg h]
    exact Scalar_some s _ w hs rfl (by omega)
set_option maxHeartbeats 1000000 in
theorem UtfScalars_long (s : ByteArray) (c : Int) (w : World) (hl : 300 < s.size) (hm : s.size ≤ 9223372036854775807) :
    Calls Try.prog 5 #[.string s, .int .i64 c] w fun e w' => e = .returned (.bool true) ∧ Below w.heap.size w w' := by
  go_enter Try.func5, Try.ntmps5
  go_wp2_with fail
  refine (awake_any w).mono ?_
  rintro e w1 ⟨rfl, hq1⟩
  have HQ1 := hidden hq1
  clear hq1
  go_wp2_with fail
  refine (awake_any w1).mono ?_
  rintro e w2 ⟨rfl, hq2⟩
  have HQ2 := hidden hq2
  clear hq2
  go_wp2_with fail
  go_ret
  exact ⟨rfl, HQ1.out.trans (HQ2.out.mono HQ1.out.size)⟩
set_option maxHeartbeats 1000000 in
theorem UtfScalars_short (s : ByteArray) (c : Int) (w : World) (hl : s.size ≤ 300) :
    Calls Try.prog 5 #[.string s, .int .i64 c] w fun e w' => e = .returned (.bool true) ∧ Below w.heap.size w w' := by
  obtain ⟨A, hA⟩ : ∃ A, A = (Ut.sc s.data.toList).1 := ⟨_, rfl⟩
  obtain ⟨B, hB⟩ : ∃ B, B = (Ut.sc s.data.toList).2 := ⟨_, rfl⟩
  have HS := hidden (fun w => Scalar_any s w (by omega))
  have HR := hidden (fun w => rScalar_any s w (by omega))
  rw [← hA, ← hB] at HS HR
  clear hA hB
  go_enter Try.func5, Try.ntmps5
  go_wp2_with fail
  refine (awake_any w).mono ?_
  rintro e w1 ⟨rfl, hq1⟩
  have HQ1 := hidden hq1
  clear hq1
  go_wp2_with fail
  refine (HS.out _).mono ?_
  rintro e w2 ⟨rfl, m, hw2⟩
  have HQ2 : Hid (Below w.heap.size w w2) := by
    show Below _ _ _
    rw [hw2]
    exact drewN_below HQ1.out m
  clear hw2
  go_wp2_with fail
  refine (HR.out _).mono ?_
  rintro e w3 ⟨rfl, hq3⟩
  have HQ3 := hidden (HQ2.out.trans (hq3.mono HQ2.out.size))
  clear hq3
  go_wp2_with fail
  refine (Put_any c _).mono ?_
  rintro e w4 ⟨rfl, hq4⟩
  have HQ4 := hidden (HQ3.out.trans (hq4.mono HQ3.out.size))
  clear hq4
  go_wp2_with fail
  refine (rPut_any c _).mono ?_
  rintro e w5 ⟨rfl, hq5⟩
  have HQ5 := hidden (HQ4.out.trans (hq5.mono HQ4.out.size))
  clear hq5
  go_wp2_with fail
  go_ret
  exact ⟨rfl, HQ5.out⟩
theorem UtfScalars_walk (s : ByteArray) (c : Int) (w : World) (hm : s.size ≤ 9223372036854775807) :
    Calls Try.prog 5 #[.string s, .int .i64 c] w fun e w' => e = .returned (.bool true) ∧ Below w.heap.size w w' := by
  by_cases hl : s.size ≤ 300
  · exact UtfScalars_short s c w hl
  · exact UtfScalars_long s c w (by omega) hm
end Go.Proofs.Yteennbohfjiheaa
