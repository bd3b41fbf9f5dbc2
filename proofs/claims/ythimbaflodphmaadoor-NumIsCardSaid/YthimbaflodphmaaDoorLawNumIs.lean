/-
  The law NumIs: its walk.
-/
import Derived.Test.YthimbaflodphmaaDoorNuAwake
import Derived.Test.YthimbaflodphmaaDoorNuRefWh
namespace Go.Proofs.YthimbaflodphmaaDoor
open Go.RowKit
open Nu
set_option maxHeartbeats 2000000 in
set_option maxRecDepth 100000 in
theorem NumIs_walk (s : ByteArray) (W : World) (hs : s.size ≤ 9223372036854775807) (hT : Ten W) :
    Calls Tryd.prog 3 #[.string s] W fun e w' => e = .returned (.bool true) ∧ Below W.heap.size W w' := by
  obtain ⟨l, rfl⟩ : ∃ l, s = str l := ⟨s.data.toList, (str_of s).symm⟩
  have hsz := str_size l
  rw [hsz] at hs
  have HT := hidden hT
  clear hT
  go_enter Tryd.func3, Tryd.ntmps3
  go_wp2_with fail
  refine (awake10_any _ HT.out).mono ?_
  rintro e w1 ⟨rfl, hB1⟩
  have HB1 := hidden hB1
  have HT1 := hidden (HT.out.below hB1 (Nat.le_refl _))
  clear hB1
  by_cases hl : l.length ≤ 200
  · have hP := fun v hv => Whole_any l v (by omega) hv
    have hR := fun v => rWhole10_any l v (by omega)
    have hI := fun v => Is_any l v (by omega)
    have hJ := fun v => rIs10_any l v (by omega)
    generalize wholeZ (Nu.read l) = q at hP hR
    generalize (Nu.read l).isSome = y at hI hJ
    obtain ⟨a, ok⟩ := q
    simp only at hP hR
    have HP := hidden hP
    have HR := hidden hR
    have HI := hidden hI
    have HJ := hidden hJ
    clear hP hR hI hJ
    go_wp2_with fail
    refine (HP.out _ HT1.out).mono ?_
    rintro e w2 ⟨rfl, hB2⟩
    have HB2 := hidden (below_after HB1.out hB2)
    clear hB2
    go_wp2_with fail
    refine (HR.out _).mono ?_
    rintro e w3 ⟨rfl, hB3⟩
    have HB3 := hidden (below_after HB2.out hB3)
    clear hB3
    go_wp2_with fail
    refine (HI.out _).mono ?_
    rintro e w4 ⟨rfl, hB4⟩
    have HB4 := hidden (below_after HB3.out hB4)
    clear hB4
    go_wp2_with fail
    refine (HJ.out _).mono ?_
    rintro e w5 ⟨rfl, hB5⟩
    have HB5 := hidden (below_after HB4.out hB5)
    clear hB5
    go_wp2_with fail
    go_ret
    exact ⟨rfl, HB5.out⟩
  · have hl2 : 200 < l.length := by omega
    clear hl
    go_wp2_with fail
    refine (awake10_any _ HT1.out).mono ?_
    rintro e w2 ⟨rfl, hB2⟩
    have HB2 := hidden (below_after HB1.out hB2)
    clear hB2
    go_wp2_with fail
    go_ret
    exact ⟨rfl, HB2.out⟩
end Go.Proofs.YthimbaflodphmaaDoor
