/-
  The law NumCmps: its walk.
-/
import Derived.Test.YthimbaflodphmaaDoorNuAwake
import Derived.Test.YthimbaflodphmaaDoorNuRefAsk
namespace Go.Proofs.YthimbaflodphmaaDoor
open Go.RowKit
open Nu
set_option maxHeartbeats 2000000 in
set_option maxRecDepth 100000 in
theorem NumCmps_walk (s : ByteArray) (n : Int) (W : World) (hs : s.size ≤ 9223372036854775807) (n0 : -9223372036854775808 ≤ n) (n1 : n ≤ 9223372036854775807) (hT : Ten W) :
    Calls Tryd.prog 4 #[.string s, .int .i64 n] W fun e w' => e = .returned (.bool true) ∧ Below W.heap.size W w' := by
  obtain ⟨l, rfl⟩ : ∃ l, s = str l := ⟨s.data.toList, (str_of s).symm⟩
  have hsz := str_size l
  rw [hsz] at hs
  have HT := hidden hT
  clear hT
  go_enter Tryd.func4, Tryd.ntmps4
  go_wp2_with fail
  refine (awake10_any _ HT.out).mono ?_
  rintro e w1 ⟨rfl, hB1⟩
  have HB1 := hidden hB1
  have HT1 := hidden (HT.out.below hB1 (Nat.le_refl _))
  clear hB1
  by_cases hl : l.length ≤ 200
  · have hC := fun v hv => Cmp_any l n n0 n1 v (by omega) hv
    have hR := fun v => rCmp10_any l n n0 n1 v (by omega)
    generalize cmpZ n (Nu.read l) = x at hC hR
    have HC := hidden hC
    have HR := hidden hR
    clear hC hR
    go_wp2_with fail
    refine (HC.out _ HT1.out).mono ?_
    rintro e w2 ⟨rfl, hB2⟩
    have HB2 := hidden (below_after HB1.out hB2)
    clear hB2
    go_wp2_with fail
    refine (HR.out _).mono ?_
    rintro e w3 ⟨rfl, hB3⟩
    have HB3 := hidden (below_after HB2.out hB3)
    clear hB3
    go_wp2_with fail
    go_ret
    exact ⟨rfl, HB3.out⟩
  · have hl2 : 200 < l.length := by omega
    clear hl
    go_wp2_with fail
    refine (awake10_any _ HT1.out).mono ?_
    rintro e w2 ⟨rfl, hB2⟩
    have HB2 := hidden (below_after HB1.out hB2)
    clear hB2
    go_wp2_with fail
    go_ret
    exact ⟨rfl, HB2.out⟩
end Go.Proofs.YthimbaflodphmaaDoor
