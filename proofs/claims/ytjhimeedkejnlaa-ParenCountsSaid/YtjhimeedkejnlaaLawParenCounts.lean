/-
  The walk of the law ParenCounts: it returns true for every list of Puts and every two numbers; nothing that was there is changed.
-/
import Derived.Test.YtjhimeedkejnlaaPnAwake
import Derived.Test.YtjhimeedkejnlaaOpsBelow
namespace Go.Proofs.Ytjhimeedkejnlaa
open Go.RowKit
theorem Flt.same_int (a : Int) (ha : a.natAbs < 2 ^ 53) : FloatKind.f64.format.order (floatOfInt .f64 a) (floatOfInt .f64 a) = some .eq := by
  rw [Flt.order_int a a ha ha]
  simp [compare, compareOfLessAndEq]
set_option maxHeartbeats 1000000 in
theorem ParenCounts_long (l : List (Nat × Int)) (u : Value) (a b : Int) (w : World) (h : Ops w u l) (hl : 60 < l.length) (hm : l.length ≤ 9223372036854775807) :
    Calls Try.prog 3 #[u, .int .i64 a, .int .i64 b] w fun e w' => e = .returned (.bool true) ∧ Below w.heap.size w w' := by
  obtain ⟨ao, cap, rfl, hcap, hc⟩ := h.cells
  clear h hc
  go_enter Try.func3, Try.ntmps3
  go_wp2_with fail
  refine (awake6_any w).mono ?_
  rintro e w1 ⟨rfl, hq1⟩
  have HQ1 := hidden hq1
  clear hq1
  go_wp2_with fail
  refine (awake6_any w1).mono ?_
  rintro e w2 ⟨rfl, hq2⟩
  have HQ2 := hidden hq2
  clear hq2
  go_wp2_with fail
  go_ret
  exact ⟨rfl, HQ1.out.trans (HQ2.out.mono HQ1.out.size)⟩
set_option maxHeartbeats 1000000 in
theorem ParenCounts_short (l : List (Nat × Int)) (u : Value) (a b : Int) (w : World) (h : Ops w u l) (hl : l.length ≤ 60) :
    Calls Try.prog 3 #[u, .int .i64 a, .int .i64 b] w fun e w' => e = .returned (.bool true) ∧ Below w.heap.size w w' := by
  have HH := hidden h
  have hL := Bt.all_length l l.length
  rw [List.take_of_length_le (Nat.le_refl _)] at hL
  obtain ⟨ao, cap, hu, hcap, _⟩ := h.cells
  subst hu
  clear h
  go_enter Try.func3, Try.ntmps3
  go_wp2_with fail
  refine (awake6_any w).mono ?_
  rintro e' w1 ⟨rfl, hq1⟩
  have HQ1 := hidden hq1
  have HO1 := hidden (HH.out.below hq1 (Nat.le_refl _))
  clear hq1
  go_wp2_with fail
  refine (All_any l _ w1 HO1.out hl).mono ?_
  rintro e' w2 ⟨v2, rfl, hb2, hq2⟩
  have HB2 : Hid (Bl w2 v2 (Bt.all l)) := hb2
  have HQ2 := hidden (HQ1.out.trans (hq2.mono HQ1.out.size))
  clear hb2 hq2
  generalize Bt.all l = L at *
  go_wp2_with fail
  refine (Made_any L v2 w2 HB2.out (by omega)).mono ?_
  rintro e' w3 ⟨r3, u3, rfl, hr3, hq3, _, _⟩
  have HR3 := hidden hr3
  have HB3 : Hid (Bl w3 v2 L) := HB2.out.below hq3 (Nat.le_refl _)
  have HQ3 := hidden (HQ2.out.trans (hq3.mono HQ2.out.size))
  clear hr3 hq3
  have E1 := hidden (PExcess_any r3 L.length (Bt.num L) a b u3 w3 HR3.out)
  have E2 := hidden (PReach_any r3 L.length (Bt.num L) a b u3 w3 HR3.out)
  have E3 := hidden (rPExcess_any L v2 a b w3 HB3.out.view (by omega))
  have E4 := hidden (rPReach_any L v2 a b w3 HB3.out.view (by omega))
  have hft := Pn.fr_to L.length a b
  have hlo := Wd.lo_bounds (Bt.num L / 2 ^ Pn.fr L.length a) (Pn.to L.length a b - Pn.fr L.length a)
  have hhi := Wd.hi_bounds (Bt.num L / 2 ^ Pn.fr L.length a) (Pn.to L.length a b - Pn.fr L.length a)
  generalize Wd.exc (Bt.num L / 2 ^ Pn.fr L.length a) (Pn.to L.length a b - Pn.fr L.length a) = x1 at *
  generalize Wd.lo (Bt.num L / 2 ^ Pn.fr L.length a) (Pn.to L.length a b - Pn.fr L.length a) = x2 at *
  generalize Wd.hi (Bt.num L / 2 ^ Pn.fr L.length a) (Pn.to L.length a b - Pn.fr L.length a) = x3 at *
  have f1 := Flt.same_int x2 (by omega)
  have f2 := Flt.same_int x3 (by omega)
  clear hft hlo hhi
  go_wp2_with fail
  refine E4.out.mono ?_
  rintro e' w4 ⟨rfl, rfl⟩
  go_wp2_with fail
  refine E2.out.mono ?_
  rintro e' w4 ⟨rfl, rfl⟩
  go_wp2_with fail
  refine E1.out.mono ?_
  rintro e' w4 ⟨rfl, rfl⟩
  go_wp2_with fail
  refine E3.out.mono ?_
  rintro e' w4 ⟨rfl, rfl⟩
  go_wp2_with fail
  go_ret
  exact ⟨rfl, HQ3.out⟩
theorem ParenCounts_walk (l : List (Nat × Int)) (u : Value) (a b : Int) (w : World) (h : Ops w u l) (hm : l.length ≤ 9223372036854775807) :
    Calls Try.prog 3 #[u, .int .i64 a, .int .i64 b] w fun e w' => e = .returned (.bool true) ∧ Below w.heap.size w w' := by
  by_cases hl : l.length ≤ 60
  · exact ParenCounts_short l u a b w h hl
  · exact ParenCounts_long l u a b w h (by omega) hm
end Go.Proofs.Ytjhimeedkejnlaa
