/-
  The walk of the law BitsBytes: it returns true for every list of Puts; nothing that was there is changed.
-/
import Derived.Test.YtkendkohobfnnaaBtAwake
import Derived.Test.YtkendkohobfnnaaBtRefB
import Derived.Test.YtkendkohobfnnaaBtOf
import Derived.Test.YtkendkohobfnnaaOpsBelow
namespace Go.Proofs.Ytkendkohobfnnaa
open Go.RowKit
set_option maxHeartbeats 1000000 in
theorem BitsBytes_long (l : List (Nat × Int)) (u : Value) (w : World) (h : Ops w u l) (hl : 60 < l.length) (hm : l.length ≤ 9223372036854775807) :
    Calls Try.prog 5 #[u] w fun e w' => e = .returned (.bool true) ∧ Below w.heap.size w w' := by
  obtain ⟨ao, cap, rfl, hcap, hc⟩ := h.cells
  clear h hc
  go_enter Try.func5, Try.ntmps5
  go_wp2_with fail
  refine (awake_any w).mono ?_
  rintro e w1 ⟨rfl, hq1⟩
  have HQ1 := hidden hq1
  clear hq1
  go_wp2_with fail
  refine (awake_any w1).mono ?_
  rintro e w2 ⟨rfl, hq2⟩
  have HQ2 := hidden hq2
  clear hq2
  go_wp2_with fail
  go_ret
  exact ⟨rfl, HQ1.out.trans (HQ2.out.mono HQ1.out.size)⟩
set_option maxHeartbeats 4000000 in
theorem BitsBytes_short (l : List (Nat × Int)) (u : Value) (w : World) (h : Ops w u l) (hl : l.length ≤ 60) :
    Calls Try.prog 5 #[u] w fun e w' => e = .returned (.bool true) ∧ Below w.heap.size w w' := by
  have HH := hidden h
  have hL := Bt.all_length l l.length
  rw [List.take_of_length_le (Nat.le_refl _)] at hL
  obtain ⟨ao, cap, hu, hcap, _⟩ := h.cells
  subst hu
  clear h
  go_enter Try.func5, Try.ntmps5
  go_wp2_with fail
  refine (awake_any w).mono ?_
  rintro e' w1 ⟨rfl, hq1⟩
  have HQ1 := hidden hq1
  have HO1 := hidden (HH.out.below hq1 (Nat.le_refl _))
  clear hq1
  go_wp2_with fail
  refine (All_any l _ w1 HO1.out hl).mono ?_
  rintro e' w2 ⟨v2, rfl, hb2, hq2⟩
  have HB2 : Hid (Bl w2 v2 (Bt.all l)) := hb2
  have HQ2 := hidden (HQ1.out.trans (hq2.mono HQ1.out.size))
  clear hb2 hq2
  generalize Bt.all l = L at *
  go_wp2_with fail
  refine (Made_any L v2 w2 HB2.out (by omega)).mono ?_
  rintro e' w3 ⟨r3, u3, rfl, hr3, hq3, _, _⟩
  have HR3 := hidden hr3
  have HB3 : Hid (Bl w3 v2 L) := HB2.out.below hq3 (Nat.le_refl _)
  have HQ3 := hidden (HQ2.out.trans (hq3.mono HQ2.out.size))
  clear hr3 hq3 HB2
  go_wp2_with fail
  refine (Bytes_any r3 _ _ u3 _ HR3.out).mono ?_
  rintro e' w4 ⟨rfl, h2⟩
  have HB4 : Hid (Bl w4 v2 L) := HB3.out.below h2 (Nat.le_refl _)
  have HQ4 := hidden (HQ3.out.trans (h2.mono HQ3.out.size))
  clear h2
  have hsz : (⟨(Bt.rowB L.length (Bt.num L)).toArray⟩ : ByteArray).size ≤ 9223372036854775807 := by
    show (Bt.rowTo L.length (Bt.num L) _).toArray.size ≤ _
    rw [List.size_toArray, Bt.rowTo_length]
    omega
  have HSZ := hidden hsz
  clear hsz
  go_wp2_with fail
  refine (Of_some _ L.length (Bt.num L) _ HSZ.out (Bt.ofB_row _ _ (by omega) (Bt.num_lt L))).mono ?_
  rintro e' w5 ⟨r5, u5, rfl, h1, h2, _, _⟩
  have HR5 := hidden h1
  have HB5 : Hid (Bl w5 v2 L) := HB4.out.below h2 (Nat.le_refl _)
  have HQ5 := hidden (HQ4.out.trans (h2.mono HQ4.out.size))
  clear h1 h2
  go_wp2_with fail
  refine (rBytes_any L v2 _ HB5.out (by omega)).mono ?_
  rintro e' w6 ⟨rfl, h2⟩
  have HR6 := hidden (HR5.out.below h2 (Nat.le_refl _))
  have HB6 : Hid (Bl w6 v2 L) := HB5.out.below h2 (Nat.le_refl _)
  have HQ6 := hidden (HQ5.out.trans (h2.mono HQ5.out.size))
  clear h2
  go_wp2_with fail
  refine (Is_true r5 L u5 v2 _ HR6.out HB6.out.view).mono ?_
  rintro e' w7 ⟨rfl, m7, hm7⟩
  have HM7 := hidden hm7
  clear hm7
  go_wp2_with fail
  go_ret
  refine ⟨ret_bool (by simp), ?_⟩
  rw [HM7.out]
  exact drewN_below HQ6.out m7
theorem BitsBytes_walk (l : List (Nat × Int)) (u : Value) (w : World) (h : Ops w u l) (hm : l.length ≤ 9223372036854775807) :
    Calls Try.prog 5 #[u] w fun e w' => e = .returned (.bool true) ∧ Below w.heap.size w w' := by
  by_cases hl : l.length ≤ 60
  · exact BitsBytes_short l u w h hl
  · exact BitsBytes_long l u w h (by omega) hm
end Go.Proofs.Ytkendkohobfnnaa
