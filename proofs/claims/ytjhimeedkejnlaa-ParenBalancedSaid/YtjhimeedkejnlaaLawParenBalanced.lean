/-
  The walk of the law ParenBalanced: it returns true for every list of bits; nothing that was there is changed.
-/
import Derived.Test.YtjhimeedkejnlaaOpenBools
namespace Go.Proofs.Ytjhimeedkejnlaa
open Go.RowKit
theorem PExcess_whole (r n X : Nat) (u : Value) (w : World) (h : Rw w r n X u) :
    Calls Try.prog 13 #[.pointer (some ⟨r, 0, none⟩), .int .i64 0, .int .i64 (n : Nat)] w fun e w' => e = .returned (.int .i64 (Wd.exc X n)) ∧ w' = w := by
  have := PExcess_any r n X 0 n u w h
  obtain ⟨h1, h2⟩ := Pn.whole n (n : Int) rfl
  rw [h1, h2, Nat.sub_zero, Nat.pow_zero, Nat.div_one] at this
  exact this
theorem PReach_whole (r n X : Nat) (u : Value) (w : World) (h : Rw w r n X u) :
    Calls Try.prog 12 #[.pointer (some ⟨r, 0, none⟩), .int .i64 0, .int .i64 (n : Nat)] w fun e w' => e = .returned (.complex .f64 (floatOfInt .f64 (Wd.lo X n)) (floatOfInt .f64 (Wd.hi X n))) ∧ w' = w := by
  have := PReach_any r n X 0 n u w h
  obtain ⟨h1, h2⟩ := Pn.whole n (n : Int) rfl
  rw [h1, h2, Nat.sub_zero, Nat.pow_zero, Nat.div_one] at this
  exact this
theorem Flt.order_zero (a : Int) (ha : a.natAbs < 2 ^ 53) : FloatKind.f64.format.order (floatOfInt .f64 a) 0 = some (compare a 0) := by
  have := Flt.order_int a 0 ha (by decide)
  rw [Wd.float_zero] at this
  exact this
set_option maxHeartbeats 1000000 in
theorem ParenBalanced_long (L : List Bool) (u : Value) (w : World) (h : Ba w u L) (hl : 3000 < L.length) (hm : L.length ≤ 9223372036854775807) :
    Calls Try.prog 5 #[u] w fun e w' => e = .returned (.bool true) ∧ Below w.heap.size w w' := by
  obtain ⟨ao, cap, rfl, hcap, hc⟩ := h.view
  clear h hc
  go_enter Try.func5, Try.ntmps5
  go_wp2_with fail
  refine (awake6_any w).mono ?_
  rintro e w1 ⟨rfl, hq1⟩
  have HQ1 := hidden hq1
  clear hq1
  go_wp2_with fail
  refine (awake6_any w1).mono ?_
  rintro e w2 ⟨rfl, hq2⟩
  have HQ2 := hidden hq2
  clear hq2
  go_wp2_with fail
  go_ret
  exact ⟨rfl, HQ1.out.trans (HQ2.out.mono HQ1.out.size)⟩
set_option maxHeartbeats 4000000 in
theorem ParenBalanced_short (L : List Bool) (u : Value) (w : World) (h : Ba w u L) (hL : L.length ≤ 3000) :
    Calls Try.prog 5 #[u] w fun e w' => e = .returned (.bool true) ∧ Below w.heap.size w w' := by
  obtain ⟨i0, hi, hz0, hz1, hz2⟩ := info_parts Try.infoBool
  have HH := hidden h
  obtain ⟨ao, cap, hu, hcap, _⟩ := h.view
  subst hu
  clear h
  go_enter Try.func5, Try.ntmps5
  go_wp2_with fail
  refine (awake6_any w).mono ?_
  rintro e' w1 ⟨rfl, hq1⟩
  have HQ1 := hidden hq1
  have HO1 := hidden (HH.out.below hq1 (Nat.le_refl _))
  clear hq1
  go_wp2_with fail
  refine (Made_view L _ w1 HO1.out.view (by omega)).mono ?_
  rintro e' w3 ⟨r3, u3, rfl, hr3, hq3⟩
  have HR3 := hidden hr3
  have HO3 := hidden (HO1.out.below hq3 (Nat.le_refl _))
  have HQ3 := hidden (HQ1.out.trans (hq3.mono HQ1.out.size))
  clear hr3 hq3
  go_wp2_with fail
  refine (rBalanced_any L _ w3 HO3.out.view (by omega)).mono ?_
  rintro e' w3 ⟨rfl, rfl⟩
  go_wp2_with fail
  refine (Balanced_any r3 L.length (Bt.num L) u3 _ HR3.out).mono ?_
  rintro e' w4 ⟨rfl, hq4⟩
  have HR4 := hidden (HR3.out.below hq4 (Nat.le_refl _))
  have HO4 := hidden (HO3.out.below hq4 (Nat.le_refl _))
  have HQ4 := hidden (HQ3.out.trans (hq4.mono HQ3.out.size))
  clear hq4
  have hbl := Pn.bal_lo (Bt.num L) L.length
  have E1 := hidden (PExcess_whole r3 L.length (Bt.num L) u3 w4 HR4.out)
  have E2 := hidden (PReach_whole r3 L.length (Bt.num L) u3 w4 HR4.out)
  have hlo := Wd.lo_bounds (Bt.num L) L.length
  have HW := hidden (Pn.bal_wrap L)
  have f1 := Flt.order_zero (Wd.lo (Bt.num L) L.length) (by omega)
  generalize Wd.exc (Bt.num L) L.length = E at *
  generalize Wd.lo (Bt.num L) L.length = lo at *
  by_cases he : E = 0
  · subst he
    rw [show ((0 : Int) == 0) = true from rfl, Bool.true_and] at hbl
    by_cases h0 : 0 ≤ lo
    · rw [decide_eq_true h0] at hbl
      have HBL := hidden hbl
      rw [hbl]
      clear hbl
      have hor : lo = 0 ∨ 0 < lo := by omega
      rcases hor with h1 | h1
      · subst h1
        rw [show compare (0 : Int) 0 = .eq from rfl] at f1
        clear hlo h0
        go_wp2_with fail
        refine E1.out.mono ?_
        rintro e' w5 ⟨rfl, rfl⟩
        go_wp2_with fail
        refine E2.out.mono ?_
        rintro e' w5 ⟨rfl, rfl⟩
        go_wp2_with (first
          | (at_builtin; refine wpList_append_one _ rfl (.tmp 39) (.tmp 40) 24 rfl w.heap.size 4 i0 (.bool false) 1 Try.underlying24 hi hz0 hz1 hz2 rfl (.slice none 0 0) 0 [] rfl (World.ownsRow_nil _ _ _ _) w5.heap.size 1 (.bool true) (0, 0) rfl (heap_alloc_new _ _) rfl (by unfold maxLen; omega) (by omega) (by simp; have := HQ4.out.size; omega) ?_; intro v1 wA hown1 hgrow1; have HP1 := hidden hown1; have HG1 := hidden hgrow1; have HQA := hidden ((HQ4.out.alloc HQ4.out.size _).grown hgrow1 (by simp; have := HQ4.out.size; omega) (fun k hk => by simp [Value.ownBlock] at hk)); have HOA := hidden (HO4.out.below (((Below.refl w5.heap.size w5).alloc (Nat.le_refl _) _).grown hgrow1 (by simp) (fun k hk => by simp [Value.ownBlock] at hk)) (Nat.le_refl _)); clear hown1 hgrow1)
          | (at_builtin; refine wpList_append_ba _ rfl (.tmp 42) (.tmp 43) 24 rfl w.heap.size 4 i0 (.bool false) 1 Try.underlying24 hi hz0 hz1 hz2 rfl v1 (0 + 1) ([] ++ [.bool true]) rfl HP1.out (.slice ao L.length cap) L rfl HOA.out (by unfold maxLen; omega) (by omega) HQA.out.size ?_; intro v2 wB hown2 hgrow2; have HP2 := hidden hown2; have HQB := hidden (HQA.out.grown hgrow2 HQA.out.size (fun k hk => (HP1.out.lt k hk).1)); clear hown2 hgrow2)
          | (at_builtin; refine wpList_append_one _ rfl (.tmp 45) (.tmp 46) 24 rfl w.heap.size 4 i0 (.bool false) 1 Try.underlying24 hi hz0 hz1 hz2 rfl v2 (0 + 1 + L.length) ([] ++ [.bool true] ++ Bt.bls L) rfl (World.ownsRow.alloc HP2.out _) wB.heap.size 1 (.bool false) (0, 0) rfl (heap_alloc_new _ _) rfl (by unfold maxLen; omega) (by omega) (by simp; have := HQB.out.size; omega) ?_; intro v3 wC hown3 hgrow3; have HP3 := hidden hown3; have HQC := hidden ((HQB.out.alloc HQB.out.size _).grown hgrow3 (by simp; have := HQB.out.size; omega) (fun k hk => (HP2.out.lt k hk).1)); clear hown3 hgrow3))
        have HM : Hid (Bl wC v3 (true :: L ++ [false])) := by
          have hx := own_base HP3.out (Nat.zero_le _)
          show wC.ownsRow 0 4 1 v3 (true :: L ++ [false]).length (Bt.bls (true :: L ++ [false]))
          have e1 : (true :: L ++ [false]).length = 0 + 1 + L.length + 1 := by simp; omega
          have e2 : Bt.bls (true :: L ++ [false]) = [] ++ [.bool true] ++ Bt.bls L ++ [.bool false] := by simp [Bt.bls]
          rw [e1, e2]
          exact hx
        have hlen : (true :: L ++ [false]).length = L.length + 2 := by simp
        refine (Made_any (true :: L ++ [false]) v3 wC HM.out (by rw [hlen]; omega)).mono ?_
        rintro e' wD ⟨rD, uD, rfl, hrD, hqD, _, _⟩
        rw [hlen] at hrD
        have HRD := hidden hrD
        have HQD := hidden (HQC.out.trans (hqD.mono HQC.out.size))
        clear hrD hqD
        go_wp2_with fail
        refine (Balanced_any rD _ _ uD _ HRD.out).mono ?_
        rintro e' wE ⟨rfl, hqE⟩
        rw [HW.out (by exact HBL.out)]
        have HQE := hidden (HQD.out.trans (hqE.mono HQD.out.size))
        clear hqE
        go_wp2_with fail
        go_ret
        exact ⟨rfl, HQE.out⟩
      · rw [show compare lo 0 = .gt from by simp only [compare, compareOfLessAndEq]; rw [if_neg (by omega), if_neg (by omega)]] at f1
        clear hlo h0 h1
        go_wp2_with fail
        refine E1.out.mono ?_
        rintro e' w5 ⟨rfl, rfl⟩
        go_wp2_with fail
        refine E2.out.mono ?_
        rintro e' w5 ⟨rfl, rfl⟩
        go_wp2_with (first
          | (at_builtin; refine wpList_append_one _ rfl (.tmp 39) (.tmp 40) 24 rfl w.heap.size 4 i0 (.bool false) 1 Try.underlying24 hi hz0 hz1 hz2 rfl (.slice none 0 0) 0 [] rfl (World.ownsRow_nil _ _ _ _) w5.heap.size 1 (.bool true) (0, 0) rfl (heap_alloc_new _ _) rfl (by unfold maxLen; omega) (by omega) (by simp; have := HQ4.out.size; omega) ?_; intro v1 wA hown1 hgrow1; have HP1 := hidden hown1; have HG1 := hidden hgrow1; have HQA := hidden ((HQ4.out.alloc HQ4.out.size _).grown hgrow1 (by simp; have := HQ4.out.size; omega) (fun k hk => by simp [Value.ownBlock] at hk)); have HOA := hidden (HO4.out.below (((Below.refl w5.heap.size w5).alloc (Nat.le_refl _) _).grown hgrow1 (by simp) (fun k hk => by simp [Value.ownBlock] at hk)) (Nat.le_refl _)); clear hown1 hgrow1)
          | (at_builtin; refine wpList_append_ba _ rfl (.tmp 42) (.tmp 43) 24 rfl w.heap.size 4 i0 (.bool false) 1 Try.underlying24 hi hz0 hz1 hz2 rfl v1 (0 + 1) ([] ++ [.bool true]) rfl HP1.out (.slice ao L.length cap) L rfl HOA.out (by unfold maxLen; omega) (by omega) HQA.out.size ?_; intro v2 wB hown2 hgrow2; have HP2 := hidden hown2; have HQB := hidden (HQA.out.grown hgrow2 HQA.out.size (fun k hk => (HP1.out.lt k hk).1)); clear hown2 hgrow2)
          | (at_builtin; refine wpList_append_one _ rfl (.tmp 45) (.tmp 46) 24 rfl w.heap.size 4 i0 (.bool false) 1 Try.underlying24 hi hz0 hz1 hz2 rfl v2 (0 + 1 + L.length) ([] ++ [.bool true] ++ Bt.bls L) rfl (World.ownsRow.alloc HP2.out _) wB.heap.size 1 (.bool false) (0, 0) rfl (heap_alloc_new _ _) rfl (by unfold maxLen; omega) (by omega) (by simp; have := HQB.out.size; omega) ?_; intro v3 wC hown3 hgrow3; have HP3 := hidden hown3; have HQC := hidden ((HQB.out.alloc HQB.out.size _).grown hgrow3 (by simp; have := HQB.out.size; omega) (fun k hk => (HP2.out.lt k hk).1)); clear hown3 hgrow3))
        have HM : Hid (Bl wC v3 (true :: L ++ [false])) := by
          have hx := own_base HP3.out (Nat.zero_le _)
          show wC.ownsRow 0 4 1 v3 (true :: L ++ [false]).length (Bt.bls (true :: L ++ [false]))
          have e1 : (true :: L ++ [false]).length = 0 + 1 + L.length + 1 := by simp; omega
          have e2 : Bt.bls (true :: L ++ [false]) = [] ++ [.bool true] ++ Bt.bls L ++ [.bool false] := by simp [Bt.bls]
          rw [e1, e2]
          exact hx
        have hlen : (true :: L ++ [false]).length = L.length + 2 := by simp
        refine (Made_any (true :: L ++ [false]) v3 wC HM.out (by rw [hlen]; omega)).mono ?_
        rintro e' wD ⟨rD, uD, rfl, hrD, hqD, _, _⟩
        rw [hlen] at hrD
        have HRD := hidden hrD
        have HQD := hidden (HQC.out.trans (hqD.mono HQC.out.size))
        clear hrD hqD
        go_wp2_with fail
        refine (Balanced_any rD _ _ uD _ HRD.out).mono ?_
        rintro e' wE ⟨rfl, hqE⟩
        rw [HW.out (by exact HBL.out)]
        have HQE := hidden (HQD.out.trans (hqE.mono HQD.out.size))
        clear hqE
        go_wp2_with fail
        go_ret
        exact ⟨rfl, HQE.out⟩
    · rw [decide_eq_false h0] at hbl
      rw [hbl]
      rw [show compare lo 0 = .lt from by simp only [compare, compareOfLessAndEq]; rw [if_pos (by omega)]] at f1
      clear hlo h0
      go_wp2_with fail
      refine E1.out.mono ?_
      rintro e' w5 ⟨rfl, rfl⟩
      go_wp2_with fail
      refine E2.out.mono ?_
      rintro e' w5 ⟨rfl, rfl⟩
      go_wp2_with (first
        | (at_builtin; refine wpList_append_one _ rfl (.tmp 39) (.tmp 40) 24 rfl w.heap.size 4 i0 (.bool false) 1 Try.underlying24 hi hz0 hz1 hz2 rfl (.slice none 0 0) 0 [] rfl (World.ownsRow_nil _ _ _ _) w5.heap.size 1 (.bool true) (0, 0) rfl (heap_alloc_new _ _) rfl (by unfold maxLen; omega) (by omega) (by simp; have := HQ4.out.size; omega) ?_; intro v1 wA hown1 hgrow1; have HP1 := hidden hown1; have HG1 := hidden hgrow1; have HQA := hidden ((HQ4.out.alloc HQ4.out.size _).grown hgrow1 (by simp; have := HQ4.out.size; omega) (fun k hk => by simp [Value.ownBlock] at hk)); have HOA := hidden (HO4.out.below (((Below.refl w5.heap.size w5).alloc (Nat.le_refl _) _).grown hgrow1 (by simp) (fun k hk => by simp [Value.ownBlock] at hk)) (Nat.le_refl _)); clear hown1 hgrow1)
        | (at_builtin; refine wpList_append_ba _ rfl (.tmp 42) (.tmp 43) 24 rfl w.heap.size 4 i0 (.bool false) 1 Try.underlying24 hi hz0 hz1 hz2 rfl v1 (0 + 1) ([] ++ [.bool true]) rfl HP1.out (.slice ao L.length cap) L rfl HOA.out (by unfold maxLen; omega) (by omega) HQA.out.size ?_; intro v2 wB hown2 hgrow2; have HP2 := hidden hown2; have HQB := hidden (HQA.out.grown hgrow2 HQA.out.size (fun k hk => (HP1.out.lt k hk).1)); clear hown2 hgrow2)
        | (at_builtin; refine wpList_append_one _ rfl (.tmp 45) (.tmp 46) 24 rfl w.heap.size 4 i0 (.bool false) 1 Try.underlying24 hi hz0 hz1 hz2 rfl v2 (0 + 1 + L.length) ([] ++ [.bool true] ++ Bt.bls L) rfl (World.ownsRow.alloc HP2.out _) wB.heap.size 1 (.bool false) (0, 0) rfl (heap_alloc_new _ _) rfl (by unfold maxLen; omega) (by omega) (by simp; have := HQB.out.size; omega) ?_; intro v3 wC hown3 hgrow3; have HP3 := hidden hown3; have HQC := hidden ((HQB.out.alloc HQB.out.size _).grown hgrow3 (by simp; have := HQB.out.size; omega) (fun k hk => (HP2.out.lt k hk).1)); clear hown3 hgrow3))
      go_ret
      exact ⟨rfl, HQC.out⟩
  · have hz : (E == 0) = false := by simpa using he
    rw [hz, Bool.false_and] at hbl
    rw [hbl]
    clear he hlo f1
    go_wp2_with fail
    refine E1.out.mono ?_
    rintro e' w5 ⟨rfl, rfl⟩
    go_wp2_with (first
      | (at_builtin; refine wpList_append_one _ rfl (.tmp 39) (.tmp 40) 24 rfl w.heap.size 4 i0 (.bool false) 1 Try.underlying24 hi hz0 hz1 hz2 rfl (.slice none 0 0) 0 [] rfl (World.ownsRow_nil _ _ _ _) w5.heap.size 1 (.bool true) (0, 0) rfl (heap_alloc_new _ _) rfl (by unfold maxLen; omega) (by omega) (by simp; have := HQ4.out.size; omega) ?_; intro v1 wA hown1 hgrow1; have HP1 := hidden hown1; have HG1 := hidden hgrow1; have HQA := hidden ((HQ4.out.alloc HQ4.out.size _).grown hgrow1 (by simp; have := HQ4.out.size; omega) (fun k hk => by simp [Value.ownBlock] at hk)); have HOA := hidden (HO4.out.below (((Below.refl w5.heap.size w5).alloc (Nat.le_refl _) _).grown hgrow1 (by simp) (fun k hk => by simp [Value.ownBlock] at hk)) (Nat.le_refl _)); clear hown1 hgrow1)
      | (at_builtin; refine wpList_append_ba _ rfl (.tmp 42) (.tmp 43) 24 rfl w.heap.size 4 i0 (.bool false) 1 Try.underlying24 hi hz0 hz1 hz2 rfl v1 (0 + 1) ([] ++ [.bool true]) rfl HP1.out (.slice ao L.length cap) L rfl HOA.out (by unfold maxLen; omega) (by omega) HQA.out.size ?_; intro v2 wB hown2 hgrow2; have HP2 := hidden hown2; have HQB := hidden (HQA.out.grown hgrow2 HQA.out.size (fun k hk => (HP1.out.lt k hk).1)); clear hown2 hgrow2)
      | (at_builtin; refine wpList_append_one _ rfl (.tmp 45) (.tmp 46) 24 rfl w.heap.size 4 i0 (.bool false) 1 Try.underlying24 hi hz0 hz1 hz2 rfl v2 (0 + 1 + L.length) ([] ++ [.bool true] ++ Bt.bls L) rfl (World.ownsRow.alloc HP2.out _) wB.heap.size 1 (.bool false) (0, 0) rfl (heap_alloc_new _ _) rfl (by unfold maxLen; omega) (by omega) (by simp; have := HQB.out.size; omega) ?_; intro v3 wC hown3 hgrow3; have HP3 := hidden hown3; have HQC := hidden ((HQB.out.alloc HQB.out.size _).grown hgrow3 (by simp; have := HQB.out.size; omega) (fun k hk => (HP2.out.lt k hk).1)); clear hown3 hgrow3))
    go_ret
    exact ⟨rfl, HQC.out⟩
theorem ParenBalanced_walk (L : List Bool) (u : Value) (w : World) (h : Ba w u L) (hm : L.length ≤ 9223372036854775807) :
    Calls Try.prog 5 #[u] w fun e w' => e = .returned (.bool true) ∧ Below w.heap.size w w' := by
  by_cases hl : L.length ≤ 3000
  · exact ParenBalanced_short L u w h hl
  · exact ParenBalanced_long L u w h (by omega) hm
end Go.Proofs.Ytjhimeedkejnlaa
