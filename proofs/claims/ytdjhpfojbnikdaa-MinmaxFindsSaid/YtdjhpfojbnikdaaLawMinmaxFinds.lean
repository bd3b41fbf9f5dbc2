/-
  The walk of the law MinmaxFinds: it returns true for every list of pieces and every list of questions; nothing that was there is changed.
-/
import Derived.Test.YtdjhpfojbnikdaaMxRef
import Derived.Test.YtdjhpfojbnikdaaMxOpen
import Derived.Lib.QuietBelow
namespace Go.Proofs.Ytdjhpfojbnikdaa
open Go.RowKit Go.Sort
set_option maxHeartbeats 1000000 in
theorem MinmaxFinds_many (q : List (Int × Int)) (u v : Value) (w : World) (hq : Qs w v q) (hn : 10 < q.length) (hm : q.length ≤ 9223372036854775807) :
    Calls Try.prog 3 #[u, v] w fun e w' => e = .returned (.bool true) ∧ Below w.heap.size w w' := by
  obtain ⟨aq, capq, rfl, hcapq, _⟩ := hq.cells
  have hn' : (10 : Int) < (q.length : Int) := by omega
  clear hq
  go_enter Try.func3, Try.ntmps3
  go_wp2_with fail
  refine (awake7_any w).mono ?_
  rintro e w1 ⟨rfl, hq1⟩
  have HQ1 := hidden hq1
  clear hq1
  go_wp2_with fail
  refine (awake7_any w1).mono ?_
  rintro e w2 ⟨rfl, hq2⟩
  have HQ2 := hidden hq2
  clear hq2
  go_wp2_with fail
  go_ret
  exact ⟨rfl, HQ1.out.trans (HQ2.out.mono HQ1.out.size)⟩
set_option maxHeartbeats 4000000 in
set_option maxRecDepth 100000 in
theorem MinmaxFinds_short (l : List (Bool × Nat)) (q : List (Int × Int)) (u v : Value) (w : World) (h : Pcs w u l) (hl : l.length ≤ 9223372036854775807) (hq : Qs w v q) (hn : q.length ≤ 10) :
    Calls Try.prog 3 #[u, v] w fun e w' => e = .returned (.bool true) ∧ Below w.heap.size w w' := by
  have HA := hidden hq
  obtain ⟨aq, capq, hvq, hcapq, _⟩ := hq.cells
  subst hvq
  have HP := hidden h
  have HLEN := hidden (Mx.bitsOf_len l (min l.length 400))
  clear h hq
  go_enter Try.func3, Try.ntmps3
  go_wp2_with fail
  refine (awake7_any w).mono ?_
  rintro e' w1 ⟨rfl, hq1⟩
  have HQ1 := hidden hq1
  have HP1 := hidden (HP.out.below hq1 (Nat.le_refl _))
  clear hq1
  go_wp2_with fail
  refine (Bits7_any l u w1 HP1.out hl).mono ?_
  rintro e' w2 ⟨v2, rfl, hb2, hq2⟩
  have hLL : (Mx.allOf l).length ≤ 4000 := HLEN.out
  have HB2 : Hid (Bl w2 v2 (Mx.allOf l)) := hb2
  have HQ2 := hidden (HQ1.out.trans (hq2.mono HQ1.out.size))
  clear hb2 hq2
  generalize Mx.allOf l = L at *
  go_wp2_with fail
  refine (Made_any L v2 w2 HB2.out (by omega)).mono ?_
  rintro e' w3 ⟨r3, u3, rfl, hr3, hq3, _, _⟩
  have HR3 := hidden hr3
  have HB3 : Hid (Bl w3 v2 L) := HB2.out.below hq3 (Nat.le_refl _)
  have HQ3 := hidden (HQ2.out.trans (hq3.mono HQ2.out.size))
  clear hr3 hq3
  go_wp2_with fail
  refine (MNew_any r3 _ _ u3 _ HR3.out).mono ?_
  rintro e' w4 ⟨t, gs, m, rfl, ht4, hq4⟩
  have HT4 := hidden ht4
  have HB4 : Hid (Bl w4 v2 L) := HB3.out.below hq4 (Nat.le_refl _)
  have HQ4 := hidden (HQ3.out.trans (hq4.mono HQ3.out.size))
  have HA4 := hidden (HA.out.below HQ4.out (Nat.le_refl _))
  clear ht4 hq4
  go_wp2_with fail
  go_loopw [7] (fun s7 wr => ∃ k : Nat, k ≤ q.length ∧ s7 = .int .i64 (k : Nat) ∧ Below w4.heap.size w4 wr) (fun s7 _ => q.length - (intOf s7).toNat)
  case atStart => exact ⟨0, by omega, rfl, Below.refl _ _⟩
  case round =>
    obtain ⟨k, hk, rfl, hbr⟩ := hrel
    have HBR := hidden hbr
    have HTr := hidden (HT4.out.below hbr (Nat.le_refl _))
    have HBr : Hid (Bl wr v2 L) := HB4.out.below hbr (Nat.le_refl _)
    obtain ⟨ar, cr, hvr, hcr, hqc⟩ := (HA4.out.below hbr (Nat.le_refl _)).cells
    simp only [Value.slice.injEq, true_and] at hvr
    obtain ⟨rfl, rfl⟩ := hvr
    clear hbr
    by_cases hlt : k < q.length
    · obtain ⟨b, off, rfl, hb, hcell⟩ := hqc (by omega)
      obtain ⟨c0, c1⟩ := hcell k hlt
      obtain ⟨⟨fx, dx⟩, hqk⟩ : ∃ x : Int × Int, x = q.getD k (0, 0) := ⟨_, rfl⟩
      rw [← hqk] at c0 c1
      clear hqc hcell hqk
      go_wp2_with fail
      obtain ⟨w6, hw6⟩ : ∃ w6, w6 = wr.alloc (.cells #[.int .i64 fx, .int .i64 dx] 32) := ⟨_, rfl⟩
      rw [← hw6]
      have hb6 : Below wr.heap.size wr w6 := by rw [hw6]; exact (Below.refl _ _).alloc (Nat.le_refl _) _
      have hc6 : w6.heap[wr.heap.size]? = some (.cells #[.int .i64 fx, .int .i64 dx] 32 (0, 0)) := by rw [hw6]; exact heap_alloc_new _ _
      have d0 : w6.cell? ⟨wr.heap.size, 0, none⟩ = some (.int .i64 fx) := Lib.cell_of_heap hc6 0
      have d1 : w6.cell? ⟨wr.heap.size, 1, none⟩ = some (.int .i64 dx) := Lib.cell_of_heap hc6 1
      have x0 := cell_regrown d0
      have x1 := cell_regrown d1
      have HT6 := hidden (HTr.out.below hb6 (Nat.le_refl _))
      have HB6 : Hid (Bl w6 v2 L) := HBr.out.below hb6 (Nat.le_refl _)
      have HQ6 : Hid (Below w4.heap.size w4 w6) := HBR.out.trans (hb6.mono HBR.out.size)
      have QF : Hid (∀ d os, Calls Try.prog 11 #[.pointer (some ⟨t, 0, none⟩), .int .i64 fx, .int .i64 dx] (grow (redrawn w6 d) os) fun e w'' => e = .returned (.int .i64 (Pn.forth (Bt.num L) (Pn.fr L.length fx) L.length dx)) ∧ ∃ p : Regrown, w'' = grow (redrawn w6 p.d) p.os) := fun d os => Calls.regrown_of (TForth_any t r3 _ _ u3 gs m fx dx _ (HT6.out.below (below_regrown w6 d os) (Nat.le_refl _)))
      have QB : Hid (∀ d os, Calls Try.prog 13 #[.pointer (some ⟨t, 0, none⟩), .int .i64 fx, .int .i64 dx] (grow (redrawn w6 d) os) fun e w'' => e = .returned (.int .i64 (Pn.back (Bt.num L) 0 (Pn.fr L.length fx) dx)) ∧ ∃ p : Regrown, w'' = grow (redrawn w6 p.d) p.os) := fun d os => Calls.regrown_of (TBack_any t r3 _ _ u3 gs m fx dx _ (HT6.out.below (below_regrown w6 d os) (Nat.le_refl _)))
      have QE : Hid (∀ d os, Calls Try.prog 15 #[.pointer (some ⟨t, 0, none⟩), .int .i64 fx] (grow (redrawn w6 d) os) fun e w'' => e = .returned (.int .i64 (Wd.exc (Bt.num L) (Pn.fr L.length fx))) ∧ ∃ p : Regrown, w'' = grow (redrawn w6 p.d) p.os) := fun d os => Calls.regrown_of ((TExcess_any t r3 _ _ u3 gs m fx _ (HT6.out.below (below_regrown w6 d os) (Nat.le_refl _))).mono fun e w' ⟨h1, h2⟩ => ⟨h1, by rw [h2]; exact Below.refl _ _⟩)
      have RF : Hid (∀ d os, Calls Try.prog 12 #[v2, .int .i64 fx, .int .i64 dx] (grow (redrawn w6 d) os) fun e w'' => e = .returned (.int .i64 (Pn.forth (Bt.num L) (Pn.fr L.length fx) L.length dx)) ∧ ∃ p : Regrown, w'' = grow (redrawn w6 p.d) p.os) := fun d os => Calls.regrown_of ((rForth7_any L v2 fx dx _ (HB6.out.below (below_regrown w6 d os) (Nat.le_refl _)).view (by omega)).mono fun e w' ⟨h1, h2⟩ => ⟨h1, by rw [h2]; exact Below.refl _ _⟩)
      have RB : Hid (∀ d os, Calls Try.prog 14 #[v2, .int .i64 fx, .int .i64 dx] (grow (redrawn w6 d) os) fun e w'' => e = .returned (.int .i64 (Pn.back (Bt.num L) 0 (Pn.fr L.length fx) dx)) ∧ ∃ p : Regrown, w'' = grow (redrawn w6 p.d) p.os) := fun d os => Calls.regrown_of ((rBack7_any L v2 fx dx _ (HB6.out.below (below_regrown w6 d os) (Nat.le_refl _)).view (by omega)).mono fun e w' ⟨h1, h2⟩ => ⟨h1, by rw [h2]; exact Below.refl _ _⟩)
      have RE : Hid (∀ d os, Calls Try.prog 16 #[v2, .int .i64 0, .int .i64 fx] (grow (redrawn w6 d) os) fun e w'' => e = .returned (.int .i64 (Wd.exc (Bt.num L) (Pn.fr L.length fx))) ∧ ∃ p : Regrown, w'' = grow (redrawn w6 p.d) p.os) := fun d os => Calls.regrown_of ((rPExcess_any L v2 0 fx _ (HB6.out.below (below_regrown w6 d os) (Nat.le_refl _)).view (by omega)).mono fun e w' ⟨h1, h2⟩ => ⟨by rw [h1, (Pn.to_zero _ _).1, (Pn.to_zero L.length fx).2, Nat.pow_zero, Nat.div_one, Nat.sub_zero], by rw [h2]; exact Below.refl _ _⟩)
      generalize Pn.forth (Bt.num L) (Pn.fr L.length fx) L.length dx = F at *
      generalize Pn.back (Bt.num L) 0 (Pn.fr L.length fx) dx = G at *
      generalize Wd.exc (Bt.num L) (Pn.fr L.length fx) = E at *
      clear hw6 hb6 hc6 d0 d1 c0 c1
      refine wp_region_quiet_below (by kernel_rfl) (by kernel_rfl) ?_
      repeat (go_big_quiet_step (first
        | (go_at_call 11; exact QF.out _ _)
        | (go_at_call 12; exact RF.out _ _)
        | (go_at_call 13; exact QB.out _ _)
        | (go_at_call 14; exact RB.out _ _)
        | (go_at_call 15; exact QE.out _ _)
        | (go_at_call 16; exact RE.out _ _)))
      refine wpQuiet_nil ?_
      intro _ hw'
      obtain ⟨⟨dq, osq⟩, hw''⟩ := hw'
      subst hw''
      go_wp2_with fail
      exact ⟨⟨k + 1, by omega, by go_num, HQ6.out.trans ((below_regrown w6 dq osq).mono HQ6.out.size)⟩, by simp [intOf]; omega⟩
    · obtain rfl : k = q.length := by omega
      have HQ5 := hidden (HQ4.out.trans (HBR.out.mono HQ4.out.size))
      have hsz := Mx.sz_le L.length m (fun i hi => HTr.out.more i hi)
      have HSZ := hidden (TSize_any t r3 _ _ u3 gs m wr HTr.out)
      have HRW := hidden (TRow_any t r3 _ _ u3 gs m wr HTr.out)
      have HIS := hidden (Is_true r3 L u3 v2 wr HTr.out.row HBr.out.view)
      obtain ⟨ao2, cap2, hv2, hcap2⟩ := HBr.out.view
      subst hv2
      obtain ⟨z, hz⟩ : ∃ z, z = Mx.sz L.length m := ⟨_, rfl⟩
      rw [← hz] at hsz HSZ
      have hz0 : (0 : Int) ≤ (z : Int) := by omega
      have hz1 : (z : Int) ≤ 3 * (L.length : Int) + 2048 := by omega
      clear hz hqc hcap2 hsz
      go_wp2_with fail
      refine HSZ.out.mono ?_
      rintro e' w8 ⟨rfl, rfl⟩
      go_wp2_with fail
      refine HSZ.out.mono ?_
      rintro e' w8 ⟨rfl, rfl⟩
      go_wp2_with fail
      refine HRW.out.mono ?_
      rintro e' w8 ⟨rfl, rfl⟩
      go_wp2_with fail
      refine HIS.out.mono ?_
      rintro e' w9 ⟨rfl, m9, rfl⟩
      have hb9 : Below w8.heap.size w8 (w8.drewN m9) := drewN_below (Below.refl _ _) _
      have HT9 := hidden (HTr.out.below hb9 (Nat.le_refl _))
      have HB9 : Hid (Bl (w8.drewN m9) (.slice ao2 L.length cap2) L) := HBr.out.below hb9 (Nat.le_refl _)
      have HQ9 : Hid (Below w.heap.size w (w8.drewN m9)) := drewN_below HQ5.out _
      clear hb9
      go_wp2_with fail
      refine (TBalanced_any t r3 _ _ u3 gs m _ HT9.out).mono ?_
      rintro e' wa ⟨rfl, hba⟩
      have HBa : Hid (Bl wa (.slice ao2 L.length cap2) L) := HB9.out.below hba (Nat.le_refl _)
      have HQa := hidden (HQ9.out.trans (hba.mono HQ9.out.size))
      clear hba
      go_wp2_with fail
      refine (rBalanced_any L _ wa HBa.out.view (by omega)).mono ?_
      rintro e' wb ⟨rfl, rfl⟩
      go_wp2_with fail
      go_ret
      exact ⟨rfl, HQa.out⟩
theorem MinmaxFinds_walk (l : List (Bool × Nat)) (q : List (Int × Int)) (u v : Value) (w : World) (h : Pcs w u l) (hm : l.length ≤ 9223372036854775807) (hq : Qs w v q) (hm2 : q.length ≤ 9223372036854775807) :
    Calls Try.prog 3 #[u, v] w fun e w' => e = .returned (.bool true) ∧ Below w.heap.size w w' := by
  by_cases hn : q.length ≤ 10
  · exact MinmaxFinds_short l q u v w h hm hq hn
  · exact MinmaxFinds_many q u v w hq (by omega) hm2
end Go.Proofs.Ytdjhpfojbnikdaa
