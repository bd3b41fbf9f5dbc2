/-
  The walk of the law ParenFinds: it returns true for every list of Puts and every list of questions; nothing that was there is changed.
-/
import Derived.Test.YtjhimeedkejnlaaPnAwake
import Derived.Test.YtjhimeedkejnlaaOpsBelow
import Derived.Test.YtjhimeedkejnlaaOpenAsks
import Derived.Lib.QuietBelow
namespace Go.Proofs.Ytjhimeedkejnlaa
open Go.RowKit Go.Sort
set_option maxHeartbeats 1000000 in
theorem ParenFinds_long (l : List (Nat × Int)) (q : List (Int × Int × Int)) (u v : Value) (w : World) (h : Ops w u l) (hq : Asks w v q) (hl : 60 < l.length) (hm : l.length ≤ 9223372036854775807) :
    Calls Try.prog 4 #[u, v] w fun e w' => e = .returned (.bool true) ∧ Below w.heap.size w w' := by
  obtain ⟨ao, cap, rfl, hcap, hc⟩ := h.cells
  obtain ⟨aq, capq, rfl, hcapq, _⟩ := hq.cells
  clear h hc hq
  go_enter Try.func4, Try.ntmps4
  go_wp2_with fail
  refine (awake6_any w).mono ?_
  rintro e w1 ⟨rfl, hq1⟩
  have HQ1 := hidden hq1
  clear hq1
  go_wp2_with fail
  refine (awake6_any w1).mono ?_
  rintro e w2 ⟨rfl, hq2⟩
  have HQ2 := hidden hq2
  clear hq2
  go_wp2_with fail
  go_ret
  exact ⟨rfl, HQ1.out.trans (HQ2.out.mono HQ1.out.size)⟩
set_option maxHeartbeats 1000000 in
theorem ParenFinds_many (l : List (Nat × Int)) (q : List (Int × Int × Int)) (u v : Value) (w : World) (h : Ops w u l) (hq : Asks w v q) (hl : l.length ≤ 60) (hn : 10 < q.length) (hm : q.length ≤ 9223372036854775807) :
    Calls Try.prog 4 #[u, v] w fun e w' => e = .returned (.bool true) ∧ Below w.heap.size w w' := by
  obtain ⟨ao, cap, rfl, hcap, hc⟩ := h.cells
  obtain ⟨aq, capq, rfl, hcapq, _⟩ := hq.cells
  clear h hc hq
  go_enter Try.func4, Try.ntmps4
  go_wp2_with fail
  refine (awake6_any w).mono ?_
  rintro e w1 ⟨rfl, hq1⟩
  have HQ1 := hidden hq1
  clear hq1
  go_wp2_with fail
  refine (awake6_any w1).mono ?_
  rintro e w2 ⟨rfl, hq2⟩
  have HQ2 := hidden hq2
  clear hq2
  go_wp2_with fail
  go_ret
  exact ⟨rfl, HQ1.out.trans (HQ2.out.mono HQ1.out.size)⟩
set_option maxHeartbeats 4000000 in
set_option maxRecDepth 100000 in
theorem ParenFinds_short (l : List (Nat × Int)) (q : List (Int × Int × Int)) (u v : Value) (w : World) (h : Ops w u l) (hq : Asks w v q) (hl : l.length ≤ 60) (hn : q.length ≤ 10) :
    Calls Try.prog 4 #[u, v] w fun e w' => e = .returned (.bool true) ∧ Below w.heap.size w w' := by
  have HA := hidden hq
  obtain ⟨aq, capq, hvq, hcapq, _⟩ := hq.cells
  subst hvq
  clear hq
  have HH := hidden h
  have hL := Bt.all_length l l.length
  rw [List.take_of_length_le (Nat.le_refl _)] at hL
  obtain ⟨ao, cap, hu, hcap, _⟩ := h.cells
  subst hu
  clear h
  go_enter Try.func4, Try.ntmps4
  go_wp2_with fail
  refine (awake6_any w).mono ?_
  rintro e' w1 ⟨rfl, hq1⟩
  have HQ1 := hidden hq1
  have HO1 := hidden (HH.out.below hq1 (Nat.le_refl _))
  clear hq1
  go_wp2_with fail
  refine (All_any l _ w1 HO1.out hl).mono ?_
  rintro e' w2 ⟨v2, rfl, hb2, hq2⟩
  have HB2 : Hid (Bl w2 v2 (Bt.all l)) := hb2
  have HQ2 := hidden (HQ1.out.trans (hq2.mono HQ1.out.size))
  clear hb2 hq2
  generalize Bt.all l = L at *
  go_wp2_with fail
  refine (Made_any L v2 w2 HB2.out (by omega)).mono ?_
  rintro e' w3 ⟨r3, u3, rfl, hr3, hq3, _, _⟩
  have HR3 := hidden hr3
  have HB3 : Hid (Bl w3 v2 L) := HB2.out.below hq3 (Nat.le_refl _)
  have HQ3 := hidden (HQ2.out.trans (hq3.mono HQ2.out.size))
  clear hr3 hq3
  have HA3 := hidden (HA.out.below HQ3.out (Nat.le_refl _))
  go_wp2_with fail
  go_loopw [7] (fun s7 wr => ∃ k : Nat, k ≤ q.length ∧ s7 = .int .i64 (k : Nat) ∧ Below w3.heap.size w3 wr) (fun s7 _ => q.length - (intOf s7).toNat)
  case atStart => exact ⟨0, by omega, rfl, Below.refl _ _⟩
  case round =>
    obtain ⟨k, hk, rfl, hbr⟩ := hrel
    have HBR := hidden hbr
    have HRr := hidden (HR3.out.below hbr (Nat.le_refl _))
    have HBr : Hid (Bl wr v2 L) := HB3.out.below hbr (Nat.le_refl _)
    obtain ⟨ar, cr, hvr, hcr, hqc⟩ := (HA3.out.below hbr (Nat.le_refl _)).cells
    simp only [Value.slice.injEq, true_and] at hvr
    obtain ⟨rfl, rfl⟩ := hvr
    clear hbr
    by_cases hlt : k < q.length
    · obtain ⟨b, off, rfl, hb, hcell⟩ := hqc (by omega)
      obtain ⟨c0, c1, c2⟩ := hcell k hlt
      obtain ⟨⟨fx, tx, dx⟩, hqk⟩ : ∃ x : Int × Int × Int, x = q.getD k (0, 0, 0) := ⟨_, rfl⟩
      rw [← hqk] at c0 c1 c2
      clear hqc hcell hqk
      go_wp2_with fail
      obtain ⟨w6, hw6⟩ : ∃ w6, w6 = wr.alloc (.cells #[.int .i64 fx, .int .i64 tx, .int .i64 dx] 38) := ⟨_, rfl⟩
      rw [← hw6]
      have hb6 : Below wr.heap.size wr w6 := by rw [hw6]; exact (Below.refl _ _).alloc (Nat.le_refl _) _
      have hc6 : w6.heap[wr.heap.size]? = some (.cells #[.int .i64 fx, .int .i64 tx, .int .i64 dx] 38 (0, 0)) := by rw [hw6]; exact heap_alloc_new _ _
      have d0 : w6.cell? ⟨wr.heap.size, 0, none⟩ = some (.int .i64 fx) := Lib.cell_of_heap hc6 0
      have d1 : w6.cell? ⟨wr.heap.size, 1, none⟩ = some (.int .i64 tx) := Lib.cell_of_heap hc6 1
      have d2 : w6.cell? ⟨wr.heap.size, 2, none⟩ = some (.int .i64 dx) := Lib.cell_of_heap hc6 2
      have x0 := cell_regrown d0
      have x1 := cell_regrown d1
      have x2 := cell_regrown d2
      have HR6 := hidden (HRr.out.below hb6 (Nat.le_refl _))
      have HB6 : Hid (Bl w6 v2 L) := HBr.out.below hb6 (Nat.le_refl _)
      have HQ6 : Hid (Below w3.heap.size w3 w6) := HBR.out.trans (hb6.mono HBR.out.size)
      have QF : Hid (∀ d os, Calls Try.prog 15 #[.pointer (some ⟨r3, 0, none⟩), .int .i64 fx, .int .i64 tx, .int .i64 dx] (grow (redrawn w6 d) os) fun e w'' => e = .returned (.int .i64 (Pn.forth (Bt.num L) (Pn.fr L.length fx) (Pn.to L.length fx tx) dx)) ∧ ∃ p : Regrown, w'' = grow (redrawn w6 p.d) p.os) := fun d os => Calls.regrown_of (Forth_any r3 L.length (Bt.num L) fx tx dx u3 _ (HR6.out.below (below_regrown w6 d os) (Nat.le_refl _)))
      have QB : Hid (∀ d os, Calls Try.prog 17 #[.pointer (some ⟨r3, 0, none⟩), .int .i64 fx, .int .i64 tx, .int .i64 dx] (grow (redrawn w6 d) os) fun e w'' => e = .returned (.int .i64 (Pn.back (Bt.num L) (Pn.fr L.length fx) (Pn.to L.length fx tx) dx)) ∧ ∃ p : Regrown, w'' = grow (redrawn w6 p.d) p.os) := fun d os => Calls.regrown_of (Back_any r3 L.length (Bt.num L) fx tx dx u3 _ (HR6.out.below (below_regrown w6 d os) (Nat.le_refl _)))
      have RF : Hid (∀ d os, Calls Try.prog 16 #[v2, .int .i64 fx, .int .i64 tx, .int .i64 dx] (grow (redrawn w6 d) os) fun e w'' => e = .returned (.int .i64 (Pn.forth (Bt.num L) (Pn.fr L.length fx) (Pn.to L.length fx tx) dx)) ∧ ∃ p : Regrown, w'' = grow (redrawn w6 p.d) p.os) := fun d os => Calls.regrown_of ((rForth_any L v2 fx tx dx _ (HB6.out.below (below_regrown w6 d os) (Nat.le_refl _)).view (by omega)).mono fun e w' ⟨h1, h2⟩ => ⟨h1, by rw [h2]; exact Below.refl _ _⟩)
      have RB : Hid (∀ d os, Calls Try.prog 18 #[v2, .int .i64 fx, .int .i64 tx, .int .i64 dx] (grow (redrawn w6 d) os) fun e w'' => e = .returned (.int .i64 (Pn.back (Bt.num L) (Pn.fr L.length fx) (Pn.to L.length fx tx) dx)) ∧ ∃ p : Regrown, w'' = grow (redrawn w6 p.d) p.os) := fun d os => Calls.regrown_of ((rBack_any L v2 fx tx dx _ (HB6.out.below (below_regrown w6 d os) (Nat.le_refl _)).view (by omega)).mono fun e w' ⟨h1, h2⟩ => ⟨h1, by rw [h2]; exact Below.refl _ _⟩)
      generalize Pn.forth (Bt.num L) (Pn.fr L.length fx) (Pn.to L.length fx tx) dx = F at *
      generalize Pn.back (Bt.num L) (Pn.fr L.length fx) (Pn.to L.length fx tx) dx = G at *
      clear hw6 hb6 hc6 d0 d1 d2 c0 c1 c2
      refine wp_region_quiet_below (by kernel_rfl) (by kernel_rfl) ?_
      repeat (go_big_quiet_step (first
        | (go_at_call 15; exact QF.out _ _)
        | (go_at_call 16; exact RF.out _ _)
        | (go_at_call 17; exact QB.out _ _)
        | (go_at_call 18; exact RB.out _ _)))
      refine wpQuiet_nil ?_
      intro _ hw'
      obtain ⟨⟨dq, osq⟩, hw''⟩ := hw'
      subst hw''
      go_wp2_with fail
      exact ⟨⟨k + 1, by omega, by go_num, HQ6.out.trans ((below_regrown w6 dq osq).mono HQ6.out.size)⟩, by simp [intOf]; omega⟩
    · obtain rfl : k = q.length := by omega
      go_wp2_with fail
      go_ret
      exact ⟨rfl, HQ3.out.trans (HBR.out.mono HQ3.out.size)⟩
theorem ParenFinds_walk (l : List (Nat × Int)) (q : List (Int × Int × Int)) (u v : Value) (w : World) (h : Ops w u l) (hm : l.length ≤ 9223372036854775807) (hq : Asks w v q) (hm2 : q.length ≤ 9223372036854775807) :
    Calls Try.prog 4 #[u, v] w fun e w' => e = .returned (.bool true) ∧ Below w.heap.size w w' := by
  by_cases hl : l.length ≤ 60
  · by_cases hn : q.length ≤ 10
    · exact ParenFinds_short l q u v w h hq hl hn
    · exact ParenFinds_many l q u v w h hq hl (by omega) hm2
  · exact ParenFinds_long l q u v w h hq (by omega) hm
end Go.Proofs.Ytjhimeedkejnlaa
