/-
  A tree's node as a value, and the contracts of minmax's both, join, within, begins and ends: at numbers below 2^40 in size.
-/
import Derived.Test.YtdjhpfojbnikdaaMxWay
import Derived.Test.YtdjhpfojbnikdaaMxFlt
import Derived.Test.YtdjhpfojbnikdaaPnCount
import Derived.Deep.RegionHeld3
namespace Go.Proofs.Ytdjhpfojbnikdaa
open Go.RowKit
theorem Try.infoNode : (Try.prog.info? 68).map (fun i => (i.zero, i.size, i.bytes)) = some (some (.agg #[.int .i64 0, .complex .f64 0 0, .complex .f64 0 0]), 3, 40) := by kernel_rfl
theorem Try.infoNodeSize : (Try.prog.info? 68).map (·.size) = some 3 := by kernel_rfl
/-- A complex number is put into a cell as any other value. -/
theorem store_cx {P : Program} (w : World) (a : Addr) (m : Mode) (x y : Nat) : (store a (.complex .f64 x y) m).run P w = stored P w a (.complex .f64 x y) m := run_store P w a _ m rfl
theorem both_any (a b c d : Int) (w : World) (ha : a.natAbs < 2 ^ 53) (hb : b.natAbs < 2 ^ 53) (hc : c.natAbs < 2 ^ 53) (hd : d.natAbs < 2 ^ 53) :
    Calls Try.prog 40 #[.complex .f64 (floatOfInt .f64 a) (floatOfInt .f64 b), .complex .f64 (floatOfInt .f64 c) (floatOfInt .f64 d)] w fun e w' => e = .returned (.complex .f64 (floatOfInt .f64 (min a c)) (floatOfInt .f64 (max b d))) ∧ w' = w := by
  have h1 := fun w ts t => Flt.run_min_flt (P := Try.prog) w ts t a c ha hc
  have h2 := fun w ts t => Flt.run_max_flt (P := Try.prog) w ts t b d hb hd
  clear ha hb hc hd
  generalize floatOfInt .f64 (min a c) = m at *
  generalize floatOfInt .f64 (max b d) = M at *
  generalize floatOfInt .f64 a = A at *
  generalize floatOfInt .f64 b = B at *
  generalize floatOfInt .f64 c = C at *
  generalize floatOfInt .f64 d = D at *
  go_enter Try.func40, Try.ntmps40
  go_wp2_with fail
  go_ret
  exact ⟨rfl, rfl⟩
/-- What both tells of two reaches. -/
structure BothIs (A B C D m M : Nat) : Prop where
  runs : ∀ w, Calls Try.prog 40 #[.complex .f64 A B, .complex .f64 C D] w fun e w' => e = .returned (.complex .f64 m M) ∧ w' = w
theorem within_any (a b d : Int) (w : World) (ha : a.natAbs < 2 ^ 53) (hb : b.natAbs < 2 ^ 53) (hd : d.natAbs < 2 ^ 53) :
    Calls Try.prog 49 #[.complex .f64 (floatOfInt .f64 a) (floatOfInt .f64 b), .int .i64 d] w fun e w' => e = .returned (.bool (decide (a ≤ d) && decide (d ≤ b))) ∧ w' = w := by
  have h1 := Flt.le_int a d ha hd
  have h2 := Flt.le_int d b hd hb
  rw [← h1, ← h2]
  clear h1 h2 ha hb hd
  generalize floatOfInt .f64 a = A at *
  generalize floatOfInt .f64 b = B at *
  obtain ⟨o1, ho1⟩ : ∃ o, (FloatKind.f64.format.order A (floatOfInt .f64 d) == some .lt || FloatKind.f64.format.order A (floatOfInt .f64 d) == some .eq) = o := ⟨_, rfl⟩
  obtain ⟨o2, ho2⟩ : ∃ o, (FloatKind.f64.format.order (floatOfInt .f64 d) B == some .lt || FloatKind.f64.format.order (floatOfInt .f64 d) B == some .eq) = o := ⟨_, rfl⟩
  rw [ho1, ho2]
  cases o1
  · go_enter Try.func49, Try.ntmps49
    go_wp2_with fail
    go_ret
    exact ⟨rfl, rfl⟩
  · go_enter Try.func49, Try.ntmps49
    go_wp2_with fail
    go_ret
    exact ⟨rfl, rfl⟩
theorem begins_any (x l h m k d : Int) (w : World) (hl : l.natAbs < 2 ^ 53) (hh : h.natAbs < 2 ^ 53) (hd : d.natAbs < 2 ^ 53) :
    Calls Try.prog 32 #[.agg #[.int .i64 x, .complex .f64 (floatOfInt .f64 l) (floatOfInt .f64 h), .complex .f64 (floatOfInt .f64 m) (floatOfInt .f64 k)], .int .i64 d] w fun e w' => e = .returned (.bool (decide (l ≤ d) && decide (d ≤ h))) ∧ Below w.heap.size w w' := by
  have HW := hidden (fun w => within_any l h d w hl hh hd)
  clear hl hh hd
  generalize (decide (l ≤ d) && decide (d ≤ h)) = o at *
  generalize floatOfInt .f64 l = L at *
  generalize floatOfInt .f64 h = H at *
  generalize floatOfInt .f64 m = M at *
  generalize floatOfInt .f64 k = K at *
  go_enter Try.func32, Try.ntmps32
  go_wp2_with fail
  refine (HW.out _).mono ?_
  rintro e1 w1 ⟨rfl, rfl⟩
  go_wp2_with fail
  go_ret
  exact ⟨rfl, (Below.refl _ _).alloc (Nat.le_refl _) _⟩
theorem ends7_any (x l h m k d : Int) (w : World) (hm : m.natAbs < 2 ^ 53) (hk : k.natAbs < 2 ^ 53) (hd : -1099511627776 ≤ d ∧ d ≤ 1099511627776) (hx : -1099511627776 ≤ x ∧ x ≤ 1099511627776) :
    Calls Try.prog 35 #[.agg #[.int .i64 x, .complex .f64 (floatOfInt .f64 l) (floatOfInt .f64 h), .complex .f64 (floatOfInt .f64 m) (floatOfInt .f64 k)], .int .i64 d] w fun e w' => e = .returned (.bool (decide (m ≤ x - d) && decide (x - d ≤ k))) ∧ Below w.heap.size w w' := by
  have HW := hidden (fun w => within_any m k (x - d) w hm hk (by omega))
  clear hm hk
  generalize (decide (m ≤ x - d) && decide (x - d ≤ k)) = o at *
  generalize floatOfInt .f64 l = L at *
  generalize floatOfInt .f64 h = H at *
  generalize floatOfInt .f64 m = M at *
  generalize floatOfInt .f64 k = K at *
  go_enter Try.func35, Try.ntmps35
  go_wp2_with fail
  refine (HW.out _).mono ?_
  rintro e1 w1 ⟨rfl, rfl⟩
  go_wp2_with fail
  go_ret
  exact ⟨rfl, (Below.refl _ _).alloc (Nat.le_refl _) _⟩
set_option maxHeartbeats 1000000 in
theorem join_any (x l h m k x2 l2 h2 m2 k2 : Int) (w : World) (b1 : -1099511627776 ≤ x ∧ x ≤ 1099511627776) (b2 : -1099511627776 ≤ l ∧ l ≤ 1099511627776) (b3 : -1099511627776 ≤ h ∧ h ≤ 1099511627776) (b4 : -1099511627776 ≤ m ∧ m ≤ 1099511627776) (b5 : -1099511627776 ≤ k ∧ k ≤ 1099511627776)
    (c1 : -1099511627776 ≤ x2 ∧ x2 ≤ 1099511627776) (c2 : -1099511627776 ≤ l2 ∧ l2 ≤ 1099511627776) (c3 : -1099511627776 ≤ h2 ∧ h2 ≤ 1099511627776) (c4 : -1099511627776 ≤ m2 ∧ m2 ≤ 1099511627776) (c5 : -1099511627776 ≤ k2 ∧ k2 ≤ 1099511627776) :
    Calls Try.prog 41 #[.agg #[.int .i64 x, .complex .f64 (floatOfInt .f64 l) (floatOfInt .f64 h), .complex .f64 (floatOfInt .f64 m) (floatOfInt .f64 k)], .agg #[.int .i64 x2, .complex .f64 (floatOfInt .f64 l2) (floatOfInt .f64 h2), .complex .f64 (floatOfInt .f64 m2) (floatOfInt .f64 k2)]] w fun e w' => e = .returned (.agg #[.int .i64 (x + x2), .complex .f64 (floatOfInt .f64 (min l (x + l2))) (floatOfInt .f64 (max h (x + h2))), .complex .f64 (floatOfInt .f64 (min m (x + m2))) (floatOfInt .f64 (max k (x + k2)))]) ∧ Below w.heap.size w w' := by
  have hs : IntKind.i64.wrap (x + x2) = x + x2 := by rw [IntKind.wrap_i64]; omega
  have a1 := fun w => run_complex_sum (P := Try.prog) w .add (.inl rfl) 66 .f64 _ _ _ _ _ _ (Flt.csum_int x x l2 h2 (by omega) (by omega) (by omega) (by omega))
  have a2 := fun w => run_complex_sum (P := Try.prog) w .add (.inl rfl) 66 .f64 _ _ _ _ _ _ (Flt.csum_int x x m2 k2 (by omega) (by omega) (by omega) (by omega))
  have B1 := BothIs.mk (fun w => both_any l h (x + l2) (x + h2) w (by omega) (by omega) (by omega) (by omega))
  have B2 := BothIs.mk (fun w => both_any m k (x + m2) (x + k2) w (by omega) (by omega) (by omega) (by omega))
  clear b1 b2 b3 b4 b5 c1 c2 c3 c4 c5
  have cx := fun w => run_convert_int_float (P := Try.prog) w 3 70 .i64 .f64 x (by rw [Try.underlying3]; rfl) Try.underlying70
  generalize floatOfInt .f64 (min l (x + l2)) = R1 at *
  generalize floatOfInt .f64 (max h (x + h2)) = R2 at *
  generalize floatOfInt .f64 (min m (x + m2)) = R3 at *
  generalize floatOfInt .f64 (max k (x + k2)) = R4 at *
  generalize floatOfInt .f64 (x + l2) = A1 at *
  generalize floatOfInt .f64 (x + h2) = A2 at *
  generalize floatOfInt .f64 (x + m2) = A3 at *
  generalize floatOfInt .f64 (x + k2) = A4 at *
  generalize floatOfInt .f64 x = F0 at *
  generalize floatOfInt .f64 l = F1 at *
  generalize floatOfInt .f64 h = F2 at *
  generalize floatOfInt .f64 m = F3 at *
  generalize floatOfInt .f64 k = F4 at *
  generalize floatOfInt .f64 l2 = E1 at *
  generalize floatOfInt .f64 h2 = E2 at *
  generalize floatOfInt .f64 m2 = E3 at *
  generalize floatOfInt .f64 k2 = E4 at *
  go_enter Try.func41, Try.ntmps41
  go_wp2_with fail
  obtain ⟨w3, hw3⟩ : ∃ w3, w3 = ((w.alloc (.cells #[.int .i64 x, .complex .f64 F1 F2, .complex .f64 F3 F4] 68)).alloc (.cells #[.int .i64 x2, .complex .f64 E1 E2, .complex .f64 E3 E4] 68)).alloc (.cells #[.int .i64 0, .complex .f64 0 0, .complex .f64 0 0] 68) := ⟨_, rfl⟩
  rw [← hw3]
  have g0 : w3.heap[w.heap.size]? = some (.cells #[.int .i64 x, .complex .f64 F1 F2, .complex .f64 F3 F4] 68 (0, 0)) := by
    rw [hw3, Below.heap_alloc _ _ _ (by simp; omega), Below.heap_alloc _ _ _ (by simp)]
    exact heap_alloc_new _ _
  have g1 : w3.heap[w.heap.size + 1]? = some (.cells #[.int .i64 x2, .complex .f64 E1 E2, .complex .f64 E3 E4] 68 (0, 0)) := by
    rw [hw3, Below.heap_alloc _ _ _ (by simp)]
    exact heap_new_at (by simp)
  have g2 : w3.heap[w.heap.size + 1 + 1]? = some (.cells #[.int .i64 0, .complex .f64 0 0, .complex .f64 0 0] 68 (0, 0)) := by
    rw [hw3]
    exact heap_new_at (by simp)
  have hb : Below w.heap.size w w3 := by rw [hw3]; exact (((Below.refl _ _).alloc (Nat.le_refl _) _).alloc (by simp) _).alloc (by simp; omega) _
  have p0 : w3.cell? ⟨w.heap.size, 0, none⟩ = some (.int .i64 x) := Lib.cell_of_heap g0 0
  have p1 : w3.cell? ⟨w.heap.size, 1, none⟩ = some (.complex .f64 F1 F2) := Lib.cell_of_heap g0 1
  have p2 : w3.cell? ⟨w.heap.size, 2, none⟩ = some (.complex .f64 F3 F4) := Lib.cell_of_heap g0 2
  have q0 : w3.cell? ⟨w.heap.size + 1, 0, none⟩ = some (.int .i64 x2) := Lib.cell_of_heap g1 0
  have q1 : w3.cell? ⟨w.heap.size + 1, 1, none⟩ = some (.complex .f64 E1 E2) := Lib.cell_of_heap g1 1
  have q2 : w3.cell? ⟨w.heap.size + 1, 2, none⟩ = some (.complex .f64 E3 E4) := Lib.cell_of_heap g1 2
  have z0 : w3.cell? ⟨w.heap.size + 1 + 1, 0, none⟩ = some (.int .i64 0) := Lib.cell_of_heap g2 0
  have z1 : w3.cell? ⟨w.heap.size + 1 + 1, 1, none⟩ = some (.complex .f64 0 0) := Lib.cell_of_heap g2 1
  have z2 : w3.cell? ⟨w.heap.size + 1 + 1, 2, none⟩ = some (.complex .f64 0 0) := Lib.cell_of_heap g2 2
  have f0 : w3.frozen? ⟨w.heap.size + 1 + 1, 0, none⟩ = false := Lib.frozen_of_heap g2 0
  have f1 : w3.frozen? ⟨w.heap.size + 1 + 1, 1, none⟩ = false := Lib.frozen_of_heap g2 1
  have f2 : w3.frozen? ⟨w.heap.size + 1 + 1, 2, none⟩ = false := Lib.frozen_of_heap g2 2
  have n0 : ¬ (w.heap.size = w.heap.size + 1 + 1) := by omega
  have n1 : ¬ (w.heap.size + 1 + 1 = w.heap.size) := by omega
  have rs := fun w a m x y => store_cx (P := Try.prog) w a m x y
  have y1 : ∀ v, (w3.setCell ⟨w.heap.size + 1 + 1, 0, none⟩ v).cell? ⟨w.heap.size + 1 + 1, 1, none⟩ = some (.complex .f64 0 0) := fun v => Lib.cell_of_heap (setCell_heap_same _ _ 0 _ _ _ v g2) 1
  have y2 : ∀ v, (w3.setCell ⟨w.heap.size + 1 + 1, 0, none⟩ v).frozen? ⟨w.heap.size + 1 + 1, 1, none⟩ = false := fun v => Lib.frozen_of_heap (setCell_heap_same _ _ 0 _ _ _ v g2) 1
  have y3 : ∀ v v', ((w3.setCell ⟨w.heap.size + 1 + 1, 0, none⟩ v).setCell ⟨w.heap.size + 1 + 1, 1, none⟩ v').cell? ⟨w.heap.size + 1 + 1, 2, none⟩ = some (.complex .f64 0 0) := fun v v' => Lib.cell_of_heap (setCell_heap_same _ _ 1 _ _ _ v' (setCell_heap_same _ _ 0 _ _ _ v g2)) 2
  have y4 : ∀ v v', ((w3.setCell ⟨w.heap.size + 1 + 1, 0, none⟩ v).setCell ⟨w.heap.size + 1 + 1, 1, none⟩ v').frozen? ⟨w.heap.size + 1 + 1, 2, none⟩ = false := fun v v' => Lib.frozen_of_heap (setCell_heap_same _ _ 1 _ _ _ v' (setCell_heap_same _ _ 0 _ _ _ v g2)) 2
  have G2 := hidden g2
  have HB := hidden hb
  clear hw3 g0 g1 g2 hb
  go_region_held3 (fun w' => w'.cell? ⟨w.heap.size, 0, none⟩ = some (.int .i64 x) ∧ w'.cell? ⟨w.heap.size, 1, none⟩ = some (.complex .f64 F1 F2) ∧ w'.cell? ⟨w.heap.size, 2, none⟩ = some (.complex .f64 F3 F4) ∧ w'.cell? ⟨w.heap.size + 1, 0, none⟩ = some (.int .i64 x2) ∧ w'.cell? ⟨w.heap.size + 1, 1, none⟩ = some (.complex .f64 E1 E2) ∧ w'.cell? ⟨w.heap.size + 1, 2, none⟩ = some (.complex .f64 E3 E4)) (go_keep)
    (first
      | (go_at_call 40; refine (BothIs.runs (by assumption) _).mono ?_; rintro e' w' ⟨rfl, rfl⟩))
  obtain ⟨w4, hw4⟩ : ∃ w4, w4 = (((w3.setCell ⟨w.heap.size + 1 + 1, 0, none⟩ (.int .i64 (x + x2))).setCell ⟨w.heap.size + 1 + 1, 1, none⟩ (.complex .f64 R1 R2)).setCell ⟨w.heap.size + 1 + 1, 2, none⟩ (.complex .f64 R3 R4)).drew := ⟨_, rfl⟩
  rw [← hw4]
  have hg : w4.heap[w.heap.size + 1 + 1]? = some (.cells #[.int .i64 (x + x2), .complex .f64 R1 R2, .complex .f64 R3 R4] 68 (0, 0)) := by
    rw [hw4]
    exact setCell_heap_same _ _ 2 _ _ _ _ (setCell_heap_same _ _ 1 _ _ _ _ (setCell_heap_same _ _ 0 _ _ _ _ G2.out))
  have hb : Below w.heap.size w w4 := by rw [hw4]; exact (((HB.out.setCell (by show _ ≤ w.heap.size + 1 + 1; omega) _).setCell (by show _ ≤ w.heap.size + 1 + 1; omega) _).setCell (by show _ ≤ w.heap.size + 1 + 1; omega) _).drew
  have HB4 := hidden hb
  have HG4 := hidden hg
  clear hw4 hg hb rs p0 p1 p2 q0 q1 q2 z0 z1 z2 f0 f1 f2 y1 y2 y3 y4 a1 a2 cx
  go_wp2_with fail
  (try simp only [Exit.inBlock, Exit.then])
  refine bodyPost_ret (results_cell_row rfl _ _ (w.heap.size + 1 + 1) _ _ _ _ rfl HG4.out Try.underlying68 rfl Try.infoNodeSize) rfl ?_
  exact ⟨rfl, HB4.out⟩
end Go.Proofs.Ytdjhpfojbnikdaa
