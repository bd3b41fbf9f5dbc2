/-
  A tree's node as a value, and the contracts of minmax's both, join, within, begins and ends: at numbers below 2^40 in size.
  A level of nodes in memory, and the contract of minmax's blocks: of every row its blocks' nodes, in new memory; nothing that was there is changed.
  The contract of minmax's pairs: of every level the one above it, in new memory; nothing that was there is changed.
  A tree in memory, and the contract of minmax.New: of every row its tree, in new memory; nothing that was there is changed.
  The contracts of a tree's Row, place, far, Size, Excess and Balanced: of every tree, at every argument; nothing in memory is changed.
  The contracts of a tree's Forth and Back: of every tree, at every place and excess; memory is but made.
  The contracts of a tree's Excess and Balanced: of every tree, at every place; nothing in memory is changed.
-/
import Derived.Deep.RegionHeld3
import Derived.BigQuiet
import Derived.Shelf.Abstract
import Derived.WalkMore
import Derived.ScopeJumps
import Derived.Test.YtoipliflphbeiaaGreatDoorJMath
import Derived.Test.YtoipliflphbeiaaGreatDoorJFlt
import Derived.Test.YtoipliflphbeiaaGreatDoorJPn
import Derived.Test.YtoipliflphbeiaaGreatDoorJBtMem
namespace Go.Proofs.YtoipliflphbeiaaGreatDoor
open Go.RowKit
theorem Tryz.infoNode : (Tryz.prog.info? 173).map (fun i => (i.zero, i.size, i.bytes)) = some (some (.agg #[.int .i64 0, .complex .f64 0 0, .complex .f64 0 0]), 3, 40) := by kernel_rfl
theorem Tryz.infoNodeSize : (Tryz.prog.info? 173).map (·.size) = some 3 := by kernel_rfl
/-- A complex number is put into a cell as any other value. -/
theorem store_cx {P : Program} (w : World) (a : Addr) (m : Mode) (x y : Nat) : (store a (.complex .f64 x y) m).run P w = stored P w a (.complex .f64 x y) m := run_store P w a _ m rfl
theorem both_any (a b c d : Int) (w : World) (ha : a.natAbs < 2 ^ 53) (hb : b.natAbs < 2 ^ 53) (hc : c.natAbs < 2 ^ 53) (hd : d.natAbs < 2 ^ 53) :
    Calls Tryz.prog 160 #[.complex .f64 (floatOfInt .f64 a) (floatOfInt .f64 b), .complex .f64 (floatOfInt .f64 c) (floatOfInt .f64 d)] w fun e w' => e = .returned (.complex .f64 (floatOfInt .f64 (min a c)) (floatOfInt .f64 (max b d))) ∧ w' = w := by
  have h1 := fun w ts t => Flt.run_min_flt (P := Tryz.prog) w ts t a c ha hc
  have h2 := fun w ts t => Flt.run_max_flt (P := Tryz.prog) w ts t b d hb hd
  clear ha hb hc hd
  generalize floatOfInt .f64 (min a c) = m at *
  generalize floatOfInt .f64 (max b d) = M at *
  generalize floatOfInt .f64 a = A at *
  generalize floatOfInt .f64 b = B at *
  generalize floatOfInt .f64 c = C at *
  generalize floatOfInt .f64 d = D at *
  go_enter Tryz.func160, Tryz.ntmps160
  go_wp2_with fail
  go_ret
  exact ⟨rfl, rfl⟩
/-- What both tells of two reaches. -/
structure BothIs (A B C D m M : Nat) : Prop where
  runs : ∀ w, Calls Tryz.prog 160 #[.complex .f64 A B, .complex .f64 C D] w fun e w' => e = .returned (.complex .f64 m M) ∧ w' = w
set_option maxHeartbeats 1000000 in
theorem mxjoin_any (x l h m k x2 l2 h2 m2 k2 : Int) (w : World) (b1 : -1099511627776 ≤ x ∧ x ≤ 1099511627776) (b2 : -1099511627776 ≤ l ∧ l ≤ 1099511627776) (b3 : -1099511627776 ≤ h ∧ h ≤ 1099511627776) (b4 : -1099511627776 ≤ m ∧ m ≤ 1099511627776) (b5 : -1099511627776 ≤ k ∧ k ≤ 1099511627776)
    (c1 : -1099511627776 ≤ x2 ∧ x2 ≤ 1099511627776) (c2 : -1099511627776 ≤ l2 ∧ l2 ≤ 1099511627776) (c3 : -1099511627776 ≤ h2 ∧ h2 ≤ 1099511627776) (c4 : -1099511627776 ≤ m2 ∧ m2 ≤ 1099511627776) (c5 : -1099511627776 ≤ k2 ∧ k2 ≤ 1099511627776) :
    Calls Tryz.prog 161 #[.agg #[.int .i64 x, .complex .f64 (floatOfInt .f64 l) (floatOfInt .f64 h), .complex .f64 (floatOfInt .f64 m) (floatOfInt .f64 k)], .agg #[.int .i64 x2, .complex .f64 (floatOfInt .f64 l2) (floatOfInt .f64 h2), .complex .f64 (floatOfInt .f64 m2) (floatOfInt .f64 k2)]] w fun e w' => e = .returned (.agg #[.int .i64 (x + x2), .complex .f64 (floatOfInt .f64 (min l (x + l2))) (floatOfInt .f64 (max h (x + h2))), .complex .f64 (floatOfInt .f64 (min m (x + m2))) (floatOfInt .f64 (max k (x + k2)))]) ∧ Below w.heap.size w w' := by
  have hs : IntKind.i64.wrap (x + x2) = x + x2 := by rw [IntKind.wrap_i64]; omega
  have a1 := fun w => run_complex_sum (P := Tryz.prog) w .add (.inl rfl) 80 .f64 _ _ _ _ _ _ (Flt.csum_int x x l2 h2 (by omega) (by omega) (by omega) (by omega))
  have a2 := fun w => run_complex_sum (P := Tryz.prog) w .add (.inl rfl) 80 .f64 _ _ _ _ _ _ (Flt.csum_int x x m2 k2 (by omega) (by omega) (by omega) (by omega))
  have B1 := BothIs.mk (fun w => both_any l h (x + l2) (x + h2) w (by omega) (by omega) (by omega) (by omega))
  have B2 := BothIs.mk (fun w => both_any m k (x + m2) (x + k2) w (by omega) (by omega) (by omega) (by omega))
  clear b1 b2 b3 b4 b5 c1 c2 c3 c4 c5
  have cx := fun w => run_convert_int_float (P := Tryz.prog) w 3 82 .i64 .f64 x (by rw [Tryz.underlying3]; rfl) Tryz.underlying82
  generalize floatOfInt .f64 (min l (x + l2)) = R1 at *
  generalize floatOfInt .f64 (max h (x + h2)) = R2 at *
  generalize floatOfInt .f64 (min m (x + m2)) = R3 at *
  generalize floatOfInt .f64 (max k (x + k2)) = R4 at *
  generalize floatOfInt .f64 (x + l2) = A1 at *
  generalize floatOfInt .f64 (x + h2) = A2 at *
  generalize floatOfInt .f64 (x + m2) = A3 at *
  generalize floatOfInt .f64 (x + k2) = A4 at *
  generalize floatOfInt .f64 x = F0 at *
  generalize floatOfInt .f64 l = F1 at *
  generalize floatOfInt .f64 h = F2 at *
  generalize floatOfInt .f64 m = F3 at *
  generalize floatOfInt .f64 k = F4 at *
  generalize floatOfInt .f64 l2 = E1 at *
  generalize floatOfInt .f64 h2 = E2 at *
  generalize floatOfInt .f64 m2 = E3 at *
  generalize floatOfInt .f64 k2 = E4 at *
  go_enter Tryz.func161, Tryz.ntmps161
  go_wp2_with fail
  obtain ⟨w3, hw3⟩ : ∃ w3, w3 = ((w.alloc (.cells #[.int .i64 x, .complex .f64 F1 F2, .complex .f64 F3 F4] 173)).alloc (.cells #[.int .i64 x2, .complex .f64 E1 E2, .complex .f64 E3 E4] 173)).alloc (.cells #[.int .i64 0, .complex .f64 0 0, .complex .f64 0 0] 173) := ⟨_, rfl⟩
  rw [← hw3]
  have g0 : w3.heap[w.heap.size]? = some (.cells #[.int .i64 x, .complex .f64 F1 F2, .complex .f64 F3 F4] 173 (0, 0)) := by
    rw [hw3, Below.heap_alloc _ _ _ (by simp; omega), Below.heap_alloc _ _ _ (by simp)]
    exact heap_alloc_new _ _
  have g1 : w3.heap[w.heap.size + 1]? = some (.cells #[.int .i64 x2, .complex .f64 E1 E2, .complex .f64 E3 E4] 173 (0, 0)) := by
    rw [hw3, Below.heap_alloc _ _ _ (by simp)]
    exact heap_new_at (by simp)
  have g2 : w3.heap[w.heap.size + 1 + 1]? = some (.cells #[.int .i64 0, .complex .f64 0 0, .complex .f64 0 0] 173 (0, 0)) := by
    rw [hw3]
    exact heap_new_at (by simp)
  have hb : Below w.heap.size w w3 := by rw [hw3]; exact (((Below.refl _ _).alloc (Nat.le_refl _) _).alloc (by simp) _).alloc (by simp; omega) _
  have p0 : w3.cell? ⟨w.heap.size, 0, none⟩ = some (.int .i64 x) := Lib.cell_of_heap g0 0
  have p1 : w3.cell? ⟨w.heap.size, 1, none⟩ = some (.complex .f64 F1 F2) := Lib.cell_of_heap g0 1
  have p2 : w3.cell? ⟨w.heap.size, 2, none⟩ = some (.complex .f64 F3 F4) := Lib.cell_of_heap g0 2
  have q0 : w3.cell? ⟨w.heap.size + 1, 0, none⟩ = some (.int .i64 x2) := Lib.cell_of_heap g1 0
  have q1 : w3.cell? ⟨w.heap.size + 1, 1, none⟩ = some (.complex .f64 E1 E2) := Lib.cell_of_heap g1 1
  have q2 : w3.cell? ⟨w.heap.size + 1, 2, none⟩ = some (.complex .f64 E3 E4) := Lib.cell_of_heap g1 2
  have z0 : w3.cell? ⟨w.heap.size + 1 + 1, 0, none⟩ = some (.int .i64 0) := Lib.cell_of_heap g2 0
  have z1 : w3.cell? ⟨w.heap.size + 1 + 1, 1, none⟩ = some (.complex .f64 0 0) := Lib.cell_of_heap g2 1
  have z2 : w3.cell? ⟨w.heap.size + 1 + 1, 2, none⟩ = some (.complex .f64 0 0) := Lib.cell_of_heap g2 2
  have f0 : w3.frozen? ⟨w.heap.size + 1 + 1, 0, none⟩ = false := Lib.frozen_of_heap g2 0
  have f1 : w3.frozen? ⟨w.heap.size + 1 + 1, 1, none⟩ = false := Lib.frozen_of_heap g2 1
  have f2 : w3.frozen? ⟨w.heap.size + 1 + 1, 2, none⟩ = false := Lib.frozen_of_heap g2 2
  have n0 : ¬ (w.heap.size = w.heap.size + 1 + 1) := by omega
  have n1 : ¬ (w.heap.size + 1 + 1 = w.heap.size) := by omega
  have rs := fun w a m x y => store_cx (P := Tryz.prog) w a m x y
  have y1 : ∀ v, (w3.setCell ⟨w.heap.size + 1 + 1, 0, none⟩ v).cell? ⟨w.heap.size + 1 + 1, 1, none⟩ = some (.complex .f64 0 0) := fun v => Lib.cell_of_heap (setCell_heap_same _ _ 0 _ _ _ v g2) 1
  have y2 : ∀ v, (w3.setCell ⟨w.heap.size + 1 + 1, 0, none⟩ v).frozen? ⟨w.heap.size + 1 + 1, 1, none⟩ = false := fun v => Lib.frozen_of_heap (setCell_heap_same _ _ 0 _ _ _ v g2) 1
  have y3 : ∀ v v', ((w3.setCell ⟨w.heap.size + 1 + 1, 0, none⟩ v).setCell ⟨w.heap.size + 1 + 1, 1, none⟩ v').cell? ⟨w.heap.size + 1 + 1, 2, none⟩ = some (.complex .f64 0 0) := fun v v' => Lib.cell_of_heap (setCell_heap_same _ _ 1 _ _ _ v' (setCell_heap_same _ _ 0 _ _ _ v g2)) 2
  have y4 : ∀ v v', ((w3.setCell ⟨w.heap.size + 1 + 1, 0, none⟩ v).setCell ⟨w.heap.size + 1 + 1, 1, none⟩ v').frozen? ⟨w.heap.size + 1 + 1, 2, none⟩ = false := fun v v' => Lib.frozen_of_heap (setCell_heap_same _ _ 1 _ _ _ v' (setCell_heap_same _ _ 0 _ _ _ v g2)) 2
  have G2 := hidden g2
  have HB := hidden hb
  clear hw3 g0 g1 g2 hb
  go_region_held3 (fun w' => w'.cell? ⟨w.heap.size, 0, none⟩ = some (.int .i64 x) ∧ w'.cell? ⟨w.heap.size, 1, none⟩ = some (.complex .f64 F1 F2) ∧ w'.cell? ⟨w.heap.size, 2, none⟩ = some (.complex .f64 F3 F4) ∧ w'.cell? ⟨w.heap.size + 1, 0, none⟩ = some (.int .i64 x2) ∧ w'.cell? ⟨w.heap.size + 1, 1, none⟩ = some (.complex .f64 E1 E2) ∧ w'.cell? ⟨w.heap.size + 1, 2, none⟩ = some (.complex .f64 E3 E4)) (go_keep)
    (first
      | (go_at_call 160; refine (BothIs.runs (by assumption) _).mono ?_; rintro e' w' ⟨rfl, rfl⟩))
  obtain ⟨w4, hw4⟩ : ∃ w4, w4 = (((w3.setCell ⟨w.heap.size + 1 + 1, 0, none⟩ (.int .i64 (x + x2))).setCell ⟨w.heap.size + 1 + 1, 1, none⟩ (.complex .f64 R1 R2)).setCell ⟨w.heap.size + 1 + 1, 2, none⟩ (.complex .f64 R3 R4)).drew := ⟨_, rfl⟩
  rw [← hw4]
  have hg : w4.heap[w.heap.size + 1 + 1]? = some (.cells #[.int .i64 (x + x2), .complex .f64 R1 R2, .complex .f64 R3 R4] 173 (0, 0)) := by
    rw [hw4]
    exact setCell_heap_same _ _ 2 _ _ _ _ (setCell_heap_same _ _ 1 _ _ _ _ (setCell_heap_same _ _ 0 _ _ _ _ G2.out))
  have hb : Below w.heap.size w w4 := by rw [hw4]; exact (((HB.out.setCell (by show _ ≤ w.heap.size + 1 + 1; omega) _).setCell (by show _ ≤ w.heap.size + 1 + 1; omega) _).setCell (by show _ ≤ w.heap.size + 1 + 1; omega) _).drew
  have HB4 := hidden hb
  have HG4 := hidden hg
  clear hw4 hg hb rs p0 p1 p2 q0 q1 q2 z0 z1 z2 f0 f1 f2 y1 y2 y3 y4 a1 a2 cx
  go_wp2_with fail
  (try simp only [Exit.inBlock, Exit.then])
  refine bodyPost_ret (results_cell_row rfl _ _ (w.heap.size + 1 + 1) _ _ _ _ rfl HG4.out Tryz.underlying173 rfl Tryz.infoNodeSize) rfl ?_
  exact ⟨rfl, HB4.out⟩
end Go.Proofs.YtoipliflphbeiaaGreatDoor
namespace Go.Proofs.YtoipliflphbeiaaGreatDoor
open Go.RowKit
/-- The first k nodes stand in the cells of c of them. -/
structure Mx.Cur (cur : Array Value) (X n W c k : Nat) : Prop where
  size : cur.size = c * 3
  c0 : ∀ j, j < k → cur[j * 3]? = some (.int .i64 (Mx.nx X n W j))
  c1 : ∀ j, j < k → cur[j * 3 + 1]? = some (.complex .f64 (floatOfInt .f64 (Mx.nl X n W j)) (floatOfInt .f64 (Mx.nh X n W j)))
  c2 : ∀ j, j < k → cur[j * 3 + 2]? = some (.complex .f64 (floatOfInt .f64 (Mx.ml X n W j)) (floatOfInt .f64 (Mx.mh X n W j)))
theorem Mx.Cur.new (X n W c : Nat) (v : Value) : Mx.Cur (Array.replicate (c * 3) v) X n W c 0 :=
  ⟨by simp, fun j hj => by omega, fun j hj => by omega, fun j hj => by omega⟩
/-- Three cells behind the first ones are written: these stay. -/
theorem Mx.Cur.touch {cur : Array Value} {X n W c k : Nat} (h : Mx.Cur cur X n W c k) (i : Nat) (x y z : Value) (hi : k ≤ i) : Mx.Cur (((cur.setIfInBounds (i * 3) x).setIfInBounds (i * 3 + 1) y).setIfInBounds (i * 3 + 2) z) X n W c k := by
  refine ⟨by simp [h.size], fun j hj => ?_, fun j hj => ?_, fun j hj => ?_⟩
  · rw [Array.getElem?_setIfInBounds, if_neg (by omega), Array.getElem?_setIfInBounds, if_neg (by omega), Array.getElem?_setIfInBounds, if_neg (by omega)]
    exact h.c0 j hj
  · rw [Array.getElem?_setIfInBounds, if_neg (by omega), Array.getElem?_setIfInBounds, if_neg (by omega), Array.getElem?_setIfInBounds, if_neg (by omega)]
    exact h.c1 j hj
  · rw [Array.getElem?_setIfInBounds, if_neg (by omega), Array.getElem?_setIfInBounds, if_neg (by omega), Array.getElem?_setIfInBounds, if_neg (by omega)]
    exact h.c2 j hj
theorem Mx.Cur.next {cur : Array Value} {X n W c k : Nat} {x y z : Value} (h : Mx.Cur cur X n W c k) (hk : k < c) (hx : x = .int .i64 (Mx.nx X n W k)) (hy : y = .complex .f64 (floatOfInt .f64 (Mx.nl X n W k)) (floatOfInt .f64 (Mx.nh X n W k))) (hz : z = .complex .f64 (floatOfInt .f64 (Mx.ml X n W k)) (floatOfInt .f64 (Mx.mh X n W k))) :
    Mx.Cur (((cur.setIfInBounds (k * 3) x).setIfInBounds (k * 3 + 1) y).setIfInBounds (k * 3 + 2) z) X n W c (k + 1) := by
  have hs := h.size
  have ht := h.touch k x y z (Nat.le_refl _)
  refine ⟨ht.size, fun j hj => ?_, fun j hj => ?_, fun j hj => ?_⟩
  · by_cases e : j = k
    · subst e
      rw [Array.getElem?_setIfInBounds, if_neg (by omega), Array.getElem?_setIfInBounds, if_neg (by omega), Array.getElem?_setIfInBounds, if_pos rfl, if_pos (by omega), hx]
    · exact ht.c0 j (by omega)
  · by_cases e : j = k
    · subst e
      rw [Array.getElem?_setIfInBounds, if_neg (by omega), Array.getElem?_setIfInBounds, if_pos rfl, if_pos (by simp; omega), hy]
    · exact ht.c1 j (by omega)
  · by_cases e : j = k
    · subst e
      rw [Array.getElem?_setIfInBounds, if_pos rfl, if_pos (by simp; omega), hz]
    · exact ht.c2 j (by omega)
/-- The cells that are there. -/
theorem Mx.Cur.there {cur : Array Value} {X n W c k : Nat} (h : Mx.Cur cur X n W c k) (i : Nat) (hi : i < c) : ∃ x y z, cur[i * 3]? = some x ∧ cur[i * 3 + 1]? = some y ∧ cur[i * 3 + 2]? = some z := by
  have hs := h.size
  exact ⟨_, _, _, Array.getElem?_eq_getElem (by omega), Array.getElem?_eq_getElem (by omega), Array.getElem?_eq_getElem (by omega)⟩
theorem mk_nodes (c : Nat) (hc : c ≤ 4294967296) (u : World) : (Instr.makeSlice 166 (.int .i64 (c : Int)) (.int .i64 (c : Int))).run Tryz.prog u = .ok (.slice (some ⟨u.heap.size, 0, none⟩) c c) (u.alloc (.cells (madeCells #[.int .i64 0, .complex .f64 0 0, .complex .f64 0 0] (c * 3)) 173)) := by
  obtain ⟨i0, hi, hz0, hz1, hz2⟩ := info_parts Tryz.infoNode
  have h := run_make (P := Tryz.prog) u 166 173 i0 _ Tryz.underlying166 hi hz0 .i64 .i64 (c : Int) (c : Int) (by omega) (Int.le_refl _) (by rw [hz2]; omega) (by omega)
  simpa [hz1, Value.cells] using h
theorem Mx.Cur.made (X n W c : Nat) : Mx.Cur (madeCells #[.int .i64 0, .complex .f64 0 0, .complex .f64 0 0] (c * 3)) X n W c 0 :=
  ⟨by simp [size_madeCells], fun j hj => by omega, fun j hj => by omega, fun j hj => by omega⟩
theorem Mx.wd0 : Mx.wd 0 = 512 := rfl
/-- A block's ends. -/
theorem Mx.block_ends (n k : Nat) (h : k * 512 < n) : Pn.fr n ((k * 512 : Nat) : Int) = k * 512 ∧ Pn.to n ((k * 512 : Nat) : Int) ((Mx.en n 512 k : Nat) : Int) = Mx.en n 512 k ∧ Pn.to n ((k * 512 : Nat) : Int) ((Mx.en n 512 k : Nat) - 1 : Int) = Mx.en n 512 k - 1 ∧ k * 512 < Mx.en n 512 k ∧ Mx.en n 512 k ≤ n := by
  have h1 := Mx.en_lt n 512 k (by decide) h
  have h2 := Mx.en_le n 512 k
  generalize Mx.en n 512 k = e at *
  unfold Pn.to Pn.fr
  omega
set_option maxHeartbeats 1000000 in
set_option maxRecDepth 100000 in
theorem blocks_any (r n X : Nat) (u : Value) (w : World) (h : Rw w r n X u) :
    Calls Tryz.prog 126 #[.pointer (some ⟨r, 0, none⟩)] w fun e w' => ∃ g cur, e = .returned (.slice (some ⟨g, 0, none⟩) (Mx.ln n 0) (Mx.ln n 0)) ∧ w'.heap[g]? = some (.cells cur 173 (0, 0)) ∧ Mx.Cur cur X n (Mx.wd 0) (Mx.ln n 0) (Mx.ln n 0) ∧ Below w.heap.size w w' ∧ w.heap.size ≤ g := by
  have HR := hidden h
  have hl := h.len
  obtain ⟨c, hc⟩ : ∃ c, c = Mx.ln n 0 := ⟨_, rfl⟩
  rw [← hc, Mx.wd0]
  have hi : ∀ i, i < c ↔ i * 512 < n := fun i => by rw [hc]; exact Mx.ln_iff n 0 i
  rw [Mx.ln_zero] at hc
  have hq : ((n : Int) + 512 - 1) / 512 = (c : Int) := by omega
  have hc1 : c ≤ 4294967296 := by omega
  have hmk := mk_nodes c hc1
  have HI := hidden hi
  clear h hc hi
  go_enter Tryz.func126, Tryz.ntmps126
  go_wp2_with fail
  refine (RLen_any r n X u _ HR.out).mono ?_
  rintro e' w1 ⟨rfl, rfl⟩
  go_wp2_with fail
  go_loopw [15] (fun i wr => ∃ (k : Nat) (cur : Array Value), k ≤ c ∧ i = .int .i64 k ∧ wr.heap[w1.heap.size]? = some (.cells cur 173 (0, 0)) ∧ Mx.Cur cur X n 512 c k ∧ Below w1.heap.size w1 wr) (fun i _ => c - (intOf i).toNat)
  case atStart => exact ⟨0, _, by omega, rfl, heap_alloc_new _ _, Mx.Cur.made X n 512 c, (Below.refl _ _).alloc (Nat.le_refl _) _⟩
  case round =>
    obtain ⟨k, cur, hk, rfl, hw, hcur, hbel⟩ := hrel
    clear hq hmk
    have hsz := hbel.size
    have HRR := hidden (HR.out.below hbel (Nat.le_refl _))
    have HW := hidden hw
    have HCU := hidden hcur
    have HBL := hidden hbel
    clear hw hcur hbel
    by_cases hlt : k < c
    · have hkn := (HI.out k).1 hlt
      obtain ⟨h1, h2, h3, h4, h5⟩ := Mx.block_ends n k hkn
      obtain ⟨x0, y0, z0, e0, e1, e2⟩ := HCU.out.there k hlt
      have d0 : wr.cell? ⟨w1.heap.size, k * 3, none⟩ = some x0 := by rw [Lib.cell_of_heap HW.out]; exact e0
      have d1 : wr.cell? ⟨w1.heap.size, k * 3 + 1, none⟩ = some y0 := by rw [Lib.cell_of_heap HW.out]; exact e1
      have d2 : wr.cell? ⟨w1.heap.size, k * 3 + 2, none⟩ = some z0 := by rw [Lib.cell_of_heap HW.out]; exact e2
      have f0 : wr.frozen? ⟨w1.heap.size, k * 3, none⟩ = false := Lib.frozen_of_heap HW.out _
      have f1 : wr.frozen? ⟨w1.heap.size, k * 3 + 1, none⟩ = false := Lib.frozen_of_heap HW.out _
      have f2 : wr.frozen? ⟨w1.heap.size, k * 3 + 2, none⟩ = false := Lib.frozen_of_heap HW.out _
      have HE := hidden (PExcess_any r n X (k * 512 : Nat) (Mx.en n 512 k : Nat) u wr HRR.out)
      have HG := hidden (PReach_any r n X (k * 512 : Nat) (Mx.en n 512 k : Nat) u wr HRR.out)
      have HA := hidden (PReach_any r n X (k * 512 : Nat) ((Mx.en n 512 k : Nat) - 1) u wr HRR.out)
      have hb1 := Wd.lo_bounds (X / 2 ^ (k * 512)) (Mx.en n 512 k - 1 - k * 512)
      have hb2 := Wd.hi_bounds (X / 2 ^ (k * 512)) (Mx.en n 512 k - 1 - k * 512)
      have HB := hidden (both_any 0 0 (Wd.lo (X / 2 ^ (k * 512)) (Mx.en n 512 k - 1 - k * 512)) (Wd.hi (X / 2 ^ (k * 512)) (Mx.en n 512 k - 1 - k * 512)) wr (by decide) (by decide) (by omega) (by omega))
      rw [show floatOfInt .f64 0 = 0 from by decide +kernel] at HB
      rw [h1, h2] at HE HG
      rw [h1, h3] at HA
      have V0 : Hid (Value.int .i64 (Wd.exc (X / 2 ^ (k * 512)) (Mx.en n 512 k - k * 512)) = .int .i64 (Mx.nx X n 512 k)) := rfl
      have V1 : Hid (Value.complex .f64 (floatOfInt .f64 (Wd.lo (X / 2 ^ (k * 512)) (Mx.en n 512 k - k * 512))) (floatOfInt .f64 (Wd.hi (X / 2 ^ (k * 512)) (Mx.en n 512 k - k * 512))) = .complex .f64 (floatOfInt .f64 (Mx.nl X n 512 k)) (floatOfInt .f64 (Mx.nh X n 512 k))) := rfl
      have V2 : Hid (Value.complex .f64 (floatOfInt .f64 (min 0 (Wd.lo (X / 2 ^ (k * 512)) (Mx.en n 512 k - 1 - k * 512)))) (floatOfInt .f64 (max 0 (Wd.hi (X / 2 ^ (k * 512)) (Mx.en n 512 k - 1 - k * 512)))) = .complex .f64 (floatOfInt .f64 (Mx.ml X n 512 k)) (floatOfInt .f64 (Mx.mh X n 512 k))) := by
        show _ = _
        rw [show Mx.en n 512 k - 1 - k * 512 = Mx.en n 512 k - k * 512 - 1 from by omega]
        rfl
      have hto' : min (((k : Int) + 1) * 512) (n : Int) = ((Mx.en n 512 k : Nat) : Int) := by unfold Mx.en; omega
      have rs := fun w a m x y => store_cx (P := Tryz.prog) w a m x y
      have hen : Mx.en n 512 k ≤ 4294967296 := by omega
      clear h1 h2 h3 h4 h5 hb1 hb2 e0 e1 e2
      generalize Wd.exc (X / 2 ^ (k * 512)) (Mx.en n 512 k - k * 512) = E at *
      generalize floatOfInt .f64 (Wd.lo (X / 2 ^ (k * 512)) (Mx.en n 512 k - k * 512)) = L at *
      generalize floatOfInt .f64 (Wd.hi (X / 2 ^ (k * 512)) (Mx.en n 512 k - k * 512)) = H at *
      generalize floatOfInt .f64 (min 0 (Wd.lo (X / 2 ^ (k * 512)) (Mx.en n 512 k - 1 - k * 512))) = M1 at *
      generalize floatOfInt .f64 (max 0 (Wd.hi (X / 2 ^ (k * 512)) (Mx.en n 512 k - 1 - k * 512))) = M2 at *
      generalize floatOfInt .f64 (Wd.lo (X / 2 ^ (k * 512)) (Mx.en n 512 k - 1 - k * 512)) = L1 at *
      generalize floatOfInt .f64 (Wd.hi (X / 2 ^ (k * 512)) (Mx.en n 512 k - 1 - k * 512)) = H1 at *
      obtain ⟨q, hq2⟩ : ∃ q, q = Mx.en n 512 k := ⟨_, rfl⟩
      rw [← hq2] at HE HG HA hto' hen
      obtain ⟨F, hF⟩ : ∃ F, F = k * 512 := ⟨_, rfl⟩
      rw [← hF] at HE HG HA
      have hfrom : (k : Int) * 512 = (F : Int) := by omega
      have hF2 : F ≤ 4294967296 := by omega
      have hk2 : k ≤ 4294967296 := by omega
      have i0 : (0 : Int) ≤ (k : Int) := by omega
      have i1 : (k : Int) < (c : Int) := by omega
      clear hq2 hF hkn
      go_wp2_with fail
      refine (RLen_any r n X u _ HRR.out).mono ?_
      rintro e' w2 ⟨rfl, rfl⟩
      go_wp2_with fail
      refine HE.out.mono ?_
      rintro e' w2 ⟨rfl, rfl⟩
      go_wp2_with fail
      refine HG.out.mono ?_
      rintro e' w2 ⟨rfl, rfl⟩
      go_wp2_with fail
      refine HA.out.mono ?_
      rintro e' w2 ⟨rfl, rfl⟩
      go_wp2_with fail
      refine HB.out.mono ?_
      rintro e' w2 ⟨rfl, rfl⟩
      go_wp2_with fail
      go_roundw
      case rel =>
        refine ⟨k + 1, _, by omega, by go_num, setCell_heap_same _ _ _ _ _ _ _ (setCell_heap_same _ _ _ _ _ _ _ (setCell_heap_same _ _ _ _ _ _ _ HW.out)), HCU.out.next hlt V0.out V1.out V2.out, ((HBL.out.setCell (Nat.le_refl _) _).setCell (Nat.le_refl _) _).setCell (Nat.le_refl _) _⟩
      case measure => simp [intOf]; omega
    · obtain rfl : k = c := by omega
      go_wp2_with fail
      go_ret
      exact ⟨_, _, rfl, HW.out, HCU.out, HBL.out, Nat.le_refl _⟩
end Go.Proofs.YtoipliflphbeiaaGreatDoor
namespace Go.Proofs.YtoipliflphbeiaaGreatDoor
open Go.RowKit
set_option maxHeartbeats 2000000 in
set_option maxRecDepth 100000 in
theorem pairs_any (X n W m g : Nat) (cur0 : Array Value) (w : World) (hg : w.heap[g]? = some (.cells cur0 173 (0, 0))) (h0 : Mx.Cur cur0 X n W m m) (hi : ∀ i, i < m ↔ i * W < n) (hW : 0 < W) (hm : m ≤ 4294967296) (hn : n ≤ 4294967296) :
    Calls Tryz.prog 127 #[.slice (some ⟨g, 0, none⟩) m m] w fun e w' => ∃ g' cur, e = .returned (.slice (some ⟨g', 0, none⟩) ((m + 1) / 2) ((m + 1) / 2)) ∧ w'.heap[g']? = some (.cells cur 173 (0, 0)) ∧ Mx.Cur cur X n (2 * W) ((m + 1) / 2) ((m + 1) / 2) ∧ Below w.heap.size w w' ∧ w.heap.size ≤ g' := by
  obtain ⟨c, hc⟩ : ∃ c, c = (m + 1) / 2 := ⟨_, rfl⟩
  rw [← hc]
  have hq : ((m : Int) + 1) / 2 = (c : Int) := by omega
  have hc1 : c ≤ 4294967296 := by omega
  have hmk := mk_nodes c hc1
  have HG := hidden hg
  have H0 := hidden h0
  have HI := hidden hi
  have HC := hidden hc
  have hgs := lt_of_block hg
  clear hg h0 hi hc
  go_enter Tryz.func127, Tryz.ntmps127
  go_wp2_with fail
  go_loopw [12] (fun i wr => ∃ (k : Nat) (cur : Array Value), k ≤ c ∧ i = .int .i64 k ∧ wr.heap[w.heap.size]? = some (.cells cur 173 (0, 0)) ∧ Mx.Cur cur X n (2 * W) c k ∧ Below w.heap.size w wr) (fun i _ => c - (intOf i).toNat)
  case atStart => exact ⟨0, _, by omega, rfl, heap_alloc_new _ _, Mx.Cur.made X n (2 * W) c, (Below.refl _ _).alloc (Nat.le_refl _) _⟩
  case round =>
    obtain ⟨k, cur, hk, rfl, hw, hcur, hbel⟩ := hrel
    clear hq hmk
    have hsz := hbel.size
    have hwlt := lt_of_block hw
    have HW := hidden hw
    have HCU := hidden hcur
    have HBL := hidden hbel
    have HGr := hidden ((hbel.block g hgs).trans HG.out)
    clear hw hcur hbel
    by_cases hlt : k < c
    · obtain ⟨J, hJ⟩ : ∃ J : Nat, J = 2 * k := ⟨_, rfl⟩
      have hJm : J < m := by have := HC.out; omega
      have hj : (2 : Int) * (k : Int) = (J : Int) := by omega
      obtain ⟨x0, y0, z0, e0, e1, e2⟩ := HCU.out.there k hlt
      have d0 : wr.cell? ⟨w.heap.size, k * 3, none⟩ = some x0 := by rw [Lib.cell_of_heap HW.out]; exact e0
      have d1 : wr.cell? ⟨w.heap.size, k * 3 + 1, none⟩ = some y0 := by rw [Lib.cell_of_heap HW.out]; exact e1
      have d2 : wr.cell? ⟨w.heap.size, k * 3 + 2, none⟩ = some z0 := by rw [Lib.cell_of_heap HW.out]; exact e2
      have f0 : wr.frozen? ⟨w.heap.size, k * 3, none⟩ = false := Lib.frozen_of_heap HW.out _
      have f1 : wr.frozen? ⟨w.heap.size, k * 3 + 1, none⟩ = false := Lib.frozen_of_heap HW.out _
      have f2 : wr.frozen? ⟨w.heap.size, k * 3 + 2, none⟩ = false := Lib.frozen_of_heap HW.out _
      have s0 : wr.cell? ⟨g, J * 3, none⟩ = some (.int .i64 (Mx.nx X n W J)) := by rw [Lib.cell_of_heap HGr.out]; exact H0.out.c0 J hJm
      have s1 : wr.cell? ⟨g, J * 3 + 1, none⟩ = some (.complex .f64 (floatOfInt .f64 (Mx.nl X n W J)) (floatOfInt .f64 (Mx.nh X n W J))) := by rw [Lib.cell_of_heap HGr.out]; exact H0.out.c1 J hJm
      have s2 : wr.cell? ⟨g, J * 3 + 2, none⟩ = some (.complex .f64 (floatOfInt .f64 (Mx.ml X n W J)) (floatOfInt .f64 (Mx.mh X n W J))) := by rw [Lib.cell_of_heap HGr.out]; exact H0.out.c2 J hJm
      have rs := fun w a m x y => store_cx (P := Tryz.prog) w a m x y
      have i0 : (0 : Int) ≤ (k : Int) := by omega
      have i1 : (k : Int) < (c : Int) := by omega
      have i2 : (0 : Int) ≤ (J : Int) := by omega
      have i3 : (J : Int) < (m : Int) := by omega
      have hk2 : k ≤ 4294967296 := by omega
      have HJ := hidden hJ
      clear e0 e1 e2 hJ
      by_cases h2 : J + 1 < m
      · have hl2 : ((J : Int) + 1 < (m : Int)) := by omega
        have b1 := Mx.bounds X n W J
        have b2 := Mx.bounds X n W (J + 1)
        obtain ⟨t1, t2, t3, t4, t5⟩ := Mx.two X n W k hW (by rw [← HJ.out]; exact (HI.out (J + 1)).1 h2)
        rw [← HJ.out] at t1 t2 t3 t4 t5
        have hgn : g ≠ w.heap.size := by omega
        have HJN := hidden (fun W' => mxjoin_any (Mx.nx X n W J) (Mx.nl X n W J) (Mx.nh X n W J) (Mx.ml X n W J) (Mx.mh X n W J) (Mx.nx X n W (J + 1)) (Mx.nl X n W (J + 1)) (Mx.nh X n W (J + 1)) (Mx.ml X n W (J + 1)) (Mx.mh X n W (J + 1)) W' (by omega) (by omega) (by omega) (by omega) (by omega) (by omega) (by omega) (by omega) (by omega) (by omega))
        rw [← t1, ← t2, ← t3, ← t4, ← t5] at HJN
        have S0 := hidden (H0.out.c0 (J + 1) h2)
        have S1 := hidden (H0.out.c1 (J + 1) h2)
        have S2 := hidden (H0.out.c2 (J + 1) h2)
        have T0 := hidden (H0.out.c0 J hJm)
        have T1 := hidden (H0.out.c1 J hJm)
        have T2 := hidden (H0.out.c2 J hJm)
        obtain ⟨R, hR⟩ : ∃ R, R = Mx.nx X n (2 * W) k := ⟨_, rfl⟩
        obtain ⟨R1, hR1⟩ : ∃ R, R = floatOfInt .f64 (Mx.nl X n (2 * W) k) := ⟨_, rfl⟩
        obtain ⟨R2, hR2⟩ : ∃ R, R = floatOfInt .f64 (Mx.nh X n (2 * W) k) := ⟨_, rfl⟩
        obtain ⟨R3, hR3⟩ : ∃ R, R = floatOfInt .f64 (Mx.ml X n (2 * W) k) := ⟨_, rfl⟩
        obtain ⟨R4, hR4⟩ : ∃ R, R = floatOfInt .f64 (Mx.mh X n (2 * W) k) := ⟨_, rfl⟩
        rw [← hR, ← hR1, ← hR2, ← hR3, ← hR4] at HJN
        have V0 : Hid (Value.int .i64 R = .int .i64 (Mx.nx X n (2 * W) k)) := by show _ = _; rw [hR]
        have V1 : Hid (Value.complex .f64 R1 R2 = .complex .f64 (floatOfInt .f64 (Mx.nl X n (2 * W) k)) (floatOfInt .f64 (Mx.nh X n (2 * W) k))) := by show _ = _; rw [hR1, hR2]
        have V2 : Hid (Value.complex .f64 R3 R4 = .complex .f64 (floatOfInt .f64 (Mx.ml X n (2 * W) k)) (floatOfInt .f64 (Mx.mh X n (2 * W) k))) := by show _ = _; rw [hR3, hR4]
        clear t1 t2 t3 t4 t5 hR hR1 hR2 hR3 hR4 b1 b2
        generalize Mx.nx X n W (J + 1) = E' at *
        generalize floatOfInt .f64 (Mx.nl X n W (J + 1)) = L' at *
        generalize floatOfInt .f64 (Mx.nh X n W (J + 1)) = H' at *
        generalize floatOfInt .f64 (Mx.ml X n W (J + 1)) = N1 at *
        generalize floatOfInt .f64 (Mx.mh X n W (J + 1)) = N2 at *
        generalize Mx.nx X n W J = E at *
        generalize floatOfInt .f64 (Mx.nl X n W J) = L at *
        generalize floatOfInt .f64 (Mx.nh X n W J) = H at *
        generalize floatOfInt .f64 (Mx.ml X n W J) = M1 at *
        generalize floatOfInt .f64 (Mx.mh X n W J) = M2 at *
        go_wp2_with fail
        obtain ⟨w2, hw2⟩ : ∃ w2, w2 = ((wr.setCell ⟨w.heap.size, k * 3, none⟩ (.int .i64 E)).setCell ⟨w.heap.size, k * 3 + 1, none⟩ (.complex .f64 L H)).setCell ⟨w.heap.size, k * 3 + 2, none⟩ (.complex .f64 M1 M2) := ⟨_, rfl⟩
        rw [← hw2]
        have hW2 : w2.heap[w.heap.size]? = some (.cells (((cur.setIfInBounds (k * 3) (.int .i64 E)).setIfInBounds (k * 3 + 1) (.complex .f64 L H)).setIfInBounds (k * 3 + 2) (.complex .f64 M1 M2)) 173 (0, 0)) := by rw [hw2]; exact setCell_heap_same _ _ _ _ _ _ _ (setCell_heap_same _ _ _ _ _ _ _ (setCell_heap_same _ _ _ _ _ _ _ HW.out))
        have hC2 := HCU.out.touch k (.int .i64 E) (.complex .f64 L H) (.complex .f64 M1 M2) (Nat.le_refl _)
        have hG2 : w2.heap[g]? = some (.cells cur0 173 (0, 0)) := by rw [hw2, setCell_heap_other _ _ _ _ hgn, setCell_heap_other _ _ _ _ hgn, setCell_heap_other _ _ _ _ hgn]; exact HGr.out
        have hB2 : Below w.heap.size w w2 := by rw [hw2]; exact ((HBL.out.setCell (Nat.le_refl _) _).setCell (Nat.le_refl _) _).setCell (Nat.le_refl _) _
        have hz2 : wr.heap.size = w2.heap.size := by rw [hw2]; simp
        clear hw2 d0 d1 d2 f0 f1 f2 s0 s1 s2
        generalize ((cur.setIfInBounds (k * 3) (.int .i64 E)).setIfInBounds (k * 3 + 1) (.complex .f64 L H)).setIfInBounds (k * 3 + 2) (.complex .f64 M1 M2) = cur2 at *
        have HW2 := hidden hW2
        have HC2 := hidden hC2
        have HG2 := hidden hG2
        have HB2 := hidden hB2
        have p0 : w2.cell? ⟨g, J * 3, none⟩ = some (.int .i64 E) := by rw [Lib.cell_of_heap hG2]; exact T0.out
        have p1 : w2.cell? ⟨g, J * 3 + 1, none⟩ = some (.complex .f64 L H) := by rw [Lib.cell_of_heap hG2]; exact T1.out
        have p2 : w2.cell? ⟨g, J * 3 + 2, none⟩ = some (.complex .f64 M1 M2) := by rw [Lib.cell_of_heap hG2]; exact T2.out
        have q0 : w2.cell? ⟨g, (J + 1) * 3, none⟩ = some (.int .i64 E') := by rw [Lib.cell_of_heap hG2]; exact S0.out
        have q1 : w2.cell? ⟨g, (J + 1) * 3 + 1, none⟩ = some (.complex .f64 L' H') := by rw [Lib.cell_of_heap hG2]; exact S1.out
        have q2 : w2.cell? ⟨g, (J + 1) * 3 + 2, none⟩ = some (.complex .f64 N1 N2) := by rw [Lib.cell_of_heap hG2]; exact S2.out
        have hwl : w.heap.size < w2.heap.size := by omega
        clear hW2 hC2 hG2 hB2
        have n0 : ¬ (g = w.heap.size) := hgn
        have n1 : ¬ (w.heap.size = g) := fun h => hgn h.symm
        obtain ⟨x2, y2, z2, g0, g1, g2⟩ := HC2.out.there k hlt
        have G0 := hidden g0
        have G1 := hidden g1
        have G2 := hidden g2
        have i4 : (0 : Int) ≤ (J : Int) + 1 := by omega
        have wj : IntKind.i64.wrap (2 * (k : Int)) = (J : Int) := by rw [IntKind.wrap_i64]; omega
        obtain ⟨J1, hJ1⟩ : ∃ J1, J1 = J + 1 := ⟨_, rfl⟩
        have wj1 : IntKind.i64.wrap ((J : Int) + 1) = (J1 : Int) := by rw [IntKind.wrap_i64]; omega
        have i5 : (0 : Int) ≤ (J1 : Int) := by omega
        have i6 : (J1 : Int) < (m : Int) := by omega
        rw [← hJ1] at q0 q1 q2
        clear hgn hJm h2 hz2 g0 g1 g2 hwlt hsz hJ1 i4 hl2 hj
        go_region_held3 (fun w' => w'.cell? ⟨g, J * 3, none⟩ = some (.int .i64 E) ∧ w'.cell? ⟨g, J * 3 + 1, none⟩ = some (.complex .f64 L H) ∧ w'.cell? ⟨g, J * 3 + 2, none⟩ = some (.complex .f64 M1 M2) ∧ w'.cell? ⟨g, J1 * 3, none⟩ = some (.int .i64 E') ∧ w'.cell? ⟨g, J1 * 3 + 1, none⟩ = some (.complex .f64 L' H') ∧ w'.cell? ⟨g, J1 * 3 + 2, none⟩ = some (.complex .f64 N1 N2)) (first | (exact ⟨by assumption, by assumption, by assumption, by assumption, by assumption, by assumption⟩) | go_keep)
          (first
            | (go_at_call 161; refine (HJN.out _).mono ?_; rintro e' w3 ⟨rfl, hb3⟩; have HB3 := hidden hb3; have u0 := (hb3.cell (p := ⟨g, J * 3, none⟩) (by show g < w2.heap.size; omega)).trans p0; have u1 := (hb3.cell (p := ⟨g, J * 3 + 1, none⟩) (by show g < w2.heap.size; omega)).trans p1; have u2 := (hb3.cell (p := ⟨g, J * 3 + 2, none⟩) (by show g < w2.heap.size; omega)).trans p2; have t0 := (hb3.cell (p := ⟨g, J1 * 3, none⟩) (by show g < w2.heap.size; omega)).trans q0; have t1 := (hb3.cell (p := ⟨g, J1 * 3 + 1, none⟩) (by show g < w2.heap.size; omega)).trans q1; have t2 := (hb3.cell (p := ⟨g, J1 * 3 + 2, none⟩) (by show g < w2.heap.size; omega)).trans q2; have HW3 := hidden ((hb3.block w.heap.size hwl).trans HW2.out); have d0 : w3.cell? ⟨w.heap.size, k * 3, none⟩ = some x2 := (Lib.cell_of_heap HW3.out _).trans G0.out; have d1 : w3.cell? ⟨w.heap.size, k * 3 + 1, none⟩ = some y2 := (Lib.cell_of_heap HW3.out _).trans G1.out; have d2 : w3.cell? ⟨w.heap.size, k * 3 + 2, none⟩ = some z2 := (Lib.cell_of_heap HW3.out _).trans G2.out; have f0 : w3.frozen? ⟨w.heap.size, k * 3, none⟩ = false := Lib.frozen_of_heap HW3.out _; have f1 : w3.frozen? ⟨w.heap.size, k * 3 + 1, none⟩ = false := Lib.frozen_of_heap HW3.out _; have f2 : w3.frozen? ⟨w.heap.size, k * 3 + 2, none⟩ = false := Lib.frozen_of_heap HW3.out _; clear hb3))
        have HB4 : Hid (Below w.heap.size w w3) := HB2.out.trans (Below.mono (show Below w2.heap.size w2 w3 from ⟨HB3.out.os, HB3.out.tape, HB3.out.output, HB3.out.size, HB3.out.block⟩) (by omega))
        clear u0 u1 u2 t0 t1 t2 d0 d1 d2 f0 f1 f2 p0 p1 p2 q0 q1 q2
        go_wp2_with fail
        go_roundw
        case rel =>
          refine ⟨k + 1, _, by omega, by go_num, setCell_heap_same _ _ _ _ _ _ _ (setCell_heap_same _ _ _ _ _ _ _ (setCell_heap_same _ _ _ _ _ _ _ HW3.out)), HC2.out.next hlt V0.out V1.out V2.out, ((HB4.out.setCell (Nat.le_refl _) _).setCell (Nat.le_refl _) _).setCell (Nat.le_refl _) _⟩
        case measure => simp [intOf]; omega
      · have hl2 : ¬ ((J : Int) + 1 < (m : Int)) := by omega
        have hln : n ≤ (2 * k + 1) * W := by
          rw [← HJ.out]
          have := (HI.out (J + 1))
          omega
        obtain ⟨t1, t2, t3, t4, t5, _⟩ := Mx.lone X n W k hln
        rw [← HJ.out] at t1 t2 t3 t4 t5
        have V0 : Hid (Value.int .i64 (Mx.nx X n W J) = .int .i64 (Mx.nx X n (2 * W) k)) := by show _ = _; rw [t1]
        have V1 : Hid (Value.complex .f64 (floatOfInt .f64 (Mx.nl X n W J)) (floatOfInt .f64 (Mx.nh X n W J)) = .complex .f64 (floatOfInt .f64 (Mx.nl X n (2 * W) k)) (floatOfInt .f64 (Mx.nh X n (2 * W) k))) := by show _ = _; rw [t2, t3]
        have V2 : Hid (Value.complex .f64 (floatOfInt .f64 (Mx.ml X n W J)) (floatOfInt .f64 (Mx.mh X n W J)) = .complex .f64 (floatOfInt .f64 (Mx.ml X n (2 * W) k)) (floatOfInt .f64 (Mx.mh X n (2 * W) k))) := by show _ = _; rw [t4, t5]
        clear t1 t2 t3 t4 t5
        generalize Mx.nx X n W J = E at *
        generalize floatOfInt .f64 (Mx.nl X n W J) = L at *
        generalize floatOfInt .f64 (Mx.nh X n W J) = H at *
        generalize floatOfInt .f64 (Mx.ml X n W J) = M1 at *
        generalize floatOfInt .f64 (Mx.mh X n W J) = M2 at *
        go_wp2_with fail
        go_roundw
        case rel =>
          refine ⟨k + 1, _, by omega, by go_num, setCell_heap_same _ _ _ _ _ _ _ (setCell_heap_same _ _ _ _ _ _ _ (setCell_heap_same _ _ _ _ _ _ _ HW.out)), HCU.out.next hlt V0.out V1.out V2.out, ((HBL.out.setCell (Nat.le_refl _) _).setCell (Nat.le_refl _) _).setCell (Nat.le_refl _) _⟩
        case measure => simp [intOf]; omega
    · obtain rfl : k = c := by omega
      go_wp2_with fail
      go_ret
      exact ⟨_, _, rfl, HW.out, HCU.out, HBL.out, Nat.le_refl _⟩
end Go.Proofs.YtoipliflphbeiaaGreatDoor
namespace Go.Proofs.YtoipliflphbeiaaGreatDoor
open Go.RowKit
/-- The k-th level's slice, and those of the first m levels. -/
def Mx.sl (n : Nat) (gs : Nat → Nat) (k : Nat) : Value := .slice (some ⟨gs k, 0, none⟩) (Mx.ln n k) (Mx.ln n k)
def Mx.sls (n : Nat) (gs : Nat → Nat) (m : Nat) : List Value := (List.range m).map (Mx.sl n gs)
theorem Mx.sls_succ (n : Nat) (gs : Nat → Nat) (m : Nat) : Mx.sls n gs (m + 1) = Mx.sls n gs m ++ [Mx.sl n gs m] := by
  unfold Mx.sls
  rw [List.range_succ, List.map_append]
  rfl
theorem Mx.sls_congr (n : Nat) (gs gs' : Nat → Nat) (m : Nat) (h : ∀ k, k < m → gs k = gs' k) : Mx.sls n gs m = Mx.sls n gs' m := by
  unfold Mx.sls
  apply List.map_congr_left
  intro k hk
  unfold Mx.sl
  rw [h k (List.mem_range.1 hk)]
theorem Mx.sls_get (n : Nat) (gs : Nat → Nat) (m k : Nat) (h : k < m) : (Mx.sls n gs m)[k]? = some (Mx.sl n gs k) := by
  unfold Mx.sls
  simp [h]
theorem Mx.few (n k : Nat) (hn : n ≤ 4294967296) (h : 1 < Mx.ln n k) : k < 32 := by
  have h1 := (Mx.ln_iff n k 1).1 h
  unfold Mx.wd at h1
  by_cases hk : k < 32
  · exact hk
  · have := Nat.pow_le_pow_right (show 0 < 2 by decide) (show 32 ≤ k by omega)
    have e : 2 ^ 32 = 4294967296 := rfl
    omega
/-- The tree in block t: its row, and its m levels, in the blocks gs. -/
structure Tr (w : World) (t r n X : Nat) (u : Value) (gs : Nat → Nat) (m : Nat) : Prop where
  row : Rw w r n X u
  cells : ∃ lv, w.heap[t]? = some (.cells #[.pointer (some ⟨r, 0, none⟩), lv] 170 (0, 0)) ∧ w.ownsRow 0 166 1 lv m (Mx.sls n gs m)
  each : ∀ k, k < m → ∃ cur, w.heap[gs k]? = some (.cells cur 173 (0, 0)) ∧ Mx.Cur cur X n (Mx.wd k) (Mx.ln n k) (Mx.ln n k)
  more : ∀ k, k + 1 < m → 1 < Mx.ln n k
  pos : 0 < m
  top : Mx.ln n (m - 1) ≤ 1
theorem Tr.below {w w' : World} {t r n X : Nat} {u : Value} {gs : Nat → Nat} {m C : Nat} (h : Tr w t r n X u gs m) (hb : Below C w w') (hC : w.heap.size ≤ C) : Tr w' t r n X u gs m := by
  obtain ⟨lv, h1, h2⟩ := h.cells
  refine ⟨h.row.below hb hC, ⟨lv, by rw [hb.block t (Nat.lt_of_lt_of_le (lt_of_block h1) hC)]; exact h1, own_below h2 hb hC⟩, fun k hk => ?_, h.more, h.pos, h.top⟩
  obtain ⟨cur, h3, h4⟩ := h.each k hk
  exact ⟨cur, by rw [hb.block _ (Nat.lt_of_lt_of_le (lt_of_block h3) hC)]; exact h3, h4⟩
theorem Tr.few {w : World} {t r n X : Nat} {u : Value} {gs : Nat → Nat} {m : Nat} (h : Tr w t r n X u gs m) : m ≤ 33 := by
  by_cases hm : m ≤ 1
  · omega
  · have := Mx.few n (m - 2) h.row.len (h.more (m - 2) (by omega))
    omega
theorem own_form {w : World} {B : Nat} {e : TypeId} {s : Nat} {v : Value} {n : Nat} {xs : List Value} (h : w.ownsRow B e s v n xs) (hn : 0 < n) : ∃ g cap, v = .slice (some ⟨g, 0, none⟩) n cap ∧ n ≤ cap := by
  rcases h.2 with ⟨_, h0⟩ | ⟨g, cap, cur, hv, _, _, hc, _⟩
  · omega
  · exact ⟨g, cap, hv, hc⟩
def Mx.lenV : Value → Nat
  | .slice _ n _ => n
  | _ => 0
theorem Tryz.infoLevel : (Tryz.prog.info? 166).map (fun i => (i.zero, i.size, i.bytes)) = some (some (.slice none 0 0), 1, 24) := by kernel_rfl
set_option maxHeartbeats 2000000 in
set_option maxRecDepth 100000 in
theorem MNew_any (r n X : Nat) (u : Value) (w : World) (h : Rw w r n X u) :
    Calls Tryz.prog 96 #[.pointer (some ⟨r, 0, none⟩)] w fun e w' => ∃ t gs m, e = .returned (.pointer (some ⟨t, 0, none⟩)) ∧ Tr w' t r n X u gs m ∧ Below w.heap.size w w' := by
  obtain ⟨i0, hi, hz0, hz1, hz2⟩ := info_parts Tryz.infoLevel
  have HR := hidden h
  have hl := h.len
  clear h
  go_enter Tryz.func96, Tryz.ntmps96
  go_wp2_with fail
  refine (blocks_any r n X u _ HR.out).mono ?_
  rintro e' w1 ⟨g1, cur1, rfl, hg1, hc1, hb1, hge1⟩
  have hs1 := hb1.size
  have HG1 := hidden hg1
  have HC1 := hidden hc1
  have HB1 := hidden hb1
  clear hg1 hc1 hb1
  go_wp2_with fail
  go_loopw [3] (fun s3 wr => ∃ (k : Nat) (gs : Nat → Nat) (lv : Value), s3 = Mx.sl n gs k ∧ wr.heap[w1.heap.size + 1]? = some (.cells #[.pointer (some ⟨r, 0, none⟩), lv] 170 (0, 0)) ∧ wr.ownsRow w.heap.size 166 1 lv (k + 1) (Mx.sls n gs (k + 1)) ∧ (∀ j, j ≤ k → ∃ cur, wr.heap[gs j]? = some (.cells cur 173 (0, 0)) ∧ Mx.Cur cur X n (Mx.wd j) (Mx.ln n j) (Mx.ln n j)) ∧ (∀ j, j < k → 1 < Mx.ln n j) ∧ Below w.heap.size w wr) (fun s3 _ => Mx.lenV s3)
  case atStart =>
    refine ⟨0, fun _ => g1, .slice (some ⟨w1.heap.size, 0, none⟩) 1 1, rfl, heap_new_at (by simp), ?_, ?_, fun j hj => by omega, (HB1.out.alloc hs1 _).alloc (by simp; omega) _⟩
    · exact (World.ownsRow_lit w1 _ 1 hs1 (by decide) rfl).alloc _
    · intro j hj
      obtain rfl : j = 0 := by omega
      refine ⟨cur1, ?_, HC1.out⟩
      have := lt_of_block HG1.out
      rw [Below.heap_alloc _ _ _ (by simp; omega), Below.heap_alloc _ _ _ (by omega)]
      exact HG1.out
  case round =>
    obtain ⟨k, gs, lv, rfl, ht, hown, heach, hmore, hbel⟩ := hrel
    have HT := hidden ht
    have HO := hidden hown
    have HEA := hidden heach
    have HM := hidden hmore
    have HB := hidden hbel
    have hsz := hbel.size
    clear ht hown heach hmore hbel
    obtain ⟨c, hc⟩ : ∃ c, c = Mx.ln n k := ⟨_, rfl⟩
    have hsl : Mx.sl n gs k = .slice (some ⟨gs k, 0, none⟩) c c := by rw [hc]; rfl
    rw [hsl]
    by_cases hlt : 1 < c
    · have hk32 := Mx.few n k hl (by omega)
      obtain ⟨cur, hg, hcu⟩ := HEA.out k (Nat.le_refl _)
      have hc32 : c ≤ 4294967296 := by
        rw [hc]
        have h1 := (Mx.ln_iff n k (Mx.ln n k - 1)).1 (by omega)
        have h2 := Mx.wd_pos k
        have h3 : Mx.ln n k - 1 ≤ (Mx.ln n k - 1) * Mx.wd k := Nat.le_mul_of_pos_right _ h2
        omega
      have HP := hidden (pairs_any X n (Mx.wd k) c (gs k) cur wr hg (by rw [hc]; exact hcu) (fun i => by rw [hc]; exact Mx.ln_iff n k i) (Mx.wd_pos k) hc32 hl)
      have hc' : (1 : Int) < (c : Int) := by omega
      have HC := hidden hc
      clear hg hcu hsl hc
      go_wp2_with fail
      refine HP.out.mono ?_
      rintro e' w2 ⟨g2, cur2, rfl, hg2, hcu2, hb2, hge2⟩
      have hs2 := hb2.size
      have htl := lt_of_block HT.out
      have t2 : w2.heap[w1.heap.size + 1]? = some (.cells #[.pointer (some ⟨r, 0, none⟩), lv] 170 (0, 0)) := (hb2.block _ htl).trans HT.out
      have T2 := hidden t2
      have q1 : w2.cell? ⟨w1.heap.size + 1, 1, none⟩ = some lv := Lib.cell_of_heap t2 1
      have HO2 := hidden (own_below HO.out hb2 (Nat.le_refl _))
      have HG2 := hidden hg2
      have HCU2 := hidden hcu2
      have HBL2 := hidden hb2
      have hgl2 := lt_of_block hg2
      clear hg2 hcu2 hb2 t2
      obtain ⟨c2, hc2⟩ : ∃ c2, c2 = (c + 1) / 2 := ⟨_, rfl⟩
      rw [← hc2] at HCU2 ⊢
      have HC2 := hidden hc2
      clear hc2
      have hne := own_other HO2.out T2.out (by decide)
      go_wp2_with (at_builtin; refine wpList_append_one _ rfl (.tmp 21) (.tmp 23) 168 rfl w.heap.size 166 i0 (.slice none 0 0) 24 Tryz.underlying168 hi hz0 hz1 hz2 rfl lv (k + 1) (Mx.sls n gs (k + 1)) rfl (by exact HO2.out.alloc _) _ 1 (.slice (some ⟨g2, 0, none⟩) c2 c2) _ rfl (by exact heap_alloc_new _ _) rfl (by unfold maxLen; omega) (by omega) (by simp; omega) ?_; intro v3 w3 hown3 hgrow3; obtain ⟨g3, cap3, hv3, _⟩ := own_form hown3 (by omega); subst hv3; have HO3 := hidden hown3; have HG3 := hidden hgrow3; have hs3 := hgrow3.size; have t3 : w3.heap[w1.heap.size + 1]? = some (.cells #[.pointer (some ⟨r, 0, none⟩), lv] 170 (0, 0)) := ((hgrow3.block _ (by simp; omega) (Ne.symm hne)).trans (Below.heap_alloc _ _ _ (by omega))).trans T2.out; have T3 := hidden t3; have q3 : w3.cell? ⟨w1.heap.size + 1, 1, none⟩ = some lv := Lib.cell_of_heap t3 1; have f3 : w3.frozen? ⟨w1.heap.size + 1, 1, none⟩ = false := Lib.frozen_of_heap t3 1; clear hown3 hgrow3 t3)
      go_roundw
      case rel =>
        refine ⟨k + 1, fun j => if j = k + 1 then g2 else gs j, .slice (some ⟨g3, 0, none⟩) (k + 1 + 1) cap3, ?_, ?_, ?_, ?_, ?_, ?_⟩
        · unfold Mx.sl
          simp only [if_true]
          rw [Mx.ln_succ, ← HC.out, ← HC2.out]
        · exact setCell_heap_same _ _ _ _ _ _ _ T3.out
        · have hx := HO3.out
          have e1 : Mx.sls n (fun j => if j = k + 1 then g2 else gs j) (k + 1) = Mx.sls n gs (k + 1) := Mx.sls_congr n _ _ _ fun j hj => if_neg (by omega)
          have e2 : Mx.sl n (fun j => if j = k + 1 then g2 else gs j) (k + 1) = .slice (some ⟨g2, 0, none⟩) c2 c2 := by
            unfold Mx.sl
            simp only [if_true]
            rw [Mx.ln_succ, ← HC.out, ← HC2.out]
          rw [Mx.sls_succ, e1, e2]
          refine own_same hx fun j hj => setCell_heap_other _ _ _ _ ?_
          rintro rfl
          exact own_other hx T3.out (by decide) hj
        · intro j hj
          by_cases e : j = k + 1
          · subst e
            simp only [if_true]
            refine ⟨cur2, ?_, ?_⟩
            · rw [setCell_heap_other _ _ _ _ (by rintro rfl; have := T3.out; have h2 := (HG3.out.block _ (by simp; omega) (Ne.symm hne)).trans (Below.heap_alloc _ _ _ hgl2); rw [h2, HG2.out] at this; simp at this)]
              refine ((HG3.out.block _ (by simp; omega) ?_).trans (Below.heap_alloc _ _ _ hgl2)).trans HG2.out
              exact Ne.symm (own_other HO2.out HG2.out (by decide))
            · rw [Mx.ln_succ, Mx.wd_succ, ← HC.out, ← HC2.out]
              exact HCU2.out
          · simp only [if_neg e]
            obtain ⟨cj, h1, h2⟩ := HEA.out j (by omega)
            have hl1 := lt_of_block h1
            have h1' := (HBL2.out.block _ hl1).trans h1
            refine ⟨cj, ?_, h2⟩
            rw [setCell_heap_other _ _ _ _ (by intro e3; have e4 := T2.out; have e5 : gs j = w1.heap.size + 1 := e3; rw [← e5] at e4; rw [h1'] at e4; simp at e4)]
            refine ((HG3.out.block _ (by simp; omega) ?_).trans (Below.heap_alloc _ _ _ (by omega))).trans h1'
            exact Ne.symm (own_other HO2.out h1' (by decide))
        · intro j hj
          by_cases e : j = k
          · subst e
            rw [← HC.out]
            exact hlt
          · exact HM.out j (by omega)
        · have hx1 : Below w.heap.size w w2 := HB.out.trans (HBL2.out.mono hsz)
          exact (((hx1.alloc (by omega) _).grown HG3.out (by simp; omega) (fun j e => (HO2.out.lt j e).1)).setCell (by show _ ≤ w1.heap.size + 1; omega) _)
      case measure =>
        show c2 < c
        have := HC2.out
        omega
    · go_wp2_with fail
      go_ret
      have htop : Mx.ln n k ≤ 1 := by omega
      exact ⟨_, gs, k + 1, rfl, ⟨HR.out.below HB.out (Nat.le_refl _), ⟨lv, HT.out, own_base HO.out (Nat.zero_le _)⟩, fun j hj => HEA.out j (by omega), fun j hj => HM.out j (by omega), by omega, htop⟩, HB.out⟩
end Go.Proofs.YtoipliflphbeiaaGreatDoor
namespace Go.Proofs.YtoipliflphbeiaaGreatDoor
open Go.RowKit
/-- What is read of a tree. -/
structure Tr.Form (w : World) (t r n X : Nat) (gs : Nat → Nat) (m g cap : Nat) : Prop where
  fit : m ≤ cap
  c0 : w.cell? ⟨t, 0, none⟩ = some (.pointer (some ⟨r, 0, none⟩))
  c1 : w.cell? ⟨t, 1, none⟩ = some (.slice (some ⟨g, 0, none⟩) m cap)
  lev : ∀ k, k < m → w.cell? ⟨g, k, none⟩ = some (.slice (some ⟨gs k, 0, none⟩) (Mx.ln n k) (Mx.ln n k))
  n0 : ∀ k i, k < m → i < Mx.ln n k → w.cell? ⟨gs k, i * 3, none⟩ = some (.int .i64 (Mx.nx X n (Mx.wd k) i))
  n1 : ∀ k i, k < m → i < Mx.ln n k → w.cell? ⟨gs k, i * 3 + 1, none⟩ = some (.complex .f64 (floatOfInt .f64 (Mx.nl X n (Mx.wd k) i)) (floatOfInt .f64 (Mx.nh X n (Mx.wd k) i)))
  n2 : ∀ k i, k < m → i < Mx.ln n k → w.cell? ⟨gs k, i * 3 + 2, none⟩ = some (.complex .f64 (floatOfInt .f64 (Mx.ml X n (Mx.wd k) i)) (floatOfInt .f64 (Mx.mh X n (Mx.wd k) i)))
theorem Tr.form {w : World} {t r n X : Nat} {u : Value} {gs : Nat → Nat} {m : Nat} (h : Tr w t r n X u gs m) : ∃ g cap, Tr.Form w t r n X gs m g cap := by
  obtain ⟨lv, h1, h2⟩ := h.cells
  obtain ⟨g, cap, hv, hc⟩ := own_form h2 h.pos
  subst hv
  refine ⟨g, cap, hc, Lib.cell_of_heap h1 0, Lib.cell_of_heap h1 1, fun k hk => ?_, fun k i hk hi => ?_, fun k i hk hi => ?_, fun k i hk hi => ?_⟩
  · rw [h2.cellAt k (by omega)]
    exact Mx.sls_get n gs m k hk
  · obtain ⟨cur, h3, h4⟩ := h.each k hk
    rw [Lib.cell_of_heap h3]
    exact h4.c0 i hi
  · obtain ⟨cur, h3, h4⟩ := h.each k hk
    rw [Lib.cell_of_heap h3]
    exact h4.c1 i hi
  · obtain ⟨cur, h3, h4⟩ := h.each k hk
    rw [Lib.cell_of_heap h3]
    exact h4.c2 i hi
theorem Mx.ln_le (n k : Nat) (hn : n ≤ 4294967296) : Mx.ln n k ≤ 4294967296 := by
  by_cases h0 : Mx.ln n k = 0
  · omega
  · have h1 := (Mx.ln_iff n k (Mx.ln n k - 1)).1 (by omega)
    have h2 := Mx.wd_pos k
    have h3 : Mx.ln n k - 1 ≤ (Mx.ln n k - 1) * Mx.wd k := Nat.le_mul_of_pos_right _ h2
    omega
theorem Mx.sz_small (n : Nat) (hn : n ≤ 4294967296) : ∀ k, Mx.sz n k ≤ k * 1400000000000 := by
  intro k
  induction k with
  | zero => exact Nat.le_refl _
  | succ k ih =>
    have := Mx.ln_le n k hn
    show Mx.sz n k + (192 + Mx.ln n k * 320) ≤ _
    omega
set_option maxHeartbeats 1000000 in
theorem TSize_any (t r n X : Nat) (u : Value) (gs : Nat → Nat) (m : Nat) (w : World) (h : Tr w t r n X u gs m) :
    Calls Tryz.prog 117 #[.pointer (some ⟨t, 0, none⟩)] w fun e w' => e = .returned (.int .i64 (Mx.sz n m : Nat)) ∧ w' = w := by
  have hm := h.few
  have hl := h.row.len
  obtain ⟨g, cap, hf⟩ := h.form
  have c1 := hf.c1
  have hfit := hf.fit
  have HF := hidden hf
  clear h hf
  go_enter Tryz.func117, Tryz.ntmps117
  go_wp2_with fail
  go_loopw [3, 11] (fun s3 s11 wr => ∃ k : Nat, k ≤ m ∧ s3 = .int .i64 (Mx.sz n k : Nat) ∧ s11 = .int .i64 (k : Nat) ∧ wr = w) (fun _ s11 _ => m - (intOf s11).toNat)
  case atStart => exact ⟨0, by omega, rfl, rfl, rfl⟩
  case round =>
    obtain ⟨k, hk, rfl, rfl, rfl⟩ := hrel
    by_cases hlt : k < m
    · have c2 := HF.out.lev k hlt
      have hll := Mx.ln_le n k hl
      have hsz := Mx.sz_small n hl k
      have HS : Hid (Mx.sz n (k + 1) = Mx.sz n k + (192 + Mx.ln n k * 320)) := rfl
      obtain ⟨s, hs⟩ : ∃ s, s = Mx.sz n k := ⟨_, rfl⟩
      obtain ⟨q, hq⟩ : ∃ q, q = Mx.ln n k := ⟨_, rfl⟩
      rw [← hs, ← hq] at HS
      rw [← hq] at c2 hll
      rw [← hs] at hsz ⊢
      have hs2 : s ≤ 100000000000000 := by omega
      have i0 : (0 : Int) ≤ (k : Int) := by omega
      have i1 : (k : Int) < (m : Int) := by omega
      clear hs hq hsz
      go_wp2_with fail
      go_roundw
      case rel => exact ⟨k + 1, by omega, by rw [HS.out]; go_num, by go_num, trivial⟩
      case measure => simp [intOf]; omega
    · obtain rfl : k = m := by omega
      go_wp2_with fail
      go_ret
      exact ⟨rfl, rfl⟩
end Go.Proofs.YtoipliflphbeiaaGreatDoor
namespace Go.Proofs.YtoipliflphbeiaaGreatDoor
open Go.RowKit
namespace Mx
open Wd
theorem Fo.later {X a c b b' : Nat} {T k : Int} (hno : ∀ j, a < j → j ≤ c → exc X j ≠ T) (hac : a ≤ c) (h : Fo X c b' T k) (hex : ∃ j, c < j ∧ j ≤ b' ∧ exc X j = T) (hb : b' ≤ b) : Fo X a b T k := by
  rcases h with ⟨h1, h2⟩ | ⟨p, h1, h2, h3, h4, h5⟩
  · obtain ⟨j, j1, j2, j3⟩ := hex
    exact absurd j3 (h2 j j1 j2)
  · refine .inr ⟨p, h1, by omega, by omega, h4, fun j j1 j2 => ?_⟩
    by_cases hj : j ≤ c
    · exact hno j j1 hj
    · exact h5 j (by omega) j2
theorem Ba.later {X a b c c' : Nat} {T k : Int} (hno : ∀ j, c ≤ j → j < b → exc X j ≠ T) (hac : c ≤ b) (h : Ba X c' c T k) (hex : ∃ j, c' ≤ j ∧ j < c ∧ exc X j = T) (ha : a ≤ c') : Ba X a b T k := by
  rcases h with ⟨h1, h2⟩ | ⟨p, h1, h2, h3, h4, h5⟩
  · obtain ⟨j, j1, j2, j3⟩ := hex
    exact absurd j3 (h2 j j1 j2)
  · refine .inr ⟨p, h1, by omega, by omega, h4, fun j j1 j2 => ?_⟩
    by_cases hj : c ≤ j
    · exact hno j hj j2
    · exact h5 j j1 (by omega)
theorem apart (X a j : Nat) (h : a ≤ j) : -((j - a : Nat) : Int) ≤ exc X j - exc X a ∧ exc X j - exc X a ≤ ((j - a : Nat) : Int) := by
  have := exc_bounds (X / 2 ^ a) (j - a)
  rw [Pn.exc_part, show a + (j - a) = j from by omega] at this
  exact this
end Mx
end Go.Proofs.YtoipliflphbeiaaGreatDoor
namespace Go.Proofs.YtoipliflphbeiaaGreatDoor
open Go.RowKit
set_option maxHeartbeats 1000000 in
theorem TBalanced_any (t r n X : Nat) (u : Value) (gs : Nat → Nat) (m : Nat) (w : World) (h : Tr w t r n X u gs m) :
    Calls Tryz.prog 97 #[.pointer (some ⟨t, 0, none⟩)] w fun e w' => e = .returned (.bool (Pn.bal X n)) ∧ Below w.heap.size w w' := by
  have hm := h.few
  have hl := h.row.len
  have htop := h.top
  have hpos := h.pos
  obtain ⟨g, cap, hf⟩ := h.form
  have c1 := hf.c1
  have hfit := hf.fit
  have c2 := hf.lev (m - 1) (by omega)
  have HF := hidden hf
  have hk := Mx.ln_iff n (m - 1) 1
  have hk0 := Mx.ln_iff n (m - 1) 0
  have hbal := Pn.bal_lo X n
  clear h hf
  obtain ⟨k, hkd⟩ : ∃ k, k = m - 1 := ⟨_, rfl⟩
  rw [← hkd] at c2 htop hk hk0
  have hkm : (m : Int) - 1 = (k : Int) := by omega
  have wkm : IntKind.i64.wrap ((m : Int) - 1) = (k : Int) := by rw [IntKind.wrap_i64]; omega
  have i0 : (0 : Int) ≤ (k : Int) := by omega
  have i1 : (k : Int) < (m : Int) := by omega
  by_cases h0 : Mx.ln n k = 0
  · have hn0 : n = 0 := by omega
    subst hn0
    have hb : Pn.bal X 0 = true := by rw [hbal]; rfl
    rw [hb]
    rw [h0] at c2
    clear hk hk0 htop hkd h0 hbal hb
    go_enter Tryz.func97, Tryz.ntmps97
    go_wp2_with fail
    go_quiet (fail)
    go_wp2_with fail
    go_ret
    exact ⟨rfl, drewN_below (Below.refl _ _) _⟩
  · have h1 : Mx.ln n k = 1 := by omega
    have hn : Mx.en n (Mx.wd k) 0 = n := Mx.en_last _ _ _ (by omega)
    have e0 : Mx.nx X n (Mx.wd k) 0 = Wd.exc X n := by unfold Mx.nx; rw [hn, Nat.zero_mul, Nat.pow_zero, Nat.div_one, Nat.sub_zero]
    have e1 : Mx.nl X n (Mx.wd k) 0 = Wd.lo X n := by unfold Mx.nl; rw [hn, Nat.zero_mul, Nat.pow_zero, Nat.div_one, Nat.sub_zero]
    have n0 := HF.out.n0 k 0 (by omega) (by omega)
    have n1 := HF.out.n1 k 0 (by omega) (by omega)
    rw [e0] at n0
    rw [e1] at n1
    rw [Nat.zero_mul] at n0 n1
    rw [Nat.zero_add] at n1
    rw [h1] at c2
    have hlo := Wd.lo_bounds X n
    have hge := Flt.ge_zero (Wd.lo X n) (by omega)
    rw [← hge] at hbal
    rw [hbal]
    clear hk hk0 htop hkd h0 hbal h1 hn e0 e1 hlo hge
    generalize Wd.exc X n = E at *
    generalize floatOfInt .f64 (Wd.lo X n) = L at *
    generalize floatOfInt .f64 (Mx.nh X n (Mx.wd k) 0) = H at *
    obtain ⟨o, ho⟩ : ∃ o, (FloatKind.f64.format.order L 0 == some .gt || FloatKind.f64.format.order L 0 == some .eq) = o := ⟨_, rfl⟩
    rw [ho]
    by_cases hE : E = 0
    · subst hE
      go_enter Tryz.func97, Tryz.ntmps97
      go_wp2_with fail
      go_quiet (fail)
      go_wp2_with fail
      go_ret
      exact ⟨rfl, drewN_below (Below.refl _ _) _⟩
    · have hz : (E == 0) = false := by simpa using hE
      rw [hz, Bool.false_and]
      clear hE
      go_enter Tryz.func97, Tryz.ntmps97
      go_wp2_with fail
      go_quiet (fail)
      go_wp2_with fail
      go_ret
      exact ⟨rfl, drewN_below (Below.refl _ _) _⟩
end Go.Proofs.YtoipliflphbeiaaGreatDoor
