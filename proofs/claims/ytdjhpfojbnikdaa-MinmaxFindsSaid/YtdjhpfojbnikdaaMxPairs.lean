/-
  The contract of minmax's pairs: of every level the one above it, in new memory; nothing that was there is changed.
-/
import Derived.Test.YtdjhpfojbnikdaaMxBlocks
namespace Go.Proofs.Ytdjhpfojbnikdaa
open Go.RowKit
set_option maxHeartbeats 2000000 in
set_option maxRecDepth 100000 in
theorem pairs_any (X n W m g : Nat) (cur0 : Array Value) (w : World) (hg : w.heap[g]? = some (.cells cur0 68 (0, 0))) (h0 : Mx.Cur cur0 X n W m m) (hi : ∀ i, i < m ↔ i * W < n) (hW : 0 < W) (hm : m ≤ 4294967296) (hn : n ≤ 4294967296) :
    Calls Try.prog 23 #[.slice (some ⟨g, 0, none⟩) m m] w fun e w' => ∃ g' cur, e = .returned (.slice (some ⟨g', 0, none⟩) ((m + 1) / 2) ((m + 1) / 2)) ∧ w'.heap[g']? = some (.cells cur 68 (0, 0)) ∧ Mx.Cur cur X n (2 * W) ((m + 1) / 2) ((m + 1) / 2) ∧ Below w.heap.size w w' ∧ w.heap.size ≤ g' := by
  obtain ⟨c, hc⟩ : ∃ c, c = (m + 1) / 2 := ⟨_, rfl⟩
  rw [← hc]
  have hq : ((m : Int) + 1) / 2 = (c : Int) := by omega
  have hc1 : c ≤ 4294967296 := by omega
  have hmk := mk_nodes c hc1
  have HG := hidden hg
  have H0 := hidden h0
  have HI := hidden hi
  have HC := hidden hc
  have hgs := lt_of_block hg
  clear hg h0 hi hc
  go_enter Try.func23, Try.ntmps23
  go_wp2_with fail
  go_loopw [12] (fun i wr => ∃ (k : Nat) (cur : Array Value), k ≤ c ∧ i = .int .i64 k ∧ wr.heap[w.heap.size]? = some (.cells cur 68 (0, 0)) ∧ Mx.Cur cur X n (2 * W) c k ∧ Below w.heap.size w wr) (fun i _ => c - (intOf i).toNat)
  case atStart => exact ⟨0, _, by omega, rfl, heap_alloc_new _ _, Mx.Cur.made X n (2 * W) c, (Below.refl _ _).alloc (Nat.le_refl _) _⟩
  case round =>
    obtain ⟨k, cur, hk, rfl, hw, hcur, hbel⟩ := hrel
    clear hq hmk
    have hsz := hbel.size
    have hwlt := lt_of_block hw
    have HW := hidden hw
    have HCU := hidden hcur
    have HBL := hidden hbel
    have HGr := hidden ((hbel.block g hgs).trans HG.out)
    clear hw hcur hbel
    by_cases hlt : k < c
    · obtain ⟨J, hJ⟩ : ∃ J : Nat, J = 2 * k := ⟨_, rfl⟩
      have hJm : J < m := by have := HC.out; omega
      have hj : (2 : Int) * (k : Int) = (J : Int) := by omega
      obtain ⟨x0, y0, z0, e0, e1, e2⟩ := HCU.out.there k hlt
      have d0 : wr.cell? ⟨w.heap.size, k * 3, none⟩ = some x0 := by rw [Lib.cell_of_heap HW.out]; exact e0
      have d1 : wr.cell? ⟨w.heap.size, k * 3 + 1, none⟩ = some y0 := by rw [Lib.cell_of_heap HW.out]; exact e1
      have d2 : wr.cell? ⟨w.heap.size, k * 3 + 2, none⟩ = some z0 := by rw [Lib.cell_of_heap HW.out]; exact e2
      have f0 : wr.frozen? ⟨w.heap.size, k * 3, none⟩ = false := Lib.frozen_of_heap HW.out _
      have f1 : wr.frozen? ⟨w.heap.size, k * 3 + 1, none⟩ = false := Lib.frozen_of_heap HW.out _
      have f2 : wr.frozen? ⟨w.heap.size, k * 3 + 2, none⟩ = false := Lib.frozen_of_heap HW.out _
      have s0 : wr.cell? ⟨g, J * 3, none⟩ = some (.int .i64 (Mx.nx X n W J)) := by rw [Lib.cell_of_heap HGr.out]; exact H0.out.c0 J hJm
      have s1 : wr.cell? ⟨g, J * 3 + 1, none⟩ = some (.complex .f64 (floatOfInt .f64 (Mx.nl X n W J)) (floatOfInt .f64 (Mx.nh X n W J))) := by rw [Lib.cell_of_heap HGr.out]; exact H0.out.c1 J hJm
      have s2 : wr.cell? ⟨g, J * 3 + 2, none⟩ = some (.complex .f64 (floatOfInt .f64 (Mx.ml X n W J)) (floatOfInt .f64 (Mx.mh X n W J))) := by rw [Lib.cell_of_heap HGr.out]; exact H0.out.c2 J hJm
      have rs := fun w a m x y => store_cx (P := Try.prog) w a m x y
      have i0 : (0 : Int) ≤ (k : Int) := by omega
      have i1 : (k : Int) < (c : Int) := by omega
      have i2 : (0 : Int) ≤ (J : Int) := by omega
      have i3 : (J : Int) < (m : Int) := by omega
      have hk2 : k ≤ 4294967296 := by omega
      have HJ := hidden hJ
      clear e0 e1 e2 hJ
      by_cases h2 : J + 1 < m
      · have hl2 : ((J : Int) + 1 < (m : Int)) := by omega
        have b1 := Mx.bounds X n W J
        have b2 := Mx.bounds X n W (J + 1)
        obtain ⟨t1, t2, t3, t4, t5⟩ := Mx.two X n W k hW (by rw [← HJ.out]; exact (HI.out (J + 1)).1 h2)
        rw [← HJ.out] at t1 t2 t3 t4 t5
        have hgn : g ≠ w.heap.size := by omega
        have HJN := hidden (fun W' => join_any (Mx.nx X n W J) (Mx.nl X n W J) (Mx.nh X n W J) (Mx.ml X n W J) (Mx.mh X n W J) (Mx.nx X n W (J + 1)) (Mx.nl X n W (J + 1)) (Mx.nh X n W (J + 1)) (Mx.ml X n W (J + 1)) (Mx.mh X n W (J + 1)) W' (by omega) (by omega) (by omega) (by omega) (by omega) (by omega) (by omega) (by omega) (by omega) (by omega))
        rw [← t1, ← t2, ← t3, ← t4, ← t5] at HJN
        have S0 := hidden (H0.out.c0 (J + 1) h2)
        have S1 := hidden (H0.out.c1 (J + 1) h2)
        have S2 := hidden (H0.out.c2 (J + 1) h2)
        have T0 := hidden (H0.out.c0 J hJm)
        have T1 := hidden (H0.out.c1 J hJm)
        have T2 := hidden (H0.out.c2 J hJm)
        obtain ⟨R, hR⟩ : ∃ R, R = Mx.nx X n (2 * W) k := ⟨_, rfl⟩
        obtain ⟨R1, hR1⟩ : ∃ R, R = floatOfInt .f64 (Mx.nl X n (2 * W) k) := ⟨_, rfl⟩
        obtain ⟨R2, hR2⟩ : ∃ R, R = floatOfInt .f64 (Mx.nh X n (2 * W) k) := ⟨_, rfl⟩
        obtain ⟨R3, hR3⟩ : ∃ R, R = floatOfInt .f64 (Mx.ml X n (2 * W) k) := ⟨_, rfl⟩
        obtain ⟨R4, hR4⟩ : ∃ R, R = floatOfInt .f64 (Mx.mh X n (2 * W) k) := ⟨_, rfl⟩
        rw [← hR, ← hR1, ← hR2, ← hR3, ← hR4] at HJN
        have V0 : Hid (Value.int .i64 R = .int .i64 (Mx.nx X n (2 * W) k)) := by show _ = _; rw [hR]
        have V1 : Hid (Value.complex .f64 R1 R2 = .complex .f64 (floatOfInt .f64 (Mx.nl X n (2 * W) k)) (floatOfInt .f64 (Mx.nh X n (2 * W) k))) := by show _ = _; rw [hR1, hR2]
        have V2 : Hid (Value.complex .f64 R3 R4 = .complex .f64 (floatOfInt .f64 (Mx.ml X n (2 * W) k)) (floatOfInt .f64 (Mx.mh X n (2 * W) k))) := by show _ = _; rw [hR3, hR4]
        clear t1 t2 t3 t4 t5 hR hR1 hR2 hR3 hR4 b1 b2
        generalize Mx.nx X n W (J + 1) = E' at *
        generalize floatOfInt .f64 (Mx.nl X n W (J + 1)) = L' at *
        generalize floatOfInt .f64 (Mx.nh X n W (J + 1)) = H' at *
        generalize floatOfInt .f64 (Mx.ml X n W (J + 1)) = N1 at *
        generalize floatOfInt .f64 (Mx.mh X n W (J + 1)) = N2 at *
        generalize Mx.nx X n W J = E at *
        generalize floatOfInt .f64 (Mx.nl X n W J) = L at *
        generalize floatOfInt .f64 (Mx.nh X n W J) = H at *
        generalize floatOfInt .f64 (Mx.ml X n W J) = M1 at *
        generalize floatOfInt .f64 (Mx.mh X n W J) = M2 at *
        go_wp2_with fail
        obtain ⟨w2, hw2⟩ : ∃ w2, w2 = ((wr.setCell ⟨w.heap.size, k * 3, none⟩ (.int .i64 E)).setCell ⟨w.heap.size, k * 3 + 1, none⟩ (.complex .f64 L H)).setCell ⟨w.heap.size, k * 3 + 2, none⟩ (.complex .f64 M1 M2) := ⟨_, rfl⟩
        rw [← hw2]
        have hW2 : w2.heap[w.heap.size]? = some (.cells (((cur.setIfInBounds (k * 3) (.int .i64 E)).setIfInBounds (k * 3 + 1) (.complex .f64 L H)).setIfInBounds (k * 3 + 2) (.complex .f64 M1 M2)) 68 (0, 0)) := by rw [hw2]; exact setCell_heap_same _ _ _ _ _ _ _ (setCell_heap_same _ _ _ _ _ _ _ (setCell_heap_same _ _ _ _ _ _ _ HW.out))
        have hC2 := HCU.out.touch k (.int .i64 E) (.complex .f64 L H) (.complex .f64 M1 M2) (Nat.le_refl _)
        have hG2 : w2.heap[g]? = some (.cells cur0 68 (0, 0)) := by rw [hw2, setCell_heap_other _ _ _ _ hgn, setCell_heap_other _ _ _ _ hgn, setCell_heap_other _ _ _ _ hgn]; exact HGr.out
        have hB2 : Below w.heap.size w w2 := by rw [hw2]; exact ((HBL.out.setCell (Nat.le_refl _) _).setCell (Nat.le_refl _) _).setCell (Nat.le_refl _) _
        have hz2 : wr.heap.size = w2.heap.size := by rw [hw2]; simp
        clear hw2 d0 d1 d2 f0 f1 f2 s0 s1 s2
        generalize ((cur.setIfInBounds (k * 3) (.int .i64 E)).setIfInBounds (k * 3 + 1) (.complex .f64 L H)).setIfInBounds (k * 3 + 2) (.complex .f64 M1 M2) = cur2 at *
        have HW2 := hidden hW2
        have HC2 := hidden hC2
        have HG2 := hidden hG2
        have HB2 := hidden hB2
        have p0 : w2.cell? ⟨g, J * 3, none⟩ = some (.int .i64 E) := by rw [Lib.cell_of_heap hG2]; exact T0.out
        have p1 : w2.cell? ⟨g, J * 3 + 1, none⟩ = some (.complex .f64 L H) := by rw [Lib.cell_of_heap hG2]; exact T1.out
        have p2 : w2.cell? ⟨g, J * 3 + 2, none⟩ = some (.complex .f64 M1 M2) := by rw [Lib.cell_of_heap hG2]; exact T2.out
        have q0 : w2.cell? ⟨g, (J + 1) * 3, none⟩ = some (.int .i64 E') := by rw [Lib.cell_of_heap hG2]; exact S0.out
        have q1 : w2.cell? ⟨g, (J + 1) * 3 + 1, none⟩ = some (.complex .f64 L' H') := by rw [Lib.cell_of_heap hG2]; exact S1.out
        have q2 : w2.cell? ⟨g, (J + 1) * 3 + 2, none⟩ = some (.complex .f64 N1 N2) := by rw [Lib.cell_of_heap hG2]; exact S2.out
        have hwl : w.heap.size < w2.heap.size := by omega
        clear hW2 hC2 hG2 hB2
        have n0 : ¬ (g = w.heap.size) := hgn
        have n1 : ¬ (w.heap.size = g) := fun h => hgn h.symm
        obtain ⟨x2, y2, z2, g0, g1, g2⟩ := HC2.out.there k hlt
        have G0 := hidden g0
        have G1 := hidden g1
        have G2 := hidden g2
        have i4 : (0 : Int) ≤ (J : Int) + 1 := by omega
        have wj : IntKind.i64.wrap (2 * (k : Int)) = (J : Int) := by rw [IntKind.wrap_i64]; omega
        obtain ⟨J1, hJ1⟩ : ∃ J1, J1 = J + 1 := ⟨_, rfl⟩
        have wj1 : IntKind.i64.wrap ((J : Int) + 1) = (J1 : Int) := by rw [IntKind.wrap_i64]; omega
        have i5 : (0 : Int) ≤ (J1 : Int) := by omega
        have i6 : (J1 : Int) < (m : Int) := by omega
        rw [← hJ1] at q0 q1 q2
        clear hgn hJm h2 hz2 g0 g1 g2 hwlt hsz hJ1 i4 hl2 hj
        go_region_held3 (fun w' => w'.cell? ⟨g, J * 3, none⟩ = some (.int .i64 E) ∧ w'.cell? ⟨g, J * 3 + 1, none⟩ = some (.complex .f64 L H) ∧ w'.cell? ⟨g, J * 3 + 2, none⟩ = some (.complex .f64 M1 M2) ∧ w'.cell? ⟨g, J1 * 3, none⟩ = some (.int .i64 E') ∧ w'.cell? ⟨g, J1 * 3 + 1, none⟩ = some (.complex .f64 L' H') ∧ w'.cell? ⟨g, J1 * 3 + 2, none⟩ = some (.complex .f64 N1 N2)) (first | (exact ⟨by assumption, by assumption, by assumption, by assumption, by assumption, by assumption⟩) | go_keep)
          (first
            | (go_at_call 41; refine (HJN.out _).mono ?_; rintro e' w3 ⟨rfl, hb3⟩; have HB3 := hidden hb3; have u0 := (hb3.cell (p := ⟨g, J * 3, none⟩) (by show g < w2.heap.size; omega)).trans p0; have u1 := (hb3.cell (p := ⟨g, J * 3 + 1, none⟩) (by show g < w2.heap.size; omega)).trans p1; have u2 := (hb3.cell (p := ⟨g, J * 3 + 2, none⟩) (by show g < w2.heap.size; omega)).trans p2; have t0 := (hb3.cell (p := ⟨g, J1 * 3, none⟩) (by show g < w2.heap.size; omega)).trans q0; have t1 := (hb3.cell (p := ⟨g, J1 * 3 + 1, none⟩) (by show g < w2.heap.size; omega)).trans q1; have t2 := (hb3.cell (p := ⟨g, J1 * 3 + 2, none⟩) (by show g < w2.heap.size; omega)).trans q2; have HW3 := hidden ((hb3.block w.heap.size hwl).trans HW2.out); have d0 : w3.cell? ⟨w.heap.size, k * 3, none⟩ = some x2 := (Lib.cell_of_heap HW3.out _).trans G0.out; have d1 : w3.cell? ⟨w.heap.size, k * 3 + 1, none⟩ = some y2 := (Lib.cell_of_heap HW3.out _).trans G1.out; have d2 : w3.cell? ⟨w.heap.size, k * 3 + 2, none⟩ = some z2 := (Lib.cell_of_heap HW3.out _).trans G2.out; have f0 : w3.frozen? ⟨w.heap.size, k * 3, none⟩ = false := Lib.frozen_of_heap HW3.out _; have f1 : w3.frozen? ⟨w.heap.size, k * 3 + 1, none⟩ = false := Lib.frozen_of_heap HW3.out _; have f2 : w3.frozen? ⟨w.heap.size, k * 3 + 2, none⟩ = false := Lib.frozen_of_heap HW3.out _; clear hb3))
        have HB4 : Hid (Below w.heap.size w w3) := HB2.out.trans (Below.mono (show Below w2.heap.size w2 w3 from ⟨HB3.out.os, HB3.out.tape, HB3.out.output, HB3.out.size, HB3.out.block⟩) (by omega))
        clear u0 u1 u2 t0 t1 t2 d0 d1 d2 f0 f1 f2 p0 p1 p2 q0 q1 q2
        go_wp2_with fail
        go_roundw
        case rel =>
          refine ⟨k + 1, _, by omega, by go_num, setCell_heap_same _ _ _ _ _ _ _ (setCell_heap_same _ _ _ _ _ _ _ (setCell_heap_same _ _ _ _ _ _ _ HW3.out)), HC2.out.next hlt V0.out V1.out V2.out, ((HB4.out.setCell (Nat.le_refl _) _).setCell (Nat.le_refl _) _).setCell (Nat.le_refl _) _⟩
        case measure => simp [intOf]; omega
      · have hl2 : ¬ ((J : Int) + 1 < (m : Int)) := by omega
        have hln : n ≤ (2 * k + 1) * W := by
          rw [← HJ.out]
          have := (HI.out (J + 1))
          omega
        obtain ⟨t1, t2, t3, t4, t5, _⟩ := Mx.lone X n W k hln
        rw [← HJ.out] at t1 t2 t3 t4 t5
        have V0 : Hid (Value.int .i64 (Mx.nx X n W J) = .int .i64 (Mx.nx X n (2 * W) k)) := by show _ = _; rw [t1]
        have V1 : Hid (Value.complex .f64 (floatOfInt .f64 (Mx.nl X n W J)) (floatOfInt .f64 (Mx.nh X n W J)) = .complex .f64 (floatOfInt .f64 (Mx.nl X n (2 * W) k)) (floatOfInt .f64 (Mx.nh X n (2 * W) k))) := by show _ = _; rw [t2, t3]
        have V2 : Hid (Value.complex .f64 (floatOfInt .f64 (Mx.ml X n W J)) (floatOfInt .f64 (Mx.mh X n W J)) = .complex .f64 (floatOfInt .f64 (Mx.ml X n (2 * W) k)) (floatOfInt .f64 (Mx.mh X n (2 * W) k))) := by show _ = _; rw [t4, t5]
        clear t1 t2 t3 t4 t5
        generalize Mx.nx X n W J = E at *
        generalize floatOfInt .f64 (Mx.nl X n W J) = L at *
        generalize floatOfInt .f64 (Mx.nh X n W J) = H at *
        generalize floatOfInt .f64 (Mx.ml X n W J) = M1 at *
        generalize floatOfInt .f64 (Mx.mh X n W J) = M2 at *
        go_wp2_with fail
        go_roundw
        case rel =>
          refine ⟨k + 1, _, by omega, by go_num, setCell_heap_same _ _ _ _ _ _ _ (setCell_heap_same _ _ _ _ _ _ _ (setCell_heap_same _ _ _ _ _ _ _ HW.out)), HCU.out.next hlt V0.out V1.out V2.out, ((HBL.out.setCell (Nat.le_refl _) _).setCell (Nat.le_refl _) _).setCell (Nat.le_refl _) _⟩
        case measure => simp [intOf]; omega
    · obtain rfl : k = c := by omega
      go_wp2_with fail
      go_ret
      exact ⟨_, _, rfl, HW.out, HCU.out, HBL.out, Nat.le_refl _⟩
end Go.Proofs.Ytdjhpfojbnikdaa
