/-
  A level of nodes in memory, and the contract of minmax's blocks: of every row its blocks' nodes, in new memory; nothing that was there is changed.
-/
import Derived.Test.YtdjhpfojbnikdaaMxNode
namespace Go.Proofs.Ytdjhpfojbnikdaa
open Go.RowKit
/-- The first k nodes stand in the cells of c of them. -/
structure Mx.Cur (cur : Array Value) (X n W c k : Nat) : Prop where
  size : cur.size = c * 3
  c0 : ∀ j, j < k → cur[j * 3]? = some (.int .i64 (Mx.nx X n W j))
  c1 : ∀ j, j < k → cur[j * 3 + 1]? = some (.complex .f64 (floatOfInt .f64 (Mx.nl X n W j)) (floatOfInt .f64 (Mx.nh X n W j)))
  c2 : ∀ j, j < k → cur[j * 3 + 2]? = some (.complex .f64 (floatOfInt .f64 (Mx.ml X n W j)) (floatOfInt .f64 (Mx.mh X n W j)))
theorem Mx.Cur.new (X n W c : Nat) (v : Value) : Mx.Cur (Array.replicate (c * 3) v) X n W c 0 :=
  ⟨by simp, fun j hj => by omega, fun j hj => by omega, fun j hj => by omega⟩
/-- Three cells behind the first ones are written: these stay. -/
theorem Mx.Cur.touch {cur : Array Value} {X n W c k : Nat} (h : Mx.Cur cur X n W c k) (i : Nat) (x y z : Value) (hi : k ≤ i) : Mx.Cur (((cur.setIfInBounds (i * 3) x).setIfInBounds (i * 3 + 1) y).setIfInBounds (i * 3 + 2) z) X n W c k := by
  refine ⟨by simp [h.size], fun j hj => ?_, fun j hj => ?_, fun j hj => ?_⟩
  · rw [Array.getElem?_setIfInBounds, if_neg (by omega), Array.getElem?_setIfInBounds, if_neg (by omega), Array.getElem?_setIfInBounds, if_neg (by omega)]
    exact h.c0 j hj
  · rw [Array.getElem?_setIfInBounds, if_neg (by omega), Array.getElem?_setIfInBounds, if_neg (by omega), Array.getElem?_setIfInBounds, if_neg (by omega)]
    exact h.c1 j hj
  · rw [Array.getElem?_setIfInBounds, if_neg (by omega), Array.getElem?_setIfInBounds, if_neg (by omega), Array.getElem?_setIfInBounds, if_neg (by omega)]
    exact h.c2 j hj
theorem Mx.Cur.next {cur : Array Value} {X n W c k : Nat} {x y z : Value} (h : Mx.Cur cur X n W c k) (hk : k < c) (hx : x = .int .i64 (Mx.nx X n W k)) (hy : y = .complex .f64 (floatOfInt .f64 (Mx.nl X n W k)) (floatOfInt .f64 (Mx.nh X n W k))) (hz : z = .complex .f64 (floatOfInt .f64 (Mx.ml X n W k)) (floatOfInt .f64 (Mx.mh X n W k))) :
    Mx.Cur (((cur.setIfInBounds (k * 3) x).setIfInBounds (k * 3 + 1) y).setIfInBounds (k * 3 + 2) z) X n W c (k + 1) := by
  have hs := h.size
  have ht := h.touch k x y z (Nat.le_refl _)
  refine ⟨ht.size, fun j hj => ?_, fun j hj => ?_, fun j hj => ?_⟩
  · by_cases e : j = k
    · subst e
      rw [Array.getElem?_setIfInBounds, if_neg (by omega), Array.getElem?_setIfInBounds, if_neg (by omega), Array.getElem?_setIfInBounds, if_pos rfl, if_pos (by omega), hx]
    · exact ht.c0 j (by omega)
  · by_cases e : j = k
    · subst e
      rw [Array.getElem?_setIfInBounds, if_neg (by omega), Array.getElem?_setIfInBounds, if_pos rfl, if_pos (by simp; omega), hy]
    · exact ht.c1 j (by omega)
  · by_cases e : j = k
    · subst e
      rw [Array.getElem?_setIfInBounds, if_pos rfl, if_pos (by simp; omega), hz]
    · exact ht.c2 j (by omega)
/-- The cells that are there. -/
theorem Mx.Cur.there {cur : Array Value} {X n W c k : Nat} (h : Mx.Cur cur X n W c k) (i : Nat) (hi : i < c) : ∃ x y z, cur[i * 3]? = some x ∧ cur[i * 3 + 1]? = some y ∧ cur[i * 3 + 2]? = some z := by
  have hs := h.size
  exact ⟨_, _, _, Array.getElem?_eq_getElem (by omega), Array.getElem?_eq_getElem (by omega), Array.getElem?_eq_getElem (by omega)⟩
theorem mk_nodes (c : Nat) (hc : c ≤ 4294967296) (u : World) : (Instr.makeSlice 47 (.int .i64 (c : Int)) (.int .i64 (c : Int))).run Try.prog u = .ok (.slice (some ⟨u.heap.size, 0, none⟩) c c) (u.alloc (.cells (madeCells #[.int .i64 0, .complex .f64 0 0, .complex .f64 0 0] (c * 3)) 68)) := by
  obtain ⟨i0, hi, hz0, hz1, hz2⟩ := info_parts Try.infoNode
  have h := run_make (P := Try.prog) u 47 68 i0 _ Try.underlying47 hi hz0 .i64 .i64 (c : Int) (c : Int) (by omega) (Int.le_refl _) (by rw [hz2]; omega) (by omega)
  simpa [hz1, Value.cells] using h
theorem Mx.Cur.made (X n W c : Nat) : Mx.Cur (madeCells #[.int .i64 0, .complex .f64 0 0, .complex .f64 0 0] (c * 3)) X n W c 0 :=
  ⟨by simp [size_madeCells], fun j hj => by omega, fun j hj => by omega, fun j hj => by omega⟩
theorem Mx.wd0 : Mx.wd 0 = 512 := rfl
/-- A block's ends. -/
theorem Mx.block_ends (n k : Nat) (h : k * 512 < n) : Pn.fr n ((k * 512 : Nat) : Int) = k * 512 ∧ Pn.to n ((k * 512 : Nat) : Int) ((Mx.en n 512 k : Nat) : Int) = Mx.en n 512 k ∧ Pn.to n ((k * 512 : Nat) : Int) ((Mx.en n 512 k : Nat) - 1 : Int) = Mx.en n 512 k - 1 ∧ k * 512 < Mx.en n 512 k ∧ Mx.en n 512 k ≤ n := by
  have h1 := Mx.en_lt n 512 k (by decide) h
  have h2 := Mx.en_le n 512 k
  generalize Mx.en n 512 k = e at *
  unfold Pn.to Pn.fr
  omega
set_option maxHeartbeats 1000000 in
set_option maxRecDepth 100000 in
theorem blocks_any (r n X : Nat) (u : Value) (w : World) (h : Rw w r n X u) :
    Calls Try.prog 22 #[.pointer (some ⟨r, 0, none⟩)] w fun e w' => ∃ g cur, e = .returned (.slice (some ⟨g, 0, none⟩) (Mx.ln n 0) (Mx.ln n 0)) ∧ w'.heap[g]? = some (.cells cur 68 (0, 0)) ∧ Mx.Cur cur X n (Mx.wd 0) (Mx.ln n 0) (Mx.ln n 0) ∧ Below w.heap.size w w' ∧ w.heap.size ≤ g := by
  have HR := hidden h
  have hl := h.len
  obtain ⟨c, hc⟩ : ∃ c, c = Mx.ln n 0 := ⟨_, rfl⟩
  rw [← hc, Mx.wd0]
  have hi : ∀ i, i < c ↔ i * 512 < n := fun i => by rw [hc]; exact Mx.ln_iff n 0 i
  rw [Mx.ln_zero] at hc
  have hq : ((n : Int) + 512 - 1) / 512 = (c : Int) := by omega
  have hc1 : c ≤ 4294967296 := by omega
  have hmk := mk_nodes c hc1
  have HI := hidden hi
  clear h hc hi
  go_enter Try.func22, Try.ntmps22
  go_wp2_with fail
  refine (RLen_any r n X u _ HR.out).mono ?_
  rintro e' w1 ⟨rfl, rfl⟩
  go_wp2_with fail
  go_loopw [15] (fun i wr => ∃ (k : Nat) (cur : Array Value), k ≤ c ∧ i = .int .i64 k ∧ wr.heap[w1.heap.size]? = some (.cells cur 68 (0, 0)) ∧ Mx.Cur cur X n 512 c k ∧ Below w1.heap.size w1 wr) (fun i _ => c - (intOf i).toNat)
  case atStart => exact ⟨0, _, by omega, rfl, heap_alloc_new _ _, Mx.Cur.made X n 512 c, (Below.refl _ _).alloc (Nat.le_refl _) _⟩
  case round =>
    obtain ⟨k, cur, hk, rfl, hw, hcur, hbel⟩ := hrel
    clear hq hmk
    have hsz := hbel.size
    have HRR := hidden (HR.out.below hbel (Nat.le_refl _))
    have HW := hidden hw
    have HCU := hidden hcur
    have HBL := hidden hbel
    clear hw hcur hbel
    by_cases hlt : k < c
    · have hkn := (HI.out k).1 hlt
      obtain ⟨h1, h2, h3, h4, h5⟩ := Mx.block_ends n k hkn
      obtain ⟨x0, y0, z0, e0, e1, e2⟩ := HCU.out.there k hlt
      have d0 : wr.cell? ⟨w1.heap.size, k * 3, none⟩ = some x0 := by rw [Lib.cell_of_heap HW.out]; exact e0
      have d1 : wr.cell? ⟨w1.heap.size, k * 3 + 1, none⟩ = some y0 := by rw [Lib.cell_of_heap HW.out]; exact e1
      have d2 : wr.cell? ⟨w1.heap.size, k * 3 + 2, none⟩ = some z0 := by rw [Lib.cell_of_heap HW.out]; exact e2
      have f0 : wr.frozen? ⟨w1.heap.size, k * 3, none⟩ = false := Lib.frozen_of_heap HW.out _
      have f1 : wr.frozen? ⟨w1.heap.size, k * 3 + 1, none⟩ = false := Lib.frozen_of_heap HW.out _
      have f2 : wr.frozen? ⟨w1.heap.size, k * 3 + 2, none⟩ = false := Lib.frozen_of_heap HW.out _
      have HE := hidden (PExcess_any r n X (k * 512 : Nat) (Mx.en n 512 k : Nat) u wr HRR.out)
      have HG := hidden (PReach_any r n X (k * 512 : Nat) (Mx.en n 512 k : Nat) u wr HRR.out)
      have HA := hidden (PReach_any r n X (k * 512 : Nat) ((Mx.en n 512 k : Nat) - 1) u wr HRR.out)
      have hb1 := Wd.lo_bounds (X / 2 ^ (k * 512)) (Mx.en n 512 k - 1 - k * 512)
      have hb2 := Wd.hi_bounds (X / 2 ^ (k * 512)) (Mx.en n 512 k - 1 - k * 512)
      have HB := hidden (both_any 0 0 (Wd.lo (X / 2 ^ (k * 512)) (Mx.en n 512 k - 1 - k * 512)) (Wd.hi (X / 2 ^ (k * 512)) (Mx.en n 512 k - 1 - k * 512)) wr (by decide) (by decide) (by omega) (by omega))
      rw [show floatOfInt .f64 0 = 0 from by decide +kernel] at HB
      rw [h1, h2] at HE HG
      rw [h1, h3] at HA
      have V0 : Hid (Value.int .i64 (Wd.exc (X / 2 ^ (k * 512)) (Mx.en n 512 k - k * 512)) = .int .i64 (Mx.nx X n 512 k)) := rfl
      have V1 : Hid (Value.complex .f64 (floatOfInt .f64 (Wd.lo (X / 2 ^ (k * 512)) (Mx.en n 512 k - k * 512))) (floatOfInt .f64 (Wd.hi (X / 2 ^ (k * 512)) (Mx.en n 512 k - k * 512))) = .complex .f64 (floatOfInt .f64 (Mx.nl X n 512 k)) (floatOfInt .f64 (Mx.nh X n 512 k))) := rfl
      have V2 : Hid (Value.complex .f64 (floatOfInt .f64 (min 0 (Wd.lo (X / 2 ^ (k * 512)) (Mx.en n 512 k - 1 - k * 512)))) (floatOfInt .f64 (max 0 (Wd.hi (X / 2 ^ (k * 512)) (Mx.en n 512 k - 1 - k * 512)))) = .complex .f64 (floatOfInt .f64 (Mx.ml X n 512 k)) (floatOfInt .f64 (Mx.mh X n 512 k))) := by
        show _ = _
        rw [show Mx.en n 512 k - 1 - k * 512 = Mx.en n 512 k - k * 512 - 1 from by omega]
        rfl
      have hto' : min (((k : Int) + 1) * 512) (n : Int) = ((Mx.en n 512 k : Nat) : Int) := by unfold Mx.en; omega
      have rs := fun w a m x y => store_cx (P := Try.prog) w a m x y
      have hen : Mx.en n 512 k ≤ 4294967296 := by omega
      clear h1 h2 h3 h4 h5 hb1 hb2 e0 e1 e2
      generalize Wd.exc (X / 2 ^ (k * 512)) (Mx.en n 512 k - k * 512) = E at *
      generalize floatOfInt .f64 (Wd.lo (X / 2 ^ (k * 512)) (Mx.en n 512 k - k * 512)) = L at *
      generalize floatOfInt .f64 (Wd.hi (X / 2 ^ (k * 512)) (Mx.en n 512 k - k * 512)) = H at *
      generalize floatOfInt .f64 (min 0 (Wd.lo (X / 2 ^ (k * 512)) (Mx.en n 512 k - 1 - k * 512))) = M1 at *
      generalize floatOfInt .f64 (max 0 (Wd.hi (X / 2 ^ (k * 512)) (Mx.en n 512 k - 1 - k * 512))) = M2 at *
      generalize floatOfInt .f64 (Wd.lo (X / 2 ^ (k * 512)) (Mx.en n 512 k - 1 - k * 512)) = L1 at *
      generalize floatOfInt .f64 (Wd.hi (X / 2 ^ (k * 512)) (Mx.en n 512 k - 1 - k * 512)) = H1 at *
      obtain ⟨q, hq2⟩ : ∃ q, q = Mx.en n 512 k := ⟨_, rfl⟩
      rw [← hq2] at HE HG HA hto' hen
      obtain ⟨F, hF⟩ : ∃ F, F = k * 512 := ⟨_, rfl⟩
      rw [← hF] at HE HG HA
      have hfrom : (k : Int) * 512 = (F : Int) := by omega
      have hF2 : F ≤ 4294967296 := by omega
      have hk2 : k ≤ 4294967296 := by omega
      have i0 : (0 : Int) ≤ (k : Int) := by omega
      have i1 : (k : Int) < (c : Int) := by omega
      clear hq2 hF hkn
      go_wp2_with fail
      refine (RLen_any r n X u _ HRR.out).mono ?_
      rintro e' w2 ⟨rfl, rfl⟩
      go_wp2_with fail
      refine HE.out.mono ?_
      rintro e' w2 ⟨rfl, rfl⟩
      go_wp2_with fail
      refine HG.out.mono ?_
      rintro e' w2 ⟨rfl, rfl⟩
      go_wp2_with fail
      refine HA.out.mono ?_
      rintro e' w2 ⟨rfl, rfl⟩
      go_wp2_with fail
      refine HB.out.mono ?_
      rintro e' w2 ⟨rfl, rfl⟩
      go_wp2_with fail
      go_roundw
      case rel =>
        refine ⟨k + 1, _, by omega, by go_num, setCell_heap_same _ _ _ _ _ _ _ (setCell_heap_same _ _ _ _ _ _ _ (setCell_heap_same _ _ _ _ _ _ _ HW.out)), HCU.out.next hlt V0.out V1.out V2.out, ((HBL.out.setCell (Nat.le_refl _) _).setCell (Nat.le_refl _) _).setCell (Nat.le_refl _) _⟩
      case measure => simp [intOf]; omega
    · obtain rfl : k = c := by omega
      go_wp2_with fail
      go_ret
      exact ⟨_, _, rfl, HW.out, HCU.out, HBL.out, Nat.le_refl _⟩
end Go.Proofs.Ytdjhpfojbnikdaa
