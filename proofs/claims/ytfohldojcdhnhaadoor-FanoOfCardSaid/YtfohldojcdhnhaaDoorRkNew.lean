/-
  A directory in memory, and the contract of rank.New: of every row a directory, in new memory; nothing that was there is changed.
-/
import Derived.Test.YtfohldojcdhnhaaDoorRkSurvey
import Derived.Deep.RegionHeldLaw
namespace Go.Proofs.YtfohldojcdhnhaaDoor
open Go.RowKit
/-- What stands in the first k blocks; the others are 0. -/
structure Rk.Cur (cur : Array Value) (X c k : Nat) : Prop where
  size : cur.size = 2 * c
  cell0 : ∀ j, j < c → cur[2 * j]? = some (.int .u64 (((if j < k then Wd.ones X (512 * j) else 0) : Nat) : Int))
  cell1 : ∀ j, j < c → cur[2 * j + 1]? = some (.int .u64 (((if j < k then Rk.pk X j 7 else 0) : Nat) : Int))
theorem Rk.Cur.new (X c : Nat) : Rk.Cur (Array.replicate (2 * c) (Value.int .u64 0)) X c 0 := by
  refine ⟨by simp, fun j hj => ?_, fun j hj => ?_⟩ <;> simp [Array.getElem?_replicate] <;> omega
theorem Rk.Cur.next {cur : Array Value} {X c k : Nat} (h : Rk.Cur cur X c k) (hk : k < c) : Rk.Cur ((cur.setIfInBounds (2 * k) (.int .u64 ((Wd.ones X (512 * k) : Nat) : Int))).setIfInBounds (2 * k + 1) (.int .u64 ((Rk.pk X k 7 : Nat) : Int))) X c (k + 1) := by
  have hs := h.size
  refine ⟨by simp [h.size], fun j hj => ?_, fun j hj => ?_⟩
  · have := h.cell0 j hj
    rw [Array.getElem?_setIfInBounds, if_neg (by omega), Array.getElem?_setIfInBounds]
    by_cases e : j = k
    · subst e
      rw [if_pos rfl, if_pos (by omega), if_pos (by omega)]
    · rw [if_neg (by omega), this]
      by_cases h2 : j < k
      · rw [if_pos h2, if_pos (by omega)]
      · rw [if_neg h2, if_neg (by omega)]
  · have := h.cell1 j hj
    rw [Array.getElem?_setIfInBounds]
    by_cases e : j = k
    · subst e
      rw [if_pos rfl, if_pos (by simp; omega), if_pos (by omega)]
    · rw [if_neg (by omega), Array.getElem?_setIfInBounds, if_neg (by omega), this]
      by_cases h2 : j < k
      · rw [if_pos h2, if_pos (by omega)]
      · rw [if_neg h2, if_neg (by omega)]
theorem made_blocks (c : Nat) : madeCells #[Value.int .u64 0, Value.int .u64 0] c = Array.replicate c (Value.int .u64 0) := by
  apply Array.ext
  · simp [size_madeCells]
  · intro i h1 h2
    rcases (show i % 2 = 0 ∨ i % 2 = 1 from by omega) with e | e <;> simp [madeCells, e]
theorem mk_blocks (c : Nat) (hc : c ≤ 4294967296) (u : World) : (Instr.makeSlice 116 (.int .i64 (c : Int)) (.int .i64 (c : Int))).run Tryd.prog u = .ok (.slice (some ⟨u.heap.size, 0, none⟩) c c) (u.alloc (.cells (Array.replicate (2 * c) (Value.int .u64 0)) 120)) := by
  obtain ⟨i0, hi, hz0, hz1, hz2⟩ := info_parts Tryd.infoBlock
  have h := run_make (P := Tryd.prog) u 116 120 i0 _ Tryd.underlying116 hi hz0 .i64 .i64 (c : Int) (c : Int) (by omega) (Int.le_refl _) (by rw [hz2]; omega) (by omega)
  rw [← made_blocks, Nat.mul_comm]
  simpa [hz1, Value.cells] using h
/-- The directory in block d: its row, and its blocks behind g. -/
structure Dr (w : World) (d g r n X : Nat) (u : Value) : Prop where
  row : Rw w r n X u
  cells : w.heap[d]? = some (.cells #[.pointer (some ⟨r, 0, none⟩), .slice (some ⟨g, 0, none⟩) (n / 512 + 1) (n / 512 + 1)] 118 (0, 0))
  blocks : ∃ cur, w.heap[g]? = some (.cells cur 120 (0, 0)) ∧ Rk.Cur cur X (n / 512 + 1) (n / 512 + 1)
theorem Dr.below {w w' : World} {d g r n X : Nat} {u : Value} {C : Nat} (h : Dr w d g r n X u) (hb : Below C w w') (hC : w.heap.size ≤ C) : Dr w' d g r n X u := by
  obtain ⟨cur, h1, h2⟩ := h.blocks
  exact ⟨h.row.below hb hC, by rw [hb.block d (Nat.lt_of_lt_of_le (lt_of_block h.cells) hC)]; exact h.cells, cur, by rw [hb.block g (Nat.lt_of_lt_of_le (lt_of_block h1) hC)]; exact h1, h2⟩
theorem Dr.drewN {w : World} {d g r n X : Nat} {u : Value} (h : Dr w d g r n X u) (m : Nat) : Dr (w.drewN m) d g r n X u := ⟨h.row.drewN m, h.cells, h.blocks⟩
theorem Rk.ahead_next (X k : Nat) (o : Int) (h : ((Wd.ones X (512 * k) : Nat) : Int) = o) : o + ((Rk.cn X k 8 : Nat) : Int) = ((Wd.ones X (512 * (k + 1)) : Nat) : Int) := by
  rw [show 512 * (k + 1) = 512 * k + 64 * 8 from by omega, Rk.ones_block]
  omega
set_option maxHeartbeats 1000000 in
theorem New_any (r n X : Nat) (u : Value) (w : World) (h : Rw w r n X u) :
    Calls Tryd.prog 59 #[.pointer (some ⟨r, 0, none⟩)] w fun e w' => ∃ d g, e = .returned (.pointer (some ⟨d, 0, none⟩)) ∧ Dr w' d g r n X u ∧ Below w.heap.size w w' := by
  have HH := hidden h
  have hl := h.len
  obtain ⟨c, hc⟩ : ∃ c, c = n / 512 + 1 := ⟨_, rfl⟩
  have hq : (n : Int) / 512 + 1 = (c : Int) := by omega
  have hc1 : c ≤ 4294967296 := by omega
  have hmk := mk_blocks c hc1
  have HC := hidden hc
  clear h hc
  go_enter Tryd.func59, Tryd.ntmps59
  go_wp2_with fail
  refine (RLen_any r n X u _ HH.out).mono ?_
  rintro e' w1 ⟨rfl, rfl⟩
  go_wp2_with fail
  go_loopw [4, 21] (fun o i wr => ∃ (k : Nat) (cur : Array Value), k ≤ c ∧ i = .int .i64 k ∧ o = .int .i64 ((Wd.ones X (512 * k) : Nat) : Int) ∧ wr.heap[w1.heap.size]? = some (.cells cur 120 (0, 0)) ∧ Rk.Cur cur X c k ∧ wr.heap[w1.heap.size + 1]? = some (.cells #[.pointer (some ⟨r, 0, none⟩), .slice (some ⟨w1.heap.size, 0, none⟩) c c] 118 (0, 0)) ∧ Below w1.heap.size w1 wr) (fun _ i _ => c - (intOf i).toNat)
  case atStart =>
    refine ⟨0, _, by omega, rfl, rfl, ?_, Rk.Cur.new X c, heap_new_at (by simp), ((Below.refl _ _).alloc (Nat.le_refl _) _).alloc (by simp) _⟩
    rw [Below.heap_alloc _ _ _ (by simp), heap_alloc_new]
  case round =>
    obtain ⟨k, cur, hk, rfl, rfl, hw, hcur, hd, hbel⟩ := hrel
    have hsz := hbel.size
    have hs0 := lt_of_block hd
    have HRR := hidden (HH.out.below hbel (Nat.le_refl _))
    have HW := hidden hw
    have HCU := hidden hcur
    have HD := hidden hd
    have HBL := hidden hbel
    have hon := Wd.ones_le X (512 * k)
    have hd1 : wr.cell? ⟨w1.heap.size + 1, 1, none⟩ = some (.slice (some ⟨w1.heap.size, 0, none⟩) c c) := Lib.cell_of_heap hd 1
    clear hw hcur hd hbel
    by_cases hlt : k < c
    · have hk4 : k ≤ 8388608 := by have := HC.out; omega
      obtain ⟨o, ho⟩ : ∃ o : Int, ((Wd.ones X (512 * k) : Nat) : Int) = o := ⟨_, rfl⟩
      rw [ho]

      have HO := hidden ho
      have ho0 : 0 ≤ o := by omega
      have ho1 : o ≤ 4294967296 := by omega
      clear ho hon
      go_wp2_with fail
      refine (survey_any r n X k u _ HRR.out (by omega) _ _ (by omega) HO.out.symm ho1).mono ?_
      rintro e' w2 ⟨rfl, hb2⟩
      have hs2 := hb2.size
      have hd2 := (hb2.block (w1.heap.size + 1) hs0).trans HD.out
      have hw2 := (hb2.block w1.heap.size (by omega)).trans HW.out
      have hbel2 := HBL.out.trans (hb2.mono HBL.out.size)
      have HD2 := hidden hd2
      have HW2 := hidden hw2
      have HBL2 := hidden hbel2
      clear hd2 hw2 hbel2 hb2 hd1
      have hcn := Rk.cn_le X k 8
      go_wp2_with fail
      obtain ⟨w3, hw3⟩ : ∃ w3, w3 = w2.alloc (.cells #[.int .u64 o, .int .u64 ((Rk.pk X k 7 : Nat) : Int)] 120) := ⟨_, rfl⟩
      rw [← hw3]
      have hs3 : w3.heap.size = w2.heap.size + 1 := by rw [hw3]; simp
      have hn3 : w3.heap[w2.heap.size]? = some (.cells #[.int .u64 o, .int .u64 ((Rk.pk X k 7 : Nat) : Int)] 120 (0, 0)) := by rw [hw3]; exact heap_alloc_new _ _
      have hd3 : w3.heap[w1.heap.size + 1]? = some (.cells #[.pointer (some ⟨r, 0, none⟩), .slice (some ⟨w1.heap.size, 0, none⟩) c c] 118 (0, 0)) := by rw [hw3, Below.heap_alloc _ _ _ (by omega)]; exact HD2.out
      have hg3 : w3.heap[w1.heap.size]? = some (.cells cur 120 (0, 0)) := by rw [hw3, Below.heap_alloc _ _ _ (by omega)]; exact HW2.out
      have hb3 : Below w1.heap.size w1 w3 := by rw [hw3]; exact HBL2.out.alloc (by omega) _
      have c0 : w3.cell? ⟨w2.heap.size, 0, none⟩ = some (.int .u64 o) := Lib.cell_of_heap hn3 0
      have c1 : w3.cell? ⟨w2.heap.size, 1, none⟩ = some (.int .u64 ((Rk.pk X k 7 : Nat) : Int)) := Lib.cell_of_heap hn3 1
      have c2 : w3.cell? ⟨w1.heap.size + 1, 1, none⟩ = some (.slice (some ⟨w1.heap.size, 0, none⟩) c c) := Lib.cell_of_heap hd3 1
      have hcu := HCU.out
      have e0 : w3.cell? ⟨w1.heap.size, k * 2, none⟩ = some (.int .u64 0) := by
        rw [Lib.cell_of_heap hg3, Nat.mul_comm, hcu.cell0 k hlt, if_neg (Nat.lt_irrefl _)]; rfl
      have e1 : w3.cell? ⟨w1.heap.size, k * 2 + 1, none⟩ = some (.int .u64 0) := by
        rw [Lib.cell_of_heap hg3, Nat.mul_comm, hcu.cell1 k hlt, if_neg (Nat.lt_irrefl _)]; rfl
      have f0 : w3.frozen? ⟨w1.heap.size, k * 2, none⟩ = false := Lib.frozen_of_heap hg3 _
      have f1 : w3.frozen? ⟨w1.heap.size, k * 2 + 1, none⟩ = false := Lib.frozen_of_heap hg3 _
      have i0 : (0 : Int) ≤ (k : Int) := by omega
      have i1 : (k : Int) < (c : Int) := by omega
      have HN3 := hidden hn3
      have HD3 := hidden hd3
      have HG3 := hidden hg3
      have HB3 := hidden hb3
      have HS3 := hidden hs3
      clear hcu hw3 hn3 hd3 hg3 hb3 hs3
      go_region
      have hg4 := setCell_heap_same _ _ (k * 2 + 1) _ _ _ (.int .u64 ((Rk.pk X k 7 : Nat) : Int)) (setCell_heap_same _ _ (k * 2) _ _ _ (.int .u64 o) HG3.out)
      have hd4 : ((w3.setCell ⟨w1.heap.size, k * 2, none⟩ (.int .u64 o)).setCell ⟨w1.heap.size, k * 2 + 1, none⟩ (.int .u64 ((Rk.pk X k 7 : Nat) : Int))).heap[w1.heap.size + 1]? = some (.cells #[.pointer (some ⟨r, 0, none⟩), .slice (some ⟨w1.heap.size, 0, none⟩) c c] 118 (0, 0)) := by
        rw [setCell_heap_other _ _ _ _ (by simp), setCell_heap_other _ _ _ _ (by simp)]
        exact HD3.out
      have hb4 : Below w1.heap.size w1 ((w3.setCell ⟨w1.heap.size, k * 2, none⟩ (.int .u64 o)).setCell ⟨w1.heap.size, k * 2 + 1, none⟩ (.int .u64 ((Rk.pk X k 7 : Nat) : Int))).drew := ((HB3.out.setCell (Nat.le_refl _) _).setCell (Nat.le_refl _) _).drew
      have HG4 := hidden hg4
      have HD4 := hidden hd4
      have HB4 := hidden hb4
      clear hg4 hd4 hb4 c0 c1 c2 e0 e1 f0 f1
      go_wp2_with fail
      have hn := HCU.out.next hlt
      rw [HO.out, Nat.mul_comm] at hn
      exact ⟨⟨k + 1, _, by omega, by go_num, int_eq (Rk.ahead_next X k o HO.out), HG4.out, hn, HD4.out, HB4.out⟩, by simp [intOf]; omega⟩
    · obtain rfl : k = c := by omega
      go_wp2_with fail
      go_ret
      obtain ⟨cc, hcc⟩ : ∃ cc, cc = n / 512 + 1 := ⟨_, rfl⟩
      have h := HC.out
      exact ⟨_, _, rfl, ⟨HRR.out, h ▸ HD.out, _, HW.out, h ▸ HCU.out⟩, HBL.out⟩
end Go.Proofs.YtfohldojcdhnhaaDoor
