/-
  The contracts of write and (*Row).Bytes: of every row the bytes are told; nothing that was there is changed.
-/
import Derived.Test.YtfohldojcdhnhaaDoorBtShelf
import Derived.Test.YtfohldojcdhnhaaDoorBtRef
namespace Go.Proofs.YtfohldojcdhnhaaDoor
open Go.RowKit
namespace Bt
/-- A number's eight bytes, the least first. -/
def eightB (v : Nat) : List UInt8 := (List.range 8).map fun i => UInt8.ofNat (v / 2 ^ (8 * i) % 256)
theorem eightB_length (v : Nat) : (eightB v).length = 8 := by simp [eightB]
theorem eightB_next (v k : Nat) (hk : k < 8) : (eightB v).take (k + 1) = (eightB v).take k ++ [UInt8.ofNat (v / 2 ^ (8 * k) % 256)] := by
  rw [List.take_add_one]
  simp [eightB, hk]
/-- The bytes of n, and of the first k words of X. -/
def rowTo (n X k : Nat) : List UInt8 := eightB n ++ (List.range k).flatMap fun j => eightB (wd X j)
theorem rowTo_zero (n X : Nat) : rowTo n X 0 = eightB n := by simp [rowTo]
theorem rowTo_succ (n X k : Nat) : rowTo n X (k + 1) = rowTo n X k ++ eightB (wd X k) := by
  unfold rowTo
  rw [List.range_succ, List.flatMap_append]
  simp
theorem rowTo_length (n X k : Nat) : (rowTo n X k).length = 8 + 8 * k := by
  induction k with
  | zero => rw [rowTo_zero, eightB_length]
  | succ k ih => rw [rowTo_succ, List.length_append, ih, eightB_length]; omega
def rowB (n X : Nat) : List UInt8 := rowTo n X ((n + 63) / 64)
end Bt
theorem cells_snoc (l m : List UInt8) (y : Nat) (c : Int) (hc : c = ((y % 256 : Nat) : Int)) : Lib.byteCells (l ++ m) ++ [Value.int .u8 c] = Lib.byteCells (l ++ (m ++ [UInt8.ofNat (y % 256)])) := by
  rw [← List.append_assoc, Lib.byteCells_append (l ++ m) [_], hc]
  simp [Lib.byteCells]
theorem sGrow_int (B b n : Nat) (z : Int) (w : World) (hB : B ≤ b) (hbk : w.heap[b]? = some (.cells #[.pointer none, .slice none 0 0] 103 (0, 0))) (hBw : B ≤ w.heap.size) (hn : n ≤ 281474976710656) (hz : z = (n : Int)) :
    Calls Tryd.prog 72 #[.pointer (some ⟨b, 0, none⟩), .int .i64 z] w fun e w' => e = .returned (.tuple #[]) ∧ (Lib.IsBuilder 103 5 B b [] w' ∧ Below B w w') := by
  subst hz
  exact sGrow B b n w hB hbk hBw hn
set_option maxHeartbeats 1000000 in
theorem write_any (B b v : Nat) (l : List UInt8) (w : World) (h : Lib.IsBuilder 103 5 B b (Lib.byteCells l) w) (hl : l.length ≤ 70368744177664) (hBw : B ≤ w.heap.size) :
    Calls Tryd.prog 73 #[.pointer (some ⟨b, 0, none⟩), .int .u64 v] w fun e w' => e = .returned (.tuple #[]) ∧ Lib.IsBuilder 103 5 B b (Lib.byteCells (l ++ Bt.eightB v)) w' ∧ Below B w w' := by
  have HH : Hid (Lib.IsBuilder 103 5 B b (Lib.byteCells l) w) := h
  clear h
  go_enter Tryd.func73, Tryd.ntmps73
  go_wp2
  go_loopw [5] (fun i wr => ∃ k : Nat, k ≤ 8 ∧ i = .int .i64 k ∧ Lib.IsBuilder 103 5 B b (Lib.byteCells (l ++ (Bt.eightB v).take k)) wr ∧ Below B w wr) (fun i _ => 8 - (intOf i).toNat)
  case atStart => exact ⟨0, by omega, rfl, by rw [List.take_zero, List.append_nil]; exact HH.out, Below.refl _ _⟩
  case round =>
    obtain ⟨k, hk, rfl, hb, hbel⟩ := hrel
    have hsz := hbel.size
    have HB : Hid (Lib.IsBuilder 103 5 B b (Lib.byteCells (l ++ (Bt.eightB v).take k)) wr) := hb
    have HBL := hidden hbel
    clear hb hbel
    by_cases hlt : k < 8
    · have hlen : (Lib.byteCells (l ++ (Bt.eightB v).take k)).length + 1 ≤ 140737488355328 := by
        rw [Lib.byteCells_length, List.length_append, List.length_take, Bt.eightB_length]
        omega
      go_wp2_with fail
      refine (sWrite B b _ _ _ HB.out hlen (by omega)).mono ?_
      rintro e w1 ⟨rfl, h1, h2⟩
      have HQ1 := hidden h1
      have HQ2 := hidden h2
      clear h1 h2
      go_wp2_with fail
      go_roundw
      case rel =>
        refine ⟨k + 1, by omega, by go_num, ?_, HBL.out.trans HQ2.out⟩
        rw [Bt.eightB_next v k hlt]
        have hq := HQ1.out
        rw [cells_snoc _ _ (v / 2 ^ (8 * k)) _ ?hc] at hq
        · exact hq
        · rw [Wd.div_pow]
          rfl
      case measure => simp [intOf]; omega
    · obtain rfl : k = 8 := by omega
      go_wp2
      go_end0
      have hb := HB.out
      rw [List.take_of_length_le (by rw [Bt.eightB_length]; omega)] at hb
      exact ⟨rfl, hb, HBL.out⟩
set_option maxHeartbeats 1000000 in
theorem Bytes_any (r n X : Nat) (u : Value) (w : World) (h : Rw w r n X u) :
    Calls Tryd.prog 47 #[.pointer (some ⟨r, 0, none⟩)] w fun e w' => e = .returned (.string ⟨(Bt.rowB n X).toArray⟩) ∧ Below w.heap.size w w' := by
  have hl := h.len
  have HH := hidden h
  have c0 := h.cell0
  have c1 := h.cell1
  have hlt := lt_of_block h.cells
  obtain ⟨ao, cap, hu, hcap, hg⟩ := h.form
  subst hu
  obtain ⟨c, hc⟩ : ∃ c, c = (n + 63) / 64 := ⟨_, rfl⟩
  rw [← hc] at c1 hcap hg
  have HC := hidden hc
  have HG := hidden hg
  have hc1 : c ≤ 67108864 := by omega
  have hcn : 0 < c → 0 < n := by omega
  have HCN := hidden hcn
  clear h hc hg hcn
  go_enter Tryd.func47, Tryd.ntmps47
  go_wp2_with fail
  refine (sGrow_int w.heap.size w.heap.size (8 * (1 + c)) _ _ (Nat.le_refl _) (heap_alloc_new w _) (by simp) (by omega) (by omega)).mono ?_
  rintro e w1 ⟨rfl, h1, h2⟩
  have HB1 : Hid (Lib.IsBuilder 103 5 w.heap.size w.heap.size (Lib.byteCells []) w1) := h1
  have HL1 : Hid (Below w.heap.size w w1) := ((Below.refl _ _).alloc (Nat.le_refl _) _).trans h2
  have d0 := (HL1.out.cell (p := ⟨r, 0, none⟩) hlt).trans c0
  clear h1 h2
  go_wp2_with fail
  have hs1 := HL1.out.size
  refine (write_any w.heap.size w.heap.size n [] _ HB1.out (by simp) (by omega)).mono ?_
  rintro e w2 ⟨rfl, h1, h2⟩
  have HB2 : Hid (Lib.IsBuilder 103 5 w.heap.size w.heap.size (Lib.byteCells (Bt.rowTo n X 0)) w2) := by rw [Bt.rowTo_zero]; exact h1
  have HL2 : Hid (Below w.heap.size w w2) := HL1.out.trans h2
  have d1 := (HL2.out.cell (p := ⟨r, 1, none⟩) hlt).trans c1
  clear h1 h2 d0
  go_wp2_with fail
  go_loopw [25] (fun i wr => ∃ k : Nat, k ≤ c ∧ i = .int .i64 k ∧ Lib.IsBuilder 103 5 w.heap.size w.heap.size (Lib.byteCells (Bt.rowTo n X k)) wr ∧ Below w.heap.size w wr) (fun i _ => c - (intOf i).toNat)
  case atStart => exact ⟨0, by omega, rfl, HB2.out, HL2.out⟩
  case round =>
    obtain ⟨k, hk, rfl, hb, hbel⟩ := hrel
    have hsz := hbel.size
    have HB : Hid (Lib.IsBuilder 103 5 w.heap.size w.heap.size (Lib.byteCells (Bt.rowTo n X k)) wr) := hb
    have HBL := hidden hbel
    clear hb hbel
    by_cases hlt2 : k < c
    · obtain ⟨g, hao, hcell⟩ := HG.out (HCN.out (by omega))
      subst hao
      have hgl : g < w.heap.size := World.block_lt_of_cell? _ _ (hcell k hlt2)
      have e0 := (HBL.out.cell (p := ⟨g, k, none⟩) hgl).trans (hcell k hlt2)
      clear hcell
      go_wp2_with fail
      refine (write_any w.heap.size w.heap.size (Bt.wd X k) _ _ HB.out (by rw [Bt.rowTo_length]; omega) (by omega)).mono ?_
      rintro e w3 ⟨rfl, h1, h2⟩
      have HQ1 : Hid (Lib.IsBuilder 103 5 w.heap.size w.heap.size (Lib.byteCells (Bt.rowTo n X (k + 1))) w3) := by rw [Bt.rowTo_succ]; exact h1
      have HQ2 := hidden h2
      clear h1 h2
      go_wp2_with fail
      go_roundw
      case rel => exact ⟨k + 1, by omega, by go_num, HQ1.out, HBL.out.trans HQ2.out⟩
      case measure => simp [intOf]; omega
    · obtain rfl : k = c := by omega
      go_wp2_with fail
      refine (sString w.heap.size w.heap.size (Bt.rowTo n X k) _ HB.out (by omega)).mono ?_
      rintro e w3 ⟨rfl, h1⟩
      have HQ1 := hidden h1
      clear h1
      go_wp2_with fail
      go_ret
      refine ⟨?_, HBL.out.trans HQ1.out⟩
      show Ending.returned (.string ⟨(Bt.rowTo n X k).toArray⟩) = _
      unfold Bt.rowB
      rw [← HC.out]
end Go.Proofs.YtfohldojcdhnhaaDoor
