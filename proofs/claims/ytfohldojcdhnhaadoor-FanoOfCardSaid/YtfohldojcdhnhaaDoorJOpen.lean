/-
  The program is laid out as the reader of arguments wants it: one closed fact.
  A slice of Puts that came in, opened: the list of its numbers, and its cells.
  A slice of ints that came in, opened: the list of its numbers, and its cells; it stays where memory is but made.
-/
import Derived.Carry
import Derived.ProofKit
import Derived.OpenShut
import Derived.Deep.SlicePairs
import Derived.ChangeSlices
import Derived.Test.YtfohldojcdhnhaaDoorRows
import Derived.Test.YtfohldojcdhnhaaDoorJBtList
namespace Go.Proofs.YtfohldojcdhnhaaDoor
theorem Tryd.laidOut : laidOutB Tryd.prog = true := by kernel_rfl
end Go.Proofs.YtfohldojcdhnhaaDoor
namespace Go.Proofs.YtfohldojcdhnhaaDoor
open Go.ChangeShapes Go.WideShapes Go.ChangeAt Go.RowKit Go.Deep
theorem Tryd.cellsU64 : Tryd.prog.cellsOf 67 = 1 := by kernel_rfl
theorem Tryd.cellsInt : Tryd.prog.cellsOf 3 = 1 := by kernel_rfl
/-- An address at which a cell lies has no inner place. -/
theorem spot_none {w : World} {a : Addr} {v : Value} (h : w.cell? a = some v) : a.spot = none := by
  unfold World.cell? at h
  split at h
  · split at h
    · cases h
    · rename_i h2
      simpa using h2
  · cases h
theorem add_at (a : Addr) (h : a.spot = none) (n : Nat) : a.add n = ⟨a.block, a.off + n, none⟩ := by
  unfold Addr.add
  split
  · rename_i h0
    subst h0
    cases a
    simp_all
  · rfl
end Go.Proofs.YtfohldojcdhnhaaDoor
namespace Go.Proofs.YtfohldojcdhnhaaDoor
open Go.ChangeShapes Go.WideShapes Go.ChangeAt Go.RowKit Go.Deep
structure Ints (w : World) (u : Value) (l : List Int) : Prop where
  cells : ∃ ao cap, u = .slice ao l.length cap ∧ l.length ≤ cap ∧ (0 < l.length → ∃ b off, ao = some ⟨b, off, none⟩ ∧ b < w.heap.size ∧ ∀ i, i < l.length → w.cell? ⟨b, off + i, none⟩ = some (.int .i64 (l.getD i 0)))
theorem Ints.below {w w' : World} {u : Value} {l : List Int} {C : Nat} (h : Ints w u l) (hb : Below C w w') (hC : w.heap.size ≤ C) : Ints w' u l := by
  obtain ⟨ao, cap, hu, hc, hf⟩ := h.cells
  refine ⟨ao, cap, hu, hc, fun h0 => ?_⟩
  obtain ⟨b, off, ha, hlt, hcell⟩ := hf h0
  refine ⟨b, off, ha, by have := hb.size; omega, fun i hi => ?_⟩
  exact (hb.cell (p := ⟨b, _, none⟩) (by show b < C; omega)).trans (hcell i hi)
set_option maxRecDepth 100000 in
theorem open_nums {H : Type} {enc : TypeId × Value → H} {W : World} {base : Nat} {v : Value} {d : DataW H} {ps : List MemPlace} (hv : Value.okWide Tryd.prog W .any base 22 v) (h : DataW.Trod enc Tryd.prog W 0 (fun _ => true) true 22 v d ps) :
    ∃ l, Ints W v l ∧ l.length ≤ 9223372036854775807 ∧ ∀ x ∈ l, -9223372036854775808 ≤ x ∧ x ≤ 9223372036854775807 := by
  obtain ⟨a0, len0, cap0, rfl⟩ := okWide_slice Tryd.underlying22 hv
  obtain ⟨fuel, h⟩ := h
  rcases open_ints Tryd.underlying22 Tryd.underlying3 Tryd.cellsInt h with ⟨hc, _⟩ | ⟨a, len, cap, zs, hcs, _, hl, hm, hmeq, _, hall, hwf⟩
  · refine ⟨[], ⟨none, 0, ?_, by simp, fun h0 => by simp at h0⟩, by simp, by simp⟩
    simpa [Value.cells] using hc
  · simp only [if_true] at hmeq
    simp [Value.cells] at hcs
    obtain ⟨rfl, rfl, rfl⟩ := hcs
    have hlen : (zs.take len0).length = len0 := by rw [List.length_take]; omega
    refine ⟨zs.take len0, ⟨some a, cap0, by rw [hlen], by omega, fun h0 => ?_⟩, ?_, fun x hx => ?_⟩
    · rw [hlen] at h0 ⊢
      have c0 := hall 0 (by omega)
      have hsp : a.spot = none := spot_none (by simpa [Addr.add] using c0)
      refine ⟨a.block, a.off, ?_, ?_, fun i hi => ?_⟩
      · cases a
        simp_all
      · rw [add_at a hsp] at c0
        exact World.block_lt_of_cell? W ⟨a.block, _, none⟩ c0
      · have c1 := hall i (by omega)
        rw [add_at a hsp] at c1
        rw [c1, List.getD_eq_getElem?_getD, List.getD_eq_getElem?_getD, List.getElem?_take, if_pos hi]
    · rw [hlen]
      unfold maxLen at hm
      omega
    · have := bounds_i64 (hwf x (List.mem_of_mem_take hx))
      omega
end Go.Proofs.YtfohldojcdhnhaaDoor
