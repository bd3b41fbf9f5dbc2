/-
  The program is laid out as the reader of arguments wants it: one closed fact.
  A slice of ints that came in, opened: the list of its numbers, and its cells; it stays where memory is but made.
-/
import Derived.Carry
import Derived.ChangeSlices
import Derived.ProofKit
import Derived.OpenShut
import Derived.Deep.SlicePairs
import Derived.Test.YtoipliflphbeiaaGreatDoorRows
import Derived.Test.YtoipliflphbeiaaGreatDoorJBtList
namespace Go.Proofs.YtoipliflphbeiaaGreatDoor
theorem Tryz.laidOut : laidOutB Tryz.prog = true := by kernel_rfl
end Go.Proofs.YtoipliflphbeiaaGreatDoor
namespace Go.Proofs.YtoipliflphbeiaaGreatDoor
open Go.ChangeShapes Go.WideShapes Go.ChangeAt Go.RowKit Go.Deep
structure Ints (w : World) (u : Value) (l : List Int) : Prop where
  cells : ∃ ao cap, u = .slice ao l.length cap ∧ l.length ≤ cap ∧ (0 < l.length → ∃ b off, ao = some ⟨b, off, none⟩ ∧ b < w.heap.size ∧ ∀ i, i < l.length → w.cell? ⟨b, off + i, none⟩ = some (.int .i64 (l.getD i 0)))
theorem Ints.below {w w' : World} {u : Value} {l : List Int} {C : Nat} (h : Ints w u l) (hb : Below C w w') (hC : w.heap.size ≤ C) : Ints w' u l := by
  obtain ⟨ao, cap, hu, hc, hf⟩ := h.cells
  refine ⟨ao, cap, hu, hc, fun h0 => ?_⟩
  obtain ⟨b, off, ha, hlt, hcell⟩ := hf h0
  refine ⟨b, off, ha, by have := hb.size; omega, fun i hi => ?_⟩
  exact (hb.cell (p := ⟨b, _, none⟩) (by show b < C; omega)).trans (hcell i hi)
end Go.Proofs.YtoipliflphbeiaaGreatDoor
