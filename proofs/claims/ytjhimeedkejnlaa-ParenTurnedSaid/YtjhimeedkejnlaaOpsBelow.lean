/-
  A slice of Puts that came in stays as it was where memory is but made.
-/
import Derived.Test.YtjhimeedkejnlaaBtList
namespace Go.Proofs.Ytjhimeedkejnlaa
open Go.RowKit
theorem Ops.below {w w' : World} {u : Value} {l : List (Nat × Int)} {C : Nat} (h : Ops w u l) (hb : Below C w w') (hC : w.heap.size ≤ C) : Ops w' u l := by
  refine ⟨h.lt, ?_⟩
  obtain ⟨ao, cap, hu, hc, hf⟩ := h.cells
  refine ⟨ao, cap, hu, hc, fun h0 => ?_⟩
  obtain ⟨b, off, ha, hlt, hcell⟩ := hf h0
  refine ⟨b, off, ha, by have := hb.size; omega, fun i hi => ?_⟩
  exact ⟨(hb.cell (p := ⟨b, _, none⟩) (by show b < C; omega)).trans (hcell i hi).1, (hb.cell (p := ⟨b, _, none⟩) (by show b < C; omega)).trans (hcell i hi).2⟩
end Go.Proofs.Ytjhimeedkejnlaa
