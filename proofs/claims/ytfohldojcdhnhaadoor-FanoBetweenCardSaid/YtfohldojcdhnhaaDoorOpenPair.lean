/-
  An array of two ints that came in, opened: its two numbers.
-/
import Derived.Test.YtfohldojcdhnhaaDoorOpenInts
import Derived.OpenShut
namespace Go.Proofs.YtfohldojcdhnhaaDoor
open Go.ChangeShapes Go.WideShapes Go.ChangeAt Go.RowKit
theorem Tryd.cellsPair : Tryd.prog.cellsOf 47 = 2 := by kernel_rfl
theorem Tryd.cellsOne : Tryd.prog.cellsOf 3 = 1 := by kernel_rfl
set_option maxRecDepth 100000 in
theorem open_pair {H : Type} {enc : TypeId × Value → H} {W : World} {base : Nat} {v : Value} {d : DataW H} {ps : List MemPlace} (hv : Value.okWide Tryd.prog W .any base 47 v) (h : DataW.Trod enc Tryd.prog W 0 (fun _ => true) true 47 v d ps) :
    ∃ a b, v = .agg #[.int .i64 a, .int .i64 b] ∧ (-9223372036854775808 ≤ a ∧ a ≤ 9223372036854775807) ∧ (-9223372036854775808 ≤ b ∧ b ≤ 9223372036854775807) := by
  simp only [Value.okWide, Tryd.underlying47] at hv
  obtain ⟨cs, rfl, hs, _⟩ := hv
  obtain ⟨fuel, h⟩ := h
  obtain ⟨xs, m, rfl, _, hl, hn, hi⟩ := DataW.trod_array Tryd.underlying47 h
  have h0 := hi 0 (by decide)
  have h1 := hi 1 (by decide)
  rw [Tryd.cellsOne] at h0 h1
  rw [List.getElem?_eq_getElem (by omega)] at h0 h1
  obtain ⟨a, ea, _, wa⟩ := DataW.trod_int Tryd.underlying3 h0
  obtain ⟨b, eb, _, wb⟩ := DataW.trod_int Tryd.underlying3 h1
  refine ⟨a, b, ?_, bounds_i64 wa, bounds_i64 wb⟩
  rw [Tryd.cellsPair] at hs
  obtain ⟨l⟩ := cs
  simp [Value.cells] at ea eb hs
  match l, hs with
  | [x, y], _ =>
    simp at ea eb
    rw [ea, eb]
end Go.Proofs.YtfohldojcdhnhaaDoor
