/-
  A law's argument of type Far that came in, opened: its numbers and its signs.
-/
import Derived.Deep.Slices
import Derived.ProofKit
import Derived.OpenShut
import Derived.Test.YthimbaflodphmaaDoorRows
namespace Go.Proofs.YthimbaflodphmaaDoor
open Go.ChangeShapes Go.WideShapes Go.ChangeAt Go.RowKit Go.Deep
theorem Tryd.cellsFar : Tryd.prog.cellsOf 32 = 4 := by kernel_rfl
theorem Tryd.cellsFarLong : Tryd.prog.cellsOf 2 = 1 := by kernel_rfl
theorem Tryd.cellsFarByte : Tryd.prog.cellsOf 5 = 1 := by kernel_rfl
theorem Tryd.cellsFarBool : Tryd.prog.cellsOf 4 = 1 := by kernel_rfl
set_option maxRecDepth 100000 in
theorem open_far {H : Type} {enc : TypeId × Value → H} {W : World} {base : Nat} {v : Value} {d : DataW H} {ps : List MemPlace} (hv : Value.okWide Tryd.prog W .any base 32 v) (h : DataW.Trod enc Tryd.prog W 0 (fun _ => true) true 32 v d ps) :
    ∃ (a : Int × Int) (c : Bool × Bool), v = .agg #[.int .i64 a.1, .int .u8 a.2, .bool c.1, .bool c.2] ∧ (-9223372036854775808 ≤ a.1 ∧ a.1 ≤ 9223372036854775807) ∧ (0 ≤ a.2 ∧ a.2 ≤ 255) := by
  simp only [Value.okWide, Tryd.underlying32] at hv
  obtain ⟨cs, rfl, hs, _⟩ := hv
  obtain ⟨fuel, h⟩ := h
  obtain ⟨xs, m, rfl, _, hl, hn, hi⟩ := DataW.trod_struct Tryd.underlying32 h
  have h0 : DataW.trod enc Tryd.prog W 0 (fun _ => true) true m 2 (((Value.agg cs).cells.toList.drop 0).take (Tryd.prog.cellsOf 2)) = xs[0]? := hi 0 _ rfl
  have h1 : DataW.trod enc Tryd.prog W 0 (fun _ => true) true m 5 (((Value.agg cs).cells.toList.drop 1).take (Tryd.prog.cellsOf 5)) = xs[1]? := hi 1 _ rfl
  have h2 : DataW.trod enc Tryd.prog W 0 (fun _ => true) true m 4 (((Value.agg cs).cells.toList.drop 2).take (Tryd.prog.cellsOf 4)) = xs[2]? := hi 2 _ rfl
  have h3 : DataW.trod enc Tryd.prog W 0 (fun _ => true) true m 4 (((Value.agg cs).cells.toList.drop 3).take (Tryd.prog.cellsOf 4)) = xs[3]? := hi 3 _ rfl
  rw [Tryd.cellsFarLong] at h0
  rw [Tryd.cellsFarByte] at h1
  rw [Tryd.cellsFarBool] at h2 h3
  rw [List.getElem?_eq_getElem (by rw [hn]; decide)] at h0 h1 h2 h3
  obtain ⟨a, ea, _, wa⟩ := DataW.trod_int Tryd.underlying2 h0
  obtain ⟨b, eb, _, wb⟩ := DataW.trod_int Tryd.underlying5 h1
  obtain ⟨c, ec, _⟩ := DataW.trod_bool Tryd.underlying4 h2
  obtain ⟨e, ee, _⟩ := DataW.trod_bool Tryd.underlying4 h3
  refine ⟨(a, b), (c, e), ?_, bounds_i64 wa, bounds_u8 wb⟩
  rw [Tryd.cellsFar] at hs
  obtain ⟨l⟩ := cs
  simp [Value.cells] at ea eb ec ee hs
  match l, hs with
  | [x, y, z, u], _ =>
    simp at ea eb ec ee
    rw [ea, eb, ec, ee]
end Go.Proofs.YthimbaflodphmaaDoor
