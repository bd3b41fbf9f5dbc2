/-
  Pieces and questions that came in, opened: their bits and numbers, and the cells; they stay where memory is but made.
-/
import Derived.Test.YtdjhpfojbnikdaaMxBits
import Derived.Test.YtdjhpfojbnikdaaOpenOps
import Derived.Deep.SlicePairs
import Derived.ProofKit
import Derived.OpenShut
namespace Go.Proofs.Ytdjhpfojbnikdaa
open Go.ChangeShapes Go.WideShapes Go.ChangeAt Go.RowKit Go.Deep
theorem Try.cellsPiece : Try.prog.cellsOf 44 = 2 := by kernel_rfl
theorem Try.cellsU16 : Try.prog.cellsOf 42 = 1 := by kernel_rfl
theorem Try.cellsBool7 : Try.prog.cellsOf 4 = 1 := by kernel_rfl
theorem Try.cellsInt7 : Try.prog.cellsOf 3 = 1 := by kernel_rfl
def Mx.boolOf : Value → Bool
  | .bool b => b
  | _ => false
set_option maxRecDepth 100000 in
theorem open_pieces {H : Type} {enc : TypeId × Value → H} {W : World} {base : Nat} {v : Value} {d : DataW H} {ps : List MemPlace} (hv : Value.okWide Try.prog W .any base 22 v) (h : DataW.Trod enc Try.prog W 0 (fun _ => true) true 22 v d ps) :
    ∃ l, Pcs W v l ∧ l.length ≤ 9223372036854775807 := by
  obtain ⟨a0, len0, cap0, rfl⟩ := okWide_slice Try.underlying22 hv
  obtain ⟨fuel, h⟩ := h
  rcases open_slice_pairs Try.underlying22 Try.underlying44 Try.cellsPiece rfl rfl Try.cellsBool7 Try.cellsU16 h with ⟨hc, _⟩ | ⟨a, len, cap, m, n, V0, V1, D0, D1, P0, P1, hcs, _, hl, hm, hmeq, _, hall⟩
  · refine ⟨[], ⟨fun i hi => by simp at hi, none, 0, ?_, by simp, fun h0 => by simp at h0⟩, by simp⟩
    simpa [Value.cells] using hc
  · simp only [if_true] at hmeq
    subst hmeq
    simp [Value.cells] at hcs
    obtain ⟨rfl, rfl, rfl⟩ := hcs
    have each : ∀ i, i < cap0 → ∃ (x : Bool) (k : Nat), V0 i = .bool x ∧ k < 65536 ∧ V1 i = .int .u16 (k : Nat) := by
      intro i hi
      obtain ⟨_, _, t0, t1⟩ := hall i hi
      obtain ⟨k0, e0, _⟩ := DataW.trod_bool Try.underlying4 t0
      obtain ⟨k1, e1, _, w1⟩ := DataW.trod_int Try.underlying42 t1
      simp only [List.cons.injEq, and_true] at e0 e1
      have b1 := bounds_u16 w1
      obtain ⟨x, rfl⟩ := Int.eq_ofNat_of_zero_le b1.1
      exact ⟨k0, x, e0, by omega, e1⟩
    have hget : ∀ i, i < len0 → ((List.range len0).map fun i => (Mx.boolOf (V0 i), (intOf (V1 i)).toNat)).getD i (false, 0) = (Mx.boolOf (V0 i), (intOf (V1 i)).toNat) := by
      intro i hi
      rw [List.getD_eq_getElem?_getD]
      simp [hi]
    refine ⟨(List.range len0).map fun i => (Mx.boolOf (V0 i), (intOf (V1 i)).toNat), ⟨?_, some a, cap0, by simp, by simpa using hl, ?_⟩, ?_⟩
    · intro i hi
      simp only [List.length_map, List.length_range] at hi
      rw [hget i hi]
      obtain ⟨x, k, e0, hx, e1⟩ := each i (by omega)
      rw [e1]
      simpa [intOf] using hx
    · intro h0
      simp only [List.length_map, List.length_range] at h0 ⊢
      have hsp : a.spot = none := by
        have := (hall 0 (by omega)).1
        simp only [Nat.zero_mul] at this
        exact spot_none (by simpa [Addr.add] using this)
      refine ⟨a.block, a.off, ?_, ?_, fun i hi => ?_⟩
      · cases a
        simp_all
      · have := (hall 0 (by omega)).1
        rw [add_at a hsp] at this
        exact World.block_lt_of_cell? W ⟨a.block, _, none⟩ this
      · obtain ⟨c0, c1, _, _⟩ := hall i (by omega)
        obtain ⟨x, k, e0, hx, e1⟩ := each i (by omega)
        rw [add_at a hsp] at c0 c1
        rw [hget i hi, e0, e1]
        rw [e0] at c0
        rw [e1] at c1
        exact ⟨by simpa [Mx.boolOf] using c0, by simpa [intOf, Nat.add_assoc] using c1⟩
    · simp only [List.length_map, List.length_range]
      unfold maxLen at hm
      omega
theorem Try.cellsAsk7 : Try.prog.cellsOf 32 = 2 := by kernel_rfl
/-- A slice of questions that came in: a place, and an excess, each. -/
structure Qs (w : World) (u : Value) (l : List (Int × Int)) : Prop where
  cells : ∃ ao cap, u = .slice ao l.length cap ∧ l.length ≤ cap ∧ (0 < l.length → ∃ b off, ao = some ⟨b, off, none⟩ ∧ b < w.heap.size ∧ ∀ i, i < l.length → w.cell? ⟨b, off + i * 2, none⟩ = some (.int .i64 (l.getD i (0, 0)).1) ∧ w.cell? ⟨b, off + i * 2 + 1, none⟩ = some (.int .i64 (l.getD i (0, 0)).2))
theorem Qs.below {w w' : World} {u : Value} {l : List (Int × Int)} {C : Nat} (h : Qs w u l) (hb : Below C w w') (hC : w.heap.size ≤ C) : Qs w' u l := by
  obtain ⟨ao, cap, hu, hc, hf⟩ := h.cells
  refine ⟨ao, cap, hu, hc, fun h0 => ?_⟩
  obtain ⟨b, off, ha, hlt, hcell⟩ := hf h0
  refine ⟨b, off, ha, by have := hb.size; omega, fun i hi => ?_⟩
  exact ⟨(hb.cell (p := ⟨b, _, none⟩) (by show b < C; omega)).trans (hcell i hi).1, (hb.cell (p := ⟨b, _, none⟩) (by show b < C; omega)).trans (hcell i hi).2⟩
set_option maxRecDepth 100000 in
theorem open_qs {H : Type} {enc : TypeId × Value → H} {W : World} {base : Nat} {v : Value} {d : DataW H} {ps : List MemPlace} (hv : Value.okWide Try.prog W .any base 23 v) (h : DataW.Trod enc Try.prog W 0 (fun _ => true) true 23 v d ps) :
    ∃ l, Qs W v l ∧ l.length ≤ 9223372036854775807 := by
  obtain ⟨a0, len0, cap0, rfl⟩ := okWide_slice Try.underlying23 hv
  obtain ⟨fuel, h⟩ := h
  rcases open_slice_pairs Try.underlying23 Try.underlying32 Try.cellsAsk7 rfl rfl Try.cellsInt7 Try.cellsInt7 h with ⟨hc, _⟩ | ⟨a, len, cap, m, n, V0, V1, D0, D1, P0, P1, hcs, _, hl, hm, hmeq, _, hall⟩
  · refine ⟨[], ⟨none, 0, ?_, by simp, fun h0 => by simp at h0⟩, by simp⟩
    simpa [Value.cells] using hc
  · simp only [if_true] at hmeq
    subst hmeq
    simp [Value.cells] at hcs
    obtain ⟨rfl, rfl, rfl⟩ := hcs
    have each : ∀ i, i < cap0 → ∃ (x k : Int), V0 i = .int .i64 x ∧ V1 i = .int .i64 k := by
      intro i hi
      obtain ⟨_, _, t0, t1⟩ := hall i hi
      obtain ⟨k0, e0, _, _⟩ := DataW.trod_int Try.underlying3 t0
      obtain ⟨k1, e1, _, _⟩ := DataW.trod_int Try.underlying3 t1
      simp only [List.cons.injEq, and_true] at e0 e1
      exact ⟨k0, k1, e0, e1⟩
    have hget : ∀ i, i < len0 → ((List.range len0).map fun i => (intOf (V0 i), intOf (V1 i))).getD i (0, 0) = (intOf (V0 i), intOf (V1 i)) := by
      intro i hi
      rw [List.getD_eq_getElem?_getD]
      simp [hi]
    refine ⟨(List.range len0).map fun i => (intOf (V0 i), intOf (V1 i)), ⟨some a, cap0, by simp, by simpa using hl, ?_⟩, ?_⟩
    · intro h0
      simp only [List.length_map, List.length_range] at h0 ⊢
      have hsp : a.spot = none := by
        have := (hall 0 (by omega)).1
        simp only [Nat.zero_mul] at this
        exact spot_none (by simpa [Addr.add] using this)
      refine ⟨a.block, a.off, ?_, ?_, fun i hi => ?_⟩
      · cases a
        simp_all
      · have := (hall 0 (by omega)).1
        rw [add_at a hsp] at this
        exact World.block_lt_of_cell? W ⟨a.block, _, none⟩ this
      · obtain ⟨c0, c1, _, _⟩ := hall i (by omega)
        obtain ⟨x, k, e0, e1⟩ := each i (by omega)
        rw [add_at a hsp] at c0 c1
        rw [hget i hi, e0, e1]
        rw [e0] at c0
        rw [e1] at c1
        exact ⟨by simpa [intOf] using c0, by simpa [intOf, Nat.add_assoc] using c1⟩
    · simp only [List.length_map, List.length_range]
      unfold maxLen at hm
      omega
set_option maxRecDepth 100000 in
theorem open_q {H : Type} {enc : TypeId × Value → H} {W : World} {base : Nat} {v : Value} {d : DataW H} {ps : List MemPlace} (hv : Value.okWide Try.prog W .any base 32 v) (h : DataW.Trod enc Try.prog W 0 (fun _ => true) true 32 v d ps) :
    ∃ a b, v = .agg #[.int .i64 a, .int .i64 b] := by
  simp only [Value.okWide, Try.underlying32] at hv
  obtain ⟨cs, rfl, hs, _⟩ := hv
  obtain ⟨fuel, h⟩ := h
  obtain ⟨xs, m, rfl, _, hl, hn, hi⟩ := DataW.trod_struct Try.underlying32 h
  have h0 : DataW.trod enc Try.prog W 0 (fun _ => true) true m 3 (((Value.agg cs).cells.toList.drop 0).take (Try.prog.cellsOf 3)) = xs[0]? := hi 0 _ rfl
  have h1 : DataW.trod enc Try.prog W 0 (fun _ => true) true m 3 (((Value.agg cs).cells.toList.drop 1).take (Try.prog.cellsOf 3)) = xs[1]? := hi 1 _ rfl
  rw [Try.cellsInt7] at h0 h1
  rw [List.getElem?_eq_getElem (by rw [hn]; decide)] at h0 h1
  obtain ⟨a, ea, _, _⟩ := DataW.trod_int Try.underlying3 h0
  obtain ⟨b, eb, _, _⟩ := DataW.trod_int Try.underlying3 h1
  refine ⟨a, b, ?_⟩
  rw [Try.cellsAsk7] at hs
  obtain ⟨l⟩ := cs
  simp [Value.cells] at ea eb hs
  match l, hs with
  | [x, y], _ =>
    simp at ea eb
    rw [ea, eb]
end Go.Proofs.Ytdjhpfojbnikdaa
