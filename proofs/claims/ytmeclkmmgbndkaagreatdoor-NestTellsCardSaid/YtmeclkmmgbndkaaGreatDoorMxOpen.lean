/-
  Pieces and questions that came in, opened: their bits and numbers, and the cells; they stay where memory is but made.
-/
import Derived.Deep.SlicePairs
import Derived.ProofKit
import Derived.OpenShut
import Derived.Test.YtmeclkmmgbndkaaGreatDoorJMxBits
import Derived.Test.YtmeclkmmgbndkaaGreatDoorJOpen
namespace Go.Proofs.YtmeclkmmgbndkaaGreatDoor
open Go.ChangeShapes Go.WideShapes Go.ChangeAt Go.RowKit Go.Deep
theorem Tryz.cellsPiece : Tryz.prog.cellsOf 47 = 2 := by kernel_rfl
theorem Tryz.cellsU16 : Tryz.prog.cellsOf 45 = 1 := by kernel_rfl
theorem Tryz.cellsBool7 : Tryz.prog.cellsOf 4 = 1 := by kernel_rfl
theorem Tryz.cellsInt7 : Tryz.prog.cellsOf 3 = 1 := by kernel_rfl
def Mx.boolOf : Value → Bool
  | .bool b => b
  | _ => false
set_option maxRecDepth 100000 in
theorem open_pieces {H : Type} {enc : TypeId × Value → H} {W : World} {base : Nat} {v : Value} {d : DataW H} {ps : List MemPlace} (hv : Value.okWide Tryz.prog W .any base 22 v) (h : DataW.Trod enc Tryz.prog W 0 (fun _ => true) true 22 v d ps) :
    ∃ l, Pcs W v l ∧ l.length ≤ 9223372036854775807 := by
  obtain ⟨a0, len0, cap0, rfl⟩ := okWide_slice Tryz.underlying22 hv
  obtain ⟨fuel, h⟩ := h
  rcases open_slice_pairs Tryz.underlying22 Tryz.underlying47 Tryz.cellsPiece rfl rfl Tryz.cellsBool7 Tryz.cellsU16 h with ⟨hc, _⟩ | ⟨a, len, cap, m, n, V0, V1, D0, D1, P0, P1, hcs, _, hl, hm, hmeq, _, hall⟩
  · refine ⟨[], ⟨fun i hi => by simp at hi, none, 0, ?_, by simp, fun h0 => by simp at h0⟩, by simp⟩
    simpa [Value.cells] using hc
  · simp only [if_true] at hmeq
    subst hmeq
    simp [Value.cells] at hcs
    obtain ⟨rfl, rfl, rfl⟩ := hcs
    have each : ∀ i, i < cap0 → ∃ (x : Bool) (k : Nat), V0 i = .bool x ∧ k < 65536 ∧ V1 i = .int .u16 (k : Nat) := by
      intro i hi
      obtain ⟨_, _, t0, t1⟩ := hall i hi
      obtain ⟨k0, e0, _⟩ := DataW.trod_bool Tryz.underlying4 t0
      obtain ⟨k1, e1, _, w1⟩ := DataW.trod_int Tryz.underlying45 t1
      simp only [List.cons.injEq, and_true] at e0 e1
      have b1 := bounds_u16 w1
      obtain ⟨x, rfl⟩ := Int.eq_ofNat_of_zero_le b1.1
      exact ⟨k0, x, e0, by omega, e1⟩
    have hget : ∀ i, i < len0 → ((List.range len0).map fun i => (Mx.boolOf (V0 i), (intOf (V1 i)).toNat)).getD i (false, 0) = (Mx.boolOf (V0 i), (intOf (V1 i)).toNat) := by
      intro i hi
      rw [List.getD_eq_getElem?_getD]
      simp [hi]
    refine ⟨(List.range len0).map fun i => (Mx.boolOf (V0 i), (intOf (V1 i)).toNat), ⟨?_, some a, cap0, by simp, by simpa using hl, ?_⟩, ?_⟩
    · intro i hi
      simp only [List.length_map, List.length_range] at hi
      rw [hget i hi]
      obtain ⟨x, k, e0, hx, e1⟩ := each i (by omega)
      rw [e1]
      simpa [intOf] using hx
    · intro h0
      simp only [List.length_map, List.length_range] at h0 ⊢
      have hsp : a.spot = none := by
        have := (hall 0 (by omega)).1
        simp only [Nat.zero_mul] at this
        exact spot_none (by simpa [Addr.add] using this)
      refine ⟨a.block, a.off, ?_, ?_, fun i hi => ?_⟩
      · cases a
        simp_all
      · have := (hall 0 (by omega)).1
        rw [add_at a hsp] at this
        exact World.block_lt_of_cell? W ⟨a.block, _, none⟩ this
      · obtain ⟨c0, c1, _, _⟩ := hall i (by omega)
        obtain ⟨x, k, e0, hx, e1⟩ := each i (by omega)
        rw [add_at a hsp] at c0 c1
        rw [hget i hi, e0, e1]
        rw [e0] at c0
        rw [e1] at c1
        exact ⟨by simpa [Mx.boolOf] using c0, by simpa [intOf, Nat.add_assoc] using c1⟩
    · simp only [List.length_map, List.length_range]
      unfold maxLen at hm
      omega
end Go.Proofs.YtmeclkmmgbndkaaGreatDoor
