/-
  A slice of Puts that came in, opened: the list of its numbers, and its cells.
-/
import Derived.Test.YtjhimeedkejnlaaBtList
import Derived.Test.YtjhimeedkejnlaaTrod
import Derived.ProofKit
import Derived.OpenShut
import Derived.Deep.SlicePairs
namespace Go.Proofs.Ytjhimeedkejnlaa
open Go.ChangeShapes Go.WideShapes Go.ChangeAt Go.RowKit Go.Deep
theorem Try.cellsOp : Try.prog.cellsOf 53 = 2 := by kernel_rfl
theorem Try.cellsU64 : Try.prog.cellsOf 51 = 1 := by kernel_rfl
theorem Try.cellsInt : Try.prog.cellsOf 3 = 1 := by kernel_rfl
/-- An address at which a cell lies has no inner place. -/
theorem spot_none {w : World} {a : Addr} {v : Value} (h : w.cell? a = some v) : a.spot = none := by
  unfold World.cell? at h
  split at h
  · split at h
    · cases h
    · rename_i h2
      simpa using h2
  · cases h
theorem add_at (a : Addr) (h : a.spot = none) (n : Nat) : a.add n = ⟨a.block, a.off + n, none⟩ := by
  unfold Addr.add
  split
  · rename_i h0
    subst h0
    cases a
    simp_all
  · rfl
theorem open_ops {H : Type} {enc : TypeId × Value → H} {W : World} {base : Nat} {v : Value} {d : DataW H} {ps : List MemPlace} (hv : Value.okWide Try.prog W .any base 22 v) (h : DataW.Trod enc Try.prog W 0 (fun _ => true) true 22 v d ps) :
    ∃ l, Ops W v l ∧ l.length ≤ 9223372036854775807 := by
  obtain ⟨a0, len0, cap0, rfl⟩ := okWide_slice Try.underlying22 hv
  obtain ⟨fuel, h⟩ := h
  rcases open_slice_pairs Try.underlying22 Try.underlying53 Try.cellsOp rfl rfl Try.cellsU64 Try.cellsInt h with ⟨hc, _⟩ | ⟨a, len, cap, m, n, V0, V1, D0, D1, P0, P1, hcs, _, hl, hm, hmeq, _, hall⟩
  · refine ⟨[], ⟨fun o ho => by simp at ho, none, 0, ?_, by simp, fun h0 => by simp at h0⟩, by simp⟩
    simpa [Value.cells] using hc
  · simp only [if_true] at hmeq
    subst hmeq
    simp [Value.cells] at hcs
    obtain ⟨rfl, rfl, rfl⟩ := hcs
    have each : ∀ i, i < cap0 → ∃ (x : Nat) (k : Int), V0 i = .int .u64 (x : Nat) ∧ x < 18446744073709551616 ∧ V1 i = .int .i64 k := by
      intro i hi
      obtain ⟨_, _, t0, t1⟩ := hall i hi
      obtain ⟨k0, e0, _, w0⟩ := DataW.trod_int Try.underlying51 t0
      obtain ⟨k1, e1, _, _⟩ := DataW.trod_int Try.underlying3 t1
      simp only [List.cons.injEq, and_true] at e0 e1
      have b0 := bounds_u64 w0
      obtain ⟨x, rfl⟩ := Int.eq_ofNat_of_zero_le b0.1
      exact ⟨x, k1, e0, by omega, e1⟩
    have hget : ∀ i, i < len0 → ((List.range len0).map fun i => ((intOf (V0 i)).toNat, intOf (V1 i))).getD i (0, 0) = ((intOf (V0 i)).toNat, intOf (V1 i)) := by
      intro i hi
      rw [List.getD_eq_getElem?_getD]
      simp [hi]
    refine ⟨(List.range len0).map fun i => ((intOf (V0 i)).toNat, intOf (V1 i)), ⟨?_, some a, cap0, by simp, by simpa using hl, ?_⟩, ?_⟩
    · intro o ho
      obtain ⟨i, hi, rfl⟩ := List.mem_map.1 ho
      obtain ⟨x, k, e0, hx, _⟩ := each i (by have := List.mem_range.1 hi; omega)
      rw [e0]
      simpa [intOf] using hx
    · intro h0
      simp only [List.length_map, List.length_range] at h0 ⊢
      have hsp : a.spot = none := by
        have := (hall 0 (by omega)).1
        simp only [Nat.zero_mul] at this
        exact spot_none (by simpa [Addr.add] using this)
      refine ⟨a.block, a.off, ?_, ?_, fun i hi => ?_⟩
      · cases a
        simp_all
      · have := (hall 0 (by omega)).1
        rw [add_at a hsp] at this
        exact World.block_lt_of_cell? W ⟨a.block, _, none⟩ this
      · obtain ⟨c0, c1, _, _⟩ := hall i (by omega)
        obtain ⟨x, k, e0, hx, e1⟩ := each i (by omega)
        rw [add_at a hsp] at c0 c1
        rw [hget i hi, e0, e1]
        rw [e0] at c0
        rw [e1] at c1
        exact ⟨by simpa [intOf] using c0, by simpa [intOf, Nat.add_assoc] using c1⟩
    · simp only [List.length_map, List.length_range]
      unfold maxLen at hm
      omega
end Go.Proofs.Ytjhimeedkejnlaa
