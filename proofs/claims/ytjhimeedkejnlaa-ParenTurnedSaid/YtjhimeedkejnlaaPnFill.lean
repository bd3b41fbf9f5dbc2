/-
  A list of bits that is made and filled from its end on: what its cells hold after k steps, and that it is owned at the end.
-/
import Derived.Test.YtjhimeedkejnlaaBtList
namespace Go.Proofs.Ytjhimeedkejnlaa
open Go.RowKit
namespace Pn
theorem made_bools (c : Nat) : madeCells #[Value.bool false] c = Array.replicate c (Value.bool false) := by
  apply Array.toList_inj.1
  rw [toList_madeCells_one, Array.toList_replicate]
theorem mk_bools (c : Nat) (hc : c ≤ 4294967296) (u : World) : (Instr.makeSlice 24 (.int .i64 (c : Int)) (.int .i64 (c : Int))).run Try.prog u = .ok (.slice (some ⟨u.heap.size, 0, none⟩) c c) (u.alloc (.cells (Array.replicate c (Value.bool false)) 4)) := by
  obtain ⟨i0, hi, hz0, hz1, hz2⟩ := info_parts Try.infoBool
  have h := run_make (P := Try.prog) u 24 4 i0 (.bool false) Try.underlying24 hi hz0 .i64 .i64 (c : Int) (c : Int) (by omega) (Int.le_refl _) (by rw [hz2]; omega) (by omega)
  rw [← made_bools]
  simpa [hz1, Value.cells] using h
/-- The cells after k steps. -/
def fillB (M : List Bool) (k : Nat) : Array Value := (List.replicate (M.length - k) (Value.bool false) ++ Bt.bls (M.drop (M.length - k))).toArray
theorem fillB_zero (M : List Bool) : fillB M 0 = Array.replicate M.length (Value.bool false) := by
  unfold fillB
  simp [Bt.bls]
theorem fillB_all (M : List Bool) : fillB M M.length = (Bt.bls M).toArray := by
  unfold fillB
  rw [Nat.sub_self, List.drop_zero, List.replicate_zero, List.nil_append]
theorem fillB_next (M : List Bool) (k p : Nat) (hk : k < M.length) (hp : p = M.length - 1 - k) : (fillB M k).setIfInBounds p (.bool (M.getD p false)) = fillB M (k + 1) := by
  have e1 : M.length - k = p + 1 := by omega
  have e2 : M.length - (k + 1) = p := by omega
  have hlt : p < M.length := by omega
  unfold fillB
  rw [e1, e2, List.drop_eq_getElem_cons hlt, List.replicate_succ']
  have hg : M.getD p false = M[p] := by rw [List.getD_eq_getElem?_getD, List.getElem?_eq_getElem hlt]; rfl
  rw [hg]
  have hl : (List.replicate p (Value.bool false)).length = p := List.length_replicate
  generalize M[p] = c
  generalize M.drop (p + 1) = D
  clear hg hlt e1 e2 hp
  generalize List.replicate p (Value.bool false) = A at *
  subst hl
  simp [Bt.bls]
theorem fillB_at (M : List Bool) (k p : Nat) (hk : k < M.length) (hp : p = M.length - 1 - k) : (fillB M k)[p]? = some (Value.bool false) := by
  unfold fillB
  rw [List.getElem?_toArray, List.getElem?_append_left (by rw [List.length_replicate]; omega), List.getElem?_replicate, if_pos (by omega)]
theorem of_fillB {w : World} {g : Nat} {M : List Bool} {n : Nat} (hn : M.length = n) (hl : n ≤ 4294967296) (hg : w.heap[g]? = some (.cells (fillB M n) 4 (0, 0))) : Bl w (.slice (some ⟨g, 0, none⟩) n n) M := by
  subst hn
  rw [fillB_all] at hg
  exact ⟨by rw [Bt.bls_length]; omega, .inr ⟨g, M.length, _, rfl, Nat.zero_le _, hg, Nat.le_refl _, by unfold maxLen; omega, by rw [List.size_toArray, Bt.bls_length]; omega, by rw [List.take_of_length_le]; rw [Bt.bls_length]; omega⟩⟩
/-- A list turned round, each bit the other one. -/
def opp (L : List Bool) : List Bool := (L.map (!·)).reverse
theorem opp_length (L : List Bool) : (opp L).length = L.length := by simp [opp]
theorem opp_get (L : List Bool) (i : Nat) (h : i < L.length) : (opp L).getD (L.length - 1 - i) false = !L.getD i false := by
  unfold opp
  rw [List.getD_eq_getElem?_getD, List.getElem?_reverse (by simp; omega), List.length_map, List.getElem?_map, show L.length - 1 - (L.length - 1 - i) = i from by omega, List.getElem?_eq_getElem h, List.getD_eq_getElem?_getD, List.getElem?_eq_getElem h]
  rfl
end Pn
end Go.Proofs.Ytjhimeedkejnlaa
