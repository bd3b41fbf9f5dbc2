/-
  A list of bits that is made and filled in order: what its cells hold after k steps, and that it is owned at the end; the numbers of a list of one bit again and again, and of a list turned.
-/
import Derived.Test.YtfohldojcdhnhaaDoorRkRef
namespace Go.Proofs.YtfohldojcdhnhaaDoor
open Go.RowKit
theorem made_bools (c : Nat) : madeCells #[Value.bool false] c = Array.replicate c (Value.bool false) := by
  apply Array.toList_inj.1
  rw [toList_madeCells_one, Array.toList_replicate]
theorem mk_bools (c : Nat) (hc : c ≤ 4294967296) (u : World) : (Instr.makeSlice 39 (.int .i64 (c : Int)) (.int .i64 (c : Int))).run Tryd.prog u = .ok (.slice (some ⟨u.heap.size, 0, none⟩) c c) (u.alloc (.cells (Array.replicate c (Value.bool false)) 4)) := by
  obtain ⟨i0, hi, hz0, hz1, hz2⟩ := info_parts Tryd.infoBool
  have h := run_make (P := Tryd.prog) u 39 4 i0 (.bool false) Tryd.underlying39 hi hz0 .i64 .i64 (c : Int) (c : Int) (by omega) (Int.le_refl _) (by rw [hz2]; omega) (by omega)
  rw [← made_bools]
  simpa [hz1, Value.cells] using h
/-- The cells after k steps. -/
def Bt.fill (F : List Bool) (k : Nat) : Array Value := (Bt.bls (F.take k) ++ List.replicate (F.length - k) (Value.bool false)).toArray
theorem Bt.fill_zero (F : List Bool) : Bt.fill F 0 = Array.replicate F.length (Value.bool false) := by
  unfold Bt.fill
  simp [Bt.bls]
theorem Bt.fill_all (F : List Bool) : Bt.fill F F.length = (Bt.bls F).toArray := by
  unfold Bt.fill
  rw [List.take_of_length_le (Nat.le_refl _), Nat.sub_self, List.replicate_zero, List.append_nil]
theorem Bt.fill_next (F : List Bool) (k : Nat) (h : k < F.length) : (Bt.fill F k).setIfInBounds k (.bool (F.getD k false)) = Bt.fill F (k + 1) := by
  obtain ⟨d, hd⟩ : ∃ d, F.length - k = d + 1 := ⟨F.length - k - 1, by omega⟩
  unfold Bt.fill
  rw [hd, show F.length - (k + 1) = d from by omega, take_next F k h, Bt.bls_append, List.replicate_succ]
  have hl : (Bt.bls (F.take k)).length = k := by rw [Bt.bls_length, List.length_take]; omega
  generalize Bt.bls (F.take k) = A at *
  subst hl
  simp [Bt.bls]
theorem Bt.fill_at (F : List Bool) (k : Nat) (h : k < F.length) : (Bt.fill F k)[k]? = some (Value.bool false) := by
  have hl : (Bt.bls (F.take k)).length = k := by rw [Bt.bls_length, List.length_take]; omega
  unfold Bt.fill
  rw [List.getElem?_toArray, List.getElem?_append_right (by omega), hl, Nat.sub_self, List.getElem?_replicate, if_pos (by omega)]
theorem Bl.of_fill {w : World} {g : Nat} {F : List Bool} {n : Nat} (hn : F.length = n) (hl : n ≤ 4294967296) (hg : w.heap[g]? = some (.cells (Bt.fill F n) 4 (0, 0))) : Bl w (.slice (some ⟨g, 0, none⟩) n n) F := by
  subst hn
  rw [Bt.fill_all] at hg
  exact ⟨by rw [Bt.bls_length]; omega, .inr ⟨g, F.length, _, rfl, Nat.zero_le _, hg, Nat.le_refl _, by unfold maxLen; omega, by rw [List.size_toArray, Bt.bls_length]; omega, by rw [List.take_of_length_le]; rw [Bt.bls_length]; omega⟩⟩
/-- One bit, again and again. -/
theorem Bt.ones_same (n p : Nat) (o : Bool) (h : p ≤ n) : Wd.ones (Bt.num (List.replicate n o)) p = if o = true then p else 0 := by
  induction p with
  | zero => cases o <;> rfl
  | succ p ih =>
    have e : (List.replicate n o).getD p false = o := by rw [List.getD_eq_getElem?_getD, List.getElem?_replicate, if_pos (by omega)]; rfl
    rw [Wd.ones_succ, ih (by omega), Bt.bt_num, e]
    cases o <;> simp
/-- Each bit the other one. -/
theorem Bt.ones_turned (L : List Bool) (p : Nat) (h : p ≤ L.length) : Wd.ones (Bt.num (L.map (!·))) p + Wd.ones (Bt.num L) p = p := by
  induction p with
  | zero => rfl
  | succ p ih =>
    have e : (L.map (!·)).getD p false = !(L.getD p false) := by
      rw [List.getD_eq_getElem?_getD, List.getD_eq_getElem?_getD, List.getElem?_map, List.getElem?_eq_getElem (show p < L.length by omega)]
      rfl
    rw [Wd.ones_succ, Wd.ones_succ, Bt.bt_num, Bt.bt_num, e]
    have := ih (by omega)
    cases L.getD p false <;> simp <;> omega
end Go.Proofs.YtfohldojcdhnhaaDoor
