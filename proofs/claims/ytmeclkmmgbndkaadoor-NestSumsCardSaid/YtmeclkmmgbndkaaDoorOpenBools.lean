/-
  A slice of bools that came in, opened: the list of its bits, and its cells; it stays where memory is but made; append of it behind a row that is owned.
-/
import Derived.Deep.Grids
import Derived.ProofKit
import Derived.Test.YtmeclkmmgbndkaaDoorJOpen
import Derived.Test.YtmeclkmmgbndkaaDoorJPn
namespace Go.Proofs.YtmeclkmmgbndkaaDoor
open Go.ChangeShapes Go.WideShapes Go.ChangeAt Go.RowKit Go.Deep
theorem Tryd.cellsBool : Tryd.prog.cellsOf 4 = 1 := by kernel_rfl
/-- A list of bits behind a slice that came in: nil, or cells somewhere. -/
def Ba (w : World) (v : Value) (L : List Bool) : Prop :=
  (v = .slice none 0 0 ∧ L = []) ∨ ∃ (a : Addr) (cap : Nat), v = .slice (some a) L.length cap ∧ L.length ≤ cap ∧ ∀ j, j < L.length → w.cell? (a.add j) = some (.bool (L.getD j false))
theorem Ba.view {w : World} {v : Value} {L : List Bool} (h : Ba w v L) : Bv w v L := by
  rcases h with ⟨rfl, rfl⟩ | ⟨a, cap, rfl, hc, hcell⟩
  · exact ⟨none, 0, rfl, Nat.le_refl _, fun h => by simp at h⟩
  · refine ⟨some a, cap, rfl, hc, fun h0 => ?_⟩
    have c0 := hcell 0 h0
    have hsp : a.spot = none := spot_none (by simpa [Addr.add] using c0)
    refine ⟨a.block, a.off, ?_, ?_, fun i hi => ?_⟩
    · cases a
      simp_all
    · rw [add_at a hsp] at c0
      exact World.block_lt_of_cell? w ⟨a.block, _, none⟩ c0
    · have c1 := hcell i hi
      rw [add_at a hsp] at c1
      exact c1
theorem Ba.below {w w' : World} {v : Value} {L : List Bool} {C : Nat} (h : Ba w v L) (hb : Below C w w') (hC : w.heap.size ≤ C) : Ba w' v L := by
  rcases h with h | ⟨a, cap, hv, hc, hcell⟩
  · exact .inl h
  · refine .inr ⟨a, cap, hv, hc, fun j hj => ?_⟩
    have c0 := hcell j hj
    have hlt := World.block_lt_of_cell? w _ c0
    exact (hb.cell (p := a.add j) (by omega)).trans c0
set_option maxRecDepth 100000 in
theorem open_bits {H : Type} {enc : TypeId × Value → H} {W : World} {base : Nat} {v : Value} {d : DataW H} {ps : List MemPlace} (hv : Value.okWide Tryd.prog W .any base 22 v) (h : DataW.Trod enc Tryd.prog W 0 (fun _ => true) true 22 v d ps) :
    ∃ L, Ba W v L ∧ L.length ≤ 9223372036854775807 := by
  obtain ⟨a0, len0, cap0, rfl⟩ := okWide_slice Tryd.underlying22 hv
  obtain ⟨fuel, h⟩ := h
  rcases open_bools Tryd.underlying22 Tryd.underlying4 Tryd.cellsBool h with ⟨hc, _⟩ | ⟨a, len, cap, B, hcs, _, hl, hm, _, hall⟩
  · refine ⟨[], .inl ⟨?_, rfl⟩, by simp⟩
    simpa [Value.cells] using hc
  · simp [Value.cells] at hcs
    obtain ⟨rfl, rfl, rfl⟩ := hcs
    have hlen : ((List.range len0).map B).length = len0 := by simp
    refine ⟨(List.range len0).map B, .inr ⟨a, cap0, by rw [hlen], by omega, fun j hj => ?_⟩, ?_⟩
    · rw [hlen] at hj
      rw [hall j (by omega), List.getD_eq_getElem?_getD]
      simp [hj]
    · rw [hlen]
      unfold maxLen at hm
      omega
section
variable {P : Program}
/-- 'append(v, u...)', v a row that is owned, u a slice of bools that came in. -/
theorem wpList_append_ba (w : World) {ops : Array Oper} {rest : List Oper} {o : Oper} {a : Act} {Q : Exit → Act → World → Prop} (hgd : o.guard = none) (s x : Operand) (t : TypeId)
    (ho : o.op = .call { callee := .builtin .append, args := #[s, x], argTypes := #[t, t] })
    (base : Nat) (e : TypeId) (i : TypeInfo) (z : Value) (bytes : Nat) (ht : P.underlying t = some (.slice e)) (hi : P.info? e = some i) (hz : i.zero = some z)
    (hsize : i.size = 1) (hby : i.bytes = bytes) (hzs : z.cells.size = 1)
    (v : Value) (n : Nat) (xs : List Value) (hs : a.eval s = v) (hown : w.ownsRow base e 1 v n xs)
    (u : Value) (L : List Bool) (hu : a.eval x = u) (hsrc : Ba w u L)
    (h63 : n + L.length ≤ maxLen) (hbytes : (n + L.length) * bytes ≤ 140737488355328) (hbase : base ≤ w.heap.size)
    (h : ∀ v' w', w'.ownsRow base e 1 v' (n + L.length) (xs ++ Bt.bls L) → w.grownBy w' v.ownBlock → wpList P ops Q rest (a.put o.dst v') w') : wpList P ops Q (o :: rest) a w := by
  rcases hsrc with ⟨hn, rfl⟩ | ⟨ad, cap, hg, _, hcell⟩
  · refine wpList_append_own_none hgd s x t ho base e i 1 ht hi v n xs hs hown (hu.trans hn) ?_
    have := h v w (by rw [List.length_nil, Nat.add_zero, show Bt.bls [] = [] from rfl, List.append_nil]; exact hown) (World.grownBy.refl _ _)
    exact this
  · refine wpList_append_own w hgd s x t ho base e i z 1 bytes ht hi hz hsize hby hzs (by decide) v n xs hs hown ad L.length cap (Bt.bls L) (hu.trans hg) (by rw [Bt.bls_length, Nat.mul_one]) ?_ (Bt.bls_one L) h63 hbytes hbase ?_
    · intro j u hj
      have hlt : j < L.length := by
        have := (List.getElem?_eq_some_iff.1 hj).1
        rw [Bt.bls_length] at this
        exact this
      rw [Bt.bls_get L j hlt] at hj
      rw [hcell j hlt]
      exact hj
    · intro v' w' h2 h3 _
      exact h v' w' h2 h3
end
end Go.Proofs.YtmeclkmmgbndkaaDoor
