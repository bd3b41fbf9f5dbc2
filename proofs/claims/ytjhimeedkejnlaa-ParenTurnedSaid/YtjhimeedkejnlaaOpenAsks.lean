/-
  A question (a stretch, and an excess) that came in, and a slice of them, opened: their numbers, and the cells; they stay where memory is but made.
-/
import Derived.Test.YtjhimeedkejnlaaOpenOps
import Derived.Deep.Slices
import Derived.ProofKit
import Derived.OpenShut
namespace Go.Proofs.Ytjhimeedkejnlaa
open Go.ChangeShapes Go.WideShapes Go.ChangeAt Go.RowKit Go.Deep
theorem Try.cellsAsk : Try.prog.cellsOf 38 = 3 := by kernel_rfl
theorem Try.cellsAskInt : Try.prog.cellsOf 3 = 1 := by kernel_rfl
set_option maxRecDepth 100000 in
theorem open_ask {H : Type} {enc : TypeId × Value → H} {W : World} {base : Nat} {v : Value} {d : DataW H} {ps : List MemPlace} (hv : Value.okWide Try.prog W .any base 38 v) (h : DataW.Trod enc Try.prog W 0 (fun _ => true) true 38 v d ps) :
    ∃ a b c, v = .agg #[.int .i64 a, .int .i64 b, .int .i64 c] := by
  simp only [Value.okWide, Try.underlying38] at hv
  obtain ⟨cs, rfl, hs, _⟩ := hv
  obtain ⟨fuel, h⟩ := h
  obtain ⟨xs, m, rfl, _, hl, hn, hi⟩ := DataW.trod_struct Try.underlying38 h
  have h0 : DataW.trod enc Try.prog W 0 (fun _ => true) true m 3 (((Value.agg cs).cells.toList.drop 0).take (Try.prog.cellsOf 3)) = xs[0]? := hi 0 _ rfl
  have h1 : DataW.trod enc Try.prog W 0 (fun _ => true) true m 3 (((Value.agg cs).cells.toList.drop 1).take (Try.prog.cellsOf 3)) = xs[1]? := hi 1 _ rfl
  have h2 : DataW.trod enc Try.prog W 0 (fun _ => true) true m 3 (((Value.agg cs).cells.toList.drop 2).take (Try.prog.cellsOf 3)) = xs[2]? := hi 2 _ rfl
  rw [Try.cellsAskInt] at h0 h1 h2
  rw [List.getElem?_eq_getElem (by rw [hn]; decide)] at h0 h1 h2
  obtain ⟨a, ea, _, _⟩ := DataW.trod_int Try.underlying3 h0
  obtain ⟨b, eb, _, _⟩ := DataW.trod_int Try.underlying3 h1
  obtain ⟨c, ec, _, _⟩ := DataW.trod_int Try.underlying3 h2
  refine ⟨a, b, c, ?_⟩
  rw [Try.cellsAsk] at hs
  obtain ⟨l⟩ := cs
  simp [Value.cells] at ea eb ec hs
  match l, hs with
  | [x, y, z], _ =>
    simp at ea eb ec
    rw [ea, eb, ec]
/-- A slice of questions that came in. -/
structure Asks (w : World) (u : Value) (l : List (Int × Int × Int)) : Prop where
  cells : ∃ ao cap, u = .slice ao l.length cap ∧ l.length ≤ cap ∧ (0 < l.length → ∃ b off, ao = some ⟨b, off, none⟩ ∧ b < w.heap.size ∧ ∀ i, i < l.length → w.cell? ⟨b, off + i * 3, none⟩ = some (.int .i64 (l.getD i (0, 0, 0)).1) ∧ w.cell? ⟨b, off + i * 3 + 1, none⟩ = some (.int .i64 (l.getD i (0, 0, 0)).2.1) ∧ w.cell? ⟨b, off + i * 3 + 2, none⟩ = some (.int .i64 (l.getD i (0, 0, 0)).2.2))
theorem Asks.below {w w' : World} {u : Value} {l : List (Int × Int × Int)} {C : Nat} (h : Asks w u l) (hb : Below C w w') (hC : w.heap.size ≤ C) : Asks w' u l := by
  obtain ⟨ao, cap, hu, hc, hf⟩ := h.cells
  refine ⟨ao, cap, hu, hc, fun h0 => ?_⟩
  obtain ⟨b, off, ha, hlt, hcell⟩ := hf h0
  refine ⟨b, off, ha, by have := hb.size; omega, fun i hi => ?_⟩
  exact ⟨(hb.cell (p := ⟨b, _, none⟩) (by show b < C; omega)).trans (hcell i hi).1, (hb.cell (p := ⟨b, _, none⟩) (by show b < C; omega)).trans (hcell i hi).2.1, (hb.cell (p := ⟨b, _, none⟩) (by show b < C; omega)).trans (hcell i hi).2.2⟩
set_option maxRecDepth 100000 in
theorem open_asks {H : Type} {enc : TypeId × Value → H} {W : World} {base : Nat} {v : Value} {d : DataW H} {ps : List MemPlace} (hv : Value.okWide Try.prog W .any base 36 v) (h : DataW.Trod enc Try.prog W 0 (fun _ => true) true 36 v d ps) :
    ∃ l, Asks W v l ∧ l.length ≤ 9223372036854775807 := by
  obtain ⟨a0, len0, cap0, rfl⟩ := okWide_slice Try.underlying36 hv
  obtain ⟨fuel, h⟩ := h
  rcases open_slice Try.underlying36 h with ⟨hc, _⟩ | ⟨a, len, cap, m, n, D, Pl, hcs, _, hl, hm, hmm, _, hx⟩
  · refine ⟨[], ⟨none, 0, ?_, by simp, fun h0 => by simp at h0⟩, by simp⟩
    simpa [Value.cells] using hc
  · simp only [if_true] at hmm
    subst hmm
    simp [Value.cells] at hcs
    obtain ⟨rfl, rfl, rfl⟩ := hcs
    have each : ∀ i, i < cap0 → ∃ q : Int × Int × Int, W.cell? (a.add (i * 3)) = some (.int .i64 q.1) ∧ W.cell? (a.add (i * 3 + 1)) = some (.int .i64 q.2.1) ∧ W.cell? (a.add (i * 3 + 2)) = some (.int .i64 q.2.2) := by
      intro i hi
      obtain ⟨cs', h1, h2⟩ := hx i hi
      rw [Try.cellsAsk] at h1
      obtain ⟨_, hlen, hcell⟩ := World.cells?_some h1
      obtain ⟨xs, k, hk, _, _, hxl, hf⟩ := DataW.trod_struct Try.underlying38 h2
      have g0 : DataW.trod enc Try.prog W 0 (fun _ => true) true k 3 ((cs'.drop 0).take (Try.prog.cellsOf 3)) = xs[0]? := hf 0 _ rfl
      have g1 : DataW.trod enc Try.prog W 0 (fun _ => true) true k 3 ((cs'.drop 1).take (Try.prog.cellsOf 3)) = xs[1]? := hf 1 _ rfl
      have g2 : DataW.trod enc Try.prog W 0 (fun _ => true) true k 3 ((cs'.drop 2).take (Try.prog.cellsOf 3)) = xs[2]? := hf 2 _ rfl
      rw [Try.cellsAskInt] at g0 g1 g2
      rw [List.getElem?_eq_getElem (by rw [hxl]; decide)] at g0 g1 g2
      obtain ⟨x, ea, _, _⟩ := DataW.trod_int Try.underlying3 g0
      obtain ⟨y, eb, _, _⟩ := DataW.trod_int Try.underlying3 g1
      obtain ⟨z, ec, _, _⟩ := DataW.trod_int Try.underlying3 g2
      match cs', hlen with
      | [v0, v1, v2], _ =>
        simp at ea eb ec
        have e0 := hcell 0 (by omega)
        have e1 := hcell 1 (by omega)
        have e2 := hcell 2 (by omega)
        rw [add_add] at e0 e1 e2
        refine ⟨(x, y, z), ?_, ?_, ?_⟩
        · rw [← ea]; simpa using e0
        · rw [← eb]; simpa using e1
        · rw [← ec]; simpa using e2
    obtain ⟨q, hq⟩ := choose_lt each
    have hget : ∀ i, i < len0 → ((List.range len0).map q).getD i (0, 0, 0) = q i := by
      intro i hi
      rw [List.getD_eq_getElem?_getD]
      simp [hi]
    refine ⟨(List.range len0).map q, ⟨some a, cap0, by simp, by simpa using hl, ?_⟩, ?_⟩
    · intro h0
      simp only [List.length_map, List.length_range] at h0 ⊢
      have hsp : a.spot = none := by
        have := (hq 0 (by omega)).1
        simp only [Nat.zero_mul] at this
        exact spot_none (by simpa [Addr.add] using this)
      refine ⟨a.block, a.off, ?_, ?_, fun i hi => ?_⟩
      · cases a
        simp_all
      · have := (hq 0 (by omega)).1
        rw [add_at a hsp] at this
        exact World.block_lt_of_cell? W ⟨a.block, _, none⟩ this
      · obtain ⟨c0, c1, c2⟩ := hq i (by omega)
        rw [add_at a hsp] at c0 c1 c2
        rw [hget i hi]
        exact ⟨c0, by simpa [Nat.add_assoc] using c1, by simpa [Nat.add_assoc] using c2⟩
    · simp only [List.length_map, List.length_range]
      unfold maxLen at hm
      omega
end Go.Proofs.Ytjhimeedkejnlaa
