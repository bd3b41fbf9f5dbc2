/-
  The contracts of what the laws of layer 2 share: the reference's Put and All, a Put and a Bit told by lists of bits, Made, Is, awake.
-/
import Derived.Test.YtfohldojcdhnhaaDoorBtRef
namespace Go.Proofs.YtfohldojcdhnhaaDoor
open Go.RowKit
theorem Rw.drewN {w : World} {r n X : Nat} {u : Value} (h : Rw w r n X u) (m : Nat) : Rw (w.drewN m) r n X u := ⟨h.len, h.lt, h.cells, h.own⟩
namespace Bt
/-- Whether a Put is let. -/
def okB (o : Nat × Int) : Bool := decide (0 ≤ o.2) && decide (o.2 ≤ 64) && decide (o.1 < 2 ^ o.2.toNat)
/-- The list behind a Put; its error. -/
def putB (L : List Bool) (o : Nat × Int) : List Bool := if okB o = true then L ++ bitsTo o.1 o.2.toNat else L
def errB (o : Nat × Int) : Int := if okB o = true then 0 else 1
def all (l : List (Nat × Int)) : List Bool := l.foldl putB []
theorem okB_true {x : Nat} {k : Int} (h : okB (x, k) = true) : ∃ j : Nat, k = (j : Int) ∧ j ≤ 64 ∧ x < 2 ^ j := by
  simp only [okB, Bool.and_eq_true, decide_eq_true_eq] at h
  obtain ⟨j, rfl⟩ := Int.eq_ofNat_of_zero_le h.1.1
  exact ⟨j, rfl, by omega, by simpa using h.2⟩
theorem okB_false {x : Nat} {k : Int} (h : okB (x, k) = false) : k < 0 ∨ 64 < k ∨ (0 ≤ k ∧ k ≤ 64 ∧ ¬ x < 2 ^ k.toNat) := by
  by_cases h0 : 0 ≤ k
  · by_cases h1 : k ≤ 64
    · right; right
      simp only [okB, h0, h1, decide_true, Bool.true_and, decide_eq_false_iff_not] at h
      exact ⟨h0, h1, h⟩
    · right; left; omega
  · left; omega
theorem putB_length (L : List Bool) (o : Nat × Int) : (putB L o).length ≤ L.length + 64 := by
  unfold putB
  split
  · rename_i h
    obtain ⟨x, k⟩ := o
    obtain ⟨j, rfl, h1, _⟩ := okB_true h
    rw [List.length_append, bitsTo_length]
    simp only [Int.toNat_natCast]
    omega
  · omega
theorem all_take_succ (l : List (Nat × Int)) (k : Nat) (o : Nat × Int) (h : l[k]? = some o) : all (l.take (k + 1)) = putB (all (l.take k)) o := by
  unfold all
  rw [List.take_add_one, h, List.foldl_append]
  rfl
theorem all_length (l : List (Nat × Int)) (k : Nat) : (all (l.take k)).length ≤ 64 * k := by
  induction k with
  | zero => simp [all]
  | succ k ih =>
    by_cases h : k < l.length
    · rw [all_take_succ l k l[k] (List.getElem?_eq_getElem h)]
      have := putB_length (all (l.take k)) l[k]
      omega
    · rw [List.take_of_length_le (by omega)] at ih ⊢
      omega
end Bt
/-- A Put, told by lists. -/
theorem Put_list (b B : Nat) (L : List Bool) (v : Value) (x : Nat) (k : Int) (w : World) (h : Bd w B b L.length (Bt.num L) v) (hL : L.length + 64 ≤ 4294967296) (hx : x < 18446744073709551616) :
    Calls Tryd.prog 42 #[.pointer (some ⟨b, 0, none⟩), .int .u64 x, .int .i64 k] w fun e w' => e = .returned (.int .i64 (Bt.errB (x, k))) ∧ ∃ v', Bd w' B b (Bt.putB L (x, k)).length (Bt.num (Bt.putB L (x, k))) v' ∧ Kp w w' b v v' := by
  unfold Bt.putB Bt.errB
  by_cases ho : Bt.okB (x, k) = true
  · rw [if_pos ho, if_pos ho]
    obtain ⟨j, rfl, h1, h2⟩ := Bt.okB_true ho
    rw [Int.toNat_natCast, List.length_append, Bt.bitsTo_length, Bt.num_put L x j h2]
    exact Put_ok b _ _ x j B v w h h2 h1 (by omega)
  · rw [if_neg ho, if_neg ho]
    refine (Put_args b _ _ x B k v w h hx (Bt.okB_false (by simpa using ho))).mono ?_
    rintro e w' ⟨he, rfl⟩
    exact ⟨he, v, h, Kp.refl _ _ _⟩
theorem Bit_list (b B : Nat) (L : List Bool) (v : Value) (o : Bool) (w : World) (h : Bd w B b L.length (Bt.num L) v) (hL : L.length + 1 ≤ 4294967296) :
    Calls Tryd.prog 58 #[.pointer (some ⟨b, 0, none⟩), .bool o] w fun e w' => e = .returned (.int .i64 0) ∧ ∃ v', Bd w' B b (L ++ [o]).length (Bt.num (L ++ [o])) v' ∧ Kp w w' b v v' := by
  rw [List.length_append, Bt.num_snoc]
  exact Bit_ok b _ _ B o v w h hL
/-- A slice of Puts that came in. -/
structure Ops (w : World) (u : Value) (l : List (Nat × Int)) : Prop where
  lt : ∀ o ∈ l, o.1 < 18446744073709551616
  cells : ∃ ao cap, u = .slice ao l.length cap ∧ l.length ≤ cap ∧ (0 < l.length → ∃ b off, ao = some ⟨b, off, none⟩ ∧ b < w.heap.size ∧ ∀ i, i < l.length → w.cell? ⟨b, off + i * 2, none⟩ = some (.int .u64 ((l.getD i (0, 0)).1 : Nat)) ∧ w.cell? ⟨b, off + i * 2 + 1, none⟩ = some (.int .i64 (l.getD i (0, 0)).2))
theorem take_next (L : List Bool) (k : Nat) (h : k < L.length) : L.take (k + 1) = L.take k ++ [L.getD k false] := by
  rw [List.take_add_one, List.getElem?_eq_getElem h, List.getD_eq_getElem?_getD, List.getElem?_eq_getElem h]
  rfl
/-- A list of bits, with its cells. -/
theorem Bl.form {w : World} {v : Value} {L : List Bool} (h : Bl w v L) : ∃ ao cap, v = .slice ao L.length cap ∧ L.length ≤ cap ∧ (0 < L.length → ∃ g, ao = some ⟨g, 0, none⟩ ∧ g < w.heap.size ∧ ∀ j, j < L.length → w.cell? ⟨g, j, none⟩ = some (.bool (L.getD j false))) := by
  rcases h.2 with ⟨rfl, h0⟩ | ⟨g, cap, cur, hv, _, hg, hnc, _, hcs, htake⟩
  · exact ⟨none, 0, by rw [h0], by omega, fun hn => by omega⟩
  · refine ⟨some ⟨g, 0, none⟩, cap, hv, hnc, fun _ => ⟨g, rfl, lt_of_block hg, fun j hj => ?_⟩⟩
    have h' := h
    rw [hv] at h'
    rw [World.ownsRow.cellAt (show w.ownsRow 0 4 1 _ _ _ from h') j (by omega)]
    exact Bt.bls_get L j hj
/-- A list of bits behind a slice, wherever it lies. -/
def Bv (w : World) (v : Value) (L : List Bool) : Prop := ∃ ao cap, v = .slice ao L.length cap ∧ L.length ≤ cap ∧ (0 < L.length → ∃ b off, ao = some ⟨b, off, none⟩ ∧ b < w.heap.size ∧ ∀ j, j < L.length → w.cell? ⟨b, off + j, none⟩ = some (.bool (L.getD j false)))
theorem Bl.view {w : World} {v : Value} {L : List Bool} (h : Bl w v L) : Bv w v L := by
  obtain ⟨ao, cap, hv, hc, hf⟩ := h.form
  refine ⟨ao, cap, hv, hc, fun h0 => ?_⟩
  obtain ⟨g, hg, hlt, hcell⟩ := hf h0
  exact ⟨g, 0, hg, hlt, fun j hj => by rw [Nat.zero_add]; exact hcell j hj⟩
end Go.Proofs.YtfohldojcdhnhaaDoor
