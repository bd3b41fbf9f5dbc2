/-
  The contracts of package utf's width, head and Put: for every number; nothing that was there is changed.
-/
import Derived.Laws.IdiomStrings
import Derived.Laws.MakeOwn
import Derived.Lib.Builder
import Derived.Test.YtifkemcjificcaaUtScalar
namespace Go.Proofs.Ytifkemcjificcaa
open Go.RowKit
theorem Try.infoU8 : (Try.prog.info? 5).map (fun i => (i.zero, i.size, i.bytes)) = some (some (.int .u8 0), 1, 1) := by kernel_rfl
theorem Below.drewN' {B : Nat} {a w : World} (h : Below B a w) (n : Nat) : Below B a (w.drewN n) := ⟨h.os, h.tape, h.output, h.size, h.block⟩
theorem uheap_new_at {w : World} {o : Obj} {k : Nat} (hk : k = w.heap.size) : (w.alloc o).heap[k]? = some o := by
  subst hk
  exact heap_alloc_new _ _
theorem usetCell_heap_same (w : World) (g j : Nat) (cur : Array Value) (e : TypeId) (fr : Nat × Nat) (u : Value) (h : w.heap[g]? = some (.cells cur e fr)) : (w.setCell ⟨g, j, none⟩ u).heap[g]? = some (.cells (cur.setIfInBounds j u) e fr) := by
  simp [World.setCell, Array.getElem?_modify, h]
namespace Ut
/-- Bytes as cells. -/
def bc (l : List UInt8) : List Value := l.map fun b => .int .u8 (b.toNat : Int)
theorem bc_length (l : List UInt8) : (bc l).length = l.length := List.length_map ..
/-- The bytes of any number. -/
def encz (c : Int) : List UInt8 := if c < 0 then [] else enc c.toNat
theorem encz_nat (c : Nat) : encz (c : Int) = enc c := by
  unfold encz
  rw [if_neg (by omega)]
  rfl
/-- How many bytes any number has. -/
def widz (c : Int) : Nat := if c < 0 ∨ 55296 ≤ c ∧ c < 57344 ∨ 1114111 < c then 0 else wid c.toNat
theorem widz_sc (c : Nat) (h : Sc c) : widz (c : Int) = wid c := by
  have h1 := h.1
  have h2 := h.2
  unfold widz
  rw [if_neg (by omega)]
  rfl
theorem widz_none (c : Int) (h : widz c = 0) : encz c = [] := by
  unfold widz at h
  unfold encz
  split at h
  · rename_i h1
    split
    · rfl
    · refine enc_none _ (fun h2 => ?_)
      have := h2.1
      have := h2.2
      omega
  · have := wid_pos c.toNat
    omega
theorem widz_some (c : Int) (h : widz c ≠ 0) : ∃ d : Nat, c = d ∧ Sc d := by
  unfold widz at h
  split at h
  · exact absurd rfl h
  · refine ⟨c.toNat, by omega, ?_, ?_⟩ <;> omega
end Ut
end Go.Proofs.Ytifkemcjificcaa
