/-
  The program is laid out as the reader of arguments wants it: one closed fact.
  A slice of Puts that came in, opened: the list of its numbers, and its cells.
-/
import Derived.Carry
import Derived.ProofKit
import Derived.OpenShut
import Derived.Deep.SlicePairs
import Derived.Test.YtmeclkmmgbndkaaDoorRows
import Derived.Test.YtmeclkmmgbndkaaDoorJBtList
namespace Go.Proofs.YtmeclkmmgbndkaaDoor
theorem Tryd.laidOut : laidOutB Tryd.prog = true := by kernel_rfl
end Go.Proofs.YtmeclkmmgbndkaaDoor
namespace Go.Proofs.YtmeclkmmgbndkaaDoor
open Go.ChangeShapes Go.WideShapes Go.ChangeAt Go.RowKit Go.Deep
theorem Tryd.cellsU64 : Tryd.prog.cellsOf 49 = 1 := by kernel_rfl
theorem Tryd.cellsInt : Tryd.prog.cellsOf 3 = 1 := by kernel_rfl
/-- An address at which a cell lies has no inner place. -/
theorem spot_none {w : World} {a : Addr} {v : Value} (h : w.cell? a = some v) : a.spot = none := by
  unfold World.cell? at h
  split at h
  · split at h
    · cases h
    · rename_i h2
      simpa using h2
  · cases h
theorem add_at (a : Addr) (h : a.spot = none) (n : Nat) : a.add n = ⟨a.block, a.off + n, none⟩ := by
  unfold Addr.add
  split
  · rename_i h0
    subst h0
    cases a
    simp_all
  · rfl
end Go.Proofs.YtmeclkmmgbndkaaDoor
