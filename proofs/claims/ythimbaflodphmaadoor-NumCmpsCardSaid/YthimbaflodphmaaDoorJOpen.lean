/-
  The program is laid out as the reader of arguments wants it: one closed fact.
-/
import Derived.Carry
import Derived.Test.YthimbaflodphmaaDoorRows
namespace Go.Proofs.YthimbaflodphmaaDoor
theorem Tryd.laidOut : laidOutB Tryd.prog = true := by kernel_rfl
end Go.Proofs.YthimbaflodphmaaDoor
