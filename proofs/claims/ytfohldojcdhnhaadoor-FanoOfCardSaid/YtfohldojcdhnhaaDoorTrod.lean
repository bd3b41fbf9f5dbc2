/-
  The program is laid out as the reader of arguments wants it: one closed fact.
-/
import Derived.Test.YtfohldojcdhnhaaDoorRows
import Derived.Carry
namespace Go.Proofs.YtfohldojcdhnhaaDoor
theorem Tryd.laidOut : laidOutB Tryd.prog = true := by kernel_rfl
end Go.Proofs.YtfohldojcdhnhaaDoor
