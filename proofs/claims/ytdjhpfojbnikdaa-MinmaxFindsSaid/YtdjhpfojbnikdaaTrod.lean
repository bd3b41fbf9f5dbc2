/-
  The program is laid out as the reader of arguments wants it: one closed fact.
-/
import Derived.Test.YtdjhpfojbnikdaaRows
import Derived.Carry
namespace Go.Proofs.Ytdjhpfojbnikdaa
theorem Try.laidOut : laidOutB Try.prog = true := by kernel_rfl
end Go.Proofs.Ytdjhpfojbnikdaa
