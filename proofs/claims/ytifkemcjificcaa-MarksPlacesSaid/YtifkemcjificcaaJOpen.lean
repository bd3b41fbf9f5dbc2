/-
  The program is laid out as the reader of arguments wants it: one closed fact.
-/
import Derived.Carry
import Derived.Test.YtifkemcjificcaaRows
namespace Go.Proofs.Ytifkemcjificcaa
theorem Try.laidOut : laidOutB Try.prog = true := by kernel_rfl
end Go.Proofs.Ytifkemcjificcaa
