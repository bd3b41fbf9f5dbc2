/-
  The program is laid out as the reader of arguments wants it: one closed fact.
-/
import Derived.Test.YtdphkenpjndklaaRows
import Derived.Carry
namespace Go.Proofs.Ytdphkenpjndklaa
theorem Try.laidOut : laidOutB Try.prog = true := by kernel_rfl
end Go.Proofs.Ytdphkenpjndklaa
