/-
  The contracts of package utf's walk, Live, Right and leading: for every string; nothing in memory is changed.
-/
import Derived.Test.YtifkemcjificcaaRet
import Derived.Test.YtifkemcjificcaaUtStep
namespace Go.Proofs.Ytifkemcjificcaa
open Go.RowKit
theorem utake_next (s : ByteArray) (q k : Nat) (h : k < s.size) : Ut.run q (s.data.toList.take (k + 1)) = Ut.st (Ut.run q (s.data.toList.take k)) (s[k]).toNat := Ut.run_take_succ q s.data.toList k h
theorem take_all (s : ByteArray) : s.data.toList.take s.size = s.data.toList := List.take_length
end Go.Proofs.Ytifkemcjificcaa
