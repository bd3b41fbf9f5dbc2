/-
  The contracts of package utf's Step, and of what it calls: the state behind a byte; nothing in memory is changed.
-/
import Derived.WalkKit
import Derived.WalkSpells
import Derived.WalkLawsBesides
import Derived.Test.YtifkemcjificcaaRet
import Derived.Test.YtifkemcjificcaaUtSc
namespace Go.Proofs.Ytifkemcjificcaa
open Go.RowKit
end Go.Proofs.Ytifkemcjificcaa
