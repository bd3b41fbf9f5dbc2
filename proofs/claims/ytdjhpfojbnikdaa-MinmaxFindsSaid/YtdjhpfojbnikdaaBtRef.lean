/-
  The contracts of the reference's Put and All of layer 2: for every list of bits and every Put: the list with the bits behind it, in new memory, or the list as it is with ErrArg; nothing that was there is changed.
-/
import Derived.Test.YtdjhpfojbnikdaaBtGet
import Derived.Test.YtdjhpfojbnikdaaWdRef
import Derived.Test.YtdjhpfojbnikdaaLaws
import Derived.BigQuiet
import Derived.Deep.QuietTactic
namespace Go.Proofs.Ytdjhpfojbnikdaa
open Go.RowKit
theorem Try.infoBool : (Try.prog.info? 4).map (fun i => (i.zero, i.size, i.bytes)) = some (some (.bool false), 1, 1) := by kernel_rfl
theorem hidden {p : Prop} (h : p) : Hid p := h
theorem Bl.next {B : Nat} {w' : World} {v : Value} {L : List Bool} {x k : Nat} (h : w'.ownsRow B 4 1 v (L.length + k + 1) (Bt.bls (L ++ Bt.bitsTo x k) ++ [.bool (x.testBit k)])) : w'.ownsRow B 4 1 v (L.length + (k + 1)) (Bt.bls (L ++ Bt.bitsTo x (k + 1))) := by
  rw [Bt.bitsTo_succ, ← List.append_assoc, Bt.bls_append]
  exact h
theorem Bl.of_own {B : Nat} {w : World} {v : Value} {L : List Bool} {x k : Nat} (h : w.ownsRow B 4 1 v (L.length + k) (Bt.bls (L ++ Bt.bitsTo x k))) : Bl w v (L ++ Bt.bitsTo x k) := by
  have h2 := own_base h (Nat.zero_le B)
  rw [show L.length + k = (L ++ Bt.bitsTo x k).length from by rw [List.length_append, Bt.bitsTo_length]] at h2
  exact h2
end Go.Proofs.Ytdjhpfojbnikdaa
