/-
  Which bytes are some index's: of a sequence, and of a balanced row; a record's are. Of no program.
-/
import Derived.Test.YtoipliflphbeiaaGreatDoorC06
import Derived.Test.YtoipliflphbeiaaGreatDoorJFnRefR
namespace Go.Proofs.YtoipliflphbeiaaGreatDoor
namespace Sm
/-- The bytes of a sequence with eight bytes ahead of them, and behind them those of a balanced row. -/
def nB (t : List UInt8) : Nat := Bt.numB (t.take 8)
def seqT (t : List UInt8) : List UInt8 := (t.drop 8).take (nB t)
def rowT (t : List UInt8) : List UInt8 := t.drop (8 + nB t)
def Cut (t : List UInt8) : Prop := 8 ≤ t.length ∧ nB t ≤ t.length - 8
def Row (t : List UInt8) : Prop := ∃ m X, Bt.ofB t = some (m, X) ∧ Pn.bal X m = true
def Form (t : List UInt8) : Prop := Cut t ∧ Fn.IsOf (seqT t) ∧ Row (rowT t)
theorem ix_parts (l : List UInt8) (hl : l.length ≤ 65536) : Cut (ixB l) ∧ seqT (ixB l) = seqB l ∧ rowT (ixB l) = bitB l := by
  have h8 : (Bt.eightB (seqB l).length).length = 8 := Bt.eightB_length _
  have hs := seqB_len l hl
  have h1 : (ixB l).take 8 = Bt.eightB (seqB l).length := by
    unfold ixB
    rw [List.take_append_of_le_length (by omega), List.take_of_length_le (by omega)]
  have h2 : nB (ixB l) = (seqB l).length := by
    unfold nB
    rw [h1, Bt.numB_eight _ (by omega)]
  have h3 : (ixB l).drop 8 = seqB l ++ bitB l := by
    unfold ixB
    rw [List.drop_append, List.drop_of_length_le (by omega), h8]
    rfl
  have h4 : (ixB l).length = 8 + ((seqB l).length + (bitB l).length) := by
    unfold ixB
    rw [List.length_append, List.length_append, h8]
  refine ⟨⟨by omega, by omega⟩, ?_, ?_⟩
  · unfold seqT
    rw [h2, h3, List.take_append_of_le_length (Nat.le_refl _), List.take_length]
  · unfold rowT
    rw [h2, ← List.drop_drop, h3, List.drop_append, List.drop_length, Nat.sub_self]
    rfl
theorem seq_is (l : List UInt8) (hl : l.length ≤ 65536) : Fn.IsOf (seqB l) := by
  have h := ok l hl
  refine ⟨_, _, P l, bd l, Bt.ofB_row _ _ ?_ (Bt.num_lt _), Fn.Reads.of h⟩
  rw [h.all_length]
  have := fit l hl
  omega
theorem row_is {l : List UInt8} (h : er l = 0) : Row (bitB l) := by
  refine ⟨_, _, Bt.ofB_row _ _ ?_ (Bt.num_lt _), bal h⟩
  rw [B_len]
  have := (er_zero h).1
  have := len_le l
  omega
theorem form_ix {l : List UInt8} (h : er l = 0) : Form (ixB l) := by
  have hl := (er_zero h).1
  obtain ⟨h1, h2, h3⟩ := ix_parts l hl
  exact ⟨h1, by rw [h2]; exact seq_is l hl, by rw [h3]; exact row_is h⟩
end Sm
end Go.Proofs.YtoipliflphbeiaaGreatDoor
