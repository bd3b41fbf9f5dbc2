/-
  What Validate tells of a text, by the machine of JSON texts.
-/
import Derived.Test.YtifkemcjificcaaJsStep
namespace Go.Proofs.Ytifkemcjificcaa
namespace Js
/-- What Validate tells, of a deep that may be. -/
def val (l : List UInt8) (z : Int) : Int × Int :=
  if 65536 < l.length then (4, 0) else match (out c0 l).1 with
    | none => (3, ((out c0 l).2 : Nat))
    | some D => if z < (D : Int) then (2, (D : Nat)) else (1, (D : Nat))
theorem val_long (l : List UInt8) (z : Int) (h : 65536 < l.length) : val l z = (4, 0) := if_pos h
theorem val_no (l : List UInt8) (z : Int) (q : Nat) (h : ¬ 65536 < l.length) (ho : out c0 l = (none, q)) : val l z = (3, (q : Int)) := by
  unfold val
  rw [if_neg h, ho]
theorem val_deep (l : List UInt8) (z : Int) (D : Nat) (h : ¬ 65536 < l.length) (ho : (out c0 l).1 = some D) (hz : z < (D : Int)) : val l z = (2, (D : Int)) := by
  unfold val
  rw [if_neg h, ho]
  exact if_pos hz
theorem val_yes (l : List UInt8) (z : Int) (D : Nat) (h : ¬ 65536 < l.length) (ho : (out c0 l).1 = some D) (hz : ¬ z < (D : Int)) : val l z = (1, (D : Int)) := by
  unfold val
  rw [if_neg h, ho]
  exact if_neg hz
theorem text_end (l : List UInt8) (D j : Nat) (h : l.length = j) : T l (cE [] D) j = (some D, j) := by
  rw [T_end l _ j h]
  rfl
theorem text_no (l : List UInt8) (D j : Nat) (hj : j < l.length) (h : isB (l[j]).toNat = false) : T l (cE [] D) j = (none, j) := by
  refine T_dead l _ j hj ?_
  show stE [] D _ = none
  unfold stE
  rw [h, if_neg Bool.false_ne_true]
  split
  · rfl
  split
  · rfl
  split
  · rfl
  · rfl
end Js
end Go.Proofs.Ytifkemcjificcaa
