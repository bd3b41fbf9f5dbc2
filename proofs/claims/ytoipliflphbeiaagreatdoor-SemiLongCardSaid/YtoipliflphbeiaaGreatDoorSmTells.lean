/-
  What an index of a record tells, in every world that has but grown; what Make and Load hand back.
-/
import Derived.Test.YtoipliflphbeiaaGreatDoorC06
import Derived.Test.YtoipliflphbeiaaGreatDoorNsAsk
namespace Go.Proofs.YtoipliflphbeiaaGreatDoor
open Go.RowKit
/-- What the index at p tells of the record s, from the world w on. -/
structure SmIx (w : World) (p : Addr) (s : ByteArray) : Prop where
  er : Sm.er s.data.toList = 0
  text : ∀ w', Below w.heap.size w w' → Calls Tryz.prog 27 #[.pointer (some p)] w' fun e w'' => e = .returned (.string s) ∧ Below w'.heap.size w' w''
  marks : ∀ w', Below w.heap.size w w' → Calls Tryz.prog 17 #[.pointer (some p)] w' fun e w'' => e = .returned (.int .i64 ((Sm.P s.data.toList).length : Nat)) ∧ Below w'.heap.size w' w''
  mark : ∀ w' (i : Nat), Below w.heap.size w w' → i < (Sm.P s.data.toList).length → Calls Tryz.prog 18 #[.pointer (some p), .int .i64 (i : Nat)] w' fun e w'' => e = .returned (.tuple #[.int .i64 ((Sm.P s.data.toList).getD i 0 : Nat), .int .i64 0]) ∧ Below w'.heap.size w' w''
  markno : ∀ w' (i : Int), Below w.heap.size w w' → (i < 0 ∨ ((Sm.P s.data.toList).length : Int) ≤ i) → Calls Tryz.prog 18 #[.pointer (some p), .int .i64 i] w' fun e w'' => (∃ y, e = .returned (.tuple #[.int .i64 y, .int .i64 2])) ∧ Below w'.heap.size w' w''
  under : ∀ w' (a : Int), Below w.heap.size w w' → Calls Tryz.prog 19 #[.pointer (some p), .int .i64 a] w' fun e w'' => e = .returned (.int .i64 (Fn.less (Sm.P s.data.toList) a : Nat)) ∧ Below w'.heap.size w' w''
  nest : ∀ w', Below w.heap.size w w' → Calls Tryz.prog 22 #[.pointer (some p)] w' fun e w'' => (∃ z k, e = .returned (.pointer (some ⟨z, 0, none⟩)) ∧ Nt w'' z (Sm.B s.data.toList).length (Bt.num (Sm.B s.data.toList)) k) ∧ Below w'.heap.size w' w''
  bytes : ∀ w', Below w.heap.size w w' → Calls Tryz.prog 16 #[.pointer (some p)] w' fun e w'' => e = .returned (.string ⟨(Sm.ixB s.data.toList).toArray⟩) ∧ Below w'.heap.size w' w''
  size : ∀ w', Below w.heap.size w w' → Calls Tryz.prog 20 #[.pointer (some p)] w' fun e w'' => (∃ z : Nat, e = .returned (.int .i64 (z : Nat)) ∧ ∀ W, ((Sm.P s.data.toList).length = 0 ∨ s.size ≤ (Sm.P s.data.toList).length * 2 ^ W) → z ≤ 4 * (Sm.P s.data.toList).length + (Sm.P s.data.toList).length * W + 10 * (Sm.P s.data.toList).length + 8192) ∧ Below w'.heap.size w' w''
namespace Sm
theorem after {B : Nat} {w w' w'' : World} (h : Below B w w') (hb : Below w'.heap.size w' w'') (hB : B ≤ w'.heap.size) : Below B w w'' := h.trans (hb.mono hB)
/-- Memory that has but grown, and grew again. -/
theorem on2 {w w' w'' : World} (h : Below w.heap.size w w') (hb : Below w'.heap.size w' w'') : Below w.heap.size w w'' := h.trans (hb.mono h.size)
end Sm
theorem SmIx.later {w w' : World} {p : Addr} {s : ByteArray} (h : SmIx w p s) (hb : Below w.heap.size w w') : SmIx w' p s where
  er := h.er
  text := fun v hv => h.text v (Sm.on2 hb hv)
  marks := fun v hv => h.marks v (Sm.on2 hb hv)
  mark := fun v i hv => h.mark v i (Sm.on2 hb hv)
  markno := fun v i hv => h.markno v i (Sm.on2 hb hv)
  under := fun v a hv => h.under v a (Sm.on2 hb hv)
  nest := fun v hv => h.nest v (Sm.on2 hb hv)
  bytes := fun v hv => h.bytes v (Sm.on2 hb hv)
  size := fun v hv => h.size v (Sm.on2 hb hv)
theorem SmIx.small {w : World} {p : Addr} {s : ByteArray} (h : SmIx w p s) : s.size ≤ 65536 := (Sm.er_zero h.er).1
theorem SmIx.few {w : World} {p : Addr} {s : ByteArray} (h : SmIx w p s) : (Sm.P s.data.toList).length ≤ 65536 := Nat.le_trans (Sm.len_le _) h.small
/-- What Make hands back. -/
def SmMade (s : ByteArray) (e : Ending) (w' : World) : Prop := (Sm.er s.data.toList ≠ 0 ∧ e = .returned (.tuple #[.pointer none, .int .i64 (Sm.er s.data.toList)])) ∨ (Sm.er s.data.toList = 0 ∧ ∃ p, e = .returned (.tuple #[.pointer (some p), .int .i64 0]) ∧ SmIx w' p s)
end Go.Proofs.YtoipliflphbeiaaGreatDoor
