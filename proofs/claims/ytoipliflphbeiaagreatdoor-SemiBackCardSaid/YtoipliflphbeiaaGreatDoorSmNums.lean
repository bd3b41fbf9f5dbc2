/-
  What an index tells, over letters: how many marks, where each stands, how many nodes.
-/
import Derived.Test.YtoipliflphbeiaaGreatDoorSmMake
namespace Go.Proofs.YtoipliflphbeiaaGreatDoor
open Go.RowKit
/-- So many marks, there, and so many nodes. -/
structure SmNums (w : World) (p : Addr) (n : Nat) (f : Nat → Nat) (o : Nat) : Prop where
  marks : ∀ w', Below w.heap.size w w' → Calls Tryz.prog 17 #[.pointer (some p)] w' fun e w'' => e = .returned (.int .i64 (n : Nat)) ∧ Below w'.heap.size w' w''
  mark : ∀ w' (i : Nat), Below w.heap.size w w' → i < n → Calls Tryz.prog 18 #[.pointer (some p), .int .i64 (i : Nat)] w' fun e w'' => e = .returned (.tuple #[.int .i64 (f i : Nat), .int .i64 0]) ∧ Below w'.heap.size w' w''
  nest : ∀ w', Below w.heap.size w w' → Calls Tryz.prog 22 #[.pointer (some p)] w' fun e w'' => (∃ z, e = .returned (.pointer (some ⟨z, 0, none⟩)) ∧ Hid (∀ v, Below w''.heap.size w'' v → Calls Tryz.prog 23 #[.pointer (some ⟨z, 0, none⟩)] v fun e v' => e = .returned (.int .i64 (o : Nat)) ∧ Below v.heap.size v v')) ∧ Below w'.heap.size w' w''
theorem SmIx.nums {w : World} {p : Addr} {s : ByteArray} (h : SmIx w p s) : ∃ n f o, n = (Sm.P s.data.toList).length ∧ (∀ i, f i = (Sm.P s.data.toList).getD i 0) ∧ o = Mk.on (Sm.B s.data.toList) ∧ n ≤ s.size ∧ (∀ i, i < n → f i < s.size) ∧ o ≤ 2 * n ∧ SmNums w p n f o := by
  refine ⟨_, _, _, rfl, fun _ => rfl, rfl, Sm.len_le _, fun i hi => Sm.P_lt _ i hi, ?_, ⟨h.marks, h.mark, ?_⟩⟩
  · rw [← Sm.B_len]
    exact List.length_filter_le _ _
  · intro w' hw'
    refine (h.nest w' hw').mono ?_
    rintro e w'' ⟨⟨z, k, rfl, hz⟩, hb⟩
    refine ⟨⟨z, rfl, hidden fun v hv => ?_⟩, hb⟩
    refine (Nodes_any z _ _ k v (hz.below hv (Nat.le_refl _))).mono ?_
    rintro e v' ⟨rfl, m, rfl⟩
    rw [Sm.on_num]
    exact ⟨rfl, below_drewN (Below.refl _ _) m⟩
end Go.Proofs.YtoipliflphbeiaaGreatDoor
