/-
  The contracts of strings.Builder that the program calls (WriteString, WriteByte, String): the library has proved them of any program that holds the same bodies; here they are told of this one.
-/
import Derived.Shelf.Strings.BuilderK
import Derived.RangeFuncOwn
import Derived.Test.YtoipliflphbeiaaGreatDoorRows
namespace Go.Proofs.YtoipliflphbeiaaGreatDoor
open Go.Shelf Go.RowKit
def esRen : Go.Shelf.Ren := ⟨fun | 166 => 45 | 167 => 77 | 169 => 46 | 240 => 75 | 276 => 109 | n => n, fun | 0 => 0 | 3 => 3 | 4 => 4 | 5 => 5 | 9 => 9 | 20 => 20 | 37 => 38 | 70 => 71 | 72 => 73 | 75 => 77 | 80 => 36 | 127 => 121 | 164 => 151 | n => n, fun n => n⟩
theorem es166 : Lays.n166 Tryz.prog esRen := {
  mixed := by kernel_rfl
  f166 := Tryz.func45.trans (congrArg some (by kernel_rfl))
  f240 := Tryz.func75.trans (congrArg some (by kernel_rfl))
  f276 := Tryz.func109.trans (congrArg some (by kernel_rfl))
  t0 := Tryz.underlying0
  a0 := Tryz.isAgg0
  z0 := Tryz.sizeOf0
  v0 := Tryz.zeroValue0
  t3 := Tryz.underlying3
  a3 := Tryz.isAgg3
  z3 := Tryz.sizeOf3
  v3 := Tryz.zeroValue3
  t4 := Tryz.underlying4
  a4 := Tryz.isAgg4
  z4 := Tryz.sizeOf4
  v4 := Tryz.zeroValue4
  t9 := Tryz.underlying9
  a9 := Tryz.isAgg9
  z9 := Tryz.sizeOf9
  v9 := Tryz.zeroValue9
  t20 := Tryz.underlying20
  a20 := Tryz.isAgg20
  z20 := Tryz.sizeOf20
  v20 := Tryz.zeroValue20
  t37 := Tryz.underlying38
  a37 := Tryz.isAgg38
  z37 := Tryz.sizeOf38
  v37 := Tryz.zeroValue38
  t70 := Tryz.underlying71
  a70 := Tryz.isAgg71
  z70 := Tryz.sizeOf71
  v70 := Tryz.zeroValue71
  t72 := Tryz.underlying73
  a72 := Tryz.isAgg73
  z72 := Tryz.sizeOf73
  v72 := Tryz.zeroValue73
  t75 := Tryz.underlying77
  a75 := Tryz.isAgg77
  z75 := Tryz.sizeOf77
  v75 := Tryz.zeroValue77
  t164 := Tryz.underlying151
  a164 := Tryz.isAgg151
  z164 := Tryz.sizeOf151
  v164 := Tryz.zeroValue151 }
theorem es167 : Lays.n167 Tryz.prog esRen := {
  mixed := by kernel_rfl
  f167 := Tryz.func77.trans (congrArg some (by kernel_rfl))
  f240 := Tryz.func75.trans (congrArg some (by kernel_rfl))
  f276 := Tryz.func109.trans (congrArg some (by kernel_rfl))
  t0 := Tryz.underlying0
  a0 := Tryz.isAgg0
  z0 := Tryz.sizeOf0
  v0 := Tryz.zeroValue0
  t4 := Tryz.underlying4
  a4 := Tryz.isAgg4
  z4 := Tryz.sizeOf4
  v4 := Tryz.zeroValue4
  t5 := Tryz.underlying5
  a5 := Tryz.isAgg5
  z5 := Tryz.sizeOf5
  v5 := Tryz.zeroValue5
  t9 := Tryz.underlying9
  a9 := Tryz.isAgg9
  z9 := Tryz.sizeOf9
  v9 := Tryz.zeroValue9
  t20 := Tryz.underlying20
  a20 := Tryz.isAgg20
  z20 := Tryz.sizeOf20
  v20 := Tryz.zeroValue20
  t37 := Tryz.underlying38
  a37 := Tryz.isAgg38
  z37 := Tryz.sizeOf38
  v37 := Tryz.zeroValue38
  t70 := Tryz.underlying71
  a70 := Tryz.isAgg71
  z70 := Tryz.sizeOf71
  v70 := Tryz.zeroValue71
  t72 := Tryz.underlying73
  a72 := Tryz.isAgg73
  z72 := Tryz.sizeOf73
  v72 := Tryz.zeroValue73
  t75 := Tryz.underlying77
  a75 := Tryz.isAgg77
  z75 := Tryz.sizeOf77
  v75 := Tryz.zeroValue77
  t164 := Tryz.underlying151
  a164 := Tryz.isAgg151
  z164 := Tryz.sizeOf151
  v164 := Tryz.zeroValue151 }
theorem es169 : Lays.n169 Tryz.prog esRen := {
  mixed := by kernel_rfl
  f169 := Tryz.func46.trans (congrArg some (by kernel_rfl))
  t0 := Tryz.underlying0
  a0 := Tryz.isAgg0
  z0 := Tryz.sizeOf0
  v0 := Tryz.zeroValue0
  t3 := Tryz.underlying3
  a3 := Tryz.isAgg3
  z3 := Tryz.sizeOf3
  v3 := Tryz.zeroValue3
  t9 := Tryz.underlying9
  a9 := Tryz.isAgg9
  z9 := Tryz.sizeOf9
  v9 := Tryz.zeroValue9
  t37 := Tryz.underlying38
  a37 := Tryz.isAgg38
  z37 := Tryz.sizeOf38
  v37 := Tryz.zeroValue38
  t70 := Tryz.underlying71
  a70 := Tryz.isAgg71
  z70 := Tryz.sizeOf71
  v70 := Tryz.zeroValue71
  t72 := Tryz.underlying73
  a72 := Tryz.isAgg73
  z72 := Tryz.sizeOf73
  v72 := Tryz.zeroValue73
  t127 := Tryz.underlying121
  a127 := Tryz.isAgg121
  z127 := Tryz.sizeOf121
  v127 := Tryz.zeroValue121 }
theorem esExtra : Builder.Extra Tryz.prog esRen := {
  sizeBuilder := by kernel_rfl
  liesBuilder := by kernel_rfl
  t5 := Tryz.underlying5
  a5 := Tryz.isAgg5
  z5 := Tryz.sizeOf5
  v5 := Tryz.zeroValue5
  infoByte := by kernel_rfl
  cellsByte := by kernel_rfl
  sizeByte := by kernel_rfl
  neB5 := by decide }
/-- A builder in block b that holds those bytes, all its memory from block B on. -/
def Eb (B b : Nat) (l : List UInt8) (w : World) : Prop := Lib.IsBuilderF 73 5 B b (Lib.byteCells l) w
/-- What a write keeps: all below B, and all but the builder and rows of bytes. -/
def Ek (B b : Nat) (w w' : World) : Prop := Below B w w' ∧ Lib.OthersKept 5 (some b) w w'
theorem Eb.lt {B b : Nat} {l : List UInt8} {w : World} (h : Eb B b l w) : b < w.heap.size := h.elim (fun x => x.lt) (fun x => x.lt)
theorem Eb.cells {B b : Nat} {l : List UInt8} {w : World} (h : Eb B b l w) : ∃ v, w.heap[b]? = some (.cells v 73 (0, 0)) := by
  rcases h with ⟨_, v, hb, _⟩ | ⟨_, v, hb, _⟩
  · exact ⟨_, hb⟩
  · exact ⟨_, hb⟩
/-- A builder stays one where all cells stay. -/
theorem Eb.same {B b : Nat} {l : List UInt8} {w w' : World} (h : Eb B b l w) (hs : ∀ (k : Nat) (o : Obj), w.heap[k]? = some o → o.isCells = true → w'.heap[k]? = some o) : Eb B b l w' := by
  have own : ∀ v, w.ownsRowF B 5 1 v (Lib.byteCells l).length (Lib.byteCells l) → w'.ownsRowF B 5 1 v (Lib.byteCells l).length (Lib.byteCells l) := by
    rintro v ⟨h1, h2⟩
    refine ⟨h1, h2.imp id ?_⟩
    rintro ⟨g, cap, cur, fz, hv, hB, hg, rest⟩
    exact ⟨g, cap, cur, fz, hv, hB, hs g _ hg rfl, rest⟩
  rcases h with ⟨hB, v, hb, ho, hne⟩ | ⟨hB, v, hb, ho, hne⟩
  · exact .inl ⟨hB, v, hs b _ hb rfl, own v ho, hne⟩
  · exact .inr ⟨hB, v, hs b _ hb rfl, own v ho, hne⟩
theorem Eb.below {B b : Nat} {l : List UInt8} {w w' : World} (h : Eb B b l w) (hb : Below w.heap.size w w') : Eb B b l w' :=
  h.same fun k _ hk _ => (hb.block k (Array.getElem?_eq_some_iff.1 hk).1).trans hk
theorem Eb.kept {B b : Nat} {l : List UInt8} {w w' : World} {row : Option Nat} (h : Eb B b l w) (hg : w.grownBy w' row) (hr : ∀ r, row = some r → ∃ o : Obj, w.heap[r]? = some o ∧ o.isCells = false) : Eb B b l w' :=
  h.same fun _ _ hk hc => (grownBy_keeps_cells hg hr hk hc).trans hk
theorem kWriteS (B b : Nat) (l m : List UInt8) (s : ByteArray) (w : World) (h : Eb B b l w) (hs : s.data.toList = m) (hlen : l.length + m.length ≤ 140737488355328) (hBw : B ≤ w.heap.size) :
    Calls Tryz.prog 45 #[.pointer (some ⟨b, 0, none⟩), .string s] w fun e w' => e = .returned (.tuple #[.int .i64 m.length, .nilIface]) ∧ Eb B b (l ++ m) w' ∧ Ek B b w w' := by
  subst hs
  refine (Any.Builder_WriteString_k es166 esExtra B b (Lib.byteCells l) s w h (by rw [Lib.byteCells_length]; exact hlen) hBw).mono fun _ _ h => ⟨h.1, ?_, h.2.2.1, h.2.2.2⟩
  have := h.2.1
  show Lib.IsBuilderF _ _ _ _ _ _
  rw [Lib.byteCells_append]
  exact .inr this
theorem kWriteB (B b : Nat) (l : List UInt8) (c : UInt8) (z : Int) (w : World) (h : Eb B b l w) (hz : z = (c.toNat : Int)) (hlen : l.length + 1 ≤ 140737488355328) (hBw : B ≤ w.heap.size) :
    Calls Tryz.prog 77 #[.pointer (some ⟨b, 0, none⟩), .int .u8 z] w fun e w' => e = .returned .nilIface ∧ Eb B b (l ++ [c]) w' ∧ Ek B b w w' := by
  subst hz
  refine (Any.Builder_WriteByte_k es167 esExtra B b (Lib.byteCells l) (c.toNat : Int) w h (by rw [Lib.byteCells_length]; exact hlen) hBw).mono fun _ _ h => ⟨h.1, ?_, h.2.2.1, h.2.2.2⟩
  have := h.2.1
  show Lib.IsBuilderF _ _ _ _ _ _
  rw [Lib.byteCells_append]
  exact .inr this
theorem kString (B b : Nat) (l : List UInt8) (w : World) (h : Eb B b l w) (hBw : B ≤ w.heap.size) :
    Calls Tryz.prog 46 #[.pointer (some ⟨b, 0, none⟩)] w fun e w' => e = .returned (.string ⟨l.toArray⟩) ∧ Eb B b l w' ∧ Ek B b w w' :=
  (Any.Builder_String_any_k es169 esExtra B b l w h hBw).mono fun _ _ h => ⟨h.1, h.2.1, h.2.2.1, h.2.2.2⟩
end Go.Proofs.YtoipliflphbeiaaGreatDoor
