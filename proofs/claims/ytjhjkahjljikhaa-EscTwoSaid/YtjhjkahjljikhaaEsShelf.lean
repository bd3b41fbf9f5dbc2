/-
  The contracts of strings.Builder that the program calls (WriteString, WriteByte, String): the library has proved them of any program that holds the same bodies; here they are told of this one.
-/
import Derived.Shelf.Strings.BuilderK
import Derived.RangeFuncOwn
import Derived.Test.YtjhjkahjljikhaaRows
namespace Go.Proofs.Ytjhjkahjljikhaa
open Go.Shelf Go.RowKit
def esRen : Go.Shelf.Ren := ⟨fun | 166 => 20 | 167 => 38 | 169 => 22 | 240 => 31 | 276 => 43 | n => n, fun | 0 => 0 | 3 => 3 | 4 => 4 | 5 => 5 | 9 => 9 | 20 => 20 | 37 => 33 | 70 => 35 | 72 => 37 | 75 => 42 | 80 => 46 | 127 => 57 | 164 => 63 | n => n, fun n => n⟩
theorem es166 : Lays.n166 Try.prog esRen := {
  mixed := by kernel_rfl
  f166 := Try.func20.trans (congrArg some (by kernel_rfl))
  f240 := Try.func31.trans (congrArg some (by kernel_rfl))
  f276 := Try.func43.trans (congrArg some (by kernel_rfl))
  t0 := Try.underlying0
  a0 := Try.isAgg0
  z0 := Try.sizeOf0
  v0 := Try.zeroValue0
  t3 := Try.underlying3
  a3 := Try.isAgg3
  z3 := Try.sizeOf3
  v3 := Try.zeroValue3
  t4 := Try.underlying4
  a4 := Try.isAgg4
  z4 := Try.sizeOf4
  v4 := Try.zeroValue4
  t9 := Try.underlying9
  a9 := Try.isAgg9
  z9 := Try.sizeOf9
  v9 := Try.zeroValue9
  t20 := Try.underlying20
  a20 := Try.isAgg20
  z20 := Try.sizeOf20
  v20 := Try.zeroValue20
  t37 := Try.underlying33
  a37 := Try.isAgg33
  z37 := Try.sizeOf33
  v37 := Try.zeroValue33
  t70 := Try.underlying35
  a70 := Try.isAgg35
  z70 := Try.sizeOf35
  v70 := Try.zeroValue35
  t72 := Try.underlying37
  a72 := Try.isAgg37
  z72 := Try.sizeOf37
  v72 := Try.zeroValue37
  t75 := Try.underlying42
  a75 := Try.isAgg42
  z75 := Try.sizeOf42
  v75 := Try.zeroValue42
  t164 := Try.underlying63
  a164 := Try.isAgg63
  z164 := Try.sizeOf63
  v164 := Try.zeroValue63 }
theorem es167 : Lays.n167 Try.prog esRen := {
  mixed := by kernel_rfl
  f167 := Try.func38.trans (congrArg some (by kernel_rfl))
  f240 := Try.func31.trans (congrArg some (by kernel_rfl))
  f276 := Try.func43.trans (congrArg some (by kernel_rfl))
  t0 := Try.underlying0
  a0 := Try.isAgg0
  z0 := Try.sizeOf0
  v0 := Try.zeroValue0
  t4 := Try.underlying4
  a4 := Try.isAgg4
  z4 := Try.sizeOf4
  v4 := Try.zeroValue4
  t5 := Try.underlying5
  a5 := Try.isAgg5
  z5 := Try.sizeOf5
  v5 := Try.zeroValue5
  t9 := Try.underlying9
  a9 := Try.isAgg9
  z9 := Try.sizeOf9
  v9 := Try.zeroValue9
  t20 := Try.underlying20
  a20 := Try.isAgg20
  z20 := Try.sizeOf20
  v20 := Try.zeroValue20
  t37 := Try.underlying33
  a37 := Try.isAgg33
  z37 := Try.sizeOf33
  v37 := Try.zeroValue33
  t70 := Try.underlying35
  a70 := Try.isAgg35
  z70 := Try.sizeOf35
  v70 := Try.zeroValue35
  t72 := Try.underlying37
  a72 := Try.isAgg37
  z72 := Try.sizeOf37
  v72 := Try.zeroValue37
  t75 := Try.underlying42
  a75 := Try.isAgg42
  z75 := Try.sizeOf42
  v75 := Try.zeroValue42
  t164 := Try.underlying63
  a164 := Try.isAgg63
  z164 := Try.sizeOf63
  v164 := Try.zeroValue63 }
theorem es169 : Lays.n169 Try.prog esRen := {
  mixed := by kernel_rfl
  f169 := Try.func22.trans (congrArg some (by kernel_rfl))
  t0 := Try.underlying0
  a0 := Try.isAgg0
  z0 := Try.sizeOf0
  v0 := Try.zeroValue0
  t3 := Try.underlying3
  a3 := Try.isAgg3
  z3 := Try.sizeOf3
  v3 := Try.zeroValue3
  t9 := Try.underlying9
  a9 := Try.isAgg9
  z9 := Try.sizeOf9
  v9 := Try.zeroValue9
  t37 := Try.underlying33
  a37 := Try.isAgg33
  z37 := Try.sizeOf33
  v37 := Try.zeroValue33
  t70 := Try.underlying35
  a70 := Try.isAgg35
  z70 := Try.sizeOf35
  v70 := Try.zeroValue35
  t72 := Try.underlying37
  a72 := Try.isAgg37
  z72 := Try.sizeOf37
  v72 := Try.zeroValue37
  t127 := Try.underlying57
  a127 := Try.isAgg57
  z127 := Try.sizeOf57
  v127 := Try.zeroValue57 }
theorem esExtra : Builder.Extra Try.prog esRen := {
  sizeBuilder := by kernel_rfl
  liesBuilder := by kernel_rfl
  t5 := Try.underlying5
  a5 := Try.isAgg5
  z5 := Try.sizeOf5
  v5 := Try.zeroValue5
  infoByte := by kernel_rfl
  cellsByte := by kernel_rfl
  sizeByte := by kernel_rfl
  neB5 := by decide }
/-- A builder in block b that holds those bytes, all its memory from block B on. -/
def Eb (B b : Nat) (l : List UInt8) (w : World) : Prop := Lib.IsBuilderF 37 5 B b (Lib.byteCells l) w
/-- What a write keeps: all below B, and all but the builder and rows of bytes. -/
def Ek (B b : Nat) (w w' : World) : Prop := Below B w w' ∧ Lib.OthersKept 5 (some b) w w'
theorem Eb.fresh (B b : Nat) (w : World) (hB : B ≤ b) (h : w.heap[b]? = some (.cells #[.pointer none, .slice none 0 0] 37 (0, 0))) : Eb B b [] w :=
  .inl ⟨hB, .slice none 0 0, h, ⟨rfl, .inl ⟨rfl, rfl⟩⟩, by simp [Value.ownBlock]⟩
theorem Eb.lt {B b : Nat} {l : List UInt8} {w : World} (h : Eb B b l w) : b < w.heap.size := h.elim (fun x => x.lt) (fun x => x.lt)
theorem Eb.cells {B b : Nat} {l : List UInt8} {w : World} (h : Eb B b l w) : ∃ v, w.heap[b]? = some (.cells v 37 (0, 0)) := by
  rcases h with ⟨_, v, hb, _⟩ | ⟨_, v, hb, _⟩
  · exact ⟨_, hb⟩
  · exact ⟨_, hb⟩
/-- A builder stays one where all cells stay. -/
theorem Eb.same {B b : Nat} {l : List UInt8} {w w' : World} (h : Eb B b l w) (hs : ∀ (k : Nat) (o : Obj), w.heap[k]? = some o → o.isCells = true → w'.heap[k]? = some o) : Eb B b l w' := by
  have own : ∀ v, w.ownsRowF B 5 1 v (Lib.byteCells l).length (Lib.byteCells l) → w'.ownsRowF B 5 1 v (Lib.byteCells l).length (Lib.byteCells l) := by
    rintro v ⟨h1, h2⟩
    refine ⟨h1, h2.imp id ?_⟩
    rintro ⟨g, cap, cur, fz, hv, hB, hg, rest⟩
    exact ⟨g, cap, cur, fz, hv, hB, hs g _ hg rfl, rest⟩
  rcases h with ⟨hB, v, hb, ho, hne⟩ | ⟨hB, v, hb, ho, hne⟩
  · exact .inl ⟨hB, v, hs b _ hb rfl, own v ho, hne⟩
  · exact .inr ⟨hB, v, hs b _ hb rfl, own v ho, hne⟩
theorem Eb.below {B b : Nat} {l : List UInt8} {w w' : World} (h : Eb B b l w) (hb : Below w.heap.size w w') : Eb B b l w' :=
  h.same fun k _ hk _ => (hb.block k (Array.getElem?_eq_some_iff.1 hk).1).trans hk
theorem Eb.kept {B b : Nat} {l : List UInt8} {w w' : World} {row : Option Nat} (h : Eb B b l w) (hg : w.grownBy w' row) (hr : ∀ r, row = some r → ∃ o : Obj, w.heap[r]? = some o ∧ o.isCells = false) : Eb B b l w' :=
  h.same fun _ _ hk hc => (grownBy_keeps_cells hg hr hk hc).trans hk
theorem Ek.others {B b : Nat} {w w' : World} {l : List UInt8} (h : Ek B b w w') (hb : Eb B b l w) : KeepsOthers w w' := by
  refine ⟨h.1.size, fun k o hk ho => h.2 k o hk (fun e => ?_) (fun c fz e => ?_)⟩
  · obtain ⟨v, hv⟩ := hb.cells
    rw [Option.some.inj e] at hk
    rw [hk] at hv
    rw [Option.some.inj hv] at ho
    cases ho
  · rw [e] at ho
    cases ho
theorem keeps_below {w w' : World} (h : Below w.heap.size w w') : KeepsOthers w w' :=
  ⟨h.size, fun k _ hk _ => (h.block k (Array.getElem?_eq_some_iff.1 hk).1).trans hk⟩
theorem kWriteS (B b : Nat) (l m : List UInt8) (s : ByteArray) (w : World) (h : Eb B b l w) (hs : s.data.toList = m) (hlen : l.length + m.length ≤ 140737488355328) (hBw : B ≤ w.heap.size) :
    Calls Try.prog 20 #[.pointer (some ⟨b, 0, none⟩), .string s] w fun e w' => e = .returned (.tuple #[.int .i64 m.length, .nilIface]) ∧ Eb B b (l ++ m) w' ∧ Ek B b w w' := by
  subst hs
  refine (Any.Builder_WriteString_k es166 esExtra B b (Lib.byteCells l) s w h (by rw [Lib.byteCells_length]; exact hlen) hBw).mono fun _ _ h => ⟨h.1, ?_, h.2.2.1, h.2.2.2⟩
  have := h.2.1
  show Lib.IsBuilderF _ _ _ _ _ _
  rw [Lib.byteCells_append]
  exact .inr this
theorem kWriteB (B b : Nat) (l : List UInt8) (c : UInt8) (z : Int) (w : World) (h : Eb B b l w) (hz : z = (c.toNat : Int)) (hlen : l.length + 1 ≤ 140737488355328) (hBw : B ≤ w.heap.size) :
    Calls Try.prog 38 #[.pointer (some ⟨b, 0, none⟩), .int .u8 z] w fun e w' => e = .returned .nilIface ∧ Eb B b (l ++ [c]) w' ∧ Ek B b w w' := by
  subst hz
  refine (Any.Builder_WriteByte_k es167 esExtra B b (Lib.byteCells l) (c.toNat : Int) w h (by rw [Lib.byteCells_length]; exact hlen) hBw).mono fun _ _ h => ⟨h.1, ?_, h.2.2.1, h.2.2.2⟩
  have := h.2.1
  show Lib.IsBuilderF _ _ _ _ _ _
  rw [Lib.byteCells_append]
  exact .inr this
theorem kString (B b : Nat) (l : List UInt8) (w : World) (h : Eb B b l w) (hBw : B ≤ w.heap.size) :
    Calls Try.prog 22 #[.pointer (some ⟨b, 0, none⟩)] w fun e w' => e = .returned (.string ⟨l.toArray⟩) ∧ Eb B b l w' ∧ Ek B b w w' :=
  (Any.Builder_String_any_k es169 esExtra B b l w h hBw).mono fun _ _ h => ⟨h.1, h.2.1, h.2.2.1, h.2.2.2⟩
end Go.Proofs.Ytjhjkahjljikhaa
