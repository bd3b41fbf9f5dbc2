/-
  The contracts of a nest's New, opens, closes, start, Close, Open, Parent, First, Next, Prev, Depth, Rank, Node and Nodes.
-/
import Derived.Test.YtoipliflphbeiaaGreatDoorJNsMath
import Derived.Test.YtoipliflphbeiaaGreatDoorJMx
import Derived.Test.YtoipliflphbeiaaGreatDoorJCk
namespace Go.Proofs.YtoipliflphbeiaaGreatDoor
open Go.RowKit
/-- Where a nest's parts lie. -/
structure NK where
  t : Nat
  r : Nat
  m : Nat
  c : Nat
  d : Nat
  g : Nat
  b0 : Nat
  b1 : Nat
  u : Value
  gs : Nat → Nat
/-- A nest in block z. -/
structure Nt (w : World) (z n X : Nat) (k : NK) : Prop where
  tree : Tr w k.t k.r n X k.u k.gs k.m
  places : Cz w k.c k.d k.g k.r n X k.b0 k.b1 k.u
  cells : w.heap[z]? = some (.cells #[.pointer (some ⟨k.t, 0, none⟩), .pointer (some ⟨k.c, 0, none⟩)] 86 (0, 0))
  ok : Ns.Ok X n
theorem Nt.below {w w' : World} {z n X : Nat} {k : NK} {C : Nat} (h : Nt w z n X k) (hb : Below C w w') (hC : w.heap.size ≤ C) : Nt w' z n X k :=
  ⟨h.tree.below hb hC, h.places.below hb hC, by rw [hb.block z (by have := lt_of_block h.cells; omega)]; exact h.cells, h.ok⟩
theorem Nt.cell0 {w : World} {z n X : Nat} {k : NK} (h : Nt w z n X k) : w.cell? ⟨z, 0, none⟩ = some (.pointer (some ⟨k.t, 0, none⟩)) := Lib.cell_of_heap h.cells 0
theorem Nt.cell1 {w : World} {z n X : Nat} {k : NK} (h : Nt w z n X k) : w.cell? ⟨z, 1, none⟩ = some (.pointer (some ⟨k.c, 0, none⟩)) := Lib.cell_of_heap h.cells 1
theorem Nt.len {w : World} {z n X : Nat} {k : NK} (h : Nt w z n X k) : n ≤ 4294967296 := h.tree.row.len
/-- Whether a ( is at i. -/
def Ns.on (X : Nat) (i : Int) : Bool := decide (0 ≤ i) && X.testBit i.toNat
set_option maxHeartbeats 1000000 in
theorem NNew_any (r n X : Nat) (u : Value) (w : World) (h : Rw w r n X u) (hT : Tab w) (hb : Pn.bal X n = true) :
    Calls Tryz.prog 57 #[.pointer (some ⟨r, 0, none⟩)] w fun e w' => ∃ z k, e = .returned (.tuple #[.pointer (some ⟨z, 0, none⟩), .int .i64 0]) ∧ Nt w' z n X k ∧ Below w.heap.size w w' := by
  have HR := hidden h
  have HT := hidden hT
  have HB := hidden hb
  clear h hT hb
  go_enter Tryz.func57, Tryz.ntmps57
  go_wp2_with fail
  refine (MNew_any r n X u _ HR.out).mono ?_
  rintro e' w1 ⟨t, gs, m, rfl, ht, hb1⟩
  have HT1 := hidden ht
  have HL1 := hidden hb1
  have HTab1 := hidden (HT.out.below hb1 (Nat.le_refl _))
  clear ht hb1
  go_wp2_with fail
  refine (TBalanced_any t r n X u gs m _ HT1.out).mono ?_
  rintro e' w2 ⟨rfl, hb2⟩
  have HT2 := hidden (HT1.out.below hb2 (Nat.le_refl _))
  have HL2 := hidden (HL1.out.trans (hb2.mono HL1.out.size))
  have HTab2 := hidden (HTab1.out.below hb2 (Nat.le_refl _))
  rw [HB.out]
  clear hb2
  go_wp2_with fail
  refine (CNew_any r n X u _ HT2.out.row HTab2.out).mono ?_
  rintro e' w3 ⟨c, d, g, b0, b1, rfl, hc, hb3⟩
  have HT3 := hidden (HT2.out.below hb3 (Nat.le_refl _))
  have HL3 := hidden (HL2.out.trans (hb3.mono HL2.out.size))
  have HC3 := hidden hc
  clear hb3 hc
  go_wp2_with fail
  go_ret2
  have hbl : Below w3.heap.size w3 (w3.alloc (.cells #[.pointer (some ⟨t, 0, none⟩), .pointer (some ⟨c, 0, none⟩)] 86)) := (Below.refl _ _).alloc (Nat.le_refl _) _
  exact ⟨w3.heap.size, ⟨t, r, m, c, d, g, b0, b1, u, gs⟩, rfl, ⟨HT3.out.below hbl (Nat.le_refl _), HC3.out.below hbl (Nat.le_refl _), heap_alloc_new _ _, Ns.Ok.of HR.out.lt HB.out⟩, HL3.out.alloc HL3.out.size _⟩
theorem NNew_none (r n X : Nat) (u : Value) (w : World) (h : Rw w r n X u) (hb : Pn.bal X n = false) :
    Calls Tryz.prog 57 #[.pointer (some ⟨r, 0, none⟩)] w fun e w' => e = .returned (.tuple #[.pointer none, .int .i64 3]) ∧ Below w.heap.size w w' := by
  have HR := hidden h
  have HB := hidden hb
  clear h hb
  go_enter Tryz.func57, Tryz.ntmps57
  go_wp2_with fail
  refine (MNew_any r n X u _ HR.out).mono ?_
  rintro e' w1 ⟨t, gs, m, rfl, ht, hb1⟩
  have HT1 := hidden ht
  have HL1 := hidden hb1
  clear ht hb1
  go_wp2_with fail
  refine (TBalanced_any t r n X u gs m _ HT1.out).mono ?_
  rintro e' w2 ⟨rfl, hb2⟩
  have HL2 := hidden (HL1.out.trans (hb2.mono HL1.out.size))
  rw [HB.out]
  clear hb2
  go_wp2_with fail
  go_ret2
  exact ⟨rfl, HL2.out⟩
/-- Whether a ) is at i. -/
def Ns.off (X n : Nat) (i : Int) : Bool := decide (0 ≤ i) && (decide (i < (n : Int)) && !Ns.on X i)
theorem Nodes_any (z n X : Nat) (k : NK) (w : World) (h : Nt w z n X k) :
    Calls Tryz.prog 23 #[.pointer (some ⟨z, 0, none⟩)] w fun e w' => e = .returned (.int .i64 ((Wd.ones X n : Nat) : Int)) ∧ ∃ m, w' = w.drewN m := by
  have c1 := h.cell1
  have HF := hidden (COnes_any k.c k.d k.g k.r n X k.b0 k.b1 k.u w h.places)
  clear h
  go_enter Tryz.func23, Tryz.ntmps23
  go_wp2_with fail
  refine HF.out.mono ?_
  rintro e' w2 ⟨rfl, m2, rfl⟩
  go_wp2_with fail
  go_ret
  exact ⟨rfl, m2, rfl⟩
end Go.Proofs.YtoipliflphbeiaaGreatDoor
