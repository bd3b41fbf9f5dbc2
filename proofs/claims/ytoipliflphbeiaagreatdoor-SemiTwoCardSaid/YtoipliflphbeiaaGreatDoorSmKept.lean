/-
  What stays of a row, a sequence and a nest where only a block of another type is written.
-/
import Derived.Test.YtoipliflphbeiaaGreatDoorNsAsk
import Derived.Test.YtoipliflphbeiaaGreatDoorJFnMake
namespace Go.Proofs.YtoipliflphbeiaaGreatDoor
open Go.RowKit
/-- All blocks of cells stay but those of the type T. -/
def Kt (T : TypeId) (w w' : World) : Prop := ∀ (k : Nat) (c : Array Value) (U : TypeId) (z : Nat × Nat), w.heap[k]? = some (Obj.cells c U z) → U ≠ T → w'.heap[k]? = some (Obj.cells c U z)
theorem Kt.refl (T : TypeId) (w : World) : Kt T w w := fun _ _ _ _ h _ => h
/-- A cell of such a block is written. -/
theorem Kt.set {T : TypeId} {w w' : World} {B : Nat} {c : Array Value} {z : Nat × Nat} (h : Kt T w w') (hB : w'.heap[B]? = some (.cells c T z)) (j : Nat) (x : Value) : Kt T w (w'.setCell ⟨B, j, none⟩ x) := by
  intro k d U y hk hU
  have h1 := h k d U y hk hU
  have hne : k ≠ B := by
    rintro rfl
    rw [hB] at h1
    injection h1 with h1
    injection h1 with _ h2 _
    exact hU h2.symm
  simp only [World.setCell, Array.getElem?_modify]
  rw [if_neg (fun e => hne e.symm)]
  exact h1
theorem Kt.ne {T U : TypeId} {w : World} {B k : Nat} {c d : Array Value} {z y : Nat × Nat} (hB : w.heap[B]? = some (.cells c T z)) (hk : w.heap[k]? = some (.cells d U y)) (hU : U ≠ T) : k ≠ B := by
  rintro rfl
  rw [hB] at hk
  injection hk with hk
  injection hk with _ h2 _
  exact hU h2.symm
theorem Kt.rv {T : TypeId} {w : World} {B : Nat} {c : Array Value} {f : Nat × Nat} (h : w.heap[B]? = some (.cells c T f)) (x y z : Value) : Kt T w (((w.setCell ⟨B, 0, none⟩ x).setCell ⟨B, 1, none⟩ y).setCell ⟨B, 2, none⟩ z) := by
  intro k d U y' hk hU
  have hne := Kt.ne h hk hU
  simp only [World.setCell, Array.getElem?_modify]
  rw [if_neg (fun e => hne e.symm), if_neg (fun e => hne e.symm), if_neg (fun e => hne e.symm)]
  exact hk
theorem own_kt {T : TypeId} {w w' : World} {B : Nat} {e : TypeId} {s : Nat} {v : Value} {n : Nat} {xs : List Value} (h : w.ownsRow B e s v n xs) (hk : Kt T w w') (he : e ≠ T) : w'.ownsRow B e s v n xs := by
  refine ⟨h.1, ?_⟩
  rcases h.2 with h | ⟨g, cap, cur, hv, hb, hg, r⟩
  · exact .inl h
  · exact .inr ⟨g, cap, cur, hv, hb, hk g _ _ _ hg he, r⟩
/-- A type that no row, sequence or nest has. -/
structure Odd (T : TypeId) : Prop where
  row : 118 ≠ T
  word : 64 ≠ T
  dir : 162 ≠ T
  block : 159 ≠ T
  cho : 130 ≠ T
  sam : 202 ≠ T
  seq : 108 ≠ T
  tree : 170 ≠ T
  lev : 166 ≠ T
  node : 173 ≠ T
  nest : 86 ≠ T
theorem Rw.kt {T : TypeId} {w w' : World} {r n X : Nat} {u : Value} (h : Rw w r n X u) (hk : Kt T w w') (o : Odd T) : Rw w' r n X u :=
  ⟨h.len, h.lt, hk _ _ _ _ h.cells o.row, own_kt h.own hk o.word⟩
theorem Dr.kt {T : TypeId} {w w' : World} {d g r n X : Nat} {u : Value} (h : Dr w d g r n X u) (hk : Kt T w w') (o : Odd T) : Dr w' d g r n X u := by
  obtain ⟨cur, h1, h2⟩ := h.blocks
  exact ⟨h.row.kt hk o, hk _ _ _ _ h.cells o.dir, cur, hk _ _ _ _ h1 o.block, h2⟩
theorem Sp.kt {T : TypeId} {w w' : World} {b X n : Nat} (h : Sp w b X n) (hk : Kt T w w') (o : Odd T) : Sp w' b X n := by
  obtain ⟨cur, h1, h2⟩ := h
  exact ⟨cur, hk _ _ _ _ h1 o.sam, h2⟩
theorem Cz.kt {T : TypeId} {w w' : World} {c d g r n X b0 b1 : Nat} {u : Value} (h : Cz w c d g r n X b0 b1 u) (hk : Kt T w w') (o : Odd T) : Cz w' c d g r n X b0 b1 u :=
  ⟨h.dir.kt hk o, hk _ _ _ _ h.cells o.cho, h.ones.kt hk o, h.zeros.kt hk o⟩
theorem Tr.kt {T : TypeId} {w w' : World} {t r n X : Nat} {u : Value} {gs : Nat → Nat} {m : Nat} (h : Tr w t r n X u gs m) (hk : Kt T w w') (o : Odd T) : Tr w' t r n X u gs m := by
  obtain ⟨lv, h1, h2⟩ := h.cells
  refine ⟨h.row.kt hk o, ⟨lv, hk _ _ _ _ h1 o.tree, own_kt h2 hk o.lev⟩, fun k hk2 => ?_, h.more, h.pos, h.top⟩
  obtain ⟨cur, h3, h4⟩ := h.each k hk2
  exact ⟨cur, hk _ _ _ _ h3 o.node, h4⟩
theorem Sq.kt {T : TypeId} {w w' : World} {s u : Nat} {l : List Nat} {q : Fn.Q} (h : Sq w s l u q) (hk : Kt T w w') (o : Odd T) : Sq w' s l u q :=
  ⟨h.ok, hk _ _ _ _ h.cells o.seq, h.low.kt hk o, h.high.kt hk o, h.ch.kt hk o⟩
theorem Nt.kt {T : TypeId} {w w' : World} {z n X : Nat} {k : NK} (h : Nt w z n X k) (hk : Kt T w w') (o : Odd T) : Nt w' z n X k :=
  ⟨h.tree.kt hk o, h.places.kt hk o, hk _ _ _ _ h.cells o.nest, h.ok⟩
end Go.Proofs.YtoipliflphbeiaaGreatDoor
