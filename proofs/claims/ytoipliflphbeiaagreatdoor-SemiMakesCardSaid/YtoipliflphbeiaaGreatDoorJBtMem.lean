/-
  Laws for the walk, of no program: append of a row that is owned behind another one; append of one element that has just been laid.
  Rows and builders of bits in memory: a builder in a block of its own with the full words that it owns; a row in a block of its own with its words; what stays while others are written. Of the types' numbers alone.
-/
import Derived.WalkKit
import Derived.WalkSpells
import Derived.WalkLawsBesides
import Derived.Deep.AppendLies
import Derived.Laws.AppendOwnNone
import Derived.Lib.Builder
import Derived.Test.YtoipliflphbeiaaGreatDoorRows
import Derived.Test.YtoipliflphbeiaaGreatDoorJMath
namespace Go.Proofs.YtoipliflphbeiaaGreatDoor
open Go Go.RowKit
section
variable {P : Program}
/-- 'append(v, u...)', both of them rows that are owned (u nil, too), of elements of one cell. -/
theorem wpList_append_rows (w : World) {ops : Array Oper} {rest : List Oper} {o : Oper} {a : Act} {Q : Exit → Act → World → Prop} (hgd : o.guard = none) (s x : Operand) (t : TypeId)
    (ho : o.op = .call { callee := .builtin .append, args := #[s, x], argTypes := #[t, t] })
    (base : Nat) (e : TypeId) (i : TypeInfo) (z : Value) (bytes : Nat) (ht : P.underlying t = some (.slice e)) (hi : P.info? e = some i) (hz : i.zero = some z)
    (hsize : i.size = 1) (hby : i.bytes = bytes) (hzs : z.cells.size = 1)
    (v : Value) (n : Nat) (xs : List Value) (hs : a.eval s = v) (hown : w.ownsRow base e 1 v n xs)
    (u : Value) (m : Nat) (ys : List Value) (hu : a.eval x = u) (hsrc : w.ownsRow 0 e 1 u m ys) (h1 : ∀ y ∈ ys, y.oneCell' = true)
    (h63 : n + m ≤ maxLen) (hbytes : (n + m) * bytes ≤ 140737488355328) (hbase : base ≤ w.heap.size)
    (h : ∀ v' w', w'.ownsRow base e 1 v' (n + m) (xs ++ ys) → w.grownBy w' v.ownBlock → wpList P ops Q rest (a.put o.dst v') w') : wpList P ops Q (o :: rest) a w := by
  rcases hsrc.2 with ⟨hn, hm⟩ | ⟨g, cap, cur, hg, _⟩
  · refine wpList_append_own_none hgd s x t ho base e i 1 ht hi v n xs hs hown (hu.trans hn) ?_
    have hy : ys = [] := List.eq_nil_of_length_eq_zero (by have := hsrc.1; omega)
    have := h v w (by rw [hm, hy, Nat.add_zero, List.append_nil]; exact hown) (World.grownBy.refl _ _)
    exact this
  · refine wpList_append_own w hgd s x t ho base e i z 1 bytes ht hi hz hsize hby hzs (by decide) v n xs hs hown ⟨g, 0, none⟩ m cap ys (hu.trans hg) hsrc.1 (hsrc.cells (by rw [hg]; rfl)) h1 h63 hbytes hbase ?_
    intro v' w' h2 h3 _
    exact h v' w' h2 h3
/-- 'append(v, x)', x laid into block k. -/
theorem wpList_append_one (w : World) {ops : Array Oper} {rest : List Oper} {o : Oper} {a : Act} {Q : Exit → Act → World → Prop} (hgd : o.guard = none) (s x : Operand) (t : TypeId)
    (ho : o.op = .call { callee := .builtin .append, args := #[s, x], argTypes := #[t, t] })
    (base : Nat) (e : TypeId) (i : TypeInfo) (z : Value) (bytes : Nat) (ht : P.underlying t = some (.slice e)) (hi : P.info? e = some i) (hz : i.zero = some z)
    (hsize : i.size = 1) (hby : i.bytes = bytes) (hzs : z.cells.size = 1)
    (v : Value) (n : Nat) (xs : List Value) (hs : a.eval s = v) (hown : w.ownsRow base e 1 v n xs)
    (k c : Nat) (y : Value) (fr : Nat × Nat) (hx : a.eval x = .slice (some ⟨k, 0, none⟩) 1 c) (hk : w.heap[k]? = some (.cells #[y] e fr)) (h1 : y.oneCell' = true)
    (h63 : n + 1 ≤ maxLen) (hbytes : (n + 1) * bytes ≤ 140737488355328) (hbase : base ≤ w.heap.size)
    (h : ∀ v' w', w'.ownsRow base e 1 v' (n + 1) (xs ++ [y]) → w.grownBy w' v.ownBlock → wpList P ops Q rest (a.put o.dst v') w') : wpList P ops Q (o :: rest) a w := by
  refine wpList_append_own w hgd s x t ho base e i z 1 bytes ht hi hz hsize hby hzs (by decide) v n xs hs hown ⟨k, 0, none⟩ 1 c [y] hx rfl (World.news_of_block hk) ?_ h63 hbytes hbase ?_
  · intro u hu
    simp at hu
    subst hu
    exact h1
  · intro v' w' h2 h3 _
    exact h v' w' h2 h3
end
theorem drewN_below {B : Nat} {a w : World} (h : Below B a w) (n : Nat) : Below B a (w.drewN n) := ⟨h.os, h.tape, h.output, h.size, h.block⟩
end Go.Proofs.YtoipliflphbeiaaGreatDoor
namespace Go.Proofs.YtoipliflphbeiaaGreatDoor
open Go.RowKit

theorem setCell_heap_other (w : World) (a : Addr) (u : Value) (k : Nat) (h : k ≠ a.block) : (w.setCell a u).heap[k]? = w.heap[k]? := Below.heap_setCell w a u k h
theorem setCell_heap_same (w : World) (g j : Nat) (cur : Array Value) (e : TypeId) (fr : Nat × Nat) (u : Value) (h : w.heap[g]? = some (.cells cur e fr)) : (w.setCell ⟨g, j, none⟩ u).heap[g]? = some (.cells (cur.setIfInBounds j u) e fr) := by
  simp [World.setCell, Array.getElem?_modify, h]

/-- What is owned has no block of another type. -/
theorem own_other {w : World} {B : Nat} {e T : TypeId} {s : Nat} {v : Value} {n : Nat} {xs : List Value} {b : Nat} {cs : Array Value} {fr : Nat × Nat} (hown : w.ownsRow B e s v n xs) (hb : w.heap[b]? = some (.cells cs T fr)) (hTe : T ≠ e) : v.ownBlock ≠ some b := by
  rcases hown.2 with ⟨rfl, _⟩ | ⟨g, cap, cur, rfl, _, hg, _⟩
  · simp [Value.ownBlock]
  · intro h
    simp only [Value.ownBlock, Option.some.injEq] at h
    subst h
    rw [hg] at hb
    simp only [Option.some.injEq, Obj.cells.injEq] at hb
    exact hTe hb.2.1.symm
theorem own_base {w : World} {B C : Nat} {e : TypeId} {s : Nat} {v : Value} {n : Nat} {xs : List Value} (h : w.ownsRow B e s v n xs) (hC : C ≤ B) : w.ownsRow C e s v n xs := by
  refine ⟨h.1, ?_⟩
  rcases h.2 with h | ⟨g, cap, cur, hv, hb, r⟩
  · exact .inl h
  · exact .inr ⟨g, cap, cur, hv, Nat.le_trans hC hb, r⟩
/-- What is owned stays so where its block stays. -/
theorem own_same {w w' : World} {B : Nat} {e : TypeId} {s : Nat} {v : Value} {n : Nat} {xs : List Value} (h : w.ownsRow B e s v n xs) (hs : ∀ k, v.ownBlock = some k → w'.heap[k]? = w.heap[k]?) : w'.ownsRow B e s v n xs := by
  refine ⟨h.1, ?_⟩
  rcases h.2 with h | ⟨g, cap, cur, hv, hb, hg, r⟩
  · exact .inl h
  · exact .inr ⟨g, cap, cur, hv, hb, by rw [hs g (by rw [hv]; rfl)]; exact hg, r⟩
theorem own_lt {w : World} {B : Nat} {e : TypeId} {s : Nat} {v : Value} {n : Nat} {xs : List Value} (h : w.ownsRow B e s v n xs) : ∀ k, v.ownBlock = some k → k < w.heap.size := fun k hk => (h.lt k hk).2
theorem own_below {w w' : World} {B C : Nat} {e : TypeId} {s : Nat} {v : Value} {n : Nat} {xs : List Value} (h : w.ownsRow B e s v n xs) (hb : Below C w w') (hC : w.heap.size ≤ C) : w'.ownsRow B e s v n xs :=
  own_same h fun k hk => hb.block k (Nat.lt_of_lt_of_le (own_lt h k hk) hC)

/-- The builder in block b: n bits, the number X, the full words behind v; all from block B on. -/
structure Bd (w : World) (B b n X : Nat) (v : Value) : Prop where
  base : B ≤ b
  len : n ≤ 4294967296
  lt : X < 2 ^ n
  cells : w.heap[b]? = some (.cells #[.int .i64 (n : Nat), v, .int .u64 ((Bt.last X n : Nat) : Int)] 111 (0, 0))
  own : w.ownsRow B 64 1 v (n / 64) (Bt.wds X (n / 64))
/-- The row in block r: n bits, the number X, the words behind u. -/
structure Rw (w : World) (r n X : Nat) (u : Value) : Prop where
  len : n ≤ 4294967296
  lt : X < 2 ^ n
  cells : w.heap[r]? = some (.cells #[.int .i64 (n : Nat), u] 118 (0, 0))
  own : w.ownsRow 0 64 1 u ((n + 63) / 64) (Bt.wds X ((n + 63) / 64))
/-- A list of bits behind the value v. -/
def Bl (w : World) (v : Value) (l : List Bool) : Prop := w.ownsRow 0 4 1 v l.length (Bt.bls l)

/-- What a Put leaves as it was: all but the builder's own blocks. -/
structure Kp (w w' : World) (b : Nat) (v v' : Value) : Prop where
  os : w'.os = w.os
  tape : w'.tape = w.tape
  output : w'.output = w.output
  size : w.heap.size ≤ w'.heap.size
  block : ∀ k, k < w.heap.size → k ≠ b → v.ownBlock ≠ some k → w'.heap[k]? = w.heap[k]?
  own : v'.ownBlock = v.ownBlock ∨ ∃ g, v'.ownBlock = some g ∧ w.heap.size ≤ g

theorem Kp.refl (w : World) (b : Nat) (v : Value) : Kp w w b v v := ⟨rfl, rfl, rfl, Nat.le_refl _, fun _ _ _ _ => rfl, .inl rfl⟩
theorem Kp.below {w w' : World} {B b n X : Nat} {v v' : Value} (h : Bd w B b n X v) (k : Kp w w' b v v') : Below B w w' :=
  ⟨k.os, k.tape, k.output, k.size, fun i hi => k.block i (Nat.lt_of_lt_of_le hi (Nat.le_trans h.base (Nat.le_of_lt (lt_of_block h.cells)))) (by have := h.base; omega) (fun e => by have := (h.own.lt i e).1; omega)⟩
theorem Bl.below {w w' : World} {v : Value} {l : List Bool} {C : Nat} (h : Bl w v l) (hb : Below C w w') (hC : w.heap.size ≤ C) : Bl w' v l := own_below h hb hC
theorem Bl.kp {w w' : World} {B b n X : Nat} {v v' u : Value} {l : List Bool} (h : Bl w u l) (hb : Bd w B b n X v) (k : Kp w w' b v v') : Bl w' u l := by
  refine own_same h fun i hi => k.block i (own_lt h i hi) ?_ ?_
  · intro e
    subst e
    exact own_other h hb.cells (by decide) hi
  · intro e
    rcases h.2 with ⟨rfl, _⟩ | ⟨g, cap, cur, rfl, _, hg, _⟩
    · simp [Value.ownBlock] at hi
    · simp only [Value.ownBlock, Option.some.injEq] at hi
      subst hi
      exact own_other hb.own hg (by decide) e
theorem Rw.below {w w' : World} {r n X : Nat} {u : Value} {C : Nat} (h : Rw w r n X u) (hb : Below C w w') (hC : w.heap.size ≤ C) : Rw w' r n X u :=
  ⟨h.len, h.lt, by rw [hb.block r (Nat.lt_of_lt_of_le (lt_of_block h.cells) hC)]; exact h.cells, own_below h.own hb hC⟩
theorem Rw.kp {w w' : World} {B b n X r m Y : Nat} {v v' u : Value} (h : Rw w r m Y u) (hb : Bd w B b n X v) (k : Kp w w' b v v') (hne : u.ownBlock = none ∨ v.ownBlock ≠ u.ownBlock) : Rw w' r m Y u := by
  refine ⟨h.len, h.lt, ?_, own_same h.own fun i hi => k.block i (own_lt h.own i hi) ?_ ?_⟩
  · rw [k.block r (lt_of_block h.cells) ?_ ?_]
    · exact h.cells
    · intro e
      subst e
      have := h.cells.symm.trans hb.cells
      simp at this
    · exact own_other hb.own h.cells (by decide)
  · intro e
    subst e
    exact own_other h.own hb.cells (by decide) hi
  · intro e
    rcases hne with hn | hn
    · rw [hn] at hi; cases hi
    · exact hn (e.trans hi.symm)
theorem Bd.below {w w' : World} {B b n X : Nat} {v : Value} {C : Nat} (h : Bd w B b n X v) (hb : Below C w w') (hC : w.heap.size ≤ C) : Bd w' B b n X v :=
  ⟨h.base, h.len, h.lt, by rw [hb.block b (Nat.lt_of_lt_of_le (lt_of_block h.cells) hC)]; exact h.cells, own_below h.own hb hC⟩
/-- The new builder. -/
theorem Bd.new (w : World) : Bd (w.alloc (.cells #[.int .i64 0, .slice none 0 0, .int .u64 0] 111)) w.heap.size w.heap.size 0 0 (.slice none 0 0) :=
  ⟨Nat.le_refl _, by omega, by decide, heap_alloc_new w _, World.ownsRow_nil _ _ _ _⟩
theorem Bd.cell0 {w : World} {B b n X : Nat} {v : Value} (h : Bd w B b n X v) : w.cell? ⟨b, 0, none⟩ = some (.int .i64 (n : Nat)) := by simp [World.cell?, h.cells]
theorem Bd.cell1 {w : World} {B b n X : Nat} {v : Value} (h : Bd w B b n X v) : w.cell? ⟨b, 1, none⟩ = some v := by simp [World.cell?, h.cells]
theorem Bd.cell2 {w : World} {B b n X : Nat} {v : Value} (h : Bd w B b n X v) : w.cell? ⟨b, 2, none⟩ = some (.int .u64 ((Bt.last X n : Nat) : Int)) := by simp [World.cell?, h.cells]
theorem Bd.free {w : World} {B b n X : Nat} {v : Value} (h : Bd w B b n X v) (j : Nat) : w.frozen? ⟨b, j, none⟩ = false := Lib.frozen_of_heap h.cells j
theorem Rw.cell0 {w : World} {r n X : Nat} {u : Value} (h : Rw w r n X u) : w.cell? ⟨r, 0, none⟩ = some (.int .i64 (n : Nat)) := by simp [World.cell?, h.cells]
theorem Rw.cell1 {w : World} {r n X : Nat} {u : Value} (h : Rw w r n X u) : w.cell? ⟨r, 1, none⟩ = some u := by simp [World.cell?, h.cells]
/-- The value behind which a row's words lie, and its cells. -/
theorem Rw.form {w : World} {r n X : Nat} {u : Value} (h : Rw w r n X u) : ∃ (ao : Option Addr) (cap : Nat), u = .slice ao ((n + 63) / 64) cap ∧ (n + 63) / 64 ≤ cap ∧ (0 < n → ∃ g, ao = some ⟨g, 0, none⟩ ∧ ∀ j, j < (n + 63) / 64 → w.cell? ⟨g, j, none⟩ = some (.int .u64 ((Bt.wd X j : Nat) : Int))) := by
  rcases h.own.2 with ⟨rfl, h0⟩ | ⟨g, cap, cur, hv, _, hg, hnc, _, hcs, htake⟩
  · exact ⟨none, 0, by rw [h0], by omega, fun hn => by omega⟩
  · refine ⟨some ⟨g, 0, none⟩, cap, hv, hnc, fun _ => ⟨g, rfl, fun j hj => ?_⟩⟩
    subst hv
    rw [h.own.cellAt j (by omega)]
    exact Bt.wds_get X _ j hj
end Go.Proofs.YtoipliflphbeiaaGreatDoor
