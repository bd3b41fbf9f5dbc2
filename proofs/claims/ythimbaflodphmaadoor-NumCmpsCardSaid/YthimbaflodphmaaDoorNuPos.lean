/-
  What a text is as a number, told by places; and what the reference's Read has in memory while it reads.
-/
import Derived.Test.YthimbaflodphmaaDoorNuRead
import Derived.Test.YthimbaflodphmaaDoorNuOf
import Derived.Test.YthimbaflodphmaaDoorNuRun
namespace Go.Proofs.YthimbaflodphmaaDoor
open Go.RowKit
open Nu
namespace Nu
theorem off_has (c : UInt8) (l : List UInt8) : off c l = if has c l then l.drop 1 else l := by
  cases l with
  | nil => simp [off, has]
  | cons x l => rw [off, has]; split <;> simp
theorem has_at (c : UInt8) (l : List UInt8) : has c l = true ↔ l[0]? = some c := by
  cases l with
  | nil => simp [has]
  | cons x l => simp [has]
theorem has_drop (c : UInt8) (l : List UInt8) (b : Nat) : has c (l.drop b) = true ↔ l[b]? = some c := by
  rw [has_at, List.getElem?_drop, Nat.add_zero]
theorem body_pos (neg : Bool) (l : List UInt8) (a : Nat) :
    (dc (l.drop a) = 0 → body neg (l.drop a) = none) ∧
    (1 < dc (l.drop a) → l[a]? = some 48 → body neg (l.drop a) = none) ∧
    (dc (l.drop a) ≠ 0 → ¬ (1 < dc (l.drop a) ∧ l[a]? = some 48) →
      (l[a + dc (l.drop a)]? = some 46 → dc (l.drop (a + dc (l.drop a) + 1)) = 0 → body neg (l.drop a) = none) ∧
      (l[a + dc (l.drop a)]? = some 46 → dc (l.drop (a + dc (l.drop a) + 1)) ≠ 0 → body neg (l.drop a) = tail neg ((l.drop a).take (dc (l.drop a))) ((l.drop (a + dc (l.drop a) + 1)).take (dc (l.drop (a + dc (l.drop a) + 1)))) (l.drop (a + dc (l.drop a) + 1 + dc (l.drop (a + dc (l.drop a) + 1))))) ∧
      (l[a + dc (l.drop a)]? ≠ some 46 → body neg (l.drop a) = tail neg ((l.drop a).take (dc (l.drop a))) [] (l.drop (a + dc (l.drop a))))) := by
  have hh : (l.drop a).head? = l[a]? := List.head?_drop
  obtain ⟨n, hn⟩ : ∃ n, n = dc (l.drop a) := ⟨_, rfl⟩
  have h2 : (l.drop a).drop n = l.drop (a + n) := List.drop_drop
  have h3 : (l.drop (a + n)).head? = l[a + n]? := List.head?_drop
  have h4 : (l.drop (a + n)).drop 1 = l.drop (a + n + 1) := List.drop_drop
  have h5 : (l.drop (a + n + 1)).drop (dc (l.drop (a + n + 1))) = l.drop (a + n + 1 + dc (l.drop (a + n + 1))) := List.drop_drop
  unfold body
  rw [hh, ← hn, h2, h3, h4, h5]
  refine ⟨fun h => by rw [if_pos h], fun h1 h2 => ?_, fun h1 h2 => ⟨fun h3 h4 => ?_, fun h3 h4 => ?_, fun h3 => ?_⟩⟩
  · rw [if_neg (by omega), if_pos ⟨h1, h2⟩]
  · rw [if_neg h1, if_neg h2, if_pos h3, if_pos h4]
  · rw [if_neg h1, if_neg h2, if_pos h3, if_neg h4]
  · rw [if_neg h1, if_neg h2, if_neg h3]
theorem tail_pos (neg : Bool) (wh fr l : List UInt8) (i : Nat) :
    (i = l.length → tail neg wh fr (l.drop i) = some ⟨neg, wh, fr, false, []⟩) ∧
    (∀ c, l[i]? = some c → ¬ (c = 101 ∨ c = 69) → tail neg wh fr (l.drop i) = none) ∧
    (∀ c, l[i]? = some c → c = 101 ∨ c = 69 → tail neg wh fr (l.drop i) = expo neg wh fr (l.drop (i + 1))) := by
  refine ⟨fun h => ?_, fun c hc h => ?_, fun c hc h => ?_⟩
  · rw [h, List.drop_length]
    exact tail_nil _ _ _
  · obtain ⟨hi, rfl⟩ := List.getElem?_eq_some_iff.1 hc
    rw [List.drop_eq_getElem_cons hi]
    exact tail_no _ _ _ _ _ h
  · obtain ⟨hi, rfl⟩ := List.getElem?_eq_some_iff.1 hc
    rw [List.drop_eq_getElem_cons hi]
    exact tail_e _ _ _ _ _ h
theorem expo_pos (neg mn : Bool) (wh fr l : List UInt8) (b q : Nat) (hb : b ≤ l.length) (h : (mn = true ∧ l[b]? = some 45 ∧ q = b + 1) ∨ (mn = false ∧ l[b]? = some 43 ∧ q = b + 1) ∨ (mn = false ∧ l[b]? ≠ some 45 ∧ l[b]? ≠ some 43 ∧ q = b)) :
    (dc (l.drop q) = 0 → expo neg wh fr (l.drop b) = none) ∧ (q + dc (l.drop q) ≠ l.length → expo neg wh fr (l.drop b) = none) ∧
    (dc (l.drop q) ≠ 0 → q + dc (l.drop q) = l.length → expo neg wh fr (l.drop b) = some ⟨neg, wh, fr, mn, l.drop q⟩) := by
  have hq : q ≤ l.length ∧ (if has 45 (l.drop b) then off 45 (l.drop b) else off 43 (l.drop b)) = l.drop q ∧ has 45 (l.drop b) = mn := by
    have e45 := has_drop 45 l b
    have e43 := has_drop 43 l b
    have lt : ∀ c, l[b]? = some c → b + 1 ≤ l.length := fun c hc => (List.getElem?_eq_some_iff.1 hc).1
    have hdd : (l.drop b).drop 1 = l.drop (b + 1) := List.drop_drop
    rcases h with ⟨rfl, h, rfl⟩ | ⟨rfl, h, rfl⟩ | ⟨rfl, h, h2, rfl⟩
    · have := e45.2 h
      exact ⟨lt _ h, by rw [if_pos this, off_has, if_pos this, hdd], this⟩
    · have n45 : has 45 (l.drop b) = false := by
        rw [← Bool.not_eq_true, e45, h]
        simp
      have := e43.2 h
      exact ⟨lt _ h, by rw [if_neg (by rw [n45]; simp), off_has, if_pos this, hdd], n45⟩
    · have n45 : has 45 (l.drop q) = false := by
        rw [← Bool.not_eq_true, e45]
        exact h
      have n43 : has 43 (l.drop q) = false := by
        rw [← Bool.not_eq_true, e43]
        exact h2
      exact ⟨hb, by rw [if_neg (by rw [n45]; simp), off_has, if_neg (by rw [n43]; simp)], n45⟩
  obtain ⟨hql, e1, e2⟩ := hq
  have hd := dc_le (l.drop q)
  rw [List.length_drop] at hd
  have he : (l.drop q).drop (dc (l.drop q)) = [] ↔ q + dc (l.drop q) = l.length := by
    rw [List.drop_drop, List.drop_eq_nil_iff]
    omega
  unfold expo
  rw [e1, e2]
  refine ⟨fun h => by rw [if_pos h], fun h => ?_, fun h h2 => ?_⟩
  · by_cases h3 : dc (l.drop q) = 0
    · rw [if_pos h3]
    · rw [if_neg h3, if_neg (fun h4 => h (he.1 h4))]
  · rw [if_neg h, if_pos (he.2 h2)]
/-- A byte of the text as the program reads it. -/
theorem byte_at {l : List UInt8} {s : ByteArray} (hat : ∀ (i : Nat) (h : i < s.size) (h2 : i < l.length), s[i]'h = l[i]'h2) (i : Nat) (h : i < s.size) (h2 : i < l.length) (c : UInt8) : l[i]? = some c ↔ (s[i]'h).toNat = c.toNat := by
  rw [hat i h h2, List.getElem?_eq_getElem h2, Option.some_inj, UInt8.toNat_inj]
/-- Digits as numbers. -/
def dz (m : List UInt8) : List Int := m.map fun c => ((c.toNat - 48 : Nat) : Int)
theorem dz_length (m : List UInt8) : (dz m).length = m.length := List.length_map ..
theorem dz_next (m : List UInt8) (k : Nat) (h : k < m.length) : dz (m.take (k + 1)) = dz (m.take k) ++ [(((m[k]).toNat - 48 : Nat) : Int)] := by
  rw [List.take_add_one, List.getElem?_eq_getElem h, dz, dz, List.map_append]
  rfl
theorem dz_append (a b : List UInt8) : dz (a ++ b) = dz a ++ dz b := List.map_append
/-- Where Read stands: its result's block, its number's block with the digits that are laid. -/
structure XAt (w w' : World) (neg : Bool) (v : Value) (p e : Int) (D : List Int) : Prop where
  res : w'.heap[w.heap.size]? = some (.cells #[.bool false, .slice none 0 0, .int .i64 0, .int .i64 0] 47 (0, 0))
  row : w'.heap[w.heap.size + 1]? = some (.cells #[.bool neg, v, .int .i64 p, .int .i64 e] 47 (0, 0))
  dig : w'.ownsRow w.heap.size 3 1 v D.length (iv D)
  bel : Below w.heap.size w w'
section
variable {w w' w2 : World} {neg : Bool} {v v' : Value} {p e : Int} {D : List Int}
theorem XAt.start (w : World) : XAt w ((w.alloc (.cells #[.bool false, .slice none 0 0, .int .i64 0, .int .i64 0] 47)).alloc (.cells #[.bool false, .slice none 0 0, .int .i64 0, .int .i64 0] 47)) false (.slice none 0 0) 0 0 [] where
  res := by
    rw [heap_alloc_old _ _ _ (by rw [heap_alloc_size]; omega)]
    exact heap_alloc_new _ _
  row := heap_alloc_at _ _ _ (by rw [heap_alloc_size])
  dig := World.ownsRow_nil _ _ _ _
  bel := ((Below.refl _ _).alloc (Nat.le_refl _) _).alloc (by simp) _
theorem XAt.drew (h : XAt w w' neg v p e D) : XAt w w'.drew neg v p e D := ⟨h.res, h.row, own_same h.dig (fun _ _ => rfl), h.bel.drew⟩
theorem XAt.rc (h : XAt w w' neg v p e D) (j : Nat) : w'.cell? ⟨w.heap.size, j, none⟩ = (#[Value.bool false, .slice none 0 0, .int .i64 0, .int .i64 0])[j]? := Lib.cell_of_heap h.res j
theorem XAt.rf (h : XAt w w' neg v p e D) (j : Nat) : w'.frozen? ⟨w.heap.size, j, none⟩ = false := Lib.frozen_of_heap h.res j
theorem XAt.xc (h : XAt w w' neg v p e D) (j : Nat) : w'.cell? ⟨w.heap.size + 1, j, none⟩ = (#[Value.bool neg, v, .int .i64 p, .int .i64 e])[j]? := Lib.cell_of_heap h.row j
theorem XAt.xf (h : XAt w w' neg v p e D) (j : Nat) : w'.frozen? ⟨w.heap.size + 1, j, none⟩ = false := Lib.frozen_of_heap h.row j
theorem XAt.apart (h : XAt w w' neg v p e D) : ∀ q, v.ownBlock = some q → q ≠ w.heap.size ∧ q ≠ w.heap.size + 1 := fun q hq => ⟨fun e => Lib.ownBlock_ne h.dig h.res ne_num (by rw [hq, e]), fun e => Lib.ownBlock_ne h.dig h.row ne_num (by rw [hq, e])⟩
theorem XAt.s0 (h : XAt w w' neg v p e D) (b : Bool) : XAt w (w'.setCell ⟨w.heap.size + 1, 0, none⟩ (.bool b)) b v p e D where
  res := (Below.heap_setCell _ _ _ _ (by simp)).trans h.res
  row := heap_set_same _ _ 0 _ _ _ _ h.row
  dig := own_same h.dig fun q hq => Below.heap_setCell _ _ _ _ (h.apart q hq).2
  bel := h.bel.setCell (by simp) _
theorem XAt.s2 (h : XAt w w' neg v p e D) (p2 : Int) : XAt w (w'.setCell ⟨w.heap.size + 1, 2, none⟩ (.int .i64 p2)) neg v p2 e D where
  res := (Below.heap_setCell _ _ _ _ (by simp)).trans h.res
  row := heap_set_same _ _ 2 _ _ _ _ h.row
  dig := own_same h.dig fun q hq => Below.heap_setCell _ _ _ _ (h.apart q hq).2
  bel := h.bel.setCell (by simp) _
theorem XAt.s3 (h : XAt w w' neg v p e D) (e2 : Int) : XAt w (w'.setCell ⟨w.heap.size + 1, 3, none⟩ (.int .i64 e2)) neg v p e2 D where
  res := (Below.heap_setCell _ _ _ _ (by simp)).trans h.res
  row := heap_set_same _ _ 3 _ _ _ _ h.row
  dig := own_same h.dig fun q hq => Below.heap_setCell _ _ _ _ (h.apart q hq).2
  bel := h.bel.setCell (by simp) _
theorem XAt.rowD {o : Obj} (h : XAt w w' neg v p e D) (hg : (w'.alloc o).grownBy w2 v.ownBlock) : w2.heap[w.heap.size + 1]? = some (.cells #[.bool neg, v, .int .i64 p, .int .i64 e] 47 (0, 0)) := by
  have hw := lt_of_block h.row
  have n2 : some (w.heap.size + 1) ≠ v.ownBlock := fun e => Lib.ownBlock_ne h.dig h.row ne_num e.symm
  exact ((hg.block _ (by simp; omega) n2).trans (Below.heap_alloc _ _ _ hw)).trans h.row
theorem XAt.growD (h : XAt w w' neg v p e D) (o : Obj) (x : Int) (hown : w2.ownsRow w.heap.size 3 1 v' (D.length + 1) (iv D ++ [.int .i64 x])) (hg : (w'.alloc o).grownBy w2 v.ownBlock) :
    XAt w (w2.setCell ⟨w.heap.size + 1, 1, none⟩ v') neg v' p e (D ++ [x]) := by
  have hr := lt_of_block h.res
  have e1 : ∀ k, k < w'.heap.size → some k ≠ v.ownBlock → w2.heap[k]? = w'.heap[k]? := fun k hk hne => (hg.block k (by simp; omega) hne).trans (Below.heap_alloc _ _ _ hk)
  have n1 : some w.heap.size ≠ v.ownBlock := fun e => Lib.ownBlock_ne h.dig h.res ne_num e.symm
  have hrow2 := h.rowD hg
  have n3 : v'.ownBlock ≠ some (w.heap.size + 1) := Lib.ownBlock_ne hown hrow2 ne_num
  have hb2 : Below w.heap.size w w2 := (h.bel.alloc h.bel.size o).grown hg (by have := h.bel.size; simp; omega) fun k hk => (h.dig.lt k hk).1
  refine ⟨?_, heap_set_same _ _ 1 _ _ _ _ hrow2, ?_, hb2.setCell (by simp) _⟩
  · rw [Below.heap_setCell _ _ _ _ (by simp)]
    exact (e1 _ hr n1).trans h.res
  · rw [List.length_append, iv_append]
    exact own_same hown fun k hk => Below.heap_setCell _ _ _ _ (fun e => n3 (by rw [hk, e]))
end
/-- What Read leaves. -/
def RrPost (w : World) (o : Option Pt) (e : Ending) (w' : World) : Prop :=
  match o with
  | none => e = .returned (.tuple #[.agg #[.bool false, .slice none 0 0, .int .i64 0, .int .i64 0], .bool false]) ∧ Below w.heap.size w w'
  | some p => ∃ v, e = .returned (.tuple #[.agg #[.bool p.neg, v, .int .i64 ((p.wh.length : Nat) : Int), .int .i64 (clip 1000000000000 p)], .bool true]) ∧ w'.ownsRow w.heap.size 3 1 v (dz (p.wh ++ p.fr)).length (iv (dz (p.wh ++ p.fr))) ∧ Below w.heap.size w w'
theorem RrPost.no {w w' : World} {e : Ending} (h : e = .returned (.tuple #[.agg #[.bool false, .slice none 0 0, .int .i64 0, .int .i64 0], .bool false])) (h2 : Below w.heap.size w w') : RrPost w none e w' := ⟨h, h2⟩
theorem RrPost.yes {w w' : World} {e : Ending} {p : Pt} (v : Value) (h : e = .returned (.tuple #[.agg #[.bool p.neg, v, .int .i64 ((p.wh.length : Nat) : Int), .int .i64 (clip 1000000000000 p)], .bool true])) (h1 : w'.ownsRow w.heap.size 3 1 v (dz (p.wh ++ p.fr)).length (iv (dz (p.wh ++ p.fr)))) (h2 : Below w.heap.size w w') : RrPost w (some p) e w' := ⟨v, h, h1, h2⟩
end Nu
end Go.Proofs.YthimbaflodphmaaDoor
