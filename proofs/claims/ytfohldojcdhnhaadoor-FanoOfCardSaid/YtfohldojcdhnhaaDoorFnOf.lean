/-
  The contracts of shapeIn and Of of package fano: the sequence whose bytes they are; of other bytes none.
-/
import Derived.Test.YtfohldojcdhnhaaDoorFnDec
import Derived.Test.YtfohldojcdhnhaaDoorBtOf
import Derived.Deep.RegionHeld3
namespace Go.Proofs.YtfohldojcdhnhaaDoor
open Go.RowKit
theorem Ints.of_nown {w : World} {B : Nat} {v : Value} {n : Nat} {li : List Int} (h : w.ownsRow B 3 1 v n (Fn.nvals li)) (hn : n = li.length) : Ints w v li := by
  subst hn
  rcases h.2 with ⟨hv, h0⟩ | ⟨g, cap, cur, hv, _, hg, hnc, _⟩
  · exact ⟨none, 0, by rw [hv, h0], by omega, fun hp => by omega⟩
  · refine ⟨some ⟨g, 0, none⟩, cap, hv, hnc, fun _ => ⟨g, 0, rfl, lt_of_block hg, fun i hi => ?_⟩⟩
    subst hv
    rw [Nat.zero_add, h.cellAt i (by omega)]
    unfold Fn.nvals
    rw [List.getElem?_map, List.getD_eq_getElem?_getD, List.getElem?_eq_getElem hi]
    rfl
/-- What a row's beginning tells: how many numbers, the bound. -/
def Fn.cnt (X m : Nat) : Nat := (Bt.fieldOf X m 0 24).1
def Fn.bnd (X m : Nat) : Nat := (Bt.fieldOf X m 24 41).1
theorem Fn.cnt_lt (X m : Nat) : Fn.cnt X m < 16777216 := by
  unfold Fn.cnt Bt.fieldOf
  rw [if_neg (by omega)]
  split
  · decide
  · exact Bt.fd_lt X 0 24
theorem Fn.bnd_lt (X m : Nat) : Fn.bnd X m < 2199023255552 := by
  unfold Fn.bnd Bt.fieldOf
  rw [if_neg (by omega)]
  split
  · decide
  · exact Bt.fd_lt X 24 41
theorem Fn.cnt_eq {X m : Nat} (h : 65 ≤ m) : Fn.cnt X m = Bt.fd X 0 24 := by
  unfold Fn.cnt Bt.fieldOf
  rw [if_neg (by omega), if_neg (by omega)]
  rfl
theorem Fn.bnd_eq {X m : Nat} (h : 65 ≤ m) : Fn.bnd X m = Bt.fd X 24 41 := by
  unfold Fn.bnd Bt.fieldOf
  rw [if_neg (by omega), if_neg (by omega)]
  rfl
theorem Fn.bnd_short {X m : Nat} (h : m < 65) : Fn.bnd X m = 0 := by
  unfold Fn.bnd Bt.fieldOf
  rw [if_neg (by omega), if_pos (by omega)]
/-- How many bits a row has that begins so. -/
def Fn.want (X m : Nat) : Int := 65 + ((Fn.lows (Fn.cnt X m) (Fn.bnd X m) : Nat) : Int) + Fn.highsI (Fn.cnt X m) (Fn.bnd X m)
set_option maxHeartbeats 1000000 in
set_option maxRecDepth 100000 in
theorem shapeIn_any (r m X : Nat) (ru : Value) (w : World) (h : Rw w r m X ru) :
    Calls Tryd.prog 49 #[.pointer (some ⟨r, 0, none⟩)] w fun e w' => e = .returned (.tuple #[Fn.sh (Fn.cnt X m) (Fn.bnd X m), .bool ((m : Int) == Fn.want X m)]) ∧ Below w.heap.size w w' := by
  have HF0 := hidden (fun w' (hb : Below w.heap.size w w') => RField_any r m X 0 24 ru w' (h.below hb (Nat.le_refl _)))
  have HF1 := hidden (fun w' (hb : Below w.heap.size w w') => RField_any r m X 24 41 ru w' (h.below hb (Nat.le_refl _)))
  have HRL := hidden (fun w' (hb : Below w.heap.size w w') => RLen_any r m X ru w' (h.below hb (Nat.le_refl _)))
  have hc := Fn.cnt_lt X m
  have hb := Fn.bnd_lt X m
  have HSO := hidden (fun w => shapeOf_any (Fn.cnt X m) (Fn.bnd X m) w hc hb)
  have HAL := hidden (fun w => all_any (Fn.cnt X m) (Fn.bnd X m) w hc hb)
  have ha0 : (Bt.fieldOf X m 0 24).1 = Fn.cnt X m := rfl
  have ha1 : (Bt.fieldOf X m 24 41).1 = Fn.bnd X m := rfl
  have hwt : Fn.want X m = 65 + ((Fn.lows (Fn.cnt X m) (Fn.bnd X m) : Nat) : Int) + Fn.highsI (Fn.cnt X m) (Fn.bnd X m) := rfl
  rw [ha0] at HF0
  rw [ha1] at HF1
  rw [← hwt] at HAL
  unfold Fn.sh at *
  generalize Fn.want X m = T at *
  generalize (Bt.fieldOf X m 0 24).2 = e0 at *
  generalize (Bt.fieldOf X m 24 41).2 = e1 at *
  generalize Fn.wdt (Fn.cnt X m) (Fn.bnd X m) = W at *
  generalize Fn.cnt X m = n at *
  generalize Fn.bnd X m = u at *
  have hn3 : IntKind.i64.wrap (n : Int) = (n : Int) := by rw [IntKind.wrap_i64]; omega
  have hu3 : IntKind.i64.wrap (u : Int) = (u : Int) := by rw [IntKind.wrap_i64]; omega
  clear h ha0 ha1 hwt
  go_enter Tryd.func49, Tryd.ntmps49
  go_wp2_with fail
  obtain ⟨w0, hw0⟩ : ∃ w0, w0 = w.alloc (.cells #[.int .i64 0, .int .i64 0, .int .i64 0] 50) := ⟨_, rfl⟩
  rw [← hw0]
  have hb0 : Below w.heap.size w w0 := by rw [hw0]; exact (Below.refl _ _).alloc (Nat.le_refl _) _
  have hr0 : w0.heap[w.heap.size]? = some (.cells #[.int .i64 0, .int .i64 0, .int .i64 0] 50 (0, 0)) := by rw [hw0]; exact heap_alloc_new _ _
  have HB0 := hidden hb0
  have HR0 := hidden hr0
  clear hw0 hb0 hr0
  refine (HF0.out w0 HB0.out).mono ?_
  rintro e' w0' ⟨rfl, rfl⟩
  go_wp2_with fail
  refine (HF1.out w0' HB0.out).mono ?_
  rintro e' w0'' ⟨rfl, rfl⟩
  go_wp2_with fail
  refine (HSO.out w0'').mono ?_
  rintro e' w1 ⟨rfl, hb1⟩
  have hr1 : w1.heap[w.heap.size]? = some (.cells #[.int .i64 0, .int .i64 0, .int .i64 0] 50 (0, 0)) := (hb1.block _ (lt_of_block HR0.out)).trans HR0.out
  have HR1 := hidden hr1
  have HB1 := hidden (below_after HB0.out hb1)
  have hlt1 := lt_of_block hr1
  clear hb1 hr1
  go_wp2_with fail
  obtain ⟨w2, hw2⟩ : ∃ w2, w2 = w1.alloc (.cells #[.int .i64 (n : Nat), .int .i64 (u : Nat), .int .i64 (W : Nat)] 50) := ⟨_, rfl⟩
  rw [← hw2]
  have hb2 : Below w1.heap.size w1 w2 := by rw [hw2]; exact (Below.refl _ _).alloc (Nat.le_refl _) _
  have hr2 : w2.heap[w.heap.size]? = some (.cells #[.int .i64 0, .int .i64 0, .int .i64 0] 50 (0, 0)) := (hb2.block _ hlt1).trans HR1.out
  have hr8 : w2.heap[w1.heap.size]? = some (.cells #[.int .i64 (n : Nat), .int .i64 (u : Nat), .int .i64 (W : Nat)] 50 (0, 0)) := by rw [hw2]; exact heap_alloc_new _ _
  have HB2 := hidden (below_after HB1.out hb2)
  have HR2 := hidden hr2
  have HR8 := hidden hr8
  have c0 := Lib.cell_of_heap hr8 0
  have c1 := Lib.cell_of_heap hr8 1
  have c2 := Lib.cell_of_heap hr8 2
  simp only [List.getElem?_toArray, List.getElem?_cons_zero, List.getElem?_cons_succ] at c0 c1 c2
  obtain ⟨b8, hb8⟩ : ∃ b8, b8 = w1.heap.size := ⟨_, rfl⟩
  rw [← hb8] at c0 c1 c2 HR8 hlt1 ⊢
  have hne8 : ¬ b8 = w.heap.size := by omega
  have hne8' : ¬ w.heap.size = b8 := by omega
  clear hw2 hb2 hr2 hr8 hb8
  have HRL2 := hidden (HRL.out w2.drew HB2.out.drew)
  go_region_held (fun w' => w'.cell? ⟨b8, 0, none⟩ = some (.int .i64 (n : Nat)) ∧ w'.cell? ⟨b8, 1, none⟩ = some (.int .i64 (u : Nat)) ∧ w'.cell? ⟨b8, 2, none⟩ = some (.int .i64 (W : Nat))) (first | (exact ⟨by assumption, by assumption, by assumption⟩) | go_keep)
    (first
      | (go_at_call 62; refine (HRL2.out).mono ?_; rintro e' w3 ⟨rfl, rfl⟩)
      | (go_at_call 45; refine (HAL.out _).mono ?_; rintro e' w3 ⟨rfl, hb3⟩; have g0 : w3.cell? ⟨b8, 0, none⟩ = some (.int .i64 (n : Nat)) := cell_after hb3 c0; have g1 : w3.cell? ⟨b8, 1, none⟩ = some (.int .i64 (u : Nat)) := cell_after hb3 c1; have g2 : w3.cell? ⟨b8, 2, none⟩ = some (.int .i64 (W : Nat)) := cell_after hb3 c2; have hr3 : w3.heap[w.heap.size]? = some (.cells #[.int .i64 0, .int .i64 0, .int .i64 0] 50 (0, 0)) := (hb3.block _ (lt_of_block HR2.out)).trans HR2.out; have HB3 := hidden (below_after HB2.out.drew hb3); have HR3 := hidden hr3; have k0 := Lib.cell_of_heap hr3 0; have k1 := Lib.cell_of_heap hr3 1; have k2 := Lib.cell_of_heap hr3 2; have l0 := Lib.frozen_of_heap hr3 0; have l1 := Lib.frozen_of_heap hr3 1; have l2 := Lib.frozen_of_heap hr3 2; simp only [List.getElem?_toArray, List.getElem?_cons_zero, List.getElem?_cons_succ] at k0 k1 k2; clear hb3 hr3))
  go_wp2_with fail
  refine bodyPost_ret (results_cell_row_tmp rfl _ _ w.heap.size 50 #[.int .i64 (n : Nat), .int .i64 (u : Nat), .int .i64 (W : Nat)] (0, 0) _ rfl ?_ Tryd.underlying50 rfl Tryd.sizeShape) rfl ?_
  · exact setCell_heap_same _ _ 2 _ _ _ _ (setCell_heap_same _ _ 1 _ _ _ _ (setCell_heap_same _ _ 0 _ _ _ _ HR3.out))
  · exact ⟨rfl, ((HB3.out.setCell (Nat.le_refl _) _).setCell (Nat.le_refl _) _).setCell (Nat.le_refl _) _⟩
/-- A sequence's bytes. -/
def Fn.bytesOf (l : List Nat) (u : Nat) : List UInt8 := Bt.rowB (Fn.allB l u).length (Bt.num (Fn.allB l u))
/-- These are the bytes of a sequence. -/
def Fn.Is (t : List UInt8) : Prop := ∃ l u, Fn.Ok l u ∧ 65 + Fn.lows l.length u + Fn.highs l.length u ≤ 4294967296 ∧ t = Fn.bytesOf l u
/-- What Of reads of a row of m bits, X. -/
structure Fn.Reads (X m : Nat) (l : List Nat) (u : Nat) : Prop where
  ok : Fn.Ok l u
  cnt : Fn.cnt X m = l.length
  bnd : Fn.bnd X m = u
  len : m = 65 + Fn.lows l.length u + Fn.highs l.length u
  ones : Wd.ones (Bt.cut X (65 + Fn.lows l.length u) (Fn.highs l.length u)) (Fn.highs l.length u) = l.length
  dec : Fn.decI (Bt.cut X 65 (Fn.lows l.length u)) (Fn.wdt l.length u) (Fn.plc (Bt.cut X (65 + Fn.lows l.length u) (Fn.highs l.length u)) (Fn.highs l.length u) l.length) = Fn.ints l
theorem Fn.Reads.of {l : List Nat} {u : Nat} (h : Fn.Ok l u) : Fn.Reads (Bt.num (Fn.allB l u)) (Fn.allB l u).length l u := by
  have hlen := h.all_length
  have h65 : 65 ≤ (Fn.allB l u).length := by omega
  have hn := h.len
  have hu := h.le
  have e0 : Bt.fd (Bt.num (Fn.allB l u)) 0 24 = l.length := by
    have := Fn.cut_mid [] (Bt.bitsTo l.length 24) (Bt.bitsTo u 41 ++ Fn.lowB l u ++ Fn.highB l u)
    rw [Bt.num_bitsTo_of _ _ (by omega), Bt.bitsTo_length] at this
    unfold Fn.allB
    simpa [Bt.cut, Bt.fd, List.append_assoc] using this
  have e1 : Bt.fd (Bt.num (Fn.allB l u)) 24 41 = u := by
    have := Fn.cut_mid (Bt.bitsTo l.length 24) (Bt.bitsTo u 41) (Fn.lowB l u ++ Fn.highB l u)
    rw [Bt.num_bitsTo_of _ _ (by omega), Bt.bitsTo_length, Bt.bitsTo_length] at this
    unfold Fn.allB
    simpa [Bt.cut, Bt.fd, List.append_assoc] using this
  have e2 : Bt.cut (Bt.num (Fn.allB l u)) 65 (Fn.lows l.length u) = Bt.num (Fn.lowB l u) := by
    have := Fn.cut_mid (Bt.bitsTo l.length 24 ++ Bt.bitsTo u 41) (Fn.lowB l u) (Fn.highB l u)
    rw [List.length_append, Bt.bitsTo_length, Bt.bitsTo_length, Fn.lowB_length] at this
    exact this
  have e3 : Bt.cut (Bt.num (Fn.allB l u)) (65 + Fn.lows l.length u) (Fn.highs l.length u) = Bt.num (Fn.highB l u) := by
    have := Fn.cut_mid ((Bt.bitsTo l.length 24 ++ Bt.bitsTo u 41) ++ Fn.lowB l u) (Fn.highB l u) []
    rw [List.append_nil, List.length_append, List.length_append, Bt.bitsTo_length, Bt.bitsTo_length, Fn.lowB_length, h.high_length] at this
    exact this
  refine ⟨h, by rw [Fn.cnt_eq h65, e0], by rw [Fn.bnd_eq h65, e1], hlen, by rw [e3]; exact h.ones_all, by rw [e2, e3]; exact h.dec⟩
theorem Fn.Reads.own {X m : Nat} {l : List Nat} {u : Nat} (h : Fn.Reads X m l u) (hX : X < 2 ^ m) : (Fn.allB l u).length = m ∧ Bt.num (Fn.allB l u) = X := by
  have h65 : 65 ≤ m := by have := h.len; omega
  obtain ⟨e1, e2⟩ := h.ok.enc (Bt.cut_lt _ _ _) (Bt.cut_lt _ _ _) h.ones h.dec
  have hb := Fn.bitsTo_four X (Fn.lows l.length u) (Fn.highs l.length u)
  rw [← h.len, ← Fn.cnt_eq h65, ← Fn.bnd_eq h65, h.cnt, h.bnd, ← e1, ← e2] at hb
  have e3 := Bt.bitsTo_num (Fn.lowB l u)
  have e4 := Bt.bitsTo_num (Fn.highB l u)
  rw [Fn.lowB_length] at e3
  rw [h.ok.high_length] at e4
  rw [e3, e4] at hb
  have e5 : Fn.allB l u = Bt.bitsTo X m := hb.symm
  refine ⟨by rw [e5, Bt.bitsTo_length], by rw [e5, Bt.num_bitsTo, Nat.mod_eq_of_lt hX]⟩
end Go.Proofs.YtfohldojcdhnhaaDoor
