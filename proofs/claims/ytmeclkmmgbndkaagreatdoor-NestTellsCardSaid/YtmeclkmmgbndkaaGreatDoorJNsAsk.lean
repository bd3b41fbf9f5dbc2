/-
  The contracts of a nest's New, opens, closes, start, Close, Open, Parent, First, Next, Prev, Depth, Rank, Node and Nodes.
  The contract of law08's awake: it returns true; nothing that was there is changed.
-/
import Derived.Test.YtmeclkmmgbndkaaGreatDoorJNsMath
import Derived.Test.YtmeclkmmgbndkaaGreatDoorJMx
import Derived.Test.YtmeclkmmgbndkaaGreatDoorJCk
import Derived.Test.YtmeclkmmgbndkaaGreatDoorJBtList
import Derived.Test.YtmeclkmmgbndkaaGreatDoorJPn
namespace Go.Proofs.YtmeclkmmgbndkaaGreatDoor
open Go.RowKit
/-- Where a nest's parts lie. -/
structure NK where
  t : Nat
  r : Nat
  m : Nat
  c : Nat
  d : Nat
  g : Nat
  b0 : Nat
  b1 : Nat
  u : Value
  gs : Nat → Nat
/-- A nest in block z. -/
structure Nt (w : World) (z n X : Nat) (k : NK) : Prop where
  tree : Tr w k.t k.r n X k.u k.gs k.m
  places : Cz w k.c k.d k.g k.r n X k.b0 k.b1 k.u
  cells : w.heap[z]? = some (.cells #[.pointer (some ⟨k.t, 0, none⟩), .pointer (some ⟨k.c, 0, none⟩)] 53 (0, 0))
  ok : Ns.Ok X n
theorem Nt.below {w w' : World} {z n X : Nat} {k : NK} {C : Nat} (h : Nt w z n X k) (hb : Below C w w') (hC : w.heap.size ≤ C) : Nt w' z n X k :=
  ⟨h.tree.below hb hC, h.places.below hb hC, by rw [hb.block z (by have := lt_of_block h.cells; omega)]; exact h.cells, h.ok⟩
theorem Nt.cell0 {w : World} {z n X : Nat} {k : NK} (h : Nt w z n X k) : w.cell? ⟨z, 0, none⟩ = some (.pointer (some ⟨k.t, 0, none⟩)) := Lib.cell_of_heap h.cells 0
theorem Nt.cell1 {w : World} {z n X : Nat} {k : NK} (h : Nt w z n X k) : w.cell? ⟨z, 1, none⟩ = some (.pointer (some ⟨k.c, 0, none⟩)) := Lib.cell_of_heap h.cells 1
theorem Nt.len {w : World} {z n X : Nat} {k : NK} (h : Nt w z n X k) : n ≤ 4294967296 := h.tree.row.len
/-- Whether a ( is at i. -/
def Ns.on (X : Nat) (i : Int) : Bool := decide (0 ≤ i) && X.testBit i.toNat
theorem Ns.on_nat (X i : Nat) : Ns.on X (i : Int) = (Wd.bt X i == 1) := by
  unfold Ns.on
  rw [decide_eq_true (by omega), Bool.true_and, Int.toNat_natCast, Wd.testBit_bt]
theorem Ns.on_neg (X : Nat) (i : Int) (h : i < 0) : Ns.on X i = false := by
  unfold Ns.on
  rw [decide_eq_false (by omega), Bool.false_and]
theorem Ns.on_iff {X n : Nat} (h : Ns.Ok X n) (i : Int) : Ns.on X i = true ↔ ∃ j : Nat, i = (j : Int) ∧ Ns.Nd X n j := by
  constructor
  · intro e
    rcases Int.lt_or_le i 0 with h0 | h0
    · rw [Ns.on_neg X i h0] at e; cases e
    · obtain ⟨j, rfl⟩ := Int.eq_ofNat_of_zero_le h0
      have e2 := Ns.on_nat X j
      rw [e2] at e
      exact ⟨j, rfl, h.nd (by simpa using e)⟩
  · rintro ⟨j, rfl, hj⟩
    rw [Ns.on_nat, hj.2]
    rfl
theorem Ns.on_nd {X n i : Nat} (h : Ns.Nd X n i) : Ns.on X (i : Int) = true := by rw [Ns.on_nat, h.2]; rfl
set_option maxHeartbeats 1000000 in
theorem NNew_any (r n X : Nat) (u : Value) (w : World) (h : Rw w r n X u) (hT : Tab w) (hb : Pn.bal X n = true) :
    Calls Tryz.prog 6 #[.pointer (some ⟨r, 0, none⟩)] w fun e w' => ∃ z k, e = .returned (.tuple #[.pointer (some ⟨z, 0, none⟩), .int .i64 0]) ∧ Nt w' z n X k ∧ Below w.heap.size w w' := by
  have HR := hidden h
  have HT := hidden hT
  have HB := hidden hb
  clear h hT hb
  go_enter Tryz.func6, Tryz.ntmps6
  go_wp2_with fail
  refine (MNew_any r n X u _ HR.out).mono ?_
  rintro e' w1 ⟨t, gs, m, rfl, ht, hb1⟩
  have HT1 := hidden ht
  have HL1 := hidden hb1
  have HTab1 := hidden (HT.out.below hb1 (Nat.le_refl _))
  clear ht hb1
  go_wp2_with fail
  refine (TBalanced_any t r n X u gs m _ HT1.out).mono ?_
  rintro e' w2 ⟨rfl, hb2⟩
  have HT2 := hidden (HT1.out.below hb2 (Nat.le_refl _))
  have HL2 := hidden (HL1.out.trans (hb2.mono HL1.out.size))
  have HTab2 := hidden (HTab1.out.below hb2 (Nat.le_refl _))
  rw [HB.out]
  clear hb2
  go_wp2_with fail
  refine (CNew_any r n X u _ HT2.out.row HTab2.out).mono ?_
  rintro e' w3 ⟨c, d, g, b0, b1, rfl, hc, hb3⟩
  have HT3 := hidden (HT2.out.below hb3 (Nat.le_refl _))
  have HL3 := hidden (HL2.out.trans (hb3.mono HL2.out.size))
  have HC3 := hidden hc
  clear hb3 hc
  go_wp2_with fail
  go_ret2
  have hbl : Below w3.heap.size w3 (w3.alloc (.cells #[.pointer (some ⟨t, 0, none⟩), .pointer (some ⟨c, 0, none⟩)] 53)) := (Below.refl _ _).alloc (Nat.le_refl _) _
  exact ⟨w3.heap.size, ⟨t, r, m, c, d, g, b0, b1, u, gs⟩, rfl, ⟨HT3.out.below hbl (Nat.le_refl _), HC3.out.below hbl (Nat.le_refl _), heap_alloc_new _ _, Ns.Ok.of HR.out.lt HB.out⟩, HL3.out.alloc HL3.out.size _⟩
theorem NNew_none (r n X : Nat) (u : Value) (w : World) (h : Rw w r n X u) (hb : Pn.bal X n = false) :
    Calls Tryz.prog 6 #[.pointer (some ⟨r, 0, none⟩)] w fun e w' => e = .returned (.tuple #[.pointer none, .int .i64 3]) ∧ Below w.heap.size w w' := by
  have HR := hidden h
  have HB := hidden hb
  clear h hb
  go_enter Tryz.func6, Tryz.ntmps6
  go_wp2_with fail
  refine (MNew_any r n X u _ HR.out).mono ?_
  rintro e' w1 ⟨t, gs, m, rfl, ht, hb1⟩
  have HT1 := hidden ht
  have HL1 := hidden hb1
  clear ht hb1
  go_wp2_with fail
  refine (TBalanced_any t r n X u gs m _ HT1.out).mono ?_
  rintro e' w2 ⟨rfl, hb2⟩
  have HL2 := hidden (HL1.out.trans (hb2.mono HL1.out.size))
  rw [HB.out]
  clear hb2
  go_wp2_with fail
  go_ret2
  exact ⟨rfl, HL2.out⟩
theorem opens_any (z n X : Nat) (k : NK) (i : Int) (w : World) (h : Nt w z n X k) :
    Calls Tryz.prog 34 #[.pointer (some ⟨z, 0, none⟩), .int .i64 i] w fun e w' => e = .returned (.bool (Ns.on X i)) ∧ w' = w := by
  have c0 := h.cell0
  have HT := hidden h.tree
  clear h
  go_enter Tryz.func34, Tryz.ntmps34
  go_wp2_with fail
  refine (TRow_any _ _ _ _ _ _ _ w HT.out).mono ?_
  rintro e' w1 ⟨rfl, rfl⟩
  go_wp2_with fail
  refine (Get_any _ _ _ i _ _ HT.out.row).mono ?_
  rintro e' w2 ⟨rfl, rfl⟩
  go_wp2_with fail
  go_ret
  exact ⟨rfl, rfl⟩
theorem start_any (z n X : Nat) (k : NK) (i : Int) (w : World) (h : Nt w z n X k) :
    Calls Tryz.prog 36 #[.pointer (some ⟨z, 0, none⟩), .int .i64 i] w fun e w' => e = .returned (.tuple #[.int .i64 (bif Ns.on X i then i else 0), .int .i64 (bif Ns.on X i then 0 else 7)]) ∧ w' = w := by
  have HO := hidden (opens_any z n X k i w h)
  clear h
  generalize Ns.on X i = o at *
  go_enter Tryz.func36, Tryz.ntmps36
  go_wp2_with fail
  refine HO.out.mono ?_
  rintro e' w1 ⟨rfl, rfl⟩
  clear HO
  cases o
  · go_wp2_with fail
    go_ret2
    exact ⟨rfl, rfl⟩
  · go_wp2_with fail
    go_ret2
    exact ⟨rfl, rfl⟩
/-- Whether a ) is at i. -/
def Ns.off (X n : Nat) (i : Int) : Bool := decide (0 ≤ i) && (decide (i < (n : Int)) && !Ns.on X i)
set_option maxHeartbeats 1000000 in
theorem closes_any (z n X : Nat) (k : NK) (i : Int) (w : World) (h : Nt w z n X k) :
    Calls Tryz.prog 40 #[.pointer (some ⟨z, 0, none⟩), .int .i64 i] w fun e w' => e = .returned (.bool (Ns.off X n i)) ∧ w' = w := by
  have c0 := h.cell0
  have HT := hidden h.tree
  have HO := hidden (opens_any z n X k i w h)
  have hn := h.len
  clear h
  by_cases h0 : 0 ≤ i
  · have d0 : decide (0 ≤ i) = true := decide_eq_true h0
    by_cases h1 : i < (n : Int)
    · have d1 : decide (i < (n : Int)) = true := decide_eq_true h1
      have HE : Hid (Ns.off X n i = !Ns.on X i) := by show _ = _; unfold Ns.off; rw [d0, d1]; rfl
      go_enter Tryz.func40, Tryz.ntmps40
      go_wp2_with fail
      refine (TRow_any _ _ _ _ _ _ _ w HT.out).mono ?_
      rintro e' w1 ⟨rfl, rfl⟩
      go_wp2_with fail
      refine (RLen_any _ _ _ _ _ HT.out.row).mono ?_
      rintro e' w1 ⟨rfl, rfl⟩
      go_wp2_with fail
      refine HO.out.mono ?_
      rintro e' w1 ⟨rfl, rfl⟩
      go_wp2_with fail
      go_ret
      exact ⟨by rw [HE.out]; rfl, rfl⟩
    · have d1 : decide (i < (n : Int)) = false := decide_eq_false h1
      have HE : Hid (Ns.off X n i = false) := by show _ = _; unfold Ns.off; rw [d0, d1]; rfl
      go_enter Tryz.func40, Tryz.ntmps40
      go_wp2_with fail
      refine (TRow_any _ _ _ _ _ _ _ w HT.out).mono ?_
      rintro e' w1 ⟨rfl, rfl⟩
      go_wp2_with fail
      refine (RLen_any _ _ _ _ _ HT.out.row).mono ?_
      rintro e' w1 ⟨rfl, rfl⟩
      go_wp2_with fail
      go_ret
      exact ⟨by rw [HE.out]; rfl, rfl⟩
  · have d0 : decide (0 ≤ i) = false := decide_eq_false h0
    have HE : Hid (Ns.off X n i = false) := by show _ = _; unfold Ns.off; rw [d0]; rfl
    go_enter Tryz.func40, Tryz.ntmps40
    go_wp2_with fail
    go_ret
    exact ⟨by rw [HE.out]; rfl, rfl⟩
theorem Close_not (z n X : Nat) (k : NK) (i : Int) (w : World) (h : Nt w z n X k) (hi : Ns.on X i = false) :
    Calls Tryz.prog 12 #[.pointer (some ⟨z, 0, none⟩), .int .i64 i] w fun e w' => e = .returned (.tuple #[.int .i64 0, .int .i64 1]) ∧ w' = w := by
  have HO := opens_any z n X k i w h
  rw [hi] at HO
  have HO := hidden HO
  clear h
  go_enter Tryz.func12, Tryz.ntmps12
  go_wp2_with fail
  refine HO.out.mono ?_
  rintro e' w1 ⟨rfl, rfl⟩
  go_wp2_with fail
  go_ret2
  exact ⟨rfl, rfl⟩
theorem Close_node (z n X i : Nat) (k : NK) (w : World) (h : Nt w z n X k) (hi : Ns.Nd X n i) :
    Calls Tryz.prog 12 #[.pointer (some ⟨z, 0, none⟩), .int .i64 (i : Nat)] w fun e w' => e = .returned (.tuple #[.int .i64 (Ns.cl X n i : Nat), .int .i64 0]) ∧ Below w.heap.size w w' := by
  have HO := opens_any z n X k (i : Nat) w h
  rw [Ns.on_nd hi] at HO
  have HO := hidden HO
  have c0 := h.cell0
  have hn := h.len
  have hin := hi.1
  have HN := hidden h
  have hf := TForth_any k.t k.r n X k.u k.gs k.m (i : Nat) 0 w h.tree
  rw [Pn.fr_nat n i (Nat.le_of_lt hi.1), (Ns.forth_cl h.ok hi).1] at hf
  have HF := hidden hf
  clear h hi hf
  go_enter Tryz.func12, Tryz.ntmps12
  go_wp2_with fail
  refine HO.out.mono ?_
  rintro e' w1 ⟨rfl, rfl⟩
  go_wp2_with fail
  refine HF.out.mono ?_
  rintro e' w2 ⟨rfl, hb2⟩
  have HB := hidden hb2
  clear hb2
  go_wp2_with fail
  go_ret2
  exact ⟨rfl, HB.out⟩
theorem Open_not (z n X : Nat) (k : NK) (i : Int) (w : World) (h : Nt w z n X k) (hi : Ns.off X n i = false) :
    Calls Tryz.prog 25 #[.pointer (some ⟨z, 0, none⟩), .int .i64 i] w fun e w' => e = .returned (.tuple #[.int .i64 0, .int .i64 1]) ∧ w' = w := by
  have HO := closes_any z n X k i w h
  rw [hi] at HO
  have HO := hidden HO
  clear h
  go_enter Tryz.func25, Tryz.ntmps25
  go_wp2_with fail
  refine HO.out.mono ?_
  rintro e' w1 ⟨rfl, rfl⟩
  go_wp2_with fail
  go_ret2
  exact ⟨rfl, rfl⟩
theorem Ns.off_nat {X n c : Nat} (hc : c < n) (hz : Wd.bt X c = 0) : Ns.off X n (c : Nat) = true := by
  unfold Ns.off
  rw [Ns.on_nat, hz, decide_eq_true (by omega), decide_eq_true (by omega)]
  rfl
theorem Open_at (z n X i c : Nat) (k : NK) (w : World) (h : Nt w z n X k) (hc : Ns.Cl X n i c) :
    Calls Tryz.prog 25 #[.pointer (some ⟨z, 0, none⟩), .int .i64 (c : Nat)] w fun e w' => e = .returned (.tuple #[.int .i64 (i : Nat), .int .i64 0]) ∧ Below w.heap.size w w' := by
  have HO := closes_any z n X k (c : Nat) w h
  rw [Ns.off_nat hc.lt hc.zero] at HO
  have HO := hidden HO
  have c0 := h.cell0
  have hn := h.len
  have hcn := hc.lt
  have hf := TBack_any k.t k.r n X k.u k.gs k.m ((c : Int) + 1) 0 w h.tree
  rw [show (c : Int) + 1 = ((c + 1 : Nat) : Int) from by omega, Pn.fr_nat n (c + 1) hc.lt, Ns.back_open hc, show ((c + 1 : Nat) : Int) = (c : Int) + 1 from by omega] at hf
  have HF := hidden hf
  clear h hc hf
  go_enter Tryz.func25, Tryz.ntmps25
  go_wp2_with fail
  refine HO.out.mono ?_
  rintro e' w1 ⟨rfl, rfl⟩
  go_wp2_with fail
  refine HF.out.mono ?_
  rintro e' w2 ⟨rfl, hb2⟩
  have HB := hidden hb2
  clear hb2
  go_wp2_with fail
  go_ret2
  exact ⟨rfl, HB.out⟩
theorem Parent_not (z n X : Nat) (k : NK) (i : Int) (w : World) (h : Nt w z n X k) (hi : Ns.on X i = false) :
    Calls Tryz.prog 13 #[.pointer (some ⟨z, 0, none⟩), .int .i64 i] w fun e w' => e = .returned (.tuple #[.int .i64 0, .int .i64 1]) ∧ w' = w := by
  have HO := opens_any z n X k i w h
  rw [hi] at HO
  have HO := hidden HO
  clear h
  go_enter Tryz.func13, Tryz.ntmps13
  go_wp2_with fail
  refine HO.out.mono ?_
  rintro e' w1 ⟨rfl, rfl⟩
  go_wp2_with fail
  go_ret2
  exact ⟨rfl, rfl⟩
theorem Parent_any (z n X i : Nat) (k : NK) (w : World) (h : Nt w z n X k) (hi : Ns.Nd X n i) (q : Int) (hq : Pn.back X 0 i 1 = q) :
    Calls Tryz.prog 13 #[.pointer (some ⟨z, 0, none⟩), .int .i64 (i : Nat)] w fun e w' => e = .returned (.tuple #[.int .i64 (bif Ns.on X q then q else 0), .int .i64 (bif Ns.on X q then 0 else 7)]) ∧ Below w.heap.size w w' := by
  have HO := opens_any z n X k (i : Nat) w h
  rw [Ns.on_nd hi] at HO
  have HO := hidden HO
  have c0 := h.cell0
  have hn := h.len
  have hin := hi.1
  have HN := hidden h
  have hf := TBack_any k.t k.r n X k.u k.gs k.m (i : Nat) 1 w h.tree
  rw [Pn.fr_nat n i (Nat.le_of_lt hi.1), hq] at hf
  have HF := hidden hf
  have HQ := hidden hq
  clear h hi hf hq
  go_enter Tryz.func13, Tryz.ntmps13
  go_wp2_with fail
  refine HO.out.mono ?_
  rintro e' w1 ⟨rfl, rfl⟩
  go_wp2_with fail
  refine HF.out.mono ?_
  rintro e' w2 ⟨rfl, hb2⟩
  have HB := hidden hb2
  have HN2 := hidden (HN.out.below hb2 (Nat.le_refl _))
  clear hb2
  go_wp2_with fail
  refine (start_any z n X k q w2 HN2.out).mono ?_
  rintro e' w3 ⟨rfl, rfl⟩
  go_wp2_with fail
  go_ret2
  exact ⟨rfl, HB.out⟩
theorem Parent_some (z n X i p : Nat) (k : NK) (w : World) (h : Nt w z n X k) (hi : Ns.Nd X n i) (hp : Ns.Par X i p) :
    Calls Tryz.prog 13 #[.pointer (some ⟨z, 0, none⟩), .int .i64 (i : Nat)] w fun e w' => e = .returned (.tuple #[.int .i64 (p : Nat), .int .i64 0]) ∧ Below w.heap.size w w' := by
  have hl := h.ok.low p (by have := hp.lt; have := hi.1; omega)
  obtain ⟨q, hq, hq2⟩ := Ns.back_par (X := X) (i := i) (by have := hp.eq; omega)
  obtain rfl := hq2.unique hp
  have := Parent_any z n X i k w h hi q hq
  rw [Ns.on_nat, hp.one] at this
  exact this
theorem Parent_none (z n X i : Nat) (k : NK) (w : World) (h : Nt w z n X k) (hi : Ns.Nd X n i) (h0 : Wd.exc X i = 0) :
    Calls Tryz.prog 13 #[.pointer (some ⟨z, 0, none⟩), .int .i64 (i : Nat)] w fun e w' => e = .returned (.tuple #[.int .i64 0, .int .i64 7]) ∧ Below w.heap.size w w' :=
  Parent_any z n X i k w h hi (-1) (Ns.back_root h.ok (Nat.le_of_lt hi.1) h0)
theorem First_not (z n X : Nat) (k : NK) (i : Int) (w : World) (h : Nt w z n X k) (hi : Ns.on X i = false) :
    Calls Tryz.prog 30 #[.pointer (some ⟨z, 0, none⟩), .int .i64 i] w fun e w' => e = .returned (.tuple #[.int .i64 0, .int .i64 1]) ∧ w' = w := by
  have HO := opens_any z n X k i w h
  rw [hi] at HO
  have HO := hidden HO
  clear h
  go_enter Tryz.func30, Tryz.ntmps30
  go_wp2_with fail
  refine HO.out.mono ?_
  rintro e' w1 ⟨rfl, rfl⟩
  go_wp2_with fail
  go_ret2
  exact ⟨rfl, rfl⟩
theorem First_any (z n X i : Nat) (k : NK) (w : World) (h : Nt w z n X k) (hi : Ns.Nd X n i) :
    Calls Tryz.prog 30 #[.pointer (some ⟨z, 0, none⟩), .int .i64 (i : Nat)] w fun e w' => e = .returned (.tuple #[.int .i64 (bif Ns.on X ((i + 1 : Nat) : Int) then ((i + 1 : Nat) : Int) else 0), .int .i64 (bif Ns.on X ((i + 1 : Nat) : Int) then 0 else 7)]) ∧ w' = w := by
  have HO := opens_any z n X k (i : Nat) w h
  rw [Ns.on_nd hi] at HO
  have HO := hidden HO
  have c0 := h.cell0
  have hn := h.len
  have hin := hi.1
  have HN := hidden h
  have hs := start_any z n X k ((i + 1 : Nat) : Int) w h
  generalize Ns.on X ((i + 1 : Nat) : Int) = o at *
  obtain ⟨j, hj⟩ : ∃ j, j = i + 1 := ⟨_, rfl⟩
  rw [← hj] at hs ⊢
  have hij : (i : Int) + 1 = (j : Int) := by omega
  have HS := hidden hs
  clear h hi hs hj
  go_enter Tryz.func30, Tryz.ntmps30
  go_wp2_with fail
  refine HO.out.mono ?_
  rintro e' w1 ⟨rfl, rfl⟩
  go_wp2_with fail
  refine HS.out.mono ?_
  rintro e' w3 ⟨rfl, rfl⟩
  go_wp2_with fail
  go_ret2
  exact ⟨rfl, rfl⟩
theorem Next_any (z n X i : Nat) (k : NK) (w : World) (h : Nt w z n X k) (hi : Ns.Nd X n i) :
    Calls Tryz.prog 31 #[.pointer (some ⟨z, 0, none⟩), .int .i64 (i : Nat)] w fun e w' => e = .returned (.tuple #[.int .i64 (bif Ns.on X ((Ns.cl X n i + 1 : Nat) : Int) then ((Ns.cl X n i + 1 : Nat) : Int) else 0), .int .i64 (bif Ns.on X ((Ns.cl X n i + 1 : Nat) : Int) then 0 else 7)]) ∧ Below w.heap.size w w' := by
  have HC := hidden (Close_node z n X i k w h hi)
  have hc := (Ns.cl_spec h.ok hi).lt
  have hn := h.len
  have HN := hidden h
  obtain ⟨c, hcc⟩ : ∃ c, c = Ns.cl X n i := ⟨_, rfl⟩
  rw [← hcc] at HC hc ⊢
  obtain ⟨j, hj⟩ : ∃ j, j = c + 1 := ⟨_, rfl⟩
  rw [← hj]
  have hij : (c : Int) + 1 = (j : Int) := by omega
  clear h hi hcc hj
  go_enter Tryz.func31, Tryz.ntmps31
  go_wp2_with fail
  refine HC.out.mono ?_
  rintro e' w2 ⟨rfl, hb2⟩
  have HB := hidden hb2
  have HN2 := hidden (HN.out.below hb2 (Nat.le_refl _))
  clear hb2
  go_wp2_with fail
  refine (start_any z n X k (j : Nat) w2 HN2.out).mono ?_
  rintro e' w3 ⟨rfl, rfl⟩
  go_wp2_with fail
  go_ret2
  exact ⟨rfl, HB.out⟩
theorem Prev_not (z n X : Nat) (k : NK) (i : Int) (w : World) (h : Nt w z n X k) (hi : Ns.on X i = false) :
    Calls Tryz.prog 16 #[.pointer (some ⟨z, 0, none⟩), .int .i64 i] w fun e w' => e = .returned (.tuple #[.int .i64 0, .int .i64 1]) ∧ w' = w := by
  have HO := opens_any z n X k i w h
  rw [hi] at HO
  have HO := hidden HO
  clear h
  go_enter Tryz.func16, Tryz.ntmps16
  go_wp2_with fail
  refine HO.out.mono ?_
  rintro e' w1 ⟨rfl, rfl⟩
  go_wp2_with fail
  go_ret2
  exact ⟨rfl, rfl⟩
theorem Prev_some (z n X i j : Nat) (k : NK) (w : World) (h : Nt w z n X k) (hi : Ns.Nd X n i) (hj : Ns.Cl X n j (i - 1)) :
    Calls Tryz.prog 16 #[.pointer (some ⟨z, 0, none⟩), .int .i64 (i : Nat)] w fun e w' => e = .returned (.tuple #[.int .i64 (j : Nat), .int .i64 0]) ∧ Below w.heap.size w w' := by
  have HO := opens_any z n X k (i : Nat) w h
  rw [Ns.on_nd hi] at HO
  have HO := hidden HO
  have c0 := h.cell0
  have hn := h.len
  have hin := hi.1
  have HN := hidden h
  have hgt := hj.gt
  have hP := Open_at z n X j (i - 1) k w h hj
  have hC := closes_any z n X k ((i - 1 : Nat) : Int) w h
  rw [Ns.off_nat hj.lt hj.zero] at hC
  obtain ⟨c, hcc⟩ : ∃ c, c = i - 1 := ⟨_, rfl⟩
  rw [← hcc] at hP hC
  have hic : (i : Int) - 1 = (c : Int) := by omega
  have HP := hidden hP
  have HC := hidden hC
  clear h hi hj hP hC hcc
  go_enter Tryz.func16, Tryz.ntmps16
  go_wp2_with fail
  refine HO.out.mono ?_
  rintro e' w1 ⟨rfl, rfl⟩
  go_wp2_with fail
  refine HC.out.mono ?_
  rintro e' w2 ⟨rfl, rfl⟩
  go_wp2_with fail
  refine HP.out.mono ?_
  rintro e' w2 ⟨rfl, hb2⟩
  have HB := hidden hb2
  clear hb2
  go_wp2_with fail
  go_ret2
  exact ⟨rfl, HB.out⟩
theorem Prev_none (z n X i : Nat) (k : NK) (w : World) (h : Nt w z n X k) (hi : Ns.Nd X n i) (hj : Ns.off X n ((i : Int) - 1) = false) :
    Calls Tryz.prog 16 #[.pointer (some ⟨z, 0, none⟩), .int .i64 (i : Nat)] w fun e w' => e = .returned (.tuple #[.int .i64 0, .int .i64 7]) ∧ w' = w := by
  have HO := opens_any z n X k (i : Nat) w h
  rw [Ns.on_nd hi] at HO
  have HO := hidden HO
  have c0 := h.cell0
  have hn := h.len
  have hin := hi.1
  have HN := hidden h
  have hC := closes_any z n X k ((i : Int) - 1) w h
  rw [hj] at hC
  have HC := hidden hC
  clear h hi hj hC
  go_enter Tryz.func16, Tryz.ntmps16
  go_wp2_with fail
  refine HO.out.mono ?_
  rintro e' w1 ⟨rfl, rfl⟩
  go_wp2_with fail
  refine HC.out.mono ?_
  rintro e' w2 ⟨rfl, rfl⟩
  go_wp2_with fail
  go_ret2
  exact ⟨rfl, rfl⟩
theorem Depth_not (z n X : Nat) (k : NK) (i : Int) (w : World) (h : Nt w z n X k) (hi : Ns.on X i = false) :
    Calls Tryz.prog 15 #[.pointer (some ⟨z, 0, none⟩), .int .i64 i] w fun e w' => e = .returned (.tuple #[.int .i64 0, .int .i64 1]) ∧ w' = w := by
  have HO := opens_any z n X k i w h
  rw [hi] at HO
  have HO := hidden HO
  clear h
  go_enter Tryz.func15, Tryz.ntmps15
  go_wp2_with fail
  refine HO.out.mono ?_
  rintro e' w1 ⟨rfl, rfl⟩
  go_wp2_with fail
  go_ret2
  exact ⟨rfl, rfl⟩
theorem Depth_any (z n X i : Nat) (k : NK) (w : World) (h : Nt w z n X k) (hi : Ns.Nd X n i) :
    Calls Tryz.prog 15 #[.pointer (some ⟨z, 0, none⟩), .int .i64 (i : Nat)] w fun e w' => e = .returned (.tuple #[.int .i64 (Wd.exc X i), .int .i64 0]) ∧ w' = w := by
  have HO := opens_any z n X k (i : Nat) w h
  rw [Ns.on_nd hi] at HO
  have HO := hidden HO
  have c0 := h.cell0
  have hn := h.len
  have hin := hi.1
  have HN := hidden h
  have hf := TExcess_any k.t k.r n X k.u k.gs k.m (i : Nat) w h.tree
  rw [Pn.fr_nat n i (Nat.le_of_lt hi.1)] at hf
  have HF := hidden hf
  clear h hi hf
  go_enter Tryz.func15, Tryz.ntmps15
  go_wp2_with fail
  refine HO.out.mono ?_
  rintro e' w1 ⟨rfl, rfl⟩
  go_wp2_with fail
  refine HF.out.mono ?_
  rintro e' w2 ⟨rfl, rfl⟩
  go_wp2_with fail
  go_ret2
  exact ⟨rfl, rfl⟩
theorem Rank_not (z n X : Nat) (k : NK) (i : Int) (w : World) (h : Nt w z n X k) (hi : Ns.on X i = false) :
    Calls Tryz.prog 26 #[.pointer (some ⟨z, 0, none⟩), .int .i64 i] w fun e w' => e = .returned (.tuple #[.int .i64 0, .int .i64 1]) ∧ w' = w := by
  have HO := opens_any z n X k i w h
  rw [hi] at HO
  have HO := hidden HO
  clear h
  go_enter Tryz.func26, Tryz.ntmps26
  go_wp2_with fail
  refine HO.out.mono ?_
  rintro e' w1 ⟨rfl, rfl⟩
  go_wp2_with fail
  go_ret2
  exact ⟨rfl, rfl⟩
theorem NRank_any (z n X i : Nat) (k : NK) (w : World) (h : Nt w z n X k) (hi : Ns.Nd X n i) :
    Calls Tryz.prog 26 #[.pointer (some ⟨z, 0, none⟩), .int .i64 (i : Nat)] w fun e w' => e = .returned (.tuple #[.int .i64 (Wd.ones X i : Nat), .int .i64 0]) ∧ Below w.heap.size w w' := by
  have HO := opens_any z n X k (i : Nat) w h
  rw [Ns.on_nd hi] at HO
  have HO := hidden HO
  have c0 := h.cell0
  have hn := h.len
  have hin := hi.1
  have HN := hidden h
  have c1 := h.cell1
  have hf := Rank_any k.c k.d k.g k.r n X k.b0 k.b1 (i : Nat) k.u w h.places
  rw [Bt.cf_nat n i (Nat.le_of_lt hi.1)] at hf
  have HF := hidden hf
  clear h hi hf
  go_enter Tryz.func26, Tryz.ntmps26
  go_wp2_with fail
  refine HO.out.mono ?_
  rintro e' w1 ⟨rfl, rfl⟩
  go_wp2_with fail
  refine HF.out.mono ?_
  rintro e' w2 ⟨rfl, m2, rfl⟩
  go_wp2_with fail
  go_ret2
  exact ⟨rfl, drewN_below (Below.refl _ _) _⟩
theorem Node_at (z n X i p : Nat) (k : NK) (w : World) (h : Nt w z n X k) (hT : Tab w) (hp : Ck.At X n i p) :
    Calls Tryz.prog 17 #[.pointer (some ⟨z, 0, none⟩), .int .i64 (i : Nat)] w fun e w' => e = .returned (.tuple #[.int .i64 (p : Nat), .int .i64 0]) ∧ Below w.heap.size w w' := by
  have c1 := h.cell1
  have HF := hidden (COne_at k.c k.d k.g k.r n X k.b0 k.b1 i p k.u w h.places hT hp)
  clear h hp
  go_enter Tryz.func17, Tryz.ntmps17
  go_wp2_with fail
  refine HF.out.mono ?_
  rintro e' w2 ⟨rfl, hb2⟩
  have HB := hidden hb2
  clear hb2
  go_wp2_with fail
  go_ret2
  exact ⟨rfl, HB.out⟩
theorem Node_none (z n X : Nat) (i : Int) (k : NK) (w : World) (h : Nt w z n X k) (hp : i < 0 ∨ ((Wd.ones X n : Nat) : Int) ≤ i) :
    Calls Tryz.prog 17 #[.pointer (some ⟨z, 0, none⟩), .int .i64 i] w fun e w' => e = .returned (.tuple #[.int .i64 0, .int .i64 7]) ∧ Below w.heap.size w w' := by
  have c1 := h.cell1
  have HF := hidden (COne_none k.c k.d k.g k.r n X k.b0 k.b1 i k.u w h.places hp)
  clear h hp
  go_enter Tryz.func17, Tryz.ntmps17
  go_wp2_with fail
  refine HF.out.mono ?_
  rintro e' w2 ⟨rfl, hb2⟩
  have HB := hidden hb2
  clear hb2
  go_wp2_with fail
  go_ret2
  exact ⟨rfl, HB.out⟩
theorem Nodes_any (z n X : Nat) (k : NK) (w : World) (h : Nt w z n X k) :
    Calls Tryz.prog 18 #[.pointer (some ⟨z, 0, none⟩)] w fun e w' => e = .returned (.int .i64 ((Wd.ones X n : Nat) : Int)) ∧ ∃ m, w' = w.drewN m := by
  have c1 := h.cell1
  have HF := hidden (COnes_any k.c k.d k.g k.r n X k.b0 k.b1 k.u w h.places)
  clear h
  go_enter Tryz.func18, Tryz.ntmps18
  go_wp2_with fail
  refine HF.out.mono ?_
  rintro e' w2 ⟨rfl, m2, rfl⟩
  go_wp2_with fail
  go_ret
  exact ⟨rfl, m2, rfl⟩
end Go.Proofs.YtmeclkmmgbndkaaGreatDoor
namespace Go.Proofs.YtmeclkmmgbndkaaGreatDoor
open Go.RowKit
set_option maxHeartbeats 1000000 in
theorem awake8_any (w : World) (hT : Tab w) :
    Calls Tryz.prog 4 #[] w fun e w' => e = .returned (.bool true) ∧ Below w.heap.size w w' := by
  have HT := hidden hT
  clear hT
  go_enter Tryz.func4, Tryz.ntmps4
  go_wp2_with fail
  have HB : Hid (Bl (w.alloc (.cells #[.bool true, .bool true, .bool false, .bool false] 4)) (.slice (some ⟨w.heap.size, 0, none⟩) 4 4) [true, true, false, false]) :=
    World.ownsRow_lit w _ 4 (Nat.zero_le _) (by decide) rfl
  refine (Made_any [true, true, false, false] _ _ HB.out (by decide)).mono ?_
  rintro e' w1 ⟨r1, u1, rfl, hr1, hq1, _, _⟩
  have HR1 : Hid (Rw w1 r1 4 3 u1) := hr1
  have HL1 : Hid (Below w.heap.size w w1) := ((Below.refl _ _).alloc (Nat.le_refl _) _).trans (hq1.mono (by simp))
  clear hr1 hq1
  go_wp2_with fail
  refine (NNew_any r1 4 3 u1 _ HR1.out (HT.out.below HL1.out (Nat.le_refl _)) (by decide +kernel)).mono ?_
  rintro e' w2 ⟨z, k, rfl, hz, hb2⟩
  have HN := hidden hz
  have HL2 : Hid (Below w.heap.size w w2) := HL1.out.trans (hb2.mono HL1.out.size)
  clear hz hb2
  go_wp2_with fail
  have hc := Close_node z 4 3 0 k w2 HN.out ⟨by decide, by decide⟩
  rw [show Ns.cl 3 4 0 = 3 from by decide +kernel] at hc
  refine hc.mono ?_
  rintro e' w3 ⟨rfl, hb3⟩
  have HL3 : Hid (Below w.heap.size w w3) := HL2.out.trans (hb3.mono HL2.out.size)
  clear hb3 hc
  go_wp2_with fail
  go_ret
  exact ⟨rfl, HL3.out⟩
end Go.Proofs.YtmeclkmmgbndkaaGreatDoor
