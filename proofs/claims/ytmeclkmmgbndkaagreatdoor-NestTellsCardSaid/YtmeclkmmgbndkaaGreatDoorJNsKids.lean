/-
  The contract of the iterator that a nest's children hands back: the node's children, in order.
  The contracts of a nest's Count and Child: how many children a node has, and which is the k-th one.
-/
import Derived.RangeFuncNested
import Derived.RangeFuncBound
import Derived.RangeFuncCalls
import Derived.RangeFuncLeaves
import Derived.RangeFuncFrom
import Derived.Shelf.Abstract
import Derived.Shelf.RegionOpen
import Derived.WalkKit
import Derived.OwnWalkIn
import Derived.TacticsInMore
import Derived.LoopNIn
import Derived.LoopIn
import Derived.Test.YtmeclkmmgbndkaaGreatDoorJNsAsk
namespace Go.Proofs.YtmeclkmmgbndkaaGreatDoor
open Go.RowKit Go.Shelf
attribute [local go_sem] Oper.semAt_some
namespace Ns
theorem cell_after {w w' : World} {p : Addr} {v : Value} (hb : Below w.heap.size w w') (h : w.cell? p = some v) : w'.cell? p = some v :=
  (hb.cell (World.block_lt_of_cell? w p h)).trans h
theorem below_after {B : Nat} {w w' w'' : World} (h : Below B w w') (hb : Below w'.heap.size w' w'') (hB : B ≤ w.heap.size := by exact Nat.le_refl _) : Below B w w'' := h.trans (hb.mono (Nat.le_trans hB h.size))
theorem cell_made {w : World} {o : Obj} {p : Addr} {v : Value} (h : w.cell? p = some v) : (w.alloc o).cell? p = some v := cell_after ((Below.refl _ _).alloc (Nat.le_refl _) _) h
theorem cell_new_at {w : World} {v : Value} {t : TypeId} {k : Nat} (hk : k = w.heap.size) : (w.alloc (.cells #[v] t)).cell? ⟨k, 0, none⟩ = some v := by
  subst hk
  exact Lib.cell_of_heap (heap_alloc_new _ _) 0
theorem frozen_after {w w' : World} {p : Addr} {v : Value} (hb : Below w.heap.size w w') (h : w.cell? p = some v) : w'.frozen? p = w.frozen? p := by
  have := hb.block p.block (World.block_lt_of_cell? w p h)
  simp only [World.frozen?, this]
theorem below_grown {w w' : World} (h : Below w.heap.size w w') : w.grownBy w' none := ⟨h.os, h.tape, h.output, h.size, fun k hk _ => h.block k hk⟩
/-- What the body of a range over the children keeps: all below n0, and the block bz. -/
def Kept (n0 bz : Nat) (W W' : World) : Prop := Below n0 W W' ∧ W'.heap[bz]? = W.heap[bz]?
theorem Kept.refl (n0 bz : Nat) (W : World) : Kept n0 bz W W := ⟨Below.refl _ _, rfl⟩
theorem Kept.trans {n0 bz : Nat} {A B C : World} (h : Kept n0 bz A B) (k : Kept n0 bz B C) : Kept n0 bz A C := ⟨h.1.trans k.1, k.2.trans h.2⟩
theorem Kept.of {n0 bz : Nat} {A B : World} (h : Below A.heap.size A B) (h0 : n0 ≤ A.heap.size) (hz : bz < A.heap.size) : Kept n0 bz A B := ⟨h.mono h0, h.block bz hz⟩
theorem Kept.cell {n0 bz : Nat} {A B : World} {v : Value} (h : Kept n0 bz A B) (hc : A.cell? ⟨bz, 0, none⟩ = some v) : B.cell? ⟨bz, 0, none⟩ = some v := by
  have e : B.cell? ⟨bz, 0, none⟩ = A.cell? ⟨bz, 0, none⟩ := by simp only [World.cell?, h.2]
  rw [e, hc]
theorem Kept.book {n0 bz : Nat} {w : World} (h0 : n0 ≤ w.heap.size) (hz : bz < w.heap.size) (W : World) (l : Nat) (o o' : Obj) (hl : w.heap.size ≤ l) (h1 : W.heap[l]? = some o) (h2 : o.isCells = false) (h3 : o.isWalk = false) : Kept n0 bz W (W.putObj l o') :=
  ⟨(belowK_b (w := w) (Nat.le_refl _) W l o o' hl h1 h2 h3).mono h0, (belowK_b (w := w) (Nat.le_refl _) W l o o' hl h1 h2 h3).block bz hz⟩
/-- What is told of the child that begins at a, or that there is none. -/
def cv (X a : Nat) : Int := bif Ns.on X (a : Nat) then (a : Int) else 0
def ce (X a : Nat) : Int := bif Ns.on X (a : Nat) then 0 else 7
end Ns
set_option maxRecDepth 100000 in
set_option maxHeartbeats 2000000 in
theorem kids1_in (n : Nat) (hn : 1 ≤ n) (y z m X i n0 bz bi : Nat) (k : NK) (J Jx : List Nat → World → Prop) (W : World)
    (hY : ∀ pre x W, J pre W → pre.length < (Ns.kids X m i).length → YieldAt Fence.wide (n - 1) Tryz.prog y #[.int .i64 (x : Nat)] W fun e W' =>
      (e = .returned (.bool true) ∧ J (pre ++ [x]) W' ∧ Ns.Kept n0 bz W W') ∨ (e = .returned (.bool false) ∧ Jx (pre ++ [x]) W'))
    (hJd : ∀ pre W W', J pre W → Below W.heap.size W W' → J pre W') (hi : Ns.Nd X m i) (hok : Ns.Ok X m)
    (cz : W.cell? ⟨bz, 0, none⟩ = some (.pointer (some ⟨z, 0, none⟩))) (ci : W.cell? ⟨bi, 0, none⟩ = some (.int .i64 (i : Nat)))
    (hbz : bz < W.heap.size) (hn0 : n0 ≤ W.heap.size) (hNt : ∀ W', Below n0 W W' → Nt W' z m X k) (h0 : J [] W) :
    CallsIn Fence.wide n Tryz.prog 65 #[.func (.yield y) #[] #[], .pointer (some ⟨bz, 0, none⟩), .pointer (some ⟨bi, 0, none⟩)] W fun e W' => (∃ v, e = .returned v) ∧
      ((∃ ys, ys = Ns.kids X m i ∧ J ys W') ∨ (∃ pre, (∃ a p, Ns.kids X m i = p ++ a :: Ns.ks X m i (Ns.cl X m a + 1) ∧ pre = p ++ [a]) ∧ Jx pre W')) := by
  have HY := hidden hY
  have HJD := hidden hJd
  have HNt := hidden hNt
  have CZ := hidden cz
  have HF := hidden (First_any z m X i k W (hNt W (Below.refl _ _)) hi)
  have HAF := hidden (Ns.AtC.first hok hi)
  have HSO := hidden (fun a => Ns.AtC.some hok hi (a := a))
  have HNO := hidden (fun a => Ns.AtC.none hok hi (a := a))
  have HLE := hidden (fun a (ha : Ns.AtC X m i a) => Nat.le_trans ha.le (Nat.le_of_lt (Ns.cl_spec hok hi).lt))
  have hml := (hNt W (Below.refl _ _)).len
  have HJ0 := hidden h0
  have HOK := hidden hok
  clear hY hJd hNt hi hok h0
  refine callsIn_of_wp Tryz.func65 rfl trivial ?_ rfl
  simp only [Tryz.ntmps65, List.size_toArray, List.length_cons, List.length_nil, Nat.reduceAdd, Nat.reduceSub, Array.replicate_succ, Array.replicate_zero, List.push_toArray, List.append_toArray, List.nil_append, List.cons_append]
  gi_wp2_with fail
  refine ⟨trivial, (callsIn_wide.2 HF.out).mono ?_⟩
  rintro e' w1 ⟨rfl, rfl⟩
  gi_wp2_with fail
  clear cz ci
  gi_loopw [4, 5] (fun c e wr => ∃ a p, c = .int .i64 (Ns.cv X a) ∧ e = .int .i64 (Ns.ce X a) ∧ Ns.AtC X m i a ∧ Ns.kids X m i = p ++ Ns.ks X m i a ∧ J p wr ∧ Ns.Kept n0 bz w1 wr) (fun c e _ => bif intOf e == 0 then m + 2 - (intOf c).toNat else 0)
  case atStart => exact ⟨i + 1, [], rfl, rfl, HAF.out, rfl, HJ0.out, Ns.Kept.refl _ _ _⟩
  case round =>
    obtain ⟨a, p, rfl, rfl, ha, hk, hJp, hb⟩ := hrel
    have HA := hidden ha
    have HK := hidden hk
    have HJP := hidden hJp
    have HB := hidden hb
    have haM := HLE.out a ha
    clear ha hk hJp hb
    rcases Ns.bt_or X a with hz | hz
    · have e1 : Ns.ce X a = 7 := by unfold Ns.ce; rw [Ns.on_nat, hz]; rfl
      obtain ⟨_, e2⟩ := HNO.out a HA.out hz
      have HE2 := hidden e2
      rw [e1]
      clear e1 hz e2
      gi_wp2
      go_end0
      refine ⟨⟨_, rfl⟩, .inl ⟨_, rfl, ?_⟩⟩
      rw [HK.out, HE2.out, List.append_nil]
      exact HJP.out
    · have e1 : Ns.ce X a = 0 := by unfold Ns.ce; rw [Ns.on_nat, hz]; rfl
      have e2 : Ns.cv X a = (a : Int) := by unfold Ns.cv; rw [Ns.on_nat, hz]; rfl
      obtain ⟨h1, h2, h3, h4, h5⟩ := HSO.out a HA.out hz
      have HN := hidden h1
      have HA2 := hidden h4
      have HE5 := hidden h5
      have hgt := (Ns.cl_spec HOK.out h1).gt
      rw [e1, e2]
      obtain ⟨fn, tmps, assign, body, hy, hR⟩ := HY.out p a wr HJP.out (by rw [HK.out, h5]; simp)
      have HRR := hidden hR
      have c2 := HB.out.cell CZ.out
      clear e1 e2 hz h1 h2 h3 h4 h5 hR
      gi_wp2
      refine HRR.out.mono ?_
      rintro e W3 (⟨rfl, hJ3, hk3⟩ | ⟨rfl, hJx3⟩)
      · have HJ3 := hidden hJ3
        have HB3 := hidden (HB.out.trans hk3)
        have c3 := hk3.cell c2
        have HX := hidden (Next_any z m X a k W3 (HNt.out W3 HB3.out.1) HN.out)
        clear hJ3 hk3 c2
        gi_wp2_with fail
        refine ⟨trivial, (callsIn_wide.2 HX.out).mono ?_⟩
        rintro e' w4 ⟨rfl, hb4⟩
        have HB4 := hidden hb4
        clear hb4
        gi_wp2_with fail
        go_roundw
        case rel => exact ⟨Ns.cl X m a + 1, p ++ [a], rfl, rfl, HA2.out, by rw [HK.out, HE5.out, List.append_assoc]; rfl, HJD.out _ _ _ HJ3.out HB4.out, HB3.out.trans (Ns.Kept.of HB4.out (Nat.le_trans hn0 HB3.out.1.size) (Nat.lt_of_lt_of_le hbz HB3.out.1.size))⟩
        case measure =>
          have hla := HLE.out _ HA2.out
          show (bif (bif Ns.on X ((Ns.cl X m a + 1 : Nat) : Int) then (0 : Int) else 7) == 0 then m + 2 - (bif Ns.on X ((Ns.cl X m a + 1 : Nat) : Int) then ((Ns.cl X m a + 1 : Nat) : Int) else 0).toNat else 0) < m + 2 - (a : Int).toNat
          cases Ns.on X ((Ns.cl X m a + 1 : Nat) : Int)
          · simp; omega
          · simp; omega
      · have HJ3 := hidden hJx3
        clear hJx3
        gi_wp2
        refine bodyPost_ret (results_none rfl _ _ _) rfl ?_
        exact ⟨⟨_, rfl⟩, .inr ⟨_, ⟨a, p, by rw [HK.out, HE5.out], rfl⟩, HJ3.out⟩⟩
/-- What children hands back, as an iterator: the nest lies in the world w0, below all that the body may write. -/
theorem kids_stops (n : Nat) (hn : 1 ≤ n) (z m X i bz bi : Nat) (k : NK) (w0 w : World) (hi : Ns.Nd X m i) (hw : Below w0.heap.size w0 w)
    (cz : w.cell? ⟨bz, 0, none⟩ = some (.pointer (some ⟨z, 0, none⟩))) (ci : w.cell? ⟨bi, 0, none⟩ = some (.int .i64 (i : Nat))) (hNt : Nt w0 z m X k) :
    SeqStopsK Fence.wide n Tryz.prog 65 #[.pointer (some ⟨bz, 0, none⟩), .pointer (some ⟨bi, 0, none⟩)]
      (fun x : Nat => #[.int .i64 (x : Nat)]) (Ns.Kept w0.heap.size bz) (fun ys => ys = Ns.kids X m i) (fun pre => ∃ a p, Ns.kids X m i = p ++ a :: Ns.ks X m i (Ns.cl X m a + 1) ∧ pre = p ++ [a]) (Ns.kids X m i).length w := fun y J Jx W hW hJ _ hY h0 => by
  have hbz := World.block_lt_of_cell? w ⟨bz, 0, none⟩ cz
  exact kids1_in n hn y z m X i w0.heap.size bz bi k J Jx W hY (fun pre W' W'' hj hb => hJ pre W' _ none hj (Ns.below_grown hb) (fun r e => by cases e)) hi hNt.ok
    (Ns.cell_after hW cz) (Ns.cell_after hW ci) (Nat.lt_of_lt_of_le hbz hW.size) (Nat.le_trans hw.size hW.size) (fun W' hb => hNt.below ((Ns.below_after hw hW).trans hb) (Nat.le_refl _)) h0
set_option maxHeartbeats 1000000 in
theorem children_any (z i : Nat) (w : World) :
    Calls Tryz.prog 38 #[.pointer (some ⟨z, 0, none⟩), .int .i64 (i : Nat)] w fun e w' => ∃ bz bi, e = .returned (.func (.func 65) #[] #[.pointer (some ⟨bz, 0, none⟩), .pointer (some ⟨bi, 0, none⟩)]) ∧ Below w.heap.size w w' ∧
      w'.cell? ⟨bz, 0, none⟩ = some (.pointer (some ⟨z, 0, none⟩)) ∧ w'.cell? ⟨bi, 0, none⟩ = some (.int .i64 (i : Nat)) := by
  go_enter Tryz.func38, Tryz.ntmps38
  go_wp2_with fail
  go_ret
  refine ⟨_, _, rfl, (((Below.refl _ _).alloc (Nat.le_refl _) _).alloc (by simp) _), ?_, ?_⟩
  · exact Ns.cell_made (Ns.cell_new_at rfl)
  · exact Ns.cell_new_at (by simp)
end Go.Proofs.YtmeclkmmgbndkaaGreatDoor
namespace Go.Proofs.YtmeclkmmgbndkaaGreatDoor
open Go.RowKit Go.Shelf
attribute [local go_sem] Oper.semAt_some
theorem Count_not (z n X : Nat) (k : NK) (i : Int) (w : World) (h : Nt w z n X k) (hi : Ns.on X i = false) :
    Calls Tryz.prog 29 #[.pointer (some ⟨z, 0, none⟩), .int .i64 i] w fun e w' => e = .returned (.tuple #[.int .i64 0, .int .i64 1]) ∧ w' = w := by
  have HO := opens_any z n X k i w h
  rw [hi] at HO
  have HO := hidden HO
  clear h
  go_enter Tryz.func29, Tryz.ntmps29
  go_wp2_with fail
  refine HO.out.mono ?_
  rintro e' w1 ⟨rfl, rfl⟩
  go_wp2_with fail
  go_ret2
  exact ⟨rfl, rfl⟩
set_option maxRecDepth 100000 in
set_option maxHeartbeats 2000000 in
theorem Count_any (z n X i : Nat) (k : NK) (w : World) (h : Nt w z n X k) (hi : Ns.Nd X n i) :
    Calls Tryz.prog 29 #[.pointer (some ⟨z, 0, none⟩), .int .i64 (i : Nat)] w fun e w' => e = .returned (.tuple #[.int .i64 ((Ns.kids X n i).length : Nat), .int .i64 0]) ∧ Below w.heap.size w w' := by
  have HO := opens_any z n X k (i : Nat) w h
  rw [Ns.on_nd hi] at HO
  have HO := hidden HO
  have HN := hidden h
  have HI := hidden hi
  have hlen : (Ns.kids X n i).length ≤ 4294967296 := Nat.le_trans (Ns.kids_len X n i (i + 1)) (by have := (Ns.cl_spec h.ok hi).lt; have := h.len; omega)
  clear h hi
  refine (callsIn_wide (n := 10)).1 ?_
  refine callsIn_of_wp_marks Tryz.func29 rfl trivial ?_ rfl
  simp only [Tryz.ntmps29, List.size_toArray, List.length_cons, List.length_nil, Nat.reduceAdd, Nat.reduceSub, Array.replicate_succ, Array.replicate_zero, List.push_toArray, List.append_toArray, List.nil_append, List.cons_append]
  refine wpIn_wide.2 ?_
  go_wp2_with fail
  refine HO.out.mono ?_
  rintro e' w1 ⟨rfl, rfl⟩
  go_wp2_with fail
  obtain ⟨w0, hw0⟩ : ∃ w0, w0 = w1.alloc (.cells #[.int .i64 0] 3) := ⟨_, rfl⟩
  have hb0 : Below w1.heap.size w1 w0 := by rw [hw0]; exact (Below.refl _ _).alloc (Nat.le_refl _) _
  have e0 : w0.cell? ⟨w1.heap.size, 0, none⟩ = some (.int .i64 0) := by rw [hw0]; exact Ns.cell_new_at rfl
  have f0 : w0.frozen? ⟨w1.heap.size, 0, none⟩ = false := by rw [hw0]; exact Lib.frozen_of_heap (heap_new_at rfl) 0
  rw [← hw0]
  have HB0 := hidden hb0
  clear hw0 hb0
  refine (children_any z i w0).mono ?_
  rintro e' w2 ⟨bz, bi, rfl, hb2, cz, ci⟩
  have e2 := Ns.cell_after hb2 e0
  have f2 : w2.frozen? ⟨w1.heap.size, 0, none⟩ = false := (Ns.frozen_after hb2 e0).trans f0
  have HB2 := hidden (Ns.below_after HB0.out hb2)
  have HSt := hidden (kids_stops 9 (by decide) z n X i bz bi k w1 w2 HI.out HB2.out cz ci HN.out)
  have hbz := World.block_lt_of_cell? w2 ⟨bz, 0, none⟩ cz
  have hbz1 : bz ≠ w1.heap.size := by intro e; subst e; rw [e2] at cz; cases cz
  clear hb2 cz ci e0 f0 HB0
  go_wp2_with fail
  refine (wpIn_wide (n := 10)).1 ?_
  refine wpIn_rangeFunc_ownF rfl (by decide) (gf := 65) (lb := #[.pointer (some ⟨bz, 0, none⟩), .pointer (some ⟨bi, 0, none⟩)]) rfl trivial (enters_of Tryz.func65 (by kernel_rfl) rfl)
    HSt.out (fun h k => Ns.Kept.trans h k) (Ns.Kept.book HB2.out.size hbz) (Below.refl _ _) (fun _ => rfl)
    (fun pre W' => (W'.cell? ⟨w1.heap.size, 0, none⟩ = some (.int .i64 (pre.length : Nat)) ∧ W'.frozen? ⟨w1.heap.size, 0, none⟩ = false) ∧ Below w1.heap.size w1 W')
    (fun _ _ _ => False)
    (OwnFrom.and (Own.from (fun s A B row hs hg hr => ⟨cell_kept hs.1 hg hr, (frozen_kept hs.1 hg hr).trans hs.2⟩) _) (ownFrom_below (Nat.le_refl _) HB2.out.size))
    (fun c s A B row hs _ _ => hs)
    ⟨⟨e2, f2⟩, HB2.out⟩ ?a1 ?assign ?body ?done ?stop
  case assign =>
    intro l' x' W' K hK
    gi_wp2
    exact hK
  case body =>
    rintro l' pre p W' ⟨⟨h3, h4⟩, hB⟩ hlt
    have H3 := hidden h3
    have H4 := hidden h4
    have HB := hidden hB
    have hpl : pre.length < 4294967296 := by omega
    clear hB hlt
    gi_wp2
    refine ⟨KeepsOthers.setCell _ _ _, ⟨(Below.refl _ _).setCell (p := ⟨w1.heap.size, 0, none⟩) (Nat.le_refl _) _, ?_⟩, ⟨?_, ?_⟩, HB.out.setCell (p := ⟨w1.heap.size, 0, none⟩) (Nat.le_refl _) _⟩
    · exact setCell_heap_other _ _ _ _ hbz1
    · rw [World.cell?_setCell_same' _ _ _ (by rw [H3.out]; rfl), List.length_append, List.length_singleton]
      exact congrArg (fun x => some (Value.int IntKind.i64 x)) (by omega)
    · rw [World.frozen?_setCell]
      exact H4.out
  case done =>
    rintro D ys W' hD rfl ⟨⟨h3, h4⟩, hB⟩ hK
    have HB := hidden hB
    have HK := hidden hK
    clear hB hK h4
    go_wp2_with fail
    refine ⟨by simp, .inl ⟨_, _, rfl, run_takeDeferred HK.out, ?_⟩⟩
    refine ⟨.tuple #[.int .i64 ((Ns.kids X n i).length : Nat), .int .i64 0], ?_, rfl, HB.out.trans ((belowK_b (w := w2) (Nat.le_refl _) W' D _ _ hD HK.out rfl rfl).mono HB2.out.size)⟩
    simp [results, Tryz.f29, go_sem]
  case stop =>
    rintro D c pre W' hD _ hF _
    exact hF.elim
/-- The three boxes of Child: what is left to go, and the two results. -/
structure Cb (w W : World) (q v e : Int) : Prop where
  c0 : W.cell? ⟨w.heap.size, 0, none⟩ = some (.int .i64 q)
  c1 : W.cell? ⟨w.heap.size + 1, 0, none⟩ = some (.int .i64 v)
  c2 : W.cell? ⟨w.heap.size + 1 + 1, 0, none⟩ = some (.int .i64 e)
  f0 : W.frozen? ⟨w.heap.size, 0, none⟩ = false
  f1 : W.frozen? ⟨w.heap.size + 1, 0, none⟩ = false
  f2 : W.frozen? ⟨w.heap.size + 1 + 1, 0, none⟩ = false
theorem Cb.after {w A B : World} {q v e : Int} (h : Cb w A q v e) (hb : Below A.heap.size A B) : Cb w B q v e :=
  ⟨Ns.cell_after hb h.c0, Ns.cell_after hb h.c1, Ns.cell_after hb h.c2, (Ns.frozen_after hb h.c0).trans h.f0, (Ns.frozen_after hb h.c1).trans h.f1, (Ns.frozen_after hb h.c2).trans h.f2⟩
theorem Cb.kept {w A B : World} {q v e : Int} {row : Option Nat} (h : Cb w A q v e) (hg : A.grownBy B row) (hr : ∀ r, row = some r → ∃ o, A.heap[r]? = some o ∧ o.isCells = false) : Cb w B q v e :=
  ⟨cell_kept h.c0 hg hr, cell_kept h.c1 hg hr, cell_kept h.c2 hg hr, (frozen_kept h.c0 hg hr).trans h.f0, (frozen_kept h.c1 hg hr).trans h.f1, (frozen_kept h.c2 hg hr).trans h.f2⟩
theorem Cb.made (w : World) (q : Int) : Cb w (((w.alloc (.cells #[.int .i64 q] 3)).alloc (.cells #[.int .i64 0] 3)).alloc (.cells #[.int .i64 0] 28)) q 0 0 := by
  have g0 : ∀ (A : World) (o : Obj) (p : Addr) (v : Value), A.cell? p = some v → (A.alloc o).frozen? p = A.frozen? p := fun A o p v h => Ns.frozen_after ((Below.refl _ _).alloc (Nat.le_refl _) _) h
  have a0 : (w.alloc (.cells #[.int .i64 q] 3)).cell? ⟨w.heap.size, 0, none⟩ = some (.int .i64 q) := Ns.cell_new_at rfl
  have a1 : ((w.alloc (.cells #[.int .i64 q] 3)).alloc (.cells #[.int .i64 0] 3)).cell? ⟨w.heap.size + 1, 0, none⟩ = some (.int .i64 0) := Ns.cell_new_at (by simp)
  refine ⟨Ns.cell_made (Ns.cell_made a0), Ns.cell_made a1, Ns.cell_new_at (by simp), ?_, ?_, Lib.frozen_of_heap (heap_new_at (by simp)) 0⟩
  · rw [g0 _ _ _ _ (Ns.cell_made a0), g0 _ _ _ _ a0]
    exact Lib.frozen_of_heap (heap_new_at rfl) 0
  · rw [g0 _ _ _ _ a1]
    exact Lib.frozen_of_heap (heap_new_at (by simp)) 0
theorem Cb.below (w : World) (q : Int) : Below w.heap.size w (((w.alloc (.cells #[.int .i64 q] 3)).alloc (.cells #[.int .i64 0] 3)).alloc (.cells #[.int .i64 0] 28)) :=
  (((Below.refl _ _).alloc (Nat.le_refl _) _).alloc (by simp) _).alloc (by simp; omega) _
theorem cell_set_other {W : World} {p q : Addr} (v : Value) (h : p.block ≠ q.block) : (W.setCell q v).cell? p = W.cell? p := by
  have := setCell_heap_other W q v p.block h
  simp only [World.cell?, this]
theorem Cb.set0 {w W : World} {q v e : Int} (h : Cb w W q v e) (q' : Int) : Cb w (W.setCell ⟨w.heap.size, 0, none⟩ (.int .i64 q')) q' v e :=
  ⟨World.cell?_setCell_same' _ _ _ (by rw [h.c0]; rfl), (cell_set_other _ (by simp)).trans h.c1, (cell_set_other _ (by simp; omega)).trans h.c2,
    by rw [World.frozen?_setCell]; exact h.f0, by rw [World.frozen?_setCell]; exact h.f1, by rw [World.frozen?_setCell]; exact h.f2⟩
theorem Cb.set1 {w W : World} {q v e : Int} (h : Cb w W q v e) (v' : Int) : Cb w (W.setCell ⟨w.heap.size + 1, 0, none⟩ (.int .i64 v')) q v' e :=
  ⟨(cell_set_other _ (by simp)).trans h.c0, World.cell?_setCell_same' _ _ _ (by rw [h.c1]; rfl), (cell_set_other _ (by simp)).trans h.c2,
    by rw [World.frozen?_setCell]; exact h.f0, by rw [World.frozen?_setCell]; exact h.f1, by rw [World.frozen?_setCell]; exact h.f2⟩
theorem Cb.set2 {w W : World} {q v e : Int} (h : Cb w W q v e) (e' : Int) : Cb w (W.setCell ⟨w.heap.size + 1 + 1, 0, none⟩ (.int .i64 e')) q v e' :=
  ⟨(cell_set_other _ (by simp; omega)).trans h.c0, (cell_set_other _ (by simp)).trans h.c1, World.cell?_setCell_same' _ _ _ (by rw [h.c2]; rfl),
    by rw [World.frozen?_setCell]; exact h.f0, by rw [World.frozen?_setCell]; exact h.f1, by rw [World.frozen?_setCell]; exact h.f2⟩
set_option maxRecDepth 100000 in
set_option maxHeartbeats 2000000 in
theorem Child_not (z n X : Nat) (k : NK) (i q : Int) (w : World) (h : Nt w z n X k) (hi : Ns.on X i = false) :
    Calls Tryz.prog 14 #[.pointer (some ⟨z, 0, none⟩), .int .i64 i, .int .i64 q] w fun e w' => e = .returned (.tuple #[.int .i64 0, .int .i64 1]) ∧ Below w.heap.size w w' := by
  have HN := hidden h
  have HI := hidden hi
  clear h hi
  refine (callsIn_wide (n := 10)).1 ?_
  refine callsIn_of_wp_marks Tryz.func14 rfl trivial ?_ rfl
  simp only [Tryz.ntmps14, List.size_toArray, List.length_cons, List.length_nil, Nat.reduceAdd, Nat.reduceSub, Array.replicate_succ, Array.replicate_zero, List.push_toArray, List.append_toArray, List.nil_append, List.cons_append]
  refine wpIn_wide.2 ?_
  go_wp2_with fail
  have hcb := Cb.made w q
  have hb0 := Cb.below w q
  obtain ⟨w0, hw0⟩ : ∃ w0, w0 = (((w.alloc (.cells #[.int .i64 q] 3)).alloc (.cells #[.int .i64 0] 3)).alloc (.cells #[.int .i64 0] 28)) := ⟨_, rfl⟩
  rw [← hw0] at hcb hb0 ⊢
  have HO := opens_any z n X k i w0 (HN.out.below hb0 (Nat.le_refl _))
  rw [HI.out] at HO
  have HB0 := hidden hb0
  have HCB := hidden hcb
  obtain ⟨c0, c1, c2, f0, f1, f2⟩ := hcb
  clear hw0 hb0
  refine HO.mono ?_
  clear HO
  rintro e' w1 ⟨rfl, rfl⟩
  go_wp2_with fail
  have H2 := (HCB.out.set1 0).set2 1
  have h1 := H2.c1
  have h2 := H2.c2
  refine ⟨.tuple #[.int .i64 0, .int .i64 1], ?_, rfl, (HB0.out.setCell (p := ⟨w.heap.size + 1, 0, none⟩) (by simp) _).setCell (p := ⟨w.heap.size + 1 + 1, 0, none⟩) (by simp; omega) _⟩
  simp [results, Tryz.f14, go_sem, h1, h2]
set_option maxRecDepth 100000 in
set_option maxHeartbeats 2000000 in
theorem Child_neg (z n X i : Nat) (k : NK) (q : Int) (w : World) (h : Nt w z n X k) (hi : Ns.Nd X n i) (hq : q < 0) :
    Calls Tryz.prog 14 #[.pointer (some ⟨z, 0, none⟩), .int .i64 (i : Nat), .int .i64 q] w fun e w' => e = .returned (.tuple #[.int .i64 0, .int .i64 7]) ∧ Below w.heap.size w w' := by
  have HN := hidden h
  have HI := hidden hi
  have d0 : decide (q < 0) = true := decide_eq_true hq
  clear h hi
  refine (callsIn_wide (n := 10)).1 ?_
  refine callsIn_of_wp_marks Tryz.func14 rfl trivial ?_ rfl
  simp only [Tryz.ntmps14, List.size_toArray, List.length_cons, List.length_nil, Nat.reduceAdd, Nat.reduceSub, Array.replicate_succ, Array.replicate_zero, List.push_toArray, List.append_toArray, List.nil_append, List.cons_append]
  refine wpIn_wide.2 ?_
  go_wp2_with fail
  have hcb := Cb.made w q
  have hb0 := Cb.below w q
  obtain ⟨w0, hw0⟩ : ∃ w0, w0 = (((w.alloc (.cells #[.int .i64 q] 3)).alloc (.cells #[.int .i64 0] 3)).alloc (.cells #[.int .i64 0] 28)) := ⟨_, rfl⟩
  rw [← hw0] at hcb hb0 ⊢
  have HO := opens_any z n X k (i : Nat) w0 (HN.out.below hb0 (Nat.le_refl _))
  rw [Ns.on_nd HI.out] at HO
  have HB0 := hidden hb0
  have HCB := hidden hcb
  obtain ⟨c0, c1, c2, f0, f1, f2⟩ := hcb
  clear hw0 hb0
  refine HO.mono ?_
  clear HO
  rintro e' w1 ⟨rfl, rfl⟩
  go_wp2_with fail
  have H2 := (HCB.out.set1 0).set2 7
  have h1 := H2.c1
  have h2 := H2.c2
  refine ⟨.tuple #[.int .i64 0, .int .i64 7], ?_, rfl, (HB0.out.setCell (p := ⟨w.heap.size + 1, 0, none⟩) (by simp) _).setCell (p := ⟨w.heap.size + 1 + 1, 0, none⟩) (by simp; omega) _⟩
  simp [results, Tryz.f14, go_sem, h1, h2]
/-- What is told of the q-th child: its place, or 0; 0, or 7. -/
def Ns.kv (X n i q : Nat) : Int := ((Ns.kids X n i).getD q 0 : Nat)
def Ns.ke (X n i q : Nat) : Int := if q < (Ns.kids X n i).length then 0 else 7
theorem Ns.k_in {X n i q a : Nat} {p s : List Nat} (h : Ns.kids X n i = p ++ a :: s) (hq : p.length = q) : Ns.kv X n i q = (a : Int) ∧ Ns.ke X n i q = 0 := by
  unfold Ns.kv Ns.ke
  rw [h, if_pos (by simp; omega), List.getD_eq_getElem?_getD, List.getElem?_append_right (by omega), hq, Nat.sub_self]
  exact ⟨rfl, rfl⟩
theorem Ns.k_out {X n i q : Nat} (hq : (Ns.kids X n i).length ≤ q) : Ns.kv X n i q = 0 ∧ Ns.ke X n i q = 7 := by
  unfold Ns.kv Ns.ke
  rw [if_neg (by omega), List.getD_eq_getElem?_getD, List.getElem?_eq_none (by omega)]
  exact ⟨rfl, rfl⟩
set_option maxRecDepth 100000 in
set_option maxHeartbeats 4000000 in
theorem Child_any (z n X i q : Nat) (k : NK) (w : World) (h : Nt w z n X k) (hi : Ns.Nd X n i) (hq9 : q ≤ 9223372036854775807) :
    Calls Tryz.prog 14 #[.pointer (some ⟨z, 0, none⟩), .int .i64 (i : Nat), .int .i64 (q : Nat)] w fun e w' => e = .returned (.tuple #[.int .i64 (Ns.kv X n i q), .int .i64 (Ns.ke X n i q)]) ∧ Below w.heap.size w w' := by
  have HN := hidden h
  have HI := hidden hi
  have d0 : decide ((q : Int) < 0) = false := decide_eq_false (by omega)
  have hlen : (Ns.kids X n i).length ≤ 4294967296 := Nat.le_trans (Ns.kids_len X n i (i + 1)) (by have := (Ns.cl_spec h.ok hi).lt; have := h.len; omega)
  clear h hi
  refine (callsIn_wide (n := 10)).1 ?_
  refine callsIn_of_wp_marks Tryz.func14 rfl trivial ?_ rfl
  simp only [Tryz.ntmps14, List.size_toArray, List.length_cons, List.length_nil, Nat.reduceAdd, Nat.reduceSub, Array.replicate_succ, Array.replicate_zero, List.push_toArray, List.append_toArray, List.nil_append, List.cons_append]
  refine wpIn_wide.2 ?_
  go_wp2_with fail
  have hcb := Cb.made w (q : Nat)
  have hb0 := Cb.below w (q : Nat)
  obtain ⟨w0, hw0⟩ : ∃ w0, w0 = (((w.alloc (.cells #[.int .i64 (q : Nat)] 3)).alloc (.cells #[.int .i64 0] 3)).alloc (.cells #[.int .i64 0] 28)) := ⟨_, rfl⟩
  rw [← hw0] at hcb hb0 ⊢
  have HO := opens_any z n X k (i : Nat) w0 (HN.out.below hb0 (Nat.le_refl _))
  rw [Ns.on_nd HI.out] at HO
  have HB0 := hidden hb0
  have HCB := hidden hcb
  obtain ⟨c0, c1, c2, f0, f1, f2⟩ := hcb
  clear hw0 hb0
  refine HO.mono ?_
  clear HO
  rintro e' w1 ⟨rfl, rfl⟩
  go_wp2_with fail
  refine (children_any z i w1).mono ?_
  rintro e' w2 ⟨bz, bi, rfl, hb2, cz, ci⟩
  have hc2 := HCB.out.after hb2
  have HC2 := hidden hc2
  have HB2 := hidden (Ns.below_after HB0.out hb2)
  have HSt := hidden (kids_stops 9 (by decide) z n X i bz bi k w w2 HI.out HB2.out cz ci HN.out)
  have hbz := World.block_lt_of_cell? w2 ⟨bz, 0, none⟩ cz
  have hbz0 : bz ≠ w.heap.size := by intro e; subst e; rw [hc2.c0] at cz; cases cz
  have hbz1 : bz ≠ w.heap.size + 1 := by intro e; subst e; rw [hc2.c1] at cz; cases cz
  have hbz2 : bz ≠ w.heap.size + 1 + 1 := by intro e; subst e; rw [hc2.c2] at cz; cases cz
  clear hb2 cz ci c0 c1 c2 f0 f1 f2 HB0 hc2 d0
  go_wp2_with fail
  refine (wpIn_wide (n := 10)).1 ?_
  refine wpIn_rangeFunc_ownF rfl (by decide) (gf := 65) (lb := #[.pointer (some ⟨bz, 0, none⟩), .pointer (some ⟨bi, 0, none⟩)]) rfl trivial (enters_of Tryz.func65 (by kernel_rfl) rfl)
    HSt.out (fun h k => Ns.Kept.trans h k) (Ns.Kept.book HB2.out.size hbz) (Below.refl _ _) (fun _ => rfl)
    (fun pre W' => (pre.length ≤ q ∧ Cb w W' ((q - pre.length : Nat) : Int) 0 0) ∧ Below w.heap.size w W')
    (fun c pre W' => (c = .ret ∧ ∃ pre' p, pre = pre' ++ [p] ∧ pre'.length = q ∧ ∃ q', Cb w W' q' ((p : Nat) : Int) 0) ∧ Below w.heap.size w W')
    (OwnFrom.and (Own.from (fun s A B row hs hg hr => ⟨hs.1, hs.2.kept hg hr⟩) _) (ownFrom_below (Nat.le_refl _) HB2.out.size))
    (fun c => OwnFrom.and (Own.from (fun s A B row hs hg hr => by obtain ⟨h1, pre', p, h2, h3, q', h4⟩ := hs; exact ⟨h1, pre', p, h2, h3, q', h4.kept hg hr⟩) _) (ownFrom_below (Nat.le_refl _) HB2.out.size))
    ⟨⟨by simp, by simpa using HC2.out⟩, HB2.out⟩ ?a1 ?assign ?body ?done ?stop
  case assign =>
    intro l' x' W' K hK
    gi_wp2
    exact hK
  case body =>
    rintro l' pre p W' ⟨⟨hpq, hcb⟩, hB⟩ hlt
    have HCB := hidden hcb
    have HB := hidden hB
    obtain ⟨d, hd⟩ : ∃ d, d = q - pre.length := ⟨_, rfl⟩
    rw [← hd] at hcb HCB
    have hd9 : d ≤ 9223372036854775807 := by omega
    obtain ⟨c0, c1, c2, f0, f1, f2⟩ := hcb
    clear hB hlt
    by_cases hz : d = 0
    · have HDZ := hidden hd
      subst hz
      clear hd hd9
      gi_wp2
      exact ⟨KeepsOthers.trans (KeepsOthers.setCell _ _ _) (KeepsOthers.setCell _ _ _), ⟨rfl, pre, p, rfl, by have := HDZ.out; omega, _, (HCB.out.set1 (p : Nat)).set2 0⟩, (HB.out.setCell (p := ⟨w.heap.size + 1, 0, none⟩) (by simp) _).setCell (p := ⟨w.heap.size + 1 + 1, 0, none⟩) (by simp; omega) _⟩
    · have dz : ((d : Int) == 0) = false := by simpa using hz
      have HD := hidden hd
      clear hd
      gi_wp2
      refine ⟨KeepsOthers.setCell _ _ _, ⟨(Below.refl _ _).setCell (p := ⟨w.heap.size, 0, none⟩) (Nat.le_refl _) _, setCell_heap_other _ _ _ _ hbz0⟩, ⟨?_, ?_⟩, HB.out.setCell (p := ⟨w.heap.size, 0, none⟩) (Nat.le_refl _) _⟩
      · rw [List.length_append, List.length_singleton]; have := HD.out; omega
      · have h1 := HCB.out.set0 ((q - (pre ++ [p]).length : Nat) : Int)
        have e1 : ((q - (pre ++ [p]).length : Nat) : Int) = (d : Int) - 1 := by rw [List.length_append, List.length_singleton]; have := HD.out; omega
        rw [e1] at h1 ⊢
        exact h1
  case done =>
    rintro D ys W' hD rfl ⟨⟨hpq, hcb⟩, hB⟩ hK
    have HCB := hidden hcb
    have HB := hidden hB
    have HK := hidden hK
    obtain ⟨c0, c1, c2, f0, f1, f2⟩ := hcb
    clear hB hK
    go_wp2_with fail
    have hK' := (KeepsOthers.trans (KeepsOthers.setCell W' ⟨w.heap.size + 1, 0, none⟩ (.int .i64 0)) (KeepsOthers.setCell _ ⟨w.heap.size + 1 + 1, 0, none⟩ (.int .i64 7))).same D _ HK.out rfl
    refine ⟨by simp, .inl ⟨_, _, rfl, run_takeDeferred hK', ?_⟩⟩
    have H2 := ((HCB.out.set1 0).set2 7).kept (grownBy_putObj' _ D (.deferred none)) (fun r e => by cases e; exact ⟨_, hK', rfl⟩)
    have h1 := H2.c1
    have h2 := H2.c2
    obtain ⟨k1, k2⟩ := Ns.k_out hpq
    rw [k1, k2]
    refine ⟨.tuple #[.int .i64 0, .int .i64 7], ?_, rfl, ((HB.out.setCell (p := ⟨w.heap.size + 1, 0, none⟩) (by simp) _).setCell (p := ⟨w.heap.size + 1 + 1, 0, none⟩) (by simp; omega) _).trans ((belowK_b (w := w2) (Nat.le_refl _) _ D _ _ hD hK' rfl rfl).mono HB2.out.size)⟩
    simp [results, Tryz.f14, go_sem, h1, h2]
  case stop =>
    rintro D c pre W' hD ⟨a, p, hk, rfl⟩ ⟨⟨rfl, pre', x, hx, hl, q', hcb⟩, hB⟩ hK
    obtain ⟨rfl, h5⟩ := List.append_inj' hx rfl
    obtain rfl : a = x := by simpa using h5
    obtain ⟨k1, k2⟩ := Ns.k_in hk hl
    have HCB := hidden hcb
    have HB := hidden hB
    have HK := hidden hK
    have HK1 := hidden k1
    have HK2 := hidden k2
    clear hx h5 hcb hB hK hk hl k1 k2
    gi_wp2
    refine ⟨by simp, .inl ⟨_, _, rfl, run_takeDeferred HK.out, ?_⟩⟩
    have H2 := HCB.out.kept (grownBy_putObj' _ D (.deferred none)) (fun r e => by cases e; exact ⟨_, HK.out, rfl⟩)
    have h1 := H2.c1
    have h2 := H2.c2
    rw [HK1.out, HK2.out]
    refine ⟨.tuple #[.int .i64 (a : Nat), .int .i64 0], ?_, rfl, HB.out.trans ((belowK_b (w := w2) (Nat.le_refl _) _ D _ _ hD HK.out rfl rfl).mono HB2.out.size)⟩
    simp [results, Tryz.f14, go_sem, h1, h2]
end Go.Proofs.YtmeclkmmgbndkaaGreatDoor
