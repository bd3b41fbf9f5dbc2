/-
  The contract of the iterator that ones of package fano hands back: the places of a row's 1s, in order.
-/
import Derived.RangeFuncNested
import Derived.RangeFuncBound
import Derived.RangeFuncCalls
import Derived.RangeFuncLeaves
import Derived.RangeFuncFrom
import Derived.RangeFuncBox
import Derived.Shelf.Abstract
import Derived.Shelf.RegionOpen
import Derived.WalkKit
import Derived.OwnWalkIn
import Derived.TacticsInMore
import Derived.LoopNIn
import Derived.LoopIn
import Derived.Test.YtfohldojcdhnhaaDoorFnPart
import Derived.Test.YtfohldojcdhnhaaDoorFnBytes
namespace Go.Proofs.YtfohldojcdhnhaaDoor
open Go.RowKit Go.Shelf
namespace Fn
/-- The places of the first c 1s. -/
def plc (Y H c : Nat) : List Nat := (List.range c).map fun i => Ck.pl Y i H
theorem plc_succ (Y H c : Nat) : plc Y H (c + 1) = plc Y H c ++ [Ck.pl Y c H] := by simp [plc, List.range_succ]
theorem plc_length (Y H c : Nat) : (plc Y H c).length = c := by simp [plc]
/-- y is x without its first t 1s. -/
structure Less1 (x t y : Nat) : Prop where
  lt : y < 18446744073709551616
  le : t ≤ Wd.ones x 64
  sel : ∀ k : Nat, Wd.sel y (k : Int) = Wd.sel x ((t + k : Nat) : Int)
theorem Less1.start {x : Nat} (h : x < 18446744073709551616) : Less1 x 0 x := ⟨h, Nat.zero_le _, fun k => by rw [Nat.zero_add]⟩
theorem Less1.next {x t y : Nat} (h : Less1 x t y) (h0 : y ≠ 0) : Less1 x (t + 1) (y &&& (y - 1)) ∧ y &&& (y - 1) < y ∧ Wd.sel x (t : Int) < 64 ∧ Wd.sel y 0 = Wd.sel x (t : Int) := by
  have h1 := Wd.sel_next y 1 h0 h.lt (by decide)
  have h2 := h.sel 0
  have h3 := Wd.sel_zero y h0 h.lt
  have h4 := (Wd.low_form y h0 h.lt)
  obtain ⟨m, _, h5⟩ := h4
  have h6 : Wd.sel y 0 = Wd.sel x (t : Int) := by simpa using h2
  have h7 : Wd.sel x (t : Int) < 64 := by omega
  refine ⟨⟨by have := h1.2; have := h.lt; omega, ?_, fun k => ?_⟩, h1.2, h7, h6⟩
  · rcases Wd.sel_spec x (t : Int) with ⟨a, b, c⟩ | ⟨a, _⟩
    · have := Wd.ones_lt x _ 64 b a
      omega
    · omega
  · have h8 := (Wd.sel_next y ((k : Int) + 1) h0 h.lt (by omega)).1
    rw [show (k : Int) + 1 - 1 = (k : Int) from by omega] at h8
    rw [h8, show (k : Int) + 1 = ((k + 1 : Nat) : Int) from by omega, h.sel (k + 1)]
    congr 2
    omega
theorem Less1.done {x t : Nat} (h : Less1 x t 0) : t = Wd.ones x 64 := by
  have h1 := h.sel 0
  rw [Wd.sel_of_zero] at h1
  have h2 := h.le
  rcases Wd.sel_spec x ((t + 0 : Nat) : Int) with ⟨a, b, c⟩ | ⟨_, hn | hn⟩
  · omega
  · omega
  · omega
/-- The place of the 1 that is next. -/
theorem Less1.place {Y H j t y : Nat} (hY : Y < 2 ^ H) (h : Less1 (Bt.wd Y j) t y) (h0 : y ≠ 0) : Ck.At Y H (Wd.ones Y (64 * j) + t) (64 * j + Wd.sel y 0) := by
  obtain ⟨_, _, h7, h6⟩ := h.next h0
  rw [h6]
  rcases Wd.sel_spec (Bt.wd Y j) (t : Int) with ⟨a, b, c⟩ | ⟨a, _⟩
  · rw [Bt.bt_wd, if_pos a] at b
    have hw := Ck.wd_ones Y j (Wd.sel (Bt.wd Y j) (t : Int)) (by omega)
    refine ⟨?_, b, by omega⟩
    rcases Nat.lt_or_ge (64 * j + Wd.sel (Bt.wd Y j) (t : Int)) H with hl | hl
    · exact hl
    · rw [Wd.bt_big Y H _ hY hl] at b
      cases b
  · omega
/-- What is kept: these blocks. -/
def Kept (S : Nat → Prop) (W W' : World) : Prop := ∀ k, S k → W'.heap[k]? = W.heap[k]?
theorem Kept.trans {S : Nat → Prop} {A B C : World} (h : Kept S A B) (k : Kept S B C) : Kept S A C := fun i hi => (k i hi).trans (h i hi)
theorem Kept.book {S : Nat → Prop} {w : World} (hS : ∀ k, S k → k < w.heap.size) (W : World) (l : Nat) (o o' : Obj) (hl : w.heap.size ≤ l) (_ : W.heap[l]? = some o) (_ : o.isCells = false) (_ : o.isWalk = false) : Kept S W (W.putObj l o') := fun k hk =>
  World.putObj_heap_other (by have := hS k hk; omega)
/-- The blocks that the iterator reads. -/
def rowS (bx r : Nat) (u : Value) (k : Nat) : Prop := k = bx ∨ k = r ∨ u.ownBlock = some k ∨ k = 1
end Fn
theorem Rw.kept {w w' : World} {r n X bx : Nat} {u : Value} (h : Rw w r n X u) (hk : Fn.Kept (Fn.rowS bx r u) w w') : Rw w' r n X u :=
  ⟨h.len, h.lt, by rw [hk r (.inr (.inl rfl))]; exact h.cells, own_same h.own fun k e => hk k (.inr (.inr (.inl e)))⟩
theorem Tab.kept {w w' : World} {r bx : Nat} {u : Value} (h : Tab w) (hk : Fn.Kept (Fn.rowS bx r u) w w') : Tab w' := fun j hj =>
  (World.cell?_of_block (w := w) (a := ⟨1, j, none⟩) (hk _ (.inr (.inr (.inr rfl))))).trans (h j hj)
set_option maxRecDepth 100000 in
set_option maxHeartbeats 4000000 in
theorem ones1_in (n : Nat) (hn : 1 ≤ n) (y bx r H Y : Nat) (u : Value) (J Jx : List Nat → World → Prop) (W : World)
    (hY : ∀ pre x W, J pre W → pre.length < Wd.ones Y H → YieldAt Fence.wide (n - 1) Tryd.prog y #[.int .i64 (x : Nat)] W fun e W' =>
      (e = .returned (.bool true) ∧ J (pre ++ [x]) W' ∧ Fn.Kept (Fn.rowS bx r u) W W') ∨ (e = .returned (.bool false) ∧ Jx (pre ++ [x]) W'))
    (cb : W.cell? ⟨bx, 0, none⟩ = some (.pointer (some ⟨r, 0, none⟩))) (hR : Rw W r H Y u) (hT : Tab W) (h0 : J [] W) :
    CallsIn Fence.wide n Tryd.prog 96 #[.func (.yield y) #[] #[], .pointer (some ⟨bx, 0, none⟩)] W fun e W' => (∃ v, e = .returned v) ∧
      ((∃ ys, ys = Fn.plc Y H (Wd.ones Y H) ∧ J ys W') ∨ (∃ pre, (∃ k, k < Wd.ones Y H ∧ pre = Fn.plc Y H (k + 1)) ∧ Jx pre W')) := by
  have HY := hidden hY
  have HR := hidden hR
  have HT := hidden hT
  have HCB := hidden cb
  have hH := hR.len
  have HLT := hidden hR.lt
  clear hY hR hT cb
  refine callsIn_of_wp Tryd.func96 rfl trivial ?_ rfl
  simp only [Tryd.ntmps96, List.size_toArray, List.length_cons, List.length_nil, Nat.reduceAdd, Nat.reduceSub, Array.replicate_succ, Array.replicate_zero, List.push_toArray, List.append_toArray, List.nil_append, List.cons_append]
  gi_wp2
  gi_loopw [3] (fun i wr => ∃ j : Nat, 64 * j ≤ H + 63 ∧ i = .int .i64 ((64 * j : Nat) : Int) ∧ J (Fn.plc Y H (Wd.ones Y (64 * j))) wr ∧ Fn.Kept (Fn.rowS bx r u) W wr) (fun i _ => H + 64 - (intOf i).toNat)
  case atStart => exact ⟨0, by omega, rfl, h0, fun _ _ => rfl⟩
  case round =>
    obtain ⟨j, hj, rfl, hJs, hk⟩ := hrel
    have HJs := hidden hJs
    have HK := hidden hk
    have c1 : wr.cell? ⟨bx, 0, none⟩ = some (.pointer (some ⟨r, 0, none⟩)) := (World.cell?_of_block (w := W) (a := ⟨bx, 0, none⟩) (hk bx (.inl rfl))).trans HCB.out
    have HRr := hidden (HR.out.kept hk)
    have HLen := hidden (RLen_any r H Y u wr HRr.out)
    obtain ⟨at', hat⟩ : ∃ a : Nat, a = 64 * j := ⟨_, rfl⟩
    rw [← hat] at hj HJs ⊢
    have HAT := hidden hat
    clear hJs hk
    by_cases hlt : at' < H
    · have hdiv : (at' : Int) / 64 = (j : Int) := by omega
      have HWD := hidden (Word_in r H Y j u wr HRr.out (by omega))
      obtain ⟨x, hx⟩ : ∃ x, x = Bt.wd Y j := ⟨_, rfl⟩
      rw [← hx] at HWD
      have hx64 : x < 18446744073709551616 := by rw [hx]; exact Bt.wd_lt Y j
      have HX := hidden hx
      clear hat hx
      gi_wp2_with fail
      refine ⟨trivial, (callsIn_wide.2 HLen.out).mono ?_⟩
      rintro e' w1 ⟨rfl, rfl⟩
      gi_wp2_with fail
      refine ⟨trivial, (callsIn_wide.2 HWD.out).mono ?_⟩
      rintro e' w1 ⟨rfl, rfl⟩
      gi_wp2_with fail
      gi_loopw [4] (fun v wq => ∃ (t z : Nat), v = .int .u64 (z : Nat) ∧ Fn.Less1 x t z ∧ J (Fn.plc Y H (Wd.ones Y at' + t)) wq ∧ Fn.Kept (Fn.rowS bx r u) W wq) (fun v _ => (intOf v).toNat)
      case atStart => exact ⟨0, x, rfl, Fn.Less1.start hx64, HJs.out, HK.out⟩
      case round =>
        obtain ⟨t, z, rfl, hl1, hJt, hk⟩ := hrel
        have HL1 := hidden hl1
        have HJt := hidden hJt
        have HKt := hidden hk
        have hz64 := hl1.lt
        clear hl1 hJt hk
        by_cases hz : z = 0
        · subst hz
          have ht := HL1.out.done
          have HTD := hidden ht
          clear ht
          gi_wp2_with fail
          go_roundw
          case rel =>
            refine ⟨j + 1, by have := HAT.out; omega, by have := HAT.out; go_num, ?_, HKt.out⟩
            have e := HJt.out
            have e2 := Ck.wd_ones Y j 64 (Nat.le_refl _)
            rw [HTD.out, HX.out, HAT.out, e2, show 64 * j + 64 = 64 * (j + 1) from by omega] at e
            exact e
          case measure => simp [intOf]; omega
        · have hne : ((z : Int) == 0) = false := by simp; omega
          have HSEL := hidden (fun w' (h : Tab w') => Select_any z 0 w' hz64 (by decide) h)
          obtain ⟨hn1, hn2, _, _⟩ := HL1.out.next hz
          have hpl := (HX.out ▸ HL1.out).place (Y := Y) (H := H) (j := j) HLT.out hz
          have hpe := Ck.pl_eq hpl
          have hbel := hpl.below
          have hplt := hpl.lt
          rw [← HAT.out] at hpe hbel hplt
          have hand := Wd.and_pred_u64 z hz hz64
          obtain ⟨p, hp⟩ : ∃ p, p = Wd.sel z 0 := ⟨_, rfl⟩
          rw [← hp] at HSEL hpe hplt
          obtain ⟨z2, hz2⟩ : ∃ z2, z2 = z &&& (z - 1) := ⟨_, rfl⟩
          rw [← hz2] at hn1 hn2 hand
          have HN1 := hidden hn1
          have HPE := hidden hpe
          have HBE := hidden hbel
          have hzw : IntKind.u64.wrap ((z : Int) - 1) = (z : Int) - 1 := by rw [IntKind.wrap_u64]; omega
          clear hpl hp hz2 hn1 hpe hbel
          gi_wp2_with fail
          refine ⟨trivial, (callsIn_wide.2 (HSEL.out _ (HT.out.kept HKt.out))).mono ?_⟩
          rintro e' w1 ⟨rfl, rfl⟩
          obtain ⟨fn, tmps, assign, body, hy, hR⟩ := HY.out _ (at' + p) w1 HJt.out (by rw [Fn.plc_length]; exact HBE.out)
          have HRR := hidden hR
          have hcast : ((at' + p : Nat) : Int) = (at' : Int) + (p : Int) := by omega
          rw [hcast] at hy
          clear hR hcast
          gi_wp2
          refine HRR.out.mono ?_
          rintro e W3 (⟨rfl, hJ3, hk3⟩ | ⟨rfl, hJx3⟩)
          · have HJ3 := hidden hJ3
            have HK3 := hidden (HKt.out.trans hk3)
            clear hJ3 hk3
            gi_wp2
            go_roundw
            case rel => exact ⟨t + 1, z2, rfl, HN1.out, by have := HJ3.out; rw [← HPE.out, ← Fn.plc_succ] at this; exact this, HK3.out⟩
            case measure => simp [intOf]; omega
          · have HJ3 := hidden hJx3
            clear hJx3
            gi_wp2
            refine bodyPost_ret (results_none rfl _ _ _) rfl ?_
            refine ⟨⟨_, rfl⟩, .inr ⟨_, ⟨_, HBE.out, rfl⟩, ?_⟩⟩
            rw [Fn.plc_succ, HPE.out]
            exact HJ3.out
    · have hall : Wd.ones Y at' = Wd.ones Y H := by
        have e := Wd.ones_big Y H at' HLT.out (by omega)
        exact e
      have e := HJs.out
      rw [hall] at e
      have HE := hidden e
      have hna : H ≤ at' := by omega
      clear e hat
      gi_wp2_with fail
      refine ⟨trivial, (callsIn_wide.2 HLen.out).mono ?_⟩
      rintro e' w1 ⟨rfl, rfl⟩
      gi_wp2
      go_end0
      exact ⟨⟨_, rfl⟩, .inl ⟨_, rfl, HE.out⟩⟩
/-- What ones hands back, as an iterator. -/
theorem ones_stops (n : Nat) (hn : 1 ≤ n) (bx r H Y : Nat) (u : Value) (w : World) (cb : w.cell? ⟨bx, 0, none⟩ = some (.pointer (some ⟨r, 0, none⟩))) (hR : Rw w r H Y u) (hT : Tab w) :
    SeqStopsK Fence.wide n Tryd.prog 96 #[.pointer (some ⟨bx, 0, none⟩)] (fun x : Nat => #[.int .i64 (x : Nat)]) (Fn.Kept (Fn.rowS bx r u)) (fun ys => ys = Fn.plc Y H (Wd.ones Y H)) (fun pre => ∃ k, k < Wd.ones Y H ∧ pre = Fn.plc Y H (k + 1)) (Wd.ones Y H) w := fun y J Jx W hW _ _ hY h0 =>
  ones1_in n hn y bx r H Y u J Jx W hY (cell_after hW cb) (hR.below hW (Nat.le_refl _)) (hT.below hW (Nat.le_refl _)) h0
set_option maxHeartbeats 1000000 in
theorem ones_any (r : Nat) (w : World) :
    Calls Tryd.prog 79 #[.pointer (some ⟨r, 0, none⟩)] w fun e w' => ∃ bx, e = .returned (.func (.func 96) #[] #[.pointer (some ⟨bx, 0, none⟩)]) ∧ Below w.heap.size w w' ∧ Boxed w' bx 52 (.pointer (some ⟨r, 0, none⟩)) ∧ w.heap.size ≤ bx := by
  go_enter Tryd.func79, Tryd.ntmps79
  go_wp2_with fail
  go_ret
  exact ⟨_, rfl, (Below.refl _ _).alloc (Nat.le_refl _) _, Boxed.new _ _ _, Nat.le_refl _⟩
end Go.Proofs.YtfohldojcdhnhaaDoor
