/-
  The contract of the iterator that a sequence's part hands back: the numbers of one high part, with their places, in order.
-/
import Derived.RangeFuncNested
import Derived.RangeFuncBound
import Derived.RangeFuncCalls
import Derived.RangeFuncLeaves
import Derived.RangeFuncFrom
import Derived.Shelf.Abstract
import Derived.Shelf.RegionOpen
import Derived.WalkKit
import Derived.OwnWalkIn
import Derived.TacticsInMore
import Derived.LoopNIn
import Derived.LoopIn
import Derived.Test.YtfohldojcdhnhaaDoorFnHalve
namespace Go.Proofs.YtfohldojcdhnhaaDoor
open Go.RowKit Go.Shelf
attribute [local go_sem] Oper.semAt_some
namespace Fn
/-- The i-th number. -/
def nth (l : List Nat) (i : Nat) : Nat := l.getD i 0
/-- The numbers from f on, k of them, with their places. -/
def seg (l : List Nat) (f k : Nat) : List (Nat × Nat) := (List.range k).map fun j => (f + j, nth l (f + j))
theorem seg_succ (l : List Nat) (f k : Nat) : seg l f (k + 1) = seg l f k ++ [(f + k, nth l (f + k))] := by simp [seg, List.range_succ]
theorem seg_length (l : List Nat) (f k : Nat) : (seg l f k).length = k := by simp [seg]
end Fn
theorem cell_new_at {w : World} {v : Value} {t : TypeId} {k : Nat} (hk : k = w.heap.size) : (w.alloc (.cells #[v] t)).cell? ⟨k, 0, none⟩ = some v := by
  subst hk
  exact Lib.cell_of_heap (heap_alloc_new _ _) 0
theorem drewN_grown (w : World) (m : Nat) : w.grownBy (w.drewN m) none := ⟨rfl, rfl, rfl, Nat.le_refl _, fun _ _ _ => rfl⟩
set_option maxRecDepth 100000 in
set_option maxHeartbeats 2000000 in
theorem part1_in (n : Nat) (hn : 1 ≤ n) (y s u H f t n0 bf bt bs bh : Nat) (l : List Nat) (q : Fn.Q) (J Jx : List (Nat × Nat) → World → Prop) (W : World)
    (hY : ∀ pre x W, J pre W → pre.length < t - f → YieldAt Fence.wide (n - 1) Tryd.prog y #[.int .i64 (x.1 : Nat), .int .i64 (x.2 : Nat)] W fun e W' =>
      (e = .returned (.bool true) ∧ J (pre ++ [x]) W' ∧ Below n0 W W') ∨ (e = .returned (.bool false) ∧ Jx (pre ++ [x]) W'))
    (hJd : ∀ pre W m, J pre W → J pre (W.drewN m)) (hf : f ≤ t) (ht : t < 16777216)
    (cf : W.cell? ⟨bf, 0, none⟩ = some (.int .i64 (f : Nat))) (ct : W.cell? ⟨bt, 0, none⟩ = some (.int .i64 (t : Nat))) (cs : W.cell? ⟨bs, 0, none⟩ = some (.pointer (some ⟨s, 0, none⟩))) (ch : W.cell? ⟨bh, 0, none⟩ = some (.int .i64 (H : Nat)))
    (hbt : bt < n0) (hbs : bs < n0) (hbh : bh < n0) (hSq : ∀ W', Below n0 W W' → Sq W' s l u q) (hP : ∀ i, f ≤ i → i < t → i < l.length ∧ H = l.getD i 0 / 2 ^ Fn.wdt l.length u) (h0 : J [] W) :
    CallsIn Fence.wide n Tryd.prog 68 #[.func (.yield y) #[] #[], .pointer (some ⟨bf, 0, none⟩), .pointer (some ⟨bt, 0, none⟩), .pointer (some ⟨bs, 0, none⟩), .pointer (some ⟨bh, 0, none⟩)] W fun e W' => (∃ v, e = .returned v) ∧
      ((∃ ys, ys = Fn.seg l f (t - f) ∧ J ys W') ∨ (∃ pre, (∃ k, k < t - f ∧ pre = Fn.seg l f (k + 1)) ∧ Jx pre W')) := by
  have HY := hidden hY
  have HJD := hidden hJd
  have HSq := hidden hSq
  have HP := hidden hP
  have CT := hidden ct
  have CS := hidden cs
  have CH := hidden ch
  clear hY hJd hSq hP ct cs ch
  refine callsIn_of_wp Tryd.func68 rfl trivial ?_ rfl
  simp only [Tryd.ntmps68, List.size_toArray, List.length_cons, List.length_nil, Nat.reduceAdd, Nat.reduceSub, Array.replicate_succ, Array.replicate_zero, List.push_toArray, List.append_toArray, List.nil_append, List.cons_append]
  gi_wp2
  gi_loopw [6] (fun i wr => ∃ k : Nat, k ≤ t - f ∧ i = .int .i64 ((f + k : Nat) : Int) ∧ J (Fn.seg l f k) wr ∧ Below n0 W wr) (fun i _ => t - (intOf i).toNat)
  case atStart => exact ⟨0, Nat.zero_le _, rfl, h0, Below.refl _ _⟩
  case round =>
    obtain ⟨k, hk, rfl, hJs, hb⟩ := hrel
    have c2 := (hb.cell (p := ⟨bt, 0, none⟩) hbt).trans CT.out
    have c3 := (hb.cell (p := ⟨bs, 0, none⟩) hbs).trans CS.out
    have c4 := (hb.cell (p := ⟨bh, 0, none⟩) hbh).trans CH.out
    have HBr := hidden hb
    have HJs := hidden hJs
    clear hb hJs
    by_cases hlt : k < t - f
    · obtain ⟨i, hi⟩ : ∃ i, i = f + k := ⟨_, rfl⟩
      rw [← hi]
      have hit : (i : Int) < (t : Int) := by omega
      have HI := hidden hi
      have hi2 : i < 16777216 := by omega
      obtain ⟨hp1, hp2⟩ := HP.out i (by omega) (by omega)
      have HNU := hidden (number_any s u i H H l q wr (HSq.out wr HBr.out) hp1 rfl hp2)
      have HX : Hid (∃ x, x = l.getD i 0) := ⟨_, rfl⟩
      obtain ⟨x, hx⟩ := HX.out
      rw [← hx] at HNU
      have HXX := hidden hx
      clear hi hp1 hp2 HX hx
      gi_wp2_with fail
      refine ⟨trivial, (callsIn_wide.2 HNU.out).mono ?_⟩
      rintro e' w1 ⟨rfl, m, rfl⟩
      obtain ⟨fn, tmps, assign, body, hy, hR⟩ := HY.out (Fn.seg l f k) (i, x) (wr.drewN m) (HJD.out _ _ m HJs.out) (by rw [Fn.seg_length]; exact hlt)
      dsimp only at hy
      have HRR := hidden hR
      clear hR
      gi_wp2
      refine HRR.out.mono ?_
      rintro e W3 (⟨rfl, hJ3, hk3⟩ | ⟨rfl, hJx3⟩)
      · have HJ3 := hidden hJ3
        have HK3 := hidden (below_drewN HBr.out m |>.trans hk3)
        clear hJ3 hk3
        gi_wp2
        go_roundw
        case rel => exact ⟨k + 1, by omega, by rw [HI.out]; go_num, by rw [Fn.seg_succ]; have := HJ3.out; rw [HXX.out, HI.out] at this; exact this, HK3.out⟩
        case measure => have := HI.out; simp [intOf]; omega
      · have HJ3 := hidden hJx3
        clear hJx3
        gi_wp2
        refine bodyPost_ret (results_none rfl _ _ _) rfl ?_
        refine ⟨⟨_, rfl⟩, .inr ⟨_, ⟨k, hlt, rfl⟩, ?_⟩⟩
        rw [Fn.seg_succ]
        have := HJ3.out
        rw [HXX.out, HI.out] at this
        exact this
    · obtain rfl : k = t - f := by omega
      have hft : ((f + (t - f) : Nat) : Int) = (t : Int) := by omega
      rw [hft]
      gi_wp2
      go_end0
      exact ⟨⟨_, rfl⟩, .inl ⟨_, rfl, HJs.out⟩⟩
/-- What part hands back, as an iterator. -/
theorem part_stops (n : Nat) (hn : 1 ≤ n) (s u H f t bf bt bs bh : Nat) (l : List Nat) (q : Fn.Q) (w : World) (hf : f ≤ t) (ht : t < 16777216)
    (cf : w.cell? ⟨bf, 0, none⟩ = some (.int .i64 (f : Nat))) (ct : w.cell? ⟨bt, 0, none⟩ = some (.int .i64 (t : Nat))) (cs : w.cell? ⟨bs, 0, none⟩ = some (.pointer (some ⟨s, 0, none⟩))) (ch : w.cell? ⟨bh, 0, none⟩ = some (.int .i64 (H : Nat)))
    (hSq : Sq w s l u q) (hP : ∀ i, f ≤ i → i < t → i < l.length ∧ H = l.getD i 0 / 2 ^ Fn.wdt l.length u) :
    SeqStopsK Fence.wide n Tryd.prog 68 #[.pointer (some ⟨bf, 0, none⟩), .pointer (some ⟨bt, 0, none⟩), .pointer (some ⟨bs, 0, none⟩), .pointer (some ⟨bh, 0, none⟩)]
      (fun x : Nat × Nat => #[.int .i64 (x.1 : Nat), .int .i64 (x.2 : Nat)]) (Below w.heap.size) (fun ys => ys = Fn.seg l f (t - f)) (fun pre => ∃ k, k < t - f ∧ pre = Fn.seg l f (k + 1)) (t - f) w := fun y J Jx W hW hJ _ hY h0 => by
  have hbt := World.block_lt_of_cell? w ⟨bt, 0, none⟩ ct
  have hbs := World.block_lt_of_cell? w ⟨bs, 0, none⟩ cs
  have hbh := World.block_lt_of_cell? w ⟨bh, 0, none⟩ ch
  exact part1_in n hn y s u H f t w.heap.size bf bt bs bh l q J Jx W hY (fun pre W' m hj => hJ pre W' _ none hj (drewN_grown W' m) (fun r e => by cases e)) hf ht
    (cell_after hW cf) (cell_after hW ct) (cell_after hW cs) (cell_after hW ch) hbt hbs hbh (fun W' hb => hSq.below (hW.trans hb) (Nat.le_refl _)) hP h0
set_option maxHeartbeats 1000000 in
theorem part_any (s H f t : Nat) (w : World) :
    Calls Tryd.prog 39 #[.pointer (some ⟨s, 0, none⟩), .int .i64 (H : Nat), .int .i64 (f : Nat), .int .i64 (t : Nat)] w fun e w' => ∃ bf bt bs bh, e = .returned (.func (.func 68) #[] #[.pointer (some ⟨bf, 0, none⟩), .pointer (some ⟨bt, 0, none⟩), .pointer (some ⟨bs, 0, none⟩), .pointer (some ⟨bh, 0, none⟩)]) ∧ Below w.heap.size w w' ∧
      w'.cell? ⟨bf, 0, none⟩ = some (.int .i64 (f : Nat)) ∧ w'.cell? ⟨bt, 0, none⟩ = some (.int .i64 (t : Nat)) ∧ w'.cell? ⟨bs, 0, none⟩ = some (.pointer (some ⟨s, 0, none⟩)) ∧ w'.cell? ⟨bh, 0, none⟩ = some (.int .i64 (H : Nat)) := by
  go_enter Tryd.func39, Tryd.ntmps39
  go_wp2_with fail
  go_ret
  refine ⟨_, _, _, _, rfl, (((((Below.refl _ _).alloc (Nat.le_refl _) _).alloc (by simp) _).alloc (by simp; omega) _).alloc (by simp; omega) _), ?_, ?_, ?_, ?_⟩
  · exact cell_made (cell_new_at (by simp))
  · exact cell_new_at (by simp)
  · exact cell_made (cell_made (cell_made (cell_new_at rfl)))
  · exact cell_made (cell_made (cell_new_at (by simp)))
end Go.Proofs.YtfohldojcdhnhaaDoor
