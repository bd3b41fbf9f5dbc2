/-
  The contract of the iterator that package esc's scalars hands back: a string's scalars, in order; -1 where what stands there is no character, or the marks are missing.
-/
import Derived.RangeFuncNested
import Derived.RangeFuncBound
import Derived.RangeFuncCalls
import Derived.RangeFuncLeaves
import Derived.RangeFuncFrom
import Derived.Shelf.Abstract
import Derived.Shelf.RegionOpen
import Derived.WalkKit
import Derived.OwnWalkIn
import Derived.TacticsInMore
import Derived.LoopNIn
import Derived.LoopIn
import Derived.Test.YtjhjkahjljikhaaEsScan
namespace Go.Proofs.Ytjhjkahjljikhaa
open Go.RowKit Go.Shelf
attribute [local go_sem] Oper.semAt_some
namespace Es
def strLen : Value → Nat
  | .string s => s.size
  | _ => 0
theorem so_bad (l : List UInt8) (h : (so l).2 = 0) : so l = (-1, 0) := by
  rcases so_cases l with ⟨h1, _⟩ | ⟨c, n, h1, h2, _⟩
  · exact h1
  · rw [h1] at h
    omega
theorem so_good (l : List UInt8) (h : (so l).2 ≠ 0) : ∃ c n : Nat, so l = ((c : Int), n) ∧ 0 < n ∧ n ≤ l.length := by
  rcases so_cases l with ⟨h1, _⟩ | ⟨c, n, h1, h2, h3, _⟩
  · rw [h1] at h
    exact absurd rfl h
  · exact ⟨c, n, h1, h2, h3⟩
theorem nil_of_empty (t : ByteArray) (h : t.size = 0) : t.data.toList = [] := List.eq_nil_of_length_eq_zero h
theorem ne_nil (t : ByteArray) (h : t.size ≠ 0) : t.data.toList ≠ [] := fun h2 => h (by show t.data.toList.length = 0; rw [h2]; rfl)
theorem toList_mk (m : List UInt8) : (⟨m.toArray⟩ : ByteArray).data.toList = m := rfl
theorem size_mk (m : List UInt8) : (⟨m.toArray⟩ : ByteArray).size = m.length := rfl
theorem drewN_grown (w : World) (m : Nat) : w.grownBy (w.drewN m) none := ⟨rfl, rfl, rfl, Nat.le_refl _, fun _ _ _ => rfl⟩
theorem cell_after {w w' : World} {p : Addr} {v : Value} (hb : Below w.heap.size w w') (h : w.cell? p = some v) : w'.cell? p = some v :=
  (hb.cell (World.block_lt_of_cell? w p h)).trans h
theorem below_after {B : Nat} {w w' w'' : World} (h : Below B w w') (hb : Below w'.heap.size w' w'') (hB : B ≤ w.heap.size := by exact Nat.le_refl _) : Below B w w'' := h.trans (hb.mono (Nat.le_trans hB h.size))
theorem cell_made {w : World} {o : Obj} {p : Addr} {v : Value} (h : w.cell? p = some v) : (w.alloc o).cell? p = some v := cell_after ((Below.refl _ _).alloc (Nat.le_refl _) _) h
theorem cell_new_at {w : World} {v : Value} {t : TypeId} {k : Nat} (hk : k = w.heap.size) : (w.alloc (.cells #[v] t)).cell? ⟨k, 0, none⟩ = some v := by
  subst hk
  exact Lib.cell_of_heap (heap_alloc_new _ _) 0
theorem frozen_after {w w' : World} {p : Addr} {v : Value} (hb : Below w.heap.size w w') (h : w.cell? p = some v) : w'.frozen? p = w.frozen? p := by
  have := hb.block p.block (World.block_lt_of_cell? w p h)
  simp only [World.frozen?, this]
end Es
set_option maxRecDepth 100000 in
set_option maxHeartbeats 2000000 in
theorem scalars1_in (n : Nat) (hn : 1 ≤ n) (y bx : Nat) (s : ByteArray) (J Jx : List Int → World → Prop) (K : World → World → Prop) (W : World)
    (hY : ∀ pre x W, J pre W → pre.length < (Es.yl s.data.toList).length → YieldAt Fence.wide (n - 1) Try.prog y #[.int .i64 x] W fun e W' =>
      (e = .returned (.bool true) ∧ J (pre ++ [x]) W' ∧ K W W') ∨ (e = .returned (.bool false) ∧ Jx (pre ++ [x]) W'))
    (hJd : ∀ pre W m, J pre W → J pre (W.drewN m)) (hs : s.size ≤ 9223372036854775807)
    (cb : W.cell? ⟨bx, 0, none⟩ = some (.string s)) (h0 : J [] W) :
    CallsIn Fence.wide n Try.prog 28 #[.func (.yield y) #[] #[], .pointer (some ⟨bx, 0, none⟩)] W fun e W' => (∃ v, e = .returned v) ∧
      ((∃ ys, ys = Es.yl s.data.toList ∧ J ys W') ∨ (∃ pre, (∃ p a q, Es.yl s.data.toList = p ++ a :: q ∧ pre = p ++ [a]) ∧ Jx pre W')) := by
  have HY := hidden hY
  have HJD := hidden hJd
  have HJ0 := hidden h0
  clear hY hJd h0
  cases hi : Es.ins s.data.toList with
  | none =>
    have HI := hidden (inside_none s W hs hi)
    have HYL := hidden (Es.yl_none _ hi)
    clear hi
    refine callsIn_of_wp Try.func28 rfl trivial ?_ rfl
    simp only [Try.ntmps28, List.size_toArray, List.length_cons, List.length_nil, Nat.reduceAdd, Nat.reduceSub, Array.replicate_succ, Array.replicate_zero, List.push_toArray, List.append_toArray, List.nil_append, List.cons_append]
    gi_wp2_with fail
    refine ⟨trivial, (callsIn_wide.2 HI.out).mono ?_⟩
    rintro e' w1 ⟨⟨t, rfl⟩, rfl⟩
    obtain ⟨fn, tmps, assign, body, hy, hR⟩ := HY.out [] (-1) w1 HJ0.out (by rw [HYL.out]; decide)
    have HRR := hidden hR
    clear hR
    gi_wp2_with fail
    gi_wp2
    refine HRR.out.mono ?_
    rintro e W3 (⟨rfl, hJ3, hk3⟩ | ⟨rfl, hJx3⟩)
    · have HJ3 := hidden hJ3
      clear hJ3 hk3
      gi_wp2
      refine bodyPost_ret (results_none rfl _ _ _) rfl ?_
      exact ⟨⟨_, rfl⟩, .inl ⟨_, HYL.out.symm, HJ3.out⟩⟩
    · have HJ3 := hidden hJx3
      clear hJx3
      gi_wp2
      refine bodyPost_ret (results_none rfl _ _ _) rfl ?_
      exact ⟨⟨_, rfl⟩, .inr ⟨_, ⟨[], -1, [], HYL.out, rfl⟩, HJ3.out⟩⟩
  | some m =>
    have HI := hidden (inside_some s m W hs hi)
    have HYL := hidden (Es.yl_some _ _ hi)
    have hm : m.length ≤ 9223372036854775805 := by
      have := congrArg List.length (Es.ins_of _ _ hi)
      rw [List.length_cons, List.length_append, show s.data.toList.length = s.size from rfl] at this
      simp at this
      omega
    clear hi
    refine callsIn_of_wp Try.func28 rfl trivial ?_ rfl
    simp only [Try.ntmps28, List.size_toArray, List.length_cons, List.length_nil, Nat.reduceAdd, Nat.reduceSub, Array.replicate_succ, Array.replicate_zero, List.push_toArray, List.append_toArray, List.nil_append, List.cons_append]
    gi_wp2_with fail
    refine ⟨trivial, (callsIn_wide.2 HI.out).mono ?_⟩
    rintro e' w1 ⟨rfl, rfl⟩
    clear cb
    gi_wp2_with fail
    gi_loopw [3] (fun v wr => ∃ (t : ByteArray) (p : List Int), v = .string t ∧ Es.yl s.data.toList = p ++ Es.ys t.data.toList ∧ t.size ≤ 9223372036854775805 ∧ J p wr) (fun v _ => Es.strLen v)
    case atStart => exact ⟨⟨m.toArray⟩, [], rfl, by rw [HYL.out]; rfl, hm, HJ0.out⟩
    case round =>
      obtain ⟨t, p, rfl, hyl, ht, hJ⟩ := hrel
      have HYL2 := hidden hyl
      have HJ := hidden hJ
      clear hyl hJ
      have HS := hidden (fun w => scalar_any t w (by omega))
      by_cases hz : t.size = 0
      · have hnil := Es.nil_of_empty t hz
        rw [hnil, Es.ys_nil, List.append_nil] at HYL2
        have ht0 : t = ⟨#[]⟩ := by
          obtain ⟨⟨l⟩⟩ := t
          rw [show l = [] from hnil]
        subst ht0
        clear hnil
        gi_wp2_with fail
        go_end0
        refine ⟨⟨_, rfl⟩, .inl ?_⟩
        rw [HYL2.out]
        exact HJ.out
      · have hne := Es.ne_nil t hz
        have ht0 : t.toList.isEmpty = false := by
          rw [List.isEmpty_eq_false_iff, Go.ByteArray.toList_eq]
          exact hne
        by_cases h0 : (Es.so t.data.toList).2 = 0
        · have hys := Es.ys_bad _ hne h0
          rw [hys] at HYL2
          rw [Es.so_bad _ h0] at HS
          clear hne hys h0
          gi_wp2_with fail
          refine ⟨trivial, (callsIn_wide.2 (HS.out _)).mono ?_⟩
          rintro e' w2 ⟨rfl, k, rfl⟩
          obtain ⟨fn, tmps, assign, body, hy, hR⟩ := HY.out p (-1) (wr.drewN k) (HJD.out _ _ k HJ.out) (by rw [HYL2.out]; simp)
          have HRR := hidden hR
          clear hR
          gi_wp2_with fail
          gi_wp2
          refine HRR.out.mono ?_
          rintro e W3 (⟨rfl, hJ3, hk3⟩ | ⟨rfl, hJx3⟩)
          · have HJ3 := hidden hJ3
            clear hJ3 hk3
            gi_wp2
            refine bodyPost_ret (results_none rfl _ _ _) rfl ?_
            exact ⟨⟨_, rfl⟩, .inl ⟨_, HYL2.out.symm, HJ3.out⟩⟩
          · have HJ3 := hidden hJx3
            clear hJx3
            gi_wp2
            refine bodyPost_ret (results_none rfl _ _ _) rfl ?_
            exact ⟨⟨_, rfl⟩, .inr ⟨_, ⟨p, -1, [], HYL2.out, rfl⟩, HJ3.out⟩⟩
        · obtain ⟨c, k, hso, hk, hkt⟩ := Es.so_good _ h0
          have hys := Es.ys_next _ h0
          rw [hso] at hys HS
          rw [hys] at HYL2
          have hkt2 : k ≤ t.size := hkt
          have hex := Es.extract_drop t k hkt2
          have HEX := hidden hex
          have hc1 : ((c : Int) == -1) = false := by rw [beq_eq_false_iff_ne]; omega
          clear hne hys h0 hso hkt hex
          gi_wp2_with fail
          refine ⟨trivial, (callsIn_wide.2 (HS.out _)).mono ?_⟩
          rintro e' w2 ⟨rfl, j, rfl⟩
          obtain ⟨fn, tmps, assign, body, hy, hR⟩ := HY.out p (c : Int) (wr.drewN j) (HJD.out _ _ j HJ.out) (by rw [HYL2.out]; simp)
          have HRR := hidden hR
          clear hR
          gi_wp2_with fail
          gi_wp2
          refine HRR.out.mono ?_
          rintro e W3 (⟨rfl, hJ3, hk3⟩ | ⟨rfl, hJx3⟩)
          · have HJ3 := hidden hJ3
            clear hJ3 hk3
            gi_wp2_with fail
            go_roundw
            case rel => exact ⟨t.extract k t.size, p ++ [(c : Int)], rfl, by rw [HYL2.out, HEX.out]; simp, by rw [ByteArray.size_extract]; omega, HJ3.out⟩
            case measure => simp [Es.strLen, ByteArray.size_extract]; omega
          · have HJ3 := hidden hJx3
            clear hJx3
            gi_wp2
            refine bodyPost_ret (results_none rfl _ _ _) rfl ?_
            exact ⟨⟨_, rfl⟩, .inr ⟨_, ⟨p, c, _, HYL2.out, rfl⟩, HJ3.out⟩⟩
theorem scalars_stops (n : Nat) (hn : 1 ≤ n) (bx : Nat) (s : ByteArray) (w : World) (hs : s.size ≤ 9223372036854775807)
    (cb : w.cell? ⟨bx, 0, none⟩ = some (.string s)) :
    SeqStopsK Fence.wide n Try.prog 28 #[.pointer (some ⟨bx, 0, none⟩)]
      (fun x : Int => #[.int .i64 x]) (fun _ _ => True) (fun ys => ys = Es.yl s.data.toList) (fun pre => ∃ p a q, Es.yl s.data.toList = p ++ a :: q ∧ pre = p ++ [a]) (Es.yl s.data.toList).length w := fun y J Jx W hW hJ _ hY h0 =>
  scalars1_in n hn y bx s J Jx (fun _ _ => True) W hY (fun pre W' m hj => hJ pre W' _ none hj (Es.drewN_grown W' m) (fun r e => by cases e)) hs (Es.cell_after hW cb) h0
set_option maxHeartbeats 1000000 in
theorem scalars_any (s : ByteArray) (w : World) :
    Calls Try.prog 19 #[.string s] w fun e w' => ∃ bx, e = .returned (.func (.func 28) #[] #[.pointer (some ⟨bx, 0, none⟩)]) ∧ Below w.heap.size w w' ∧ w.heap.size ≤ bx ∧
      w'.cell? ⟨bx, 0, none⟩ = some (.string s) := by
  go_enter Try.func19, Try.ntmps19
  go_wp2_with fail
  go_ret
  exact ⟨_, rfl, (Below.refl _ _).alloc (Nat.le_refl _) _, Nat.le_refl _, Es.cell_new_at rfl⟩
end Go.Proofs.Ytjhjkahjljikhaa
