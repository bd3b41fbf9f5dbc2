/-
  The contracts of rank.slot and rank.survey: of the block b of a row how many bits are 1 ahead of it, the seven counts of its words side by side, and how many bits are 1 in it.
-/
import Derived.Test.YtfohldojcdhnhaaDoorBtList
import Derived.Test.YtfohldojcdhnhaaDoorBtClip
import Derived.Test.YtfohldojcdhnhaaDoorRkMath
import Derived.Laws.ResultCell
import Derived.Laws.Rows
import Derived.Deep.RegionWith
namespace Go.Proofs.YtfohldojcdhnhaaDoor
open Go.RowKit
theorem results_cell_row_tmp {P : Program} {fn : Func} {p q : Tmp} {ty : TypeId} (h : fn.results = #[.cell p ty, .tmp q]) (tmps : Array Value) (w : World) (g : Nat) (t : TypeId) (cs : Array Value) (fr : Nat × Nat) (d : TypeDesc)
    (hp : tmps.getD p undef = .pointer (some ⟨g, 0, none⟩)) (hg : w.heap[g]? = some (.cells cs t fr))
    (hu : P.underlying ty = some d) (hd : (match d with | .struct _ | .array _ _ => true | _ => false) = true) (hi : (P.info? ty).map (·.size) = some cs.size) :
    (results fn tmps).run P w = .ok (.tuple #[.agg cs, tmps.getD q undef]) w := by
  have hp' : tmps[p]?.getD undef = .pointer (some ⟨g, 0, none⟩) := by simpa using hp
  rw [results_cell_tmp h]
  simp [hp', asAddr, run_loadVar_row w g t ty cs fr d hg hu hd hi, Result.andThen]
theorem Tryd.infoBlock : (Tryd.prog.info? 120).map (fun i => (i.zero, i.size, i.bytes)) = some (some (.agg #[.int .u64 0, .int .u64 0]), 2, 16) := by kernel_rfl
theorem Tryd.sizeBlock : (Tryd.prog.info? 120).map (·.size) = some 2 := by kernel_rfl
theorem Tryd.underBlock : Tryd.prog.underlying 120 = some (.array 2 67) := by kernel_rfl
/-- A count more is put behind the others. -/
theorem Rk.or_next (X b k : Nat) (h0 : 0 < k) (hk : k < 8) : bits BinOp.or IntKind.u64 ((Rk.pk X b (k - 1) : Nat) : Int) (IntKind.u64.wrap (IntKind.u64.wrap ((Rk.cn X b k : Nat) : Int) * 2 ^ (((k : Int) - 1) * 9).toNat)) = ((Rk.pk X b k : Nat) : Int) := by
  have hc := Rk.cn_le X b k
  have hw : IntKind.u64.wrap ((Rk.cn X b k : Nat) : Int) = ((Rk.cn X b k : Nat) : Int) := by rw [IntKind.wrap_u64]; omega
  rw [hw, show (((k : Int) - 1) * 9).toNat = 9 * (k - 1) from by omega, Bt.or_mix _ _ _ (Rk.pk_lt X b (k - 1) (by omega)) (Rk.pk_lt64 X b (k - 1) (by omega)) (by omega)]
  obtain ⟨j, rfl⟩ : ∃ j, k = j + 1 := ⟨k - 1, by omega⟩
  rw [Nat.add_sub_cancel, Rk.pk_succ]
  unfold Bt.mix
  rw [Nat.mod_eq_of_lt]
  have h2 := Rk.pk_lt X b (j + 1) (by omega)
  rw [Rk.pk_succ] at h2
  have h3 : 2 ^ (9 * (j + 1)) ≤ 2 ^ 64 := Nat.pow_le_pow_right (by decide) (by omega)
  omega
theorem Rk.sum_next (X b k : Nat) (f : Int) (hf : f = ((8 * b : Nat) : Int)) (hk : k < 8) : wrap64 (((Rk.cn X b k : Nat) : Int) + ((Wd.ones (Bt.wdI X (f + (k : Int))) (Wd.cl 64) : Nat) : Int)) = ((Rk.cn X b (k + 1) : Nat) : Int) := by
  have h1 := Rk.cn_le X b (k + 1)
  rw [hf, show ((8 * b : Nat) : Int) + (k : Int) = ((8 * b + k : Nat) : Int) from by omega, Bt.wdI_nat, show Wd.cl 64 = 64 from rfl]
  rw [Rk.cn_succ] at h1 ⊢
  simp only [wrap64]
  omega
theorem int_eq {k : IntKind} {a b : Int} (h : a = b) : Value.int k a = .int k b := by rw [h]
set_option maxHeartbeats 400000 in
theorem slot_any (i : Nat) (w : World) (hi : i < 8) :
    Calls Tryd.prog 98 #[.int .i64 (i : Nat)] w fun e w' => e = .returned (.int .i64 (((i : Int) - 1) * 9)) ∧ w' = w := by
  go_enter Tryd.func98, Tryd.ntmps98
  go_wp2
  go_ret
  exact ⟨rfl, rfl⟩
set_option maxHeartbeats 1000000 in
theorem survey_any (r n X b : Nat) (u : Value) (w : World) (h : Rw w r n X u) (hb : b ≤ 4294967296) (f a : Int) (hf : f = ((8 * b : Nat) : Int)) (ha : a = ((Wd.ones X (512 * b) : Nat) : Int)) (ha2 : a ≤ 4294967296):
    Calls Tryd.prog 84 #[.pointer (some ⟨r, 0, none⟩), .int .i64 f, .int .i64 a] w fun e w' => e = .returned (.tuple #[.agg #[.int .u64 a, .int .u64 ((Rk.pk X b 7 : Nat) : Int)], .int .i64 ((Rk.cn X b 8 : Nat) : Int)]) ∧ Below w.heap.size w w' := by
  have HH := hidden h
  have HF := hidden hf
  have HA := hidden ha
  have a0 : 0 ≤ a := by omega
  have f0 : 0 ≤ f := by omega
  have f1 : f ≤ 34359738368 := by omega
  clear h hf ha
  go_enter Tryd.func84, Tryd.ntmps84
  go_wp2_with fail
  go_loopw [9, 14] (fun wi i wr => ∃ k : Nat, k ≤ 8 ∧ i = .int .i64 k ∧ wi = .int .i64 ((Rk.cn X b k : Nat) : Int) ∧ wr.heap[w.heap.size]? = some (.cells #[.int .u64 0, .int .u64 0] 120 (0, 0)) ∧ wr.heap[w.heap.size + 1]? = some (.cells #[.int .u64 a, .int .u64 ((Rk.pk X b (k - 1) : Nat) : Int)] 120 (0, 0)) ∧ Below w.heap.size w wr) (fun _ i _ => 8 - (intOf i).toNat)
  case atStart =>
    refine ⟨0, by omega, rfl, rfl, ?_, heap_new_at (by simp), ((Below.refl _ _).alloc (Nat.le_refl _) _).alloc (by simp) _⟩
    rw [Below.heap_alloc _ _ _ (by simp), heap_alloc_new]
  case round =>
    obtain ⟨k, hk, rfl, rfl, hw0, hw1, hbel⟩ := hrel
    have HRR := hidden (HH.out.below hbel (Nat.le_refl _))
    have d1 : wr.cell? ⟨w.heap.size + 1, 1, none⟩ = some (.int .u64 ((Rk.pk X b (k - 1) : Nat) : Int)) := Lib.cell_of_heap hw1 1
    have d0 : wr.cell? ⟨w.heap.size + 1, 0, none⟩ = some (.int .u64 a) := Lib.cell_of_heap hw1 0
    have d2 : wr.frozen? ⟨w.heap.size + 1, 1, none⟩ = false := Lib.frozen_of_heap hw1 1
    have e0 : wr.cell? ⟨w.heap.size, 0, none⟩ = some (.int .u64 0) := Lib.cell_of_heap hw0 0
    have e1 : wr.cell? ⟨w.heap.size, 1, none⟩ = some (.int .u64 0) := Lib.cell_of_heap hw0 1
    have e2 : wr.frozen? ⟨w.heap.size, 0, none⟩ = false := Lib.frozen_of_heap hw0 0
    have e3 : wr.frozen? ⟨w.heap.size, 1, none⟩ = false := Lib.frozen_of_heap hw0 1
    have hsz := hbel.size
    have HW0 := hidden hw0
    have HW1 := hidden hw1
    have HBL := hidden hbel
    have hcn := Rk.cn_le X b k
    clear hw0 hw1 hbel
    by_cases hlt : k < 8
    · have hwd := Bt.wd_lt X (8 * b + k)
      have hcs := hidden (Rk.cn_succ X b k)
      have hcn2 := Rk.cn_le X b (k + 1)
      rcases Nat.eq_zero_or_pos k with h0 | h0
      · subst h0
        go_wp2_with fail
        refine (Word_any r n X f u _ HRR.out).mono ?_
        rintro e' w2 ⟨rfl, rfl⟩
        go_wp2_with fail
        refine (Ones_any _ _ _ (by exact Bt.wdI_lt X f)).mono ?_
        rintro e' w2 ⟨rfl, rfl⟩
        go_wp2_with fail
        have hs := Rk.sum_next X b 0 f HF.out (by decide)
        rw [show f + ((0 : Nat) : Int) = f from by omega] at hs
        exact ⟨⟨1, by omega, rfl, int_eq hs, HW0.out, HW1.out, HBL.out⟩, by simp [intOf]⟩
      · go_wp2_with fail
        have hsl : IntKind.i64.wrap (((k : Int) - 1) * 9) = ((k : Int) - 1) * 9 := by rw [IntKind.wrap_i64]; omega
        go_region_with
          (go_at_call 98; refine (slot_any k _ hlt).mono ?_; rintro e' w' ⟨rfl, rfl⟩)
        all_goals (
          rw [Rk.or_next X b k h0 hlt]
          have hw1 := setCell_heap_same _ _ 1 _ _ _ (.int .u64 ((Rk.pk X b k : Nat) : Int)) HW1.out
          have hw0 := (setCell_heap_other wr ⟨w.heap.size + 1, 1, none⟩ (.int .u64 ((Rk.pk X b k : Nat) : Int)) w.heap.size (by simp)).trans HW0.out
          have hbel : Below w.heap.size w (wr.setCell ⟨w.heap.size + 1, 1, none⟩ (.int .u64 ((Rk.pk X b k : Nat) : Int))).drew := (HBL.out.setCell (by simp) _).drew
          have HR2 := hidden (HH.out.below hbel (Nat.le_refl _))
          have HW02 := hidden hw0
          have HW12 := hidden hw1
          have HBL2 := hidden hbel
          clear hw0 hw1 hbel
          go_wp2_with fail
          refine (Word_any r n X _ u _ HR2.out).mono ?_
          rintro e' w2 ⟨rfl, rfl⟩
          go_wp2_with fail
          refine (Ones_any _ _ _ (by exact Bt.wdI_lt X (f + (k : Int)))).mono ?_
          rintro e' w2 ⟨rfl, rfl⟩
          go_wp2_with fail
          exact ⟨⟨k + 1, by omega, by go_num, int_eq (Rk.sum_next X b k f HF.out hlt), HW02.out, HW12.out, HBL2.out⟩, by simp [intOf]; omega⟩)
    · obtain rfl : k = 8 := by omega
      go_wp2_with fail
      (try simp only [Exit.inBlock, Exit.then])
      refine bodyPost_ret (results_cell_row_tmp rfl _ _ w.heap.size 120 #[.int .u64 a, .int .u64 ((Rk.pk X b 7 : Nat) : Int)] (0, 0) _ rfl ?_ Tryd.underBlock rfl Tryd.sizeBlock) rfl ?_
      · exact setCell_heap_same _ _ 1 _ _ _ _ (setCell_heap_same _ _ 0 _ _ _ _ HW0.out)
      · exact ⟨rfl, (HBL.out.setCell (Nat.le_refl _) _).setCell (Nat.le_refl _) _⟩
end Go.Proofs.YtfohldojcdhnhaaDoor
