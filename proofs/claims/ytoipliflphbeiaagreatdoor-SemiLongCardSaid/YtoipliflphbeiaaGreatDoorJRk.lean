/-
  The contracts of rank.slot and rank.survey: of the block b of a row how many bits are 1 ahead of it, the seven counts of its words side by side, and how many bits are 1 in it.
  A directory in memory, and the contract of rank.New: of every row a directory, in new memory; nothing that was there is changed.
  The contracts of a directory's Row, Size, place, ahead, One and Zero: for every directory and every number; nothing in memory is changed.
  The contracts of layer 3's awake, and of its reference One and Zero: for every list of bits and every number.
-/
import Derived.Laws.ResultCell
import Derived.Laws.Rows
import Derived.Deep.RegionWith
import Derived.Deep.RegionHeldLaw
import Derived.Test.YtoipliflphbeiaaGreatDoorJBtList
import Derived.Test.YtoipliflphbeiaaGreatDoorJMath
namespace Go.Proofs.YtoipliflphbeiaaGreatDoor
open Go.RowKit
theorem results_cell_row_tmp {P : Program} {fn : Func} {p q : Tmp} {ty : TypeId} (h : fn.results = #[.cell p ty, .tmp q]) (tmps : Array Value) (w : World) (g : Nat) (t : TypeId) (cs : Array Value) (fr : Nat × Nat) (d : TypeDesc)
    (hp : tmps.getD p undef = .pointer (some ⟨g, 0, none⟩)) (hg : w.heap[g]? = some (.cells cs t fr))
    (hu : P.underlying ty = some d) (hd : (match d with | .struct _ | .array _ _ => true | _ => false) = true) (hi : (P.info? ty).map (·.size) = some cs.size) :
    (results fn tmps).run P w = .ok (.tuple #[.agg cs, tmps.getD q undef]) w := by
  have hp' : tmps[p]?.getD undef = .pointer (some ⟨g, 0, none⟩) := by simpa using hp
  rw [results_cell_tmp h]
  simp [hp', asAddr, run_loadVar_row w g t ty cs fr d hg hu hd hi, Result.andThen]
theorem Tryz.infoBlock : (Tryz.prog.info? 159).map (fun i => (i.zero, i.size, i.bytes)) = some (some (.agg #[.int .u64 0, .int .u64 0]), 2, 16) := by kernel_rfl
theorem Tryz.sizeBlock : (Tryz.prog.info? 159).map (·.size) = some 2 := by kernel_rfl
theorem Tryz.underBlock : Tryz.prog.underlying 159 = some (.array 2 64) := by kernel_rfl
/-- A count more is put behind the others. -/
theorem Rk.or_next (X b k : Nat) (h0 : 0 < k) (hk : k < 8) : bits BinOp.or IntKind.u64 ((Rk.pk X b (k - 1) : Nat) : Int) (IntKind.u64.wrap (IntKind.u64.wrap ((Rk.cn X b k : Nat) : Int) * 2 ^ (((k : Int) - 1) * 9).toNat)) = ((Rk.pk X b k : Nat) : Int) := by
  have hc := Rk.cn_le X b k
  have hw : IntKind.u64.wrap ((Rk.cn X b k : Nat) : Int) = ((Rk.cn X b k : Nat) : Int) := by rw [IntKind.wrap_u64]; omega
  rw [hw, show (((k : Int) - 1) * 9).toNat = 9 * (k - 1) from by omega, Bt.or_mix _ _ _ (Rk.pk_lt X b (k - 1) (by omega)) (Rk.pk_lt64 X b (k - 1) (by omega)) (by omega)]
  obtain ⟨j, rfl⟩ : ∃ j, k = j + 1 := ⟨k - 1, by omega⟩
  rw [Nat.add_sub_cancel, Rk.pk_succ]
  unfold Bt.mix
  rw [Nat.mod_eq_of_lt]
  have h2 := Rk.pk_lt X b (j + 1) (by omega)
  rw [Rk.pk_succ] at h2
  have h3 : 2 ^ (9 * (j + 1)) ≤ 2 ^ 64 := Nat.pow_le_pow_right (by decide) (by omega)
  omega
theorem Rk.sum_next (X b k : Nat) (f : Int) (hf : f = ((8 * b : Nat) : Int)) (hk : k < 8) : wrap64 (((Rk.cn X b k : Nat) : Int) + ((Wd.ones (Bt.wdI X (f + (k : Int))) (Wd.cl 64) : Nat) : Int)) = ((Rk.cn X b (k + 1) : Nat) : Int) := by
  have h1 := Rk.cn_le X b (k + 1)
  rw [hf, show ((8 * b : Nat) : Int) + (k : Int) = ((8 * b + k : Nat) : Int) from by omega, Bt.wdI_nat, show Wd.cl 64 = 64 from rfl]
  rw [Rk.cn_succ] at h1 ⊢
  simp only [wrap64]
  omega
theorem int_eq {k : IntKind} {a b : Int} (h : a = b) : Value.int k a = .int k b := by rw [h]
set_option maxHeartbeats 400000 in
theorem slot_any (i : Nat) (w : World) (hi : i < 8) :
    Calls Tryz.prog 144 #[.int .i64 (i : Nat)] w fun e w' => e = .returned (.int .i64 (((i : Int) - 1) * 9)) ∧ w' = w := by
  go_enter Tryz.func144, Tryz.ntmps144
  go_wp2
  go_ret
  exact ⟨rfl, rfl⟩
set_option maxHeartbeats 1000000 in
theorem survey_any (r n X b : Nat) (u : Value) (w : World) (h : Rw w r n X u) (hb : b ≤ 4294967296) (f a : Int) (hf : f = ((8 * b : Nat) : Int)) (ha : a = ((Wd.ones X (512 * b) : Nat) : Int)) (ha2 : a ≤ 4294967296):
    Calls Tryz.prog 157 #[.pointer (some ⟨r, 0, none⟩), .int .i64 f, .int .i64 a] w fun e w' => e = .returned (.tuple #[.agg #[.int .u64 a, .int .u64 ((Rk.pk X b 7 : Nat) : Int)], .int .i64 ((Rk.cn X b 8 : Nat) : Int)]) ∧ Below w.heap.size w w' := by
  have HH := hidden h
  have HF := hidden hf
  have HA := hidden ha
  have a0 : 0 ≤ a := by omega
  have f0 : 0 ≤ f := by omega
  have f1 : f ≤ 34359738368 := by omega
  clear h hf ha
  go_enter Tryz.func157, Tryz.ntmps157
  go_wp2_with fail
  go_loopw [9, 14] (fun wi i wr => ∃ k : Nat, k ≤ 8 ∧ i = .int .i64 k ∧ wi = .int .i64 ((Rk.cn X b k : Nat) : Int) ∧ wr.heap[w.heap.size]? = some (.cells #[.int .u64 0, .int .u64 0] 159 (0, 0)) ∧ wr.heap[w.heap.size + 1]? = some (.cells #[.int .u64 a, .int .u64 ((Rk.pk X b (k - 1) : Nat) : Int)] 159 (0, 0)) ∧ Below w.heap.size w wr) (fun _ i _ => 8 - (intOf i).toNat)
  case atStart =>
    refine ⟨0, by omega, rfl, rfl, ?_, heap_new_at (by simp), ((Below.refl _ _).alloc (Nat.le_refl _) _).alloc (by simp) _⟩
    rw [Below.heap_alloc _ _ _ (by simp), heap_alloc_new]
  case round =>
    obtain ⟨k, hk, rfl, rfl, hw0, hw1, hbel⟩ := hrel
    have HRR := hidden (HH.out.below hbel (Nat.le_refl _))
    have d1 : wr.cell? ⟨w.heap.size + 1, 1, none⟩ = some (.int .u64 ((Rk.pk X b (k - 1) : Nat) : Int)) := Lib.cell_of_heap hw1 1
    have d0 : wr.cell? ⟨w.heap.size + 1, 0, none⟩ = some (.int .u64 a) := Lib.cell_of_heap hw1 0
    have d2 : wr.frozen? ⟨w.heap.size + 1, 1, none⟩ = false := Lib.frozen_of_heap hw1 1
    have e0 : wr.cell? ⟨w.heap.size, 0, none⟩ = some (.int .u64 0) := Lib.cell_of_heap hw0 0
    have e1 : wr.cell? ⟨w.heap.size, 1, none⟩ = some (.int .u64 0) := Lib.cell_of_heap hw0 1
    have e2 : wr.frozen? ⟨w.heap.size, 0, none⟩ = false := Lib.frozen_of_heap hw0 0
    have e3 : wr.frozen? ⟨w.heap.size, 1, none⟩ = false := Lib.frozen_of_heap hw0 1
    have hsz := hbel.size
    have HW0 := hidden hw0
    have HW1 := hidden hw1
    have HBL := hidden hbel
    have hcn := Rk.cn_le X b k
    clear hw0 hw1 hbel
    by_cases hlt : k < 8
    · have hwd := Bt.wd_lt X (8 * b + k)
      have hcs := hidden (Rk.cn_succ X b k)
      have hcn2 := Rk.cn_le X b (k + 1)
      rcases Nat.eq_zero_or_pos k with h0 | h0
      · subst h0
        go_wp2_with fail
        refine (Word_any r n X f u _ HRR.out).mono ?_
        rintro e' w2 ⟨rfl, rfl⟩
        go_wp2_with fail
        refine (Ones_any _ _ _ (by exact Bt.wdI_lt X f)).mono ?_
        rintro e' w2 ⟨rfl, rfl⟩
        go_wp2_with fail
        have hs := Rk.sum_next X b 0 f HF.out (by decide)
        rw [show f + ((0 : Nat) : Int) = f from by omega] at hs
        exact ⟨⟨1, by omega, rfl, int_eq hs, HW0.out, HW1.out, HBL.out⟩, by simp [intOf]⟩
      · go_wp2_with fail
        have hsl : IntKind.i64.wrap (((k : Int) - 1) * 9) = ((k : Int) - 1) * 9 := by rw [IntKind.wrap_i64]; omega
        go_region_with
          (go_at_call 144; refine (slot_any k _ hlt).mono ?_; rintro e' w' ⟨rfl, rfl⟩)
        all_goals (
          rw [Rk.or_next X b k h0 hlt]
          have hw1 := setCell_heap_same _ _ 1 _ _ _ (.int .u64 ((Rk.pk X b k : Nat) : Int)) HW1.out
          have hw0 := (setCell_heap_other wr ⟨w.heap.size + 1, 1, none⟩ (.int .u64 ((Rk.pk X b k : Nat) : Int)) w.heap.size (by simp)).trans HW0.out
          have hbel : Below w.heap.size w (wr.setCell ⟨w.heap.size + 1, 1, none⟩ (.int .u64 ((Rk.pk X b k : Nat) : Int))).drew := (HBL.out.setCell (by simp) _).drew
          have HR2 := hidden (HH.out.below hbel (Nat.le_refl _))
          have HW02 := hidden hw0
          have HW12 := hidden hw1
          have HBL2 := hidden hbel
          clear hw0 hw1 hbel
          go_wp2_with fail
          refine (Word_any r n X _ u _ HR2.out).mono ?_
          rintro e' w2 ⟨rfl, rfl⟩
          go_wp2_with fail
          refine (Ones_any _ _ _ (by exact Bt.wdI_lt X (f + (k : Int)))).mono ?_
          rintro e' w2 ⟨rfl, rfl⟩
          go_wp2_with fail
          exact ⟨⟨k + 1, by omega, by go_num, int_eq (Rk.sum_next X b k f HF.out hlt), HW02.out, HW12.out, HBL2.out⟩, by simp [intOf]; omega⟩)
    · obtain rfl : k = 8 := by omega
      go_wp2_with fail
      (try simp only [Exit.inBlock, Exit.then])
      refine bodyPost_ret (results_cell_row_tmp rfl _ _ w.heap.size 159 #[.int .u64 a, .int .u64 ((Rk.pk X b 7 : Nat) : Int)] (0, 0) _ rfl ?_ Tryz.underBlock rfl Tryz.sizeBlock) rfl ?_
      · exact setCell_heap_same _ _ 1 _ _ _ _ (setCell_heap_same _ _ 0 _ _ _ _ HW0.out)
      · exact ⟨rfl, (HBL.out.setCell (Nat.le_refl _) _).setCell (Nat.le_refl _) _⟩
end Go.Proofs.YtoipliflphbeiaaGreatDoor
namespace Go.Proofs.YtoipliflphbeiaaGreatDoor
open Go.RowKit
/-- What stands in the first k blocks; the others are 0. -/
structure Rk.Cur (cur : Array Value) (X c k : Nat) : Prop where
  size : cur.size = 2 * c
  cell0 : ∀ j, j < c → cur[2 * j]? = some (.int .u64 (((if j < k then Wd.ones X (512 * j) else 0) : Nat) : Int))
  cell1 : ∀ j, j < c → cur[2 * j + 1]? = some (.int .u64 (((if j < k then Rk.pk X j 7 else 0) : Nat) : Int))
theorem Rk.Cur.new (X c : Nat) : Rk.Cur (Array.replicate (2 * c) (Value.int .u64 0)) X c 0 := by
  refine ⟨by simp, fun j hj => ?_, fun j hj => ?_⟩ <;> simp [Array.getElem?_replicate] <;> omega
theorem Rk.Cur.next {cur : Array Value} {X c k : Nat} (h : Rk.Cur cur X c k) (hk : k < c) : Rk.Cur ((cur.setIfInBounds (2 * k) (.int .u64 ((Wd.ones X (512 * k) : Nat) : Int))).setIfInBounds (2 * k + 1) (.int .u64 ((Rk.pk X k 7 : Nat) : Int))) X c (k + 1) := by
  have hs := h.size
  refine ⟨by simp [h.size], fun j hj => ?_, fun j hj => ?_⟩
  · have := h.cell0 j hj
    rw [Array.getElem?_setIfInBounds, if_neg (by omega), Array.getElem?_setIfInBounds]
    by_cases e : j = k
    · subst e
      rw [if_pos rfl, if_pos (by omega), if_pos (by omega)]
    · rw [if_neg (by omega), this]
      by_cases h2 : j < k
      · rw [if_pos h2, if_pos (by omega)]
      · rw [if_neg h2, if_neg (by omega)]
  · have := h.cell1 j hj
    rw [Array.getElem?_setIfInBounds]
    by_cases e : j = k
    · subst e
      rw [if_pos rfl, if_pos (by simp; omega), if_pos (by omega)]
    · rw [if_neg (by omega), Array.getElem?_setIfInBounds, if_neg (by omega), this]
      by_cases h2 : j < k
      · rw [if_pos h2, if_pos (by omega)]
      · rw [if_neg h2, if_neg (by omega)]
theorem made_blocks (c : Nat) : madeCells #[Value.int .u64 0, Value.int .u64 0] c = Array.replicate c (Value.int .u64 0) := by
  apply Array.ext
  · simp [size_madeCells]
  · intro i h1 h2
    rcases (show i % 2 = 0 ∨ i % 2 = 1 from by omega) with e | e <;> simp [madeCells, e]
theorem mk_blocks (c : Nat) (hc : c ≤ 4294967296) (u : World) : (Instr.makeSlice 160 (.int .i64 (c : Int)) (.int .i64 (c : Int))).run Tryz.prog u = .ok (.slice (some ⟨u.heap.size, 0, none⟩) c c) (u.alloc (.cells (Array.replicate (2 * c) (Value.int .u64 0)) 159)) := by
  obtain ⟨i0, hi, hz0, hz1, hz2⟩ := info_parts Tryz.infoBlock
  have h := run_make (P := Tryz.prog) u 160 159 i0 _ Tryz.underlying160 hi hz0 .i64 .i64 (c : Int) (c : Int) (by omega) (Int.le_refl _) (by rw [hz2]; omega) (by omega)
  rw [← made_blocks, Nat.mul_comm]
  simpa [hz1, Value.cells] using h
/-- The directory in block d: its row, and its blocks behind g. -/
structure Dr (w : World) (d g r n X : Nat) (u : Value) : Prop where
  row : Rw w r n X u
  cells : w.heap[d]? = some (.cells #[.pointer (some ⟨r, 0, none⟩), .slice (some ⟨g, 0, none⟩) (n / 512 + 1) (n / 512 + 1)] 162 (0, 0))
  blocks : ∃ cur, w.heap[g]? = some (.cells cur 159 (0, 0)) ∧ Rk.Cur cur X (n / 512 + 1) (n / 512 + 1)
theorem Dr.below {w w' : World} {d g r n X : Nat} {u : Value} {C : Nat} (h : Dr w d g r n X u) (hb : Below C w w') (hC : w.heap.size ≤ C) : Dr w' d g r n X u := by
  obtain ⟨cur, h1, h2⟩ := h.blocks
  exact ⟨h.row.below hb hC, by rw [hb.block d (Nat.lt_of_lt_of_le (lt_of_block h.cells) hC)]; exact h.cells, cur, by rw [hb.block g (Nat.lt_of_lt_of_le (lt_of_block h1) hC)]; exact h1, h2⟩
theorem Dr.drewN {w : World} {d g r n X : Nat} {u : Value} (h : Dr w d g r n X u) (m : Nat) : Dr (w.drewN m) d g r n X u := ⟨h.row.drewN m, h.cells, h.blocks⟩
theorem Rk.ahead_next (X k : Nat) (o : Int) (h : ((Wd.ones X (512 * k) : Nat) : Int) = o) : o + ((Rk.cn X k 8 : Nat) : Int) = ((Wd.ones X (512 * (k + 1)) : Nat) : Int) := by
  rw [show 512 * (k + 1) = 512 * k + 64 * 8 from by omega, Rk.ones_block]
  omega
set_option maxHeartbeats 1000000 in
theorem New_any (r n X : Nat) (u : Value) (w : World) (h : Rw w r n X u) :
    Calls Tryz.prog 123 #[.pointer (some ⟨r, 0, none⟩)] w fun e w' => ∃ d g, e = .returned (.pointer (some ⟨d, 0, none⟩)) ∧ Dr w' d g r n X u ∧ Below w.heap.size w w' := by
  have HH := hidden h
  have hl := h.len
  obtain ⟨c, hc⟩ : ∃ c, c = n / 512 + 1 := ⟨_, rfl⟩
  have hq : (n : Int) / 512 + 1 = (c : Int) := by omega
  have hc1 : c ≤ 4294967296 := by omega
  have hmk := mk_blocks c hc1
  have HC := hidden hc
  clear h hc
  go_enter Tryz.func123, Tryz.ntmps123
  go_wp2_with fail
  refine (RLen_any r n X u _ HH.out).mono ?_
  rintro e' w1 ⟨rfl, rfl⟩
  go_wp2_with fail
  go_loopw [4, 21] (fun o i wr => ∃ (k : Nat) (cur : Array Value), k ≤ c ∧ i = .int .i64 k ∧ o = .int .i64 ((Wd.ones X (512 * k) : Nat) : Int) ∧ wr.heap[w1.heap.size]? = some (.cells cur 159 (0, 0)) ∧ Rk.Cur cur X c k ∧ wr.heap[w1.heap.size + 1]? = some (.cells #[.pointer (some ⟨r, 0, none⟩), .slice (some ⟨w1.heap.size, 0, none⟩) c c] 162 (0, 0)) ∧ Below w1.heap.size w1 wr) (fun _ i _ => c - (intOf i).toNat)
  case atStart =>
    refine ⟨0, _, by omega, rfl, rfl, ?_, Rk.Cur.new X c, heap_new_at (by simp), ((Below.refl _ _).alloc (Nat.le_refl _) _).alloc (by simp) _⟩
    rw [Below.heap_alloc _ _ _ (by simp), heap_alloc_new]
  case round =>
    obtain ⟨k, cur, hk, rfl, rfl, hw, hcur, hd, hbel⟩ := hrel
    have hsz := hbel.size
    have hs0 := lt_of_block hd
    have HRR := hidden (HH.out.below hbel (Nat.le_refl _))
    have HW := hidden hw
    have HCU := hidden hcur
    have HD := hidden hd
    have HBL := hidden hbel
    have hon := Wd.ones_le X (512 * k)
    have hd1 : wr.cell? ⟨w1.heap.size + 1, 1, none⟩ = some (.slice (some ⟨w1.heap.size, 0, none⟩) c c) := Lib.cell_of_heap hd 1
    clear hw hcur hd hbel
    by_cases hlt : k < c
    · have hk4 : k ≤ 8388608 := by have := HC.out; omega
      obtain ⟨o, ho⟩ : ∃ o : Int, ((Wd.ones X (512 * k) : Nat) : Int) = o := ⟨_, rfl⟩
      rw [ho]

      have HO := hidden ho
      have ho0 : 0 ≤ o := by omega
      have ho1 : o ≤ 4294967296 := by omega
      clear ho hon
      go_wp2_with fail
      refine (survey_any r n X k u _ HRR.out (by omega) _ _ (by omega) HO.out.symm ho1).mono ?_
      rintro e' w2 ⟨rfl, hb2⟩
      have hs2 := hb2.size
      have hd2 := (hb2.block (w1.heap.size + 1) hs0).trans HD.out
      have hw2 := (hb2.block w1.heap.size (by omega)).trans HW.out
      have hbel2 := HBL.out.trans (hb2.mono HBL.out.size)
      have HD2 := hidden hd2
      have HW2 := hidden hw2
      have HBL2 := hidden hbel2
      clear hd2 hw2 hbel2 hb2 hd1
      have hcn := Rk.cn_le X k 8
      go_wp2_with fail
      obtain ⟨w3, hw3⟩ : ∃ w3, w3 = w2.alloc (.cells #[.int .u64 o, .int .u64 ((Rk.pk X k 7 : Nat) : Int)] 159) := ⟨_, rfl⟩
      rw [← hw3]
      have hs3 : w3.heap.size = w2.heap.size + 1 := by rw [hw3]; simp
      have hn3 : w3.heap[w2.heap.size]? = some (.cells #[.int .u64 o, .int .u64 ((Rk.pk X k 7 : Nat) : Int)] 159 (0, 0)) := by rw [hw3]; exact heap_alloc_new _ _
      have hd3 : w3.heap[w1.heap.size + 1]? = some (.cells #[.pointer (some ⟨r, 0, none⟩), .slice (some ⟨w1.heap.size, 0, none⟩) c c] 162 (0, 0)) := by rw [hw3, Below.heap_alloc _ _ _ (by omega)]; exact HD2.out
      have hg3 : w3.heap[w1.heap.size]? = some (.cells cur 159 (0, 0)) := by rw [hw3, Below.heap_alloc _ _ _ (by omega)]; exact HW2.out
      have hb3 : Below w1.heap.size w1 w3 := by rw [hw3]; exact HBL2.out.alloc (by omega) _
      have c0 : w3.cell? ⟨w2.heap.size, 0, none⟩ = some (.int .u64 o) := Lib.cell_of_heap hn3 0
      have c1 : w3.cell? ⟨w2.heap.size, 1, none⟩ = some (.int .u64 ((Rk.pk X k 7 : Nat) : Int)) := Lib.cell_of_heap hn3 1
      have c2 : w3.cell? ⟨w1.heap.size + 1, 1, none⟩ = some (.slice (some ⟨w1.heap.size, 0, none⟩) c c) := Lib.cell_of_heap hd3 1
      have hcu := HCU.out
      have e0 : w3.cell? ⟨w1.heap.size, k * 2, none⟩ = some (.int .u64 0) := by
        rw [Lib.cell_of_heap hg3, Nat.mul_comm, hcu.cell0 k hlt, if_neg (Nat.lt_irrefl _)]; rfl
      have e1 : w3.cell? ⟨w1.heap.size, k * 2 + 1, none⟩ = some (.int .u64 0) := by
        rw [Lib.cell_of_heap hg3, Nat.mul_comm, hcu.cell1 k hlt, if_neg (Nat.lt_irrefl _)]; rfl
      have f0 : w3.frozen? ⟨w1.heap.size, k * 2, none⟩ = false := Lib.frozen_of_heap hg3 _
      have f1 : w3.frozen? ⟨w1.heap.size, k * 2 + 1, none⟩ = false := Lib.frozen_of_heap hg3 _
      have i0 : (0 : Int) ≤ (k : Int) := by omega
      have i1 : (k : Int) < (c : Int) := by omega
      have HN3 := hidden hn3
      have HD3 := hidden hd3
      have HG3 := hidden hg3
      have HB3 := hidden hb3
      have HS3 := hidden hs3
      clear hcu hw3 hn3 hd3 hg3 hb3 hs3
      go_region
      have hg4 := setCell_heap_same _ _ (k * 2 + 1) _ _ _ (.int .u64 ((Rk.pk X k 7 : Nat) : Int)) (setCell_heap_same _ _ (k * 2) _ _ _ (.int .u64 o) HG3.out)
      have hd4 : ((w3.setCell ⟨w1.heap.size, k * 2, none⟩ (.int .u64 o)).setCell ⟨w1.heap.size, k * 2 + 1, none⟩ (.int .u64 ((Rk.pk X k 7 : Nat) : Int))).heap[w1.heap.size + 1]? = some (.cells #[.pointer (some ⟨r, 0, none⟩), .slice (some ⟨w1.heap.size, 0, none⟩) c c] 162 (0, 0)) := by
        rw [setCell_heap_other _ _ _ _ (by simp), setCell_heap_other _ _ _ _ (by simp)]
        exact HD3.out
      have hb4 : Below w1.heap.size w1 ((w3.setCell ⟨w1.heap.size, k * 2, none⟩ (.int .u64 o)).setCell ⟨w1.heap.size, k * 2 + 1, none⟩ (.int .u64 ((Rk.pk X k 7 : Nat) : Int))).drew := ((HB3.out.setCell (Nat.le_refl _) _).setCell (Nat.le_refl _) _).drew
      have HG4 := hidden hg4
      have HD4 := hidden hd4
      have HB4 := hidden hb4
      clear hg4 hd4 hb4 c0 c1 c2 e0 e1 f0 f1
      go_wp2_with fail
      have hn := HCU.out.next hlt
      rw [HO.out, Nat.mul_comm] at hn
      exact ⟨⟨k + 1, _, by omega, by go_num, int_eq (Rk.ahead_next X k o HO.out), HG4.out, hn, HD4.out, HB4.out⟩, by simp [intOf]; omega⟩
    · obtain rfl : k = c := by omega
      go_wp2_with fail
      go_ret
      obtain ⟨cc, hcc⟩ : ∃ cc, cc = n / 512 + 1 := ⟨_, rfl⟩
      have h := HC.out
      exact ⟨_, _, rfl, ⟨HRR.out, h ▸ HD.out, _, HW.out, h ▸ HCU.out⟩, HBL.out⟩
end Go.Proofs.YtoipliflphbeiaaGreatDoor
namespace Go.Proofs.YtoipliflphbeiaaGreatDoor
open Go.RowKit
theorem Dr.cell0 {w : World} {d g r n X : Nat} {u : Value} (h : Dr w d g r n X u) : w.cell? ⟨d, 0, none⟩ = some (.pointer (some ⟨r, 0, none⟩)) := Lib.cell_of_heap h.cells 0
theorem Dr.cell1 {w : World} {d g r n X : Nat} {u : Value} (h : Dr w d g r n X u) : w.cell? ⟨d, 1, none⟩ = some (.slice (some ⟨g, 0, none⟩) (n / 512 + 1) (n / 512 + 1)) := Lib.cell_of_heap h.cells 1
theorem Dr.at0 {w : World} {d g r n X : Nat} {u : Value} (h : Dr w d g r n X u) (q : Nat) (hq : q ≤ n / 512) : w.cell? ⟨g, q * 2, none⟩ = some (.int .u64 ((Wd.ones X (512 * q) : Nat) : Int)) := by
  obtain ⟨cur, h1, h2⟩ := h.blocks
  rw [Lib.cell_of_heap h1, Nat.mul_comm, h2.cell0 q (by omega), if_pos (by omega)]
theorem Dr.at1 {w : World} {d g r n X : Nat} {u : Value} (h : Dr w d g r n X u) (q : Nat) (hq : q ≤ n / 512) : w.cell? ⟨g, q * 2 + 1, none⟩ = some (.int .u64 ((Rk.pk X q 7 : Nat) : Int)) := by
  obtain ⟨cur, h1, h2⟩ := h.blocks
  rw [Lib.cell_of_heap h1, Nat.mul_comm, h2.cell1 q (by omega), if_pos (by omega)]
set_option maxHeartbeats 400000 in
theorem DRow_any (d g r n X : Nat) (u : Value) (w : World) (h : Dr w d g r n X u) :
    Calls Tryz.prog 87 #[.pointer (some ⟨d, 0, none⟩)] w fun e w' => e = .returned (.pointer (some ⟨r, 0, none⟩)) ∧ w' = w := by
  have c0 := h.cell0
  clear h
  go_enter Tryz.func87, Tryz.ntmps87
  go_wp2
  go_ret
  exact ⟨rfl, rfl⟩
set_option maxHeartbeats 400000 in
theorem Size_any (d g r n X : Nat) (u : Value) (w : World) (h : Dr w d g r n X u) :
    Calls Tryz.prog 142 #[.pointer (some ⟨d, 0, none⟩)] w fun e w' => e = .returned (.int .i64 (((n / 512 + 1) * 128 : Nat) : Int)) ∧ w' = w := by
  have c1 := h.cell1
  have hl := h.row.len
  obtain ⟨c, hc⟩ : ∃ c, c = n / 512 + 1 := ⟨_, rfl⟩
  have hc1 : c ≤ 8388609 := by omega
  rw [← hc] at c1 ⊢
  clear h hc hl
  go_enter Tryz.func142, Tryz.ntmps142
  go_wp2
  go_ret
  exact ⟨ret_int (by omega), rfl⟩
set_option maxHeartbeats 400000 in
theorem place_any (d g r n X : Nat) (i : Int) (u : Value) (w : World) (h : Dr w d g r n X u) :
    Calls Tryz.prog 118 #[.pointer (some ⟨d, 0, none⟩), .int .i64 i] w fun e w' => e = .returned (.int .i64 ((Bt.cf n i : Nat) : Int)) ∧ w' = w := by
  have c0 := h.cell0
  have hl := h.row.len
  have HR := hidden h.row
  have HP : Hid (min (max i 0) (n : Int) = ((Bt.cf n i : Nat) : Int)) := by show _ = _; unfold Bt.cf; omega
  clear h
  go_enter Tryz.func118, Tryz.ntmps118
  go_wp2_with fail
  refine (RLen_any r n X u _ HR.out).mono ?_
  rintro e' w1 ⟨rfl, rfl⟩
  go_wp2_with fail
  go_ret
  exact ⟨ret_int HP.out, rfl⟩
set_option maxHeartbeats 400000 in
theorem ahead_any (d g r n X q j : Nat) (u : Value) (w : World) (h : Dr w d g r n X u) (hq : q ≤ n / 512) (hj : j < 8) :
    Calls Tryz.prog 119 #[.pointer (some ⟨g, q * 2, none⟩), .int .i64 (j : Nat)] w fun e w' => e = .returned (.int .i64 ((Wd.ones X (512 * q) + Rk.cn X q j : Nat) : Int)) ∧ ∃ m, w' = w.drewN m := by
  have c0 := h.at0 q hq
  have c1 := h.at1 q hq
  have hl := h.row.len
  have ho := Wd.ones_le X (512 * q)
  have hp := Rk.pk_lt64 X q 7 (by decide)
  have hc := Rk.cn_le X q j
  have HF := hidden (Rk.pk_fld X q j hj)
  obtain ⟨P, hP⟩ : ∃ P, P = Rk.pk X q 7 := ⟨_, rfl⟩
  rw [← hP] at c1 hp HF
  obtain ⟨O, hO⟩ : ∃ O, O = Wd.ones X (512 * q) := ⟨_, rfl⟩
  rw [← hO] at c0 ho ⊢
  have ho2 : O ≤ 4294967296 := by omega
  clear hP hO h hl hq ho
  go_enter Tryz.func119, Tryz.ntmps119
  go_wp2_with fail
  go_quiet (first
    | (go_at_call 144; exact Calls.quiet_of_same (slot_any j _ hj))
    | (go_at_call 143; exact Calls.quiet_of_same (Field_any P _ _ _ hp)))
  go_wp2_with fail
  go_ret
  refine ⟨ret_int ?_, nq, rfl⟩
  rw [show Wd.cl 9 = 9 from rfl, HF.out, IntKind.wrap_u64]
  simp only [wrap64]
  omega
set_option maxHeartbeats 400000 in
theorem One_any (d g r n X : Nat) (i : Int) (u : Value) (w : World) (h : Dr w d g r n X u) :
    Calls Tryz.prog 86 #[.pointer (some ⟨d, 0, none⟩), .int .i64 i] w fun e w' => e = .returned (.int .i64 ((Wd.ones X (Bt.cf n i) : Nat) : Int)) ∧ ∃ m, w' = w.drewN m := by
  have c0 := h.cell0
  have c1 := h.cell1
  have hl := h.row.len
  have HH := hidden h
  have HP := hidden (place_any d g r n X i u w h)
  have hpn : Bt.cf n i ≤ n := Nat.le_trans (Bt.cf_le n i 0).1 (Bt.cf_le n i 0).2
  obtain ⟨p, hp⟩ : ∃ p, p = Bt.cf n i := ⟨_, rfl⟩
  rw [← hp] at HP hpn ⊢
  have hr := Rk.rank_eq X p
  obtain ⟨q, hq⟩ : ∃ q, q = p / 512 := ⟨_, rfl⟩
  obtain ⟨a, ha⟩ : ∃ a, a = p / 64 := ⟨_, rfl⟩
  obtain ⟨c, hc⟩ : ∃ c, c = n / 512 + 1 := ⟨_, rfl⟩
  have q1 : (p : Int) / 512 = (q : Int) := by omega
  have a1 : (p : Int) / 64 = (a : Int) := by omega
  obtain ⟨j, hj⟩ : ∃ j, j = a % 8 := ⟨_, rfl⟩
  obtain ⟨s, hs⟩ : ∃ s, s = p % 64 := ⟨_, rfl⟩
  have j1 : (a : Int) % 8 = (j : Int) := by omega
  have s1 : (p : Int) % 64 = (s : Int) := by omega
  have hj8 : j < 8 := by omega
  have hs64 : s < 64 := by omega
  have hqn : q ≤ n / 512 := by omega
  have i0 : (0 : Int) ≤ (q : Int) := by omega
  have i1 : (q : Int) < (c : Int) := by omega
  have hc2 : c ≤ 8388609 := by omega
  rw [← hc] at c1
  rw [← hq, ← ha, ← hj, ← hs] at hr
  have HA : ∀ m, Hid _ := fun m => hidden (ahead_any d g r n X q j u (w.drewN m) (h.drewN m) hqn hj8)
  have HR := hidden hr
  have hop := Wd.ones_le X p
  have hw := Bt.wdI_lt X (a : Int)
  have ho1 : Wd.ones X (512 * q) + Rk.cn X q j ≤ 8589934592 := by omega
  obtain ⟨O, hO⟩ : ∃ O, O = Wd.ones X (512 * q) + Rk.cn X q j := ⟨_, rfl⟩
  rw [← hO] at HR ho1
  simp only [← hO] at HA
  clear h hp hr hq ha hc hO hj hs
  go_enter Tryz.func86, Tryz.ntmps86
  go_wp2_with fail
  refine HP.out.mono ?_
  rintro e' w1 ⟨rfl, rfl⟩
  go_wp2_with fail
  go_quiet (first
    | (go_at_call 119; exact Calls.quiet_of (HA _).out)
    | (go_at_call 104; exact Calls.quiet_of_same (Word_any r n X _ u _ (HH.out.row.drewN _)))
    | (go_at_call 120; exact Calls.quiet_of_same (Ones_any _ _ _ hw)))
  go_wp2_with fail
  go_ret
  refine ⟨ret_int ?_, nq, rfl⟩
  rw [Bt.wdI_nat, Wd.cl_nat s (by omega)]
  have := HR.out
  simp only [wrap64]
  omega
set_option maxHeartbeats 400000 in
theorem Zero_any (d g r n X : Nat) (i : Int) (u : Value) (w : World) (h : Dr w d g r n X u) :
    Calls Tryz.prog 125 #[.pointer (some ⟨d, 0, none⟩), .int .i64 i] w fun e w' => e = .returned (.int .i64 (((Bt.cf n i : Nat) : Int) - ((Wd.ones X (Bt.cf n i) : Nat) : Int))) ∧ ∃ m, w' = w.drewN m := by
  have HH := hidden h
  have hl := h.row.len
  have hpn : Bt.cf n i ≤ n := Nat.le_trans (Bt.cf_le n i 0).1 (Bt.cf_le n i 0).2
  have ho := Wd.ones_le X (Bt.cf n i)
  clear h
  go_enter Tryz.func125, Tryz.ntmps125
  go_wp2_with fail
  refine (place_any d g r n X i u _ HH.out).mono ?_
  rintro e' w1 ⟨rfl, rfl⟩
  go_wp2_with fail
  refine (One_any d g r n X i u _ HH.out).mono ?_
  rintro e' w2 ⟨rfl, m, rfl⟩
  go_wp2_with fail
  go_ret
  exact ⟨ret_int rfl, m, rfl⟩
end Go.Proofs.YtoipliflphbeiaaGreatDoor
namespace Go.Proofs.YtoipliflphbeiaaGreatDoor
open Go.RowKit
theorem Bt.cf_nat (n : Nat) (i : Nat) (h : i ≤ n) : Bt.cf n (i : Int) = i := by unfold Bt.cf; omega
theorem below_drewN {B : Nat} {w w' : World} (h : Below B w w') (m : Nat) : Below B w (w'.drewN m) := ⟨h.os, h.tape, h.output, h.size, h.block⟩
theorem Bv.drewN {w : World} {v : Value} {L : List Bool} (h : Bv w v L) (m : Nat) : Bv (w.drewN m) v L := h
theorem One_at (d g r n X : Nat) (i : Int) (p : Nat) (u : Value) (w : World) (h : Dr w d g r n X u) (hp : Bt.cf n i = p) :
    Calls Tryz.prog 86 #[.pointer (some ⟨d, 0, none⟩), .int .i64 i] w fun e w' => e = .returned (.int .i64 ((Wd.ones X p : Nat) : Int)) ∧ ∃ m, w' = w.drewN m := hp ▸ One_any d g r n X i u w h
theorem Zero_at (d g r n X : Nat) (i : Int) (p : Nat) (u : Value) (w : World) (h : Dr w d g r n X u) (hp : Bt.cf n i = p) :
    Calls Tryz.prog 125 #[.pointer (some ⟨d, 0, none⟩), .int .i64 i] w fun e w' => e = .returned (.int .i64 ((p : Int) - ((Wd.ones X p : Nat) : Int))) ∧ ∃ m, w' = w.drewN m := hp ▸ Zero_any d g r n X i u w h
set_option maxHeartbeats 1000000 in
theorem rOne_any (L : List Bool) (v : Value) (i : Int) (w : World) (h : Bv w v L) (hL : L.length ≤ 4294967296) :
    Calls Tryz.prog 30 #[v, .int .i64 i] w fun e w' => e = .returned (.int .i64 ((Wd.ones (Bt.num L) (Bt.cf L.length i) : Nat) : Int)) ∧ w' = w := by
  obtain ⟨ao, cap, rfl, hcap, hc⟩ := h
  have HC := hidden hc
  have hpn : Bt.cf L.length i ≤ L.length := Nat.le_trans (Bt.cf_le L.length i 0).1 (Bt.cf_le L.length i 0).2
  obtain ⟨p, hp⟩ : ∃ p, p = Bt.cf L.length i := ⟨_, rfl⟩
  rw [← hp] at hpn ⊢
  have HP : Hid (min (max i 0) (L.length : Int) = (p : Int)) := by show _ = _; rw [hp]; unfold Bt.cf; omega
  clear hc hp
  go_enter Tryz.func30, Tryz.ntmps30
  go_wp2_with fail
  go_loopw [5, 6] (fun o j wr => ∃ k : Nat, k ≤ p ∧ j = .int .i64 k ∧ o = .int .i64 ((Wd.ones (Bt.num L) k : Nat) : Int) ∧ wr = w) (fun _ j _ => p - (intOf j).toNat)
  case atStart => exact ⟨0, by omega, rfl, rfl, rfl⟩
  case round =>
    obtain ⟨k, hk, rfl, rfl, hw⟩ := hrel
    subst hw
    have hok := Wd.ones_le (Bt.num L) k
    by_cases hlt : k < p
    · obtain ⟨b, off, rfl, hb, hcell⟩ := HC.out (by omega)
      have c0 := hcell k (by omega)
      have hki : (k : Int) < i := by have := HP.out; omega
      have hkl : (k : Int) < (L.length : Int) := by omega
      have hbt : Hid (Wd.bt (Bt.num L) k = (L.getD k false).toNat) := Bt.bt_num L k
      clear hcell
      obtain ⟨o, ho⟩ : ∃ o, o = L.getD k false := ⟨_, rfl⟩
      rw [← ho] at c0 hbt
      clear ho
      have HS := hidden (Wd.ones_succ (Bt.num L) k)
      cases o
      · go_wp2_with fail
        go_roundw
        case rel => exact ⟨k + 1, by omega, by go_num, int_eq (by rw [HS.out, hbt.out]; rfl), by trivial⟩
        case measure => simp [intOf]; omega
      · go_wp2_with fail
        go_roundw
        case rel => exact ⟨k + 1, by omega, by go_num, int_eq (by rw [HS.out, hbt.out]; rfl), by trivial⟩
        case measure => simp [intOf]; omega
    · obtain rfl : k = p := by omega
      by_cases hkl : k < L.length
      · have hki : i ≤ (k : Int) := by have := HP.out; omega
        go_wp2_with fail
        go_ret
        exact ⟨rfl, rfl⟩
      · obtain rfl : k = L.length := by omega
        go_wp2_with fail
        go_ret
        exact ⟨rfl, rfl⟩
end Go.Proofs.YtoipliflphbeiaaGreatDoor
