/-
  The contract of (*Builder).Put: for every builder, word and number: ErrArg, ErrLong, or the bits stand behind the others; nothing but the builder's own memory is changed. Of (*Builder).Bit and Len, too.
  The contracts of needed and (*Builder).Row: of every builder a row of its bits is made, in new memory; nothing that was there is changed.
  The contracts of (*Row).Len, Get, Word, field and Field: for every row and every number; nothing in memory is changed.
-/
import Derived.Deep.RegionLaw
import Derived.Deep.RegionHeld
import Derived.Laws.CopyOwn
import Derived.Test.YtoipliflphbeiaaGreatDoorJBtMem
import Derived.Test.YtoipliflphbeiaaGreatDoorJWdSel
namespace Go.Proofs.YtoipliflphbeiaaGreatDoor
open Go.RowKit
theorem Tryz.infoU64 : (Tryz.prog.info? 64).map (fun i => (i.zero, i.size, i.bytes)) = some (some (.int .u64 0), 1, 8) := by kernel_rfl
theorem Bt.or_mix (l x a : Nat) (hl : l < 2 ^ a) (hl2 : l < 18446744073709551616) (ha : a ≤ 64) : bits BinOp.or IntKind.u64 (l : Int) (IntKind.u64.wrap ((x : Int) * 2 ^ a)) = ((Bt.mix l x a : Nat) : Int) := by
  rw [Wd.shl_u64, bits_or_u64_nat l _ hl2 (Nat.mod_lt _ (by decide)), Bt.mix_or l x a hl ha]
theorem lt_pow64 {x k : Nat} (hx : x < 2 ^ k) (hk : k ≤ 64) : x < 18446744073709551616 :=
  Nat.lt_of_lt_of_le hx (Nat.le_trans (Nat.pow_le_pow_right (by decide) hk) (by decide))

theorem bk_drew {w w' : World} {B b m Y : Nat} {v v' : Value} (h : Bd w' B b m Y v' ∧ Kp w w' b v v') : Bd w'.drew B b m Y v' ∧ Kp w w'.drew b v v' :=
  ⟨⟨h.1.base, h.1.len, h.1.lt, h.1.cells, h.1.own⟩, ⟨h.2.os, h.2.tape, h.2.output, h.2.size, h.2.block, h.2.own⟩⟩
theorem bkx_drew {w w' : World} {B b m Y : Nat} {v : Value} (h : ∃ v', Bd w' B b m Y v' ∧ Kp w w' b v v') : ∃ v', Bd w'.drew B b m Y v' ∧ Kp w w'.drew b v v' :=
  h.elim fun v' h => ⟨v', bk_drew h⟩
theorem own_at {W1 : World} {v : Value} {g n cap : Nat} (h : v.ownBlock = some g ∨ g = W1.heap.size + 1) : (Value.slice (some ⟨g, 0, none⟩) n cap).ownBlock = v.ownBlock ∨ ∃ j, (Value.slice (some ⟨g, 0, none⟩) n cap).ownBlock = some j ∧ W1.heap.size ≤ j :=
  h.elim (fun e => .inl (by rw [e]; rfl)) (fun e => .inr ⟨g, rfl, by omega⟩)
/-- The last word alone is written. -/
theorem Bd.put_in {w : World} {B b n X x k : Nat} {v : Value} (h : Bd w B b n X v) (hx : x < 2 ^ k) (hn : n + k ≤ 4294967296) (hin : n % 64 + k < 64) {y m : Int} (hy : y = ((Bt.mix (Bt.last X n) x (n % 64) : Nat) : Int)) (hm : m = ((n + k : Nat) : Int)) :
    Bd ((w.setCell ⟨b, 2, none⟩ (.int .u64 y)).setCell ⟨b, 0, none⟩ (.int .i64 m)) B b (n + k) (X + x * 2 ^ n) v ∧ Kp w ((w.setCell ⟨b, 2, none⟩ (.int .u64 y)).setCell ⟨b, 0, none⟩ (.int .i64 m)) b v v := by
  subst hy
  subst hm
  have hne : v.ownBlock ≠ some b := own_other h.own h.cells (by decide)
  refine ⟨⟨h.base, hn, Bt.put_lt X x n k h.lt hx, ?_, ?_⟩, ⟨rfl, rfl, rfl, by simp [World.setCell], fun i _ hi _ => ?_, .inl rfl⟩⟩
  · rw [Bt.put_last_in X x n k h.lt hx hin]
    exact setCell_heap_same _ b 0 _ _ _ _ (setCell_heap_same w b 2 _ _ _ _ h.cells)
  · rw [Bt.put_count_in n k hin, Bt.wds_put X x n _ h.lt (Nat.le_refl _)]
    exact ownsRow_setCell_other (ownsRow_setCell_other h.own hne _) hne _
  · rw [setCell_heap_other _ _ _ _ hi, setCell_heap_other _ _ _ _ hi]
/-- A word becomes full. -/
theorem Bd.put_out {w W1 V1 w1 : World} {B b n X x k : Nat} {v v' : Value} (h : Bd w B b n X v) (hx : x < 2 ^ k) (hk : k ≤ 64) (hn : n + k ≤ 4294967296) (hin : 64 ≤ n % 64 + k) {M : Nat} (hM : M = Bt.mix (Bt.last X n) x (n % 64))
    (hW : w.setCell ⟨b, 2, none⟩ (.int .u64 (M : Int)) = W1) (hsz : W1.heap.size ≤ V1.heap.size) (hV : ∀ i, i < W1.heap.size → V1.heap[i]? = W1.heap[i]?) (hos : V1.os = W1.os) (htp : V1.tape = W1.tape) (hou : V1.output = W1.output) (hgrow : V1.grownBy w1 v.ownBlock)
    (hown : w1.ownsRow B 64 1 v' (n / 64 + 1) (Bt.wds X (n / 64) ++ [.int .u64 (M : Int)])) (hat : v'.ownBlock = v.ownBlock ∨ ∃ g, v'.ownBlock = some g ∧ W1.heap.size ≤ g)
    (hcb : w1.heap[b]? = some (.cells #[.int .i64 (n : Nat), v, .int .u64 (M : Int)] 111 (0, 0))) {z m : Int} (hz : z = ((x / 2 ^ (64 - n % 64) : Nat) : Int)) (hm : m = ((n + k : Nat) : Int)) :
    Bd (((w1.setCell ⟨b, 1, none⟩ v').setCell ⟨b, 2, none⟩ (.int .u64 z)).setCell ⟨b, 0, none⟩ (.int .i64 m)) B b (n + k) (X + x * 2 ^ n) v' ∧ Kp w (((w1.setCell ⟨b, 1, none⟩ v').setCell ⟨b, 2, none⟩ (.int .u64 z)).setCell ⟨b, 0, none⟩ (.int .i64 m)) b v v' := by
  subst hz
  subst hm
  have hne : v'.ownBlock ≠ some b := own_other hown hcb (by decide)
  have hws : W1.heap.size = w.heap.size := by rw [← hW]; simp [World.setCell]
  refine ⟨⟨h.base, hn, Bt.put_lt X x n k h.lt hx, ?_, ?_⟩, ⟨?_, ?_, ?_, ?_, fun i hi h1 h2 => ?_, ?_⟩⟩
  · rw [Bt.put_last_out X x n k h.lt hk hin]
    exact setCell_heap_same _ b 0 _ _ _ _ (setCell_heap_same _ b 2 _ _ _ _ (setCell_heap_same _ b 1 _ _ _ _ hcb))
  · rw [Bt.put_count_out n k hk hin, Bt.wds_succ, Bt.wds_put X x n _ h.lt (Nat.le_refl _), Bt.put_mix X x n h.lt, ← hM]
    exact ownsRow_setCell_other (ownsRow_setCell_other (ownsRow_setCell_other hown hne _) hne _) hne _
  · exact hgrow.os.trans (hos.trans (by rw [← hW]; rfl))
  · exact hgrow.tape.trans (htp.trans (by rw [← hW]; rfl))
  · exact hgrow.output.trans (hou.trans (by rw [← hW]; rfl))
  · have := hgrow.size
    simp [World.setCell]
    omega
  · rw [setCell_heap_other _ _ _ _ h1, setCell_heap_other _ _ _ _ h1, setCell_heap_other _ _ _ _ h1, hgrow.block i (by omega) (Ne.symm h2), hV i (by omega), ← hW, setCell_heap_other _ _ _ _ h1]
  · rw [hws] at hat
    exact hat

set_option maxHeartbeats 400000 in
theorem Put_in (b n X x k B : Nat) (v : Value) (w : World) (h : Bd w B b n X v) (hx : x < 2 ^ k) (hk : k ≤ 64) (hn : n + k ≤ 4294967296) (hin : n % 64 + k < 64) :
    Calls Tryz.prog 69 #[.pointer (some ⟨b, 0, none⟩), .int .u64 x, .int .i64 k] w fun e w' => e = .returned (.int .i64 0) ∧ ∃ v', Bd w' B b (n + k) (X + x * 2 ^ n) v' ∧ Kp w w' b v v' := by
  have hx64 := lt_pow64 hx hk
  have hor := Bt.or_mix (Bt.last X n) x (n % 64) (Bt.last_lt X n h.lt) (Bt.last_lt64 X n h.lt) (by omega)
  have HOR : Hid _ := hor
  clear hor
  have c0 := h.cell0
  have c1 := h.cell1
  have c2 := h.cell2
  have f0 := h.free 0
  have f1 := h.free 1
  have f2 := h.free 2
  have hneed : Wd.needTo x 64 ≤ k := (Bt.need_le x k hx64).2 hx
  have HH : Hid _ := h
  clear h
  go_enter Tryz.func69, Tryz.ntmps69
  go_wp2_with (go_at_call 103; refine (Need_any x _ hx64).mono ?_; rintro e w' ⟨rfl, rfl⟩)
  go_region
  go_wp2
  go_ret
  refine ⟨rfl, ?_⟩
  repeat (refine bkx_drew ?_)
  exact ⟨_, HH.out.put_in hx hn hin HOR.out (by omega)⟩
set_option maxHeartbeats 1000000 in
set_option maxRecDepth 100000 in
theorem Put_out (b n X x k B : Nat) (v : Value) (w : World) (h : Bd w B b n X v) (hx : x < 2 ^ k) (hk : k ≤ 64) (hn : n + k ≤ 4294967296) (hin : 64 ≤ n % 64 + k) :
    Calls Tryz.prog 69 #[.pointer (some ⟨b, 0, none⟩), .int .u64 x, .int .i64 k] w fun e w' => e = .returned (.int .i64 0) ∧ ∃ v', Bd w' B b (n + k) (X + x * 2 ^ n) v' ∧ Kp w w' b v v' := by
  obtain ⟨i0, hi, hz0, hz1, hz2⟩ := info_parts Tryz.infoU64
  have hx64 := lt_pow64 hx hk
  have hor := Bt.or_mix (Bt.last X n) x (n % 64) (Bt.last_lt X n h.lt) (Bt.last_lt64 X n h.lt) (by omega)
  obtain ⟨M, hM⟩ : ∃ M, M = Bt.mix (Bt.last X n) x (n % 64) := ⟨_, rfl⟩
  rw [← hM] at hor
  have HM : Hid _ := hM
  clear hM
  have c0 := h.cell0
  have c1 := h.cell1
  have c2 := h.cell2
  have f0 := h.free 0
  have f1 := h.free 1
  have f2 := h.free 2
  have hlt := lt_of_block h.cells
  have hown : Hid ((w.setCell ⟨b, 2, none⟩ (.int .u64 (M : Nat))).ownsRow B 64 1 v (n / 64) (Bt.wds X (n / 64))) := ownsRow_setCell_other h.own (own_other h.own h.cells (by decide)) _
  have hne : Hid (v.ownBlock ≠ some b) := own_other h.own h.cells (by decide)
  have hneed : Wd.needTo x 64 ≤ k := (Bt.need_le x k hx64).2 hx
  go_enter Tryz.func69, Tryz.ntmps69
  go_wp2_with (go_at_call 103; refine (Need_any x _ hx64).mono ?_; rintro e w' ⟨rfl, rfl⟩)
  go_region
  go_wp2
  generalize hW : w'.setCell ⟨b, 2, none⟩ (.int .u64 (M : Int)) = W1
  have hc1 : W1.heap[b]? = some (.cells #[.int .i64 (n : Nat), v, .int .u64 (M : Int)] 111 (0, 0)) := by rw [← hW]; exact setCell_heap_same w' b 2 _ _ _ _ h.cells
  have HC1 : Hid _ := hc1
  have ho1 : Hid (W1.ownsRow B 64 1 v (n / 64) (Bt.wds X (n / 64))) := by rw [← hW]; exact hown.out
  have HW : Hid _ := hW
  have hlt1 : b < W1.heap.size := lt_of_block hc1
  have d1 : W1.cell? ⟨b, 1, none⟩ = some v := by simp [World.cell?, hc1]
  have d2 : W1.cell? ⟨b, 2, none⟩ = some (.int .u64 (M : Int)) := by simp [World.cell?, hc1]
  have hB : B ≤ W1.heap.size := by have := h.base; omega
  have hlen := h.len
  have HH : Hid _ := h
  clear hc1 hW c0 c1 c2 f0 f1 f2 hown h
  have hn1 := World.new_ne W1 ⟨b, 1, none⟩ d1
  go_region_law ((refine step_append_lies _ (by rfl) (.tmp 50) (.tmp 55) 109 (by rfl) B 64 i0 (.int .u64 0) 1 8 Tryz.underlying109 hi hz0 hz1 hz2 rfl (by decide) v (n / 64) (Bt.wds X (n / 64)) (by rfl) (by exact ho1.out.alloc _) ⟨W1.heap.size, 0, none⟩ 1 1 [.int .u64 (M : Int)] (by rfl) (by rfl) (by exact World.news_of_block (heap_alloc_new W1 _)) (by intro u hu; simp at hu; subst hu; rfl) (by omega) (by unfold maxLen; omega) (by omega) (by simp; omega) (W1.heap.size + 1) (by simp) ?_; intro g cap w1 hown1 hgrow hat hlt2; have HO : Hid _ := hown1; have HG : Hid _ := hgrow; have HA : Hid _ := hat; have hcb : Hid (w1.heap[b]? = some (.cells #[.int .i64 (n : Nat), v, .int .u64 (M : Int)] 111 (0, 0))) := (hgrow.block b (by simp; omega) (Ne.symm hne.out)).trans ((Below.heap_alloc W1 _ b hlt1).trans HC1.out); clear hown1 hgrow hat; have q0 : w1.cell? ⟨b, 0, none⟩ = some (.int .i64 (n : Nat)) := Lib.cell_of_heap hcb.out 0; have q1 : w1.cell? ⟨b, 1, none⟩ = some v := Lib.cell_of_heap hcb.out 1; have q2 : w1.cell? ⟨b, 2, none⟩ = some (.int .u64 (M : Int)) := Lib.cell_of_heap hcb.out 2; have f0 := Lib.frozen_of_heap hcb.out 0; have f1 := Lib.frozen_of_heap hcb.out 1; have f2 := Lib.frozen_of_heap hcb.out 2))
  all_goals go_wp2
  all_goals go_ret
  all_goals refine ⟨rfl, ?_⟩
  all_goals repeat (refine bkx_drew ?_)
  all_goals have HG' := HG.out
  all_goals have HO' := HO.out
  all_goals have HA' := HA.out
  all_goals refine ⟨_, HH.out.put_out hx hk hn hin HM.out HW.out (by simp) (by exact fun i hi => Below.heap_alloc W1 _ i hi) (by rfl) (by rfl) (by rfl) HG' HO' ?_ hcb.out ?_ ?_⟩
  all_goals first | exact own_at HA' | exact Wd.div_pow _ _ | omega
/-- The bits stand behind the others. -/
theorem Put_ok (b n X x k B : Nat) (v : Value) (w : World) (h : Bd w B b n X v) (hx : x < 2 ^ k) (hk : k ≤ 64) (hn : n + k ≤ 4294967296) :
    Calls Tryz.prog 69 #[.pointer (some ⟨b, 0, none⟩), .int .u64 x, .int .i64 k] w fun e w' => e = .returned (.int .i64 0) ∧ ∃ v', Bd w' B b (n + k) (X + x * 2 ^ n) v' ∧ Kp w w' b v v' := by
  by_cases hin : n % 64 + k < 64
  · exact Put_in b n X x k B v w h hx hk hn hin
  · exact Put_out b n X x k B v w h hx hk hn (by omega)
set_option maxHeartbeats 400000 in
theorem BLen_any (b n X B : Nat) (v : Value) (w : World) (h : Bd w B b n X v) :
    Calls Tryz.prog 105 #[.pointer (some ⟨b, 0, none⟩)] w fun e w' => e = .returned (.int .i64 (n : Nat)) ∧ w' = w := by
  have c0 := h.cell0
  go_enter Tryz.func105, Tryz.ntmps105
  go_wp2
  go_ret
  exact ⟨rfl, rfl⟩
set_option maxHeartbeats 400000 in
theorem Bit_ok (b n X B : Nat) (o : Bool) (v : Value) (w : World) (h : Bd w B b n X v) (hn : n + 1 ≤ 4294967296) :
    Calls Tryz.prog 94 #[.pointer (some ⟨b, 0, none⟩), .bool o] w fun e w' => e = .returned (.int .i64 0) ∧ ∃ v', Bd w' B b (n + 1) (X + o.toNat * 2 ^ n) v' ∧ Kp w w' b v v' := by
  have HH : Hid _ := h
  clear h
  cases o with
  | true =>
    go_enter Tryz.func94, Tryz.ntmps94
    go_wp2_with (go_at_call 69; refine (Put_ok b n X 1 1 B v _ HH.out (by decide) (by decide) hn).mono ?_; rintro e w' ⟨rfl, hq⟩; have HQ : Hid _ := hq; clear hq)
    go_ret
    exact ⟨rfl, HQ.out⟩
  | false =>
    go_enter Tryz.func94, Tryz.ntmps94
    go_wp2_with (go_at_call 69; refine (Put_ok b n X 0 1 B v _ HH.out (by decide) (by decide) hn).mono ?_; rintro e w' ⟨rfl, hq⟩; have HQ : Hid _ := hq; clear hq)
    go_ret
    exact ⟨rfl, HQ.out⟩
end Go.Proofs.YtoipliflphbeiaaGreatDoor
namespace Go.Proofs.YtoipliflphbeiaaGreatDoor
open Go.RowKit
theorem made_words (c : Nat) : madeCells #[Value.int .u64 0] c = Array.replicate c (Value.int .u64 0) := by
  apply Array.toList_inj.1
  rw [toList_madeCells_one, Array.toList_replicate]
theorem mk_words (c : Nat) (hc : c ≤ 4294967296) (u : World) : (Instr.makeSlice 109 (.int .i64 (c : Int)) (.int .i64 (c : Int))).run Tryz.prog u = .ok (.slice (some ⟨u.heap.size, 0, none⟩) c c) (u.alloc (.cells (Array.replicate c (Value.int .u64 0)) 64)) := by
  obtain ⟨i0, hi, hz0, hz1, hz2⟩ := info_parts Tryz.infoU64
  have h := run_make (P := Tryz.prog) u 109 64 i0 (.int .u64 0) Tryz.underlying109 hi hz0 .i64 .i64 (c : Int) (c : Int) (by omega) (Int.le_refl _) (by rw [hz2]; omega) (by omega)
  rw [← made_words]
  simpa [hz1, Value.cells] using h
set_option maxHeartbeats 400000 in
theorem needed_any (n c : Nat) (w : World) (hn : n ≤ 4294967296) (hc : c = (n + 63) / 64) :
    Calls Tryz.prog 108 #[.int .i64 (n : Nat)] w fun e w' => e = .returned (.int .i64 (c : Int)) ∧ w' = w := by
  have HC : Hid _ := hc
  clear hc
  go_enter Tryz.func108, Tryz.ntmps108
  go_wp2
  go_ret
  exact ⟨ret_int (by have := HC.out; omega), rfl⟩
theorem heap_new_at {w : World} {o : Obj} {k : Nat} (hk : k = w.heap.size) : (w.alloc o).heap[k]? = some o := by
  subst hk
  exact heap_alloc_new w o
theorem wd_last (X n : Nat) (h : X < 2 ^ n) : Bt.wd X (n / 64) = Bt.last X n := Nat.mod_eq_of_lt (Bt.last_lt64 X n h)
theorem words_last (X n q : Nat) (h : X < 2 ^ n) (hq : q = n / 64) : (Bt.wds X q ++ List.replicate (q + 1 - q) (Value.int .u64 0)).toArray.setIfInBounds (q + 1 - 1) (.int .u64 ((Bt.last X n : Nat) : Int)) = (Bt.wds X (q + 1)).toArray := by
  rw [Nat.add_sub_cancel, Nat.add_sub_cancel_left, Bt.wds_succ, hq, wd_last X n h, ← hq]
  simp [Bt.wds_length]
/-- The row that a builder's words make. -/
theorem Rw.of_words {w : World} {r n X g : Nat} (hl : n ≤ 4294967296) (hX : X < 2 ^ n) {c : Nat} (hc : c = (n + 63) / 64) (hr : w.heap[r]? = some (.cells #[.int .i64 (n : Nat), .slice (some ⟨g, 0, none⟩) c c] 118 (0, 0))) (hg : w.heap[g]? = some (.cells (Bt.wds X c).toArray 64 (0, 0))) :
    Rw w r n X (.slice (some ⟨g, 0, none⟩) c c) := by
  subst hc
  exact ⟨hl, hX, hr, by rw [Bt.wds_length]; omega, .inr ⟨g, (n + 63) / 64, _, rfl, Nat.zero_le _, hg, Nat.le_refl _, by unfold maxLen; omega, by rw [List.size_toArray, Bt.wds_length]; omega, by rw [List.take_of_length_le]; rw [Bt.wds_length]; omega⟩⟩
theorem Bd.copy {w : World} {B b n X : Nat} {v : Value} (h : Bd w B b n X v) (q c : Nat) (hq : q = n / 64) (hqc : q ≤ c) :
    ∃ ao cap W1, v = .slice ao q cap ∧ (Builtin.copy_ #[109, 109] 3 #[.slice (some ⟨w.heap.size, 0, none⟩) c c, .slice ao q cap]).run Tryz.prog (w.alloc (.cells (Array.replicate c (Value.int .u64 0)) 64)) = .ok (.int .i64 (q : Int)) W1 ∧
      W1.heap[w.heap.size]? = some (.cells (Bt.wds X q ++ List.replicate (c - q) (Value.int .u64 0)).toArray 64 (0, 0)) ∧ Below w.heap.size w W1 ∧ W1.heap.size = w.heap.size + 1 := by
  obtain ⟨W, hW⟩ : ∃ W, W = w.alloc (.cells (Array.replicate c (Value.int .u64 0)) 64) := ⟨_, rfl⟩
  have hWg : W.heap[w.heap.size]? = some (.cells (Array.replicate c (Value.int .u64 0)) 64 (0, 0)) := by rw [hW]; exact heap_alloc_new w _
  have hWs : W.heap.size = w.heap.size + 1 := by rw [hW]; simp
  have hWb : Below w.heap.size w W := by rw [hW]; exact (Below.refl _ _).alloc (Nat.le_refl _) _
  rw [← hW]
  have h1 : W.ownsRow B 64 1 v (n / 64) (Bt.wds X (n / 64)) := own_same h.own fun k hk => hWb.block k (own_lt h.own k hk)
  rw [← hq] at h1
  have hi : (Tryz.prog.info? 64).map (·.size) = some 1 := by kernel_rfl
  by_cases h0 : q = 0
  · have hrun : ∀ ao cap, (Builtin.copy_ #[109, 109] 3 #[.slice (some ⟨w.heap.size, 0, none⟩) c c, .slice ao q cap]).run Tryz.prog W = .ok (.int .i64 (q : Int)) W := by
      intro ao cap
      have := run_copy_none (P := Tryz.prog) W 109 109 3 64 (some ⟨w.heap.size, 0, none⟩) ao c c q cap Tryz.underlying109 hi (by rw [h0]; exact Nat.zero_min c)
      rw [this, h0]
      rfl
    have hrow : W.heap[w.heap.size]? = some (.cells (Bt.wds X q ++ List.replicate (c - q) (Value.int .u64 0)).toArray 64 (0, 0)) := by
      rw [hWg, h0, Nat.sub_zero, show Bt.wds X 0 = [] from rfl, List.nil_append]
      simp
    rcases h1.2 with ⟨hv, _⟩ | ⟨g, cap, cur, hv, _⟩
    · exact ⟨none, 0, W, by rw [hv, h0], hrun _ _, hrow, hWb, hWs⟩
    · exact ⟨some ⟨g, 0, none⟩, cap, W, hv, hrun _ _, hrow, hWb, hWs⟩
  · rcases h1.2 with ⟨hv, hz⟩ | ⟨g, cap, cur, hv, _⟩
    · omega
    · subst hv
      have hcells := h1.cells (g := g) rfl
      have hrun := run_copy_row (P := Tryz.prog) W 109 109 3 64 w.heap.size 0 c c ⟨g, 0, none⟩ q cap (Array.replicate c (Value.int .u64 0)) 64 (Bt.wds X q) Tryz.underlying109 hi hWg (by rw [Bt.wds_length]; exact (Nat.min_eq_left hqc).symm) hcells (by rw [Bt.wds_length]; simp; omega) (Bt.wds_one X q)
      rw [Bt.wds_length] at hrun
      refine ⟨some ⟨g, 0, none⟩, cap, _, rfl, hrun, ?_, below_setRow hWb (Nat.le_refl _) _, ?_⟩
      · rw [setRow_heap W _ _ _ _ _ hWg]
        simp
      · rw [← hWs]
        simp [World.setRow]
set_option maxHeartbeats 1000000 in
theorem BRow_even (b n X B : Nat) (v : Value) (w : World) (h : Bd w B b n X v) (hn : n % 64 = 0) :
    Calls Tryz.prog 73 #[.pointer (some ⟨b, 0, none⟩)] w fun e w' => ∃ r u, e = .returned (.pointer (some ⟨r, 0, none⟩)) ∧ Rw w' r n X u ∧ Below w.heap.size w w' ∧ w.heap.size ≤ r ∧ ∀ k, u.ownBlock = some k → w.heap.size ≤ k := by
  have hl := h.len
  have hX := h.lt
  obtain ⟨c, hc⟩ : ∃ c, c = (n + 63) / 64 := ⟨_, rfl⟩
  have HC : Hid _ := hc
  have hc1 : c ≤ 4294967296 := by omega
  have hmk := mk_words c hc1
  obtain ⟨ao, cap, W1, rfl, hcp, hrow, hbel, hsz⟩ := h.copy c c (by omega) (Nat.le_refl _)
  have c0 := h.cell0
  have c1 := h.cell1
  have hlt := lt_of_block h.cells
  have d0 := (hbel.cell (p := ⟨b, 0, none⟩) hlt).trans c0
  rw [Nat.sub_self, List.replicate_zero, List.append_nil] at hrow
  have HR : Hid _ := hrow
  have HB : Hid _ := hbel
  have HX : Hid _ := hX
  have hsz1 : W1.heap.size ≤ w.heap.size + 1 := by omega
  have hsz2 : w.heap.size + 1 ≤ W1.heap.size := by omega
  have HZ : Hid _ := hsz
  clear hc h hn hrow hbel hX hsz
  go_enter Tryz.func73, Tryz.ntmps73
  go_wp2_with (go_at_call 108; refine (needed_any n c _ hl HC.out).mono ?_; rintro e w' ⟨rfl, rfl⟩)
  go_ret
  refine ⟨W1.heap.size, .slice (some ⟨w'.heap.size, 0, none⟩) c c, rfl, Rw.of_words hl HX.out HC.out (heap_alloc_new W1 _) ?_, HB.out.alloc (by omega) _, by omega, fun k hk => by simp [Value.ownBlock] at hk; omega⟩
  rw [Below.heap_alloc W1 _ _ (by omega)]
  exact HR.out
set_option maxHeartbeats 1000000 in
theorem BRow_odd (b n X B : Nat) (v : Value) (w : World) (h : Bd w B b n X v) (hn : n % 64 ≠ 0) :
    Calls Tryz.prog 73 #[.pointer (some ⟨b, 0, none⟩)] w fun e w' => ∃ r u, e = .returned (.pointer (some ⟨r, 0, none⟩)) ∧ Rw w' r n X u ∧ Below w.heap.size w w' ∧ w.heap.size ≤ r ∧ ∀ k, u.ownBlock = some k → w.heap.size ≤ k := by
  have hl := h.len
  have hX := h.lt
  obtain ⟨q, hq⟩ : ∃ q, q = n / 64 := ⟨_, rfl⟩
  obtain ⟨c, hc⟩ : ∃ c, c = q + 1 := ⟨_, rfl⟩
  have HC : Hid (c = (n + 63) / 64) := show _ = _ by omega
  have hc1 : c ≤ 4294967296 := by omega
  have hmk := mk_words c hc1
  obtain ⟨ao, cap, W1, rfl, hcp, hrow, hbel, hsz⟩ := h.copy q c hq (by omega)
  have c0 := h.cell0
  have c1 := h.cell1
  have c2 := h.cell2
  have hlt := lt_of_block h.cells
  have d0 := (hbel.cell (p := ⟨b, 0, none⟩) hlt).trans c0
  have d2 := (hbel.cell (p := ⟨b, 2, none⟩) hlt).trans c2
  have e2 : W1.cell? ⟨w.heap.size, c - 1, none⟩ = some (.int .u64 0) := by
    rw [Lib.cell_of_heap hrow]
    simp [Bt.wds_length, hc]
  have f2 : W1.frozen? ⟨w.heap.size, c - 1, none⟩ = false := Lib.frozen_of_heap hrow _
  have hb1 : ¬ b = w.heap.size := by omega
  have hb2 : ¬ w.heap.size = b := by omega
  have HR : Hid _ := hrow
  have HB : Hid _ := hbel
  have HX : Hid _ := hX
  have hsz1 : W1.heap.size ≤ w.heap.size + 1 := by omega
  have hsz2 : w.heap.size + 1 ≤ W1.heap.size := by omega
  have HZ : Hid _ := hsz
  have HQ : Hid _ := hq
  have hqc : q < c := by omega
  have hqc2 : c ≤ q + 1 := by omega
  have HCQ : Hid _ := hc
  clear h hn hrow hbel hX hsz hq hc
  go_enter Tryz.func73, Tryz.ntmps73
  go_wp2_with (go_at_call 108; refine (needed_any n c _ hl HC.out).mono ?_; rintro e w' ⟨rfl, rfl⟩)
  go_ret
  refine ⟨W1.heap.size, .slice (some ⟨w'.heap.size, 0, none⟩) c c, rfl, Rw.of_words hl HX.out HC.out (heap_new_at (by simp [World.setCell])) ?_, (HB.out.setCell (Nat.le_refl _) _).alloc (by simp [World.setCell]; omega) _, by omega, fun k hk => by simp [Value.ownBlock] at hk; omega⟩
  rw [Below.heap_alloc _ _ _ (by simp [World.setCell]; omega), setCell_heap_same _ _ _ _ _ _ _ HR.out, HCQ.out, words_last X n q HX.out HQ.out]
theorem BRow_any (b n X B : Nat) (v : Value) (w : World) (h : Bd w B b n X v) :
    Calls Tryz.prog 73 #[.pointer (some ⟨b, 0, none⟩)] w fun e w' => ∃ r u, e = .returned (.pointer (some ⟨r, 0, none⟩)) ∧ Rw w' r n X u ∧ Below w.heap.size w w' ∧ w.heap.size ≤ r ∧ ∀ k, u.ownBlock = some k → w.heap.size ≤ k := by
  by_cases hn : n % 64 = 0
  · exact BRow_even b n X B v w h hn
  · exact BRow_odd b n X B v w h hn
end Go.Proofs.YtoipliflphbeiaaGreatDoor
namespace Go.Proofs.YtoipliflphbeiaaGreatDoor
open Go.RowKit
theorem Wd.cl_nat (n : Nat) (hn : n ≤ 64) : Wd.cl (n : Int) = n := by unfold Wd.cl; omega
set_option maxHeartbeats 400000 in
theorem RLen_any (r n X : Nat) (u : Value) (w : World) (h : Rw w r n X u) :
    Calls Tryz.prog 83 #[.pointer (some ⟨r, 0, none⟩)] w fun e w' => e = .returned (.int .i64 (n : Nat)) ∧ w' = w := by
  have c0 := h.cell0
  go_enter Tryz.func83, Tryz.ntmps83
  go_wp2
  go_ret
  exact ⟨rfl, rfl⟩
theorem Bt.bt_beq (X i : Nat) : (((Wd.bt X i : Nat) : Int) == 1) = X.testBit i := by
  rw [Wd.testBit_bt]
  have := Wd.bt_lt X i
  rcases (show Wd.bt X i = 0 ∨ Wd.bt X i = 1 from by omega) with e | e <;> rw [e] <;> rfl
/-- The word i of a number; 0 of none. -/
def Bt.wdI (X : Nat) (i : Int) : Nat := if 0 ≤ i then Bt.wd X i.toNat else 0
theorem Bt.wdI_nat (X i : Nat) : Bt.wdI X (i : Int) = Bt.wd X i := by simp [Bt.wdI]
theorem Bt.wdI_lt (X : Nat) (i : Int) : Bt.wdI X i < 18446744073709551616 := by
  unfold Bt.wdI
  split
  · exact Bt.wd_lt _ _
  · decide
set_option maxHeartbeats 400000 in
theorem Word_in (r n X i : Nat) (u : Value) (w : World) (h : Rw w r n X u) (hi : i < (n + 63) / 64) :
    Calls Tryz.prog 104 #[.pointer (some ⟨r, 0, none⟩), .int .i64 (i : Nat)] w fun e w' => e = .returned (.int .u64 ((Bt.wd X i : Nat) : Int)) ∧ w' = w := by
  have c1 := h.cell1
  have hl := h.len
  obtain ⟨ao, cap, rfl, hcap, hg⟩ := h.form
  obtain ⟨g, rfl, hcell⟩ := hg (by omega)
  have hc := hcell i hi
  obtain ⟨c, hcc⟩ : ∃ c, c = (n + 63) / 64 := ⟨_, rfl⟩
  have hc2 : c ≤ 4294967296 := by omega
  rw [← hcc] at c1 hcap hi
  clear hcell h hg hcc
  go_enter Tryz.func104, Tryz.ntmps104
  go_wp2
  go_ret
  exact ⟨rfl, rfl⟩
set_option maxHeartbeats 400000 in
theorem Word_out (r n X : Nat) (i : Int) (u : Value) (w : World) (h : Rw w r n X u) (hi : i < 0 ∨ (((n + 63) / 64 : Nat) : Int) ≤ i) :
    Calls Tryz.prog 104 #[.pointer (some ⟨r, 0, none⟩), .int .i64 i] w fun e w' => e = .returned (.int .u64 0) ∧ w' = w := by
  have c1 := h.cell1
  have hl := h.len
  obtain ⟨ao, cap, rfl, hcap, hg⟩ := h.form
  obtain ⟨c, hcc⟩ : ∃ c, c = (n + 63) / 64 := ⟨_, rfl⟩
  have hc2 : c ≤ 4294967296 := by omega
  rw [← hcc] at c1 hcap hi
  clear h hg hcc
  rcases hi with hi | hi
  · go_enter Tryz.func104, Tryz.ntmps104
    go_wp2
    go_ret
    exact ⟨rfl, rfl⟩
  · go_enter Tryz.func104, Tryz.ntmps104
    go_wp2
    go_ret
    exact ⟨rfl, rfl⟩
theorem Word_any (r n X : Nat) (i : Int) (u : Value) (w : World) (h : Rw w r n X u) :
    Calls Tryz.prog 104 #[.pointer (some ⟨r, 0, none⟩), .int .i64 i] w fun e w' => e = .returned (.int .u64 ((Bt.wdI X i : Nat) : Int)) ∧ w' = w := by
  by_cases h0 : 0 ≤ i
  · obtain ⟨j, rfl⟩ := Int.eq_ofNat_of_zero_le h0
    rw [Bt.wdI_nat]
    by_cases hj : j < (n + 63) / 64
    · exact Word_in r n X j u w h hj
    · rw [Bt.wd_big X n j h.lt (by omega)]
      exact Word_out r n X _ u w h (.inr (by omega))
  · have e : Bt.wdI X i = 0 := by unfold Bt.wdI; rw [if_neg h0]
    rw [e]
    exact Word_out r n X i u w h (.inl (by omega))
/-- The number of n bits from a on. -/
def Bt.fd (X a n : Nat) : Nat := X / 2 ^ a % 2 ^ n
theorem Bt.fd_lt (X a n : Nat) : Bt.fd X a n < 2 ^ n := Nat.mod_lt _ (Nat.two_pow_pos n)
theorem Bt.fd_lt64 (X a n : Nat) (hn : n ≤ 64) : Bt.fd X a n < 18446744073709551616 := lt_pow64 (Bt.fd_lt X a n) hn
theorem Bt.field_int (X a n : Nat) (hn : n ≤ 64) : bits BinOp.or IntKind.u64 ((Wd.fld (Bt.wdI X ((a : Int) / 64)) ((a : Int) % 64) (Wd.cl (n : Int)) : Nat) : Int) ((Wd.fld (Bt.wdI X ((a : Int) / 64 + 1)) ((a : Int) % 64 - 64) (Wd.cl (n : Int)) : Nat) : Int) = ((Bt.fd X a n : Nat) : Int) := by
  rw [show (a : Int) / 64 = ((a / 64 : Nat) : Int) from by omega, show ((a / 64 : Nat) : Int) + 1 = ((a / 64 + 1 : Nat) : Int) from by omega, show (a : Int) % 64 = ((a % 64 : Nat) : Int) from by omega, Bt.wdI_nat, Bt.wdI_nat, Wd.cl_nat n hn, bits_or_u64_nat _ _ (lt_pow64 (Wd.fld_lt _ _ n) hn) (lt_pow64 (Wd.fld_lt _ _ n) hn), Bt.field_two X a n hn]
  rfl
set_option maxHeartbeats 400000 in
theorem field_any (r m X a n : Nat) (u : Value) (w : World) (h : Rw w r m X u) (ha : a ≤ 9223372036854775000) (hn : n ≤ 64) :
    Calls Tryz.prog 167 #[.pointer (some ⟨r, 0, none⟩), .int .i64 (a : Nat), .int .i64 (n : Nat)] w fun e w' => e = .returned (.int .u64 ((Bt.fd X a n : Nat) : Int)) ∧ w' = w := by
  have HH : Hid _ := h
  have v1 := Bt.wdI_lt X ((a : Int) / 64)
  have v2 := Bt.wdI_lt X ((a : Int) / 64 + 1)
  clear h
  go_enter Tryz.func167, Tryz.ntmps167
  go_wp2_with fail
  refine (Word_any r m X _ u _ HH.out).mono ?_
  rintro e w1 ⟨rfl, rfl⟩
  go_wp2_with fail
  refine (Field_any _ _ _ _ v1).mono ?_
  rintro e w1 ⟨rfl, rfl⟩
  go_wp2_with fail
  refine (Word_any r m X _ u _ HH.out).mono ?_
  rintro e w1 ⟨rfl, rfl⟩
  go_wp2_with fail
  refine (Field_any _ _ _ _ v2).mono ?_
  rintro e w1 ⟨rfl, rfl⟩
  go_wp2_with fail
  go_ret
  exact ⟨ret_int (Bt.field_int X a n hn), rfl⟩
/-- What Field answers: the number, and the error. -/
def Bt.fieldOf (X m : Nat) (a n : Int) : Nat × Int :=
  if n < 0 ∨ 64 < n then (0, 1) else if a < 0 ∨ (m : Int) - n < a then (0, 2) else (Bt.fd X a.toNat n.toNat, 0)
set_option maxHeartbeats 400000 in
theorem RField_arg (r : Nat) (a n : Int) (w : World) (hn : n < 0 ∨ 64 < n) :
    Calls Tryz.prog 135 #[.pointer (some ⟨r, 0, none⟩), .int .i64 a, .int .i64 n] w fun e w' => e = .returned (.tuple #[.int .u64 0, .int .i64 1]) ∧ w' = w := by
  rcases hn with hn | hn
  · go_enter Tryz.func135, Tryz.ntmps135
    go_wp2
    go_ret2
    exact ⟨rfl, rfl⟩
  · go_enter Tryz.func135, Tryz.ntmps135
    go_wp2
    go_ret2
    exact ⟨rfl, rfl⟩
set_option maxHeartbeats 400000 in
theorem RField_range (r m X : Nat) (a n : Int) (u : Value) (w : World) (h : Rw w r m X u) (h0 : 0 ≤ n) (h1 : n ≤ 64) (ha : a < 0 ∨ (m : Int) - n < a) :
    Calls Tryz.prog 135 #[.pointer (some ⟨r, 0, none⟩), .int .i64 a, .int .i64 n] w fun e w' => e = .returned (.tuple #[.int .u64 0, .int .i64 2]) ∧ w' = w := by
  have c0 := h.cell0
  have hl := h.len
  clear h
  rcases ha with ha | ha
  · go_enter Tryz.func135, Tryz.ntmps135
    go_wp2
    go_ret2
    exact ⟨rfl, rfl⟩
  · go_enter Tryz.func135, Tryz.ntmps135
    go_wp2
    all_goals go_ret2
    all_goals exact ⟨rfl, rfl⟩
set_option maxHeartbeats 400000 in
theorem RField_in (r m X a n : Nat) (u : Value) (w : World) (h : Rw w r m X u) (hn : n ≤ 64) (ha : (a : Int) ≤ (m : Int) - (n : Int)) :
    Calls Tryz.prog 135 #[.pointer (some ⟨r, 0, none⟩), .int .i64 (a : Nat), .int .i64 (n : Nat)] w fun e w' => e = .returned (.tuple #[.int .u64 ((Bt.fd X a n : Nat) : Int), .int .i64 0]) ∧ w' = w := by
  have c0 := h.cell0
  have hl := h.len
  have HH : Hid _ := h
  clear h
  go_enter Tryz.func135, Tryz.ntmps135
  go_wp2_with (go_at_call 167; refine (field_any r m X a n u _ HH.out (by omega) hn).mono ?_; rintro e w' ⟨rfl, rfl⟩)
  go_ret2
  exact ⟨rfl, rfl⟩
theorem RField_any (r m X : Nat) (a n : Int) (u : Value) (w : World) (h : Rw w r m X u) :
    Calls Tryz.prog 135 #[.pointer (some ⟨r, 0, none⟩), .int .i64 a, .int .i64 n] w fun e w' => e = .returned (.tuple #[.int .u64 (((Bt.fieldOf X m a n).1 : Nat) : Int), .int .i64 (Bt.fieldOf X m a n).2]) ∧ w' = w := by
  unfold Bt.fieldOf
  by_cases h1 : n < 0 ∨ 64 < n
  · rw [if_pos h1]
    exact RField_arg r a n w h1
  · rw [if_neg h1]
    by_cases h2 : a < 0 ∨ (m : Int) - n < a
    · rw [if_pos h2]
      exact RField_range r m X a n u w h (by omega) (by omega) h2
    · rw [if_neg h2]
      obtain ⟨i, rfl⟩ := Int.eq_ofNat_of_zero_le (show 0 ≤ n by omega)
      obtain ⟨j, rfl⟩ := Int.eq_ofNat_of_zero_le (show 0 ≤ a by omega)
      exact RField_in r m X j i u w h (by omega) (by omega)
end Go.Proofs.YtoipliflphbeiaaGreatDoor
