/-
  The contract of (*Builder).Put: for every builder, word and number: ErrArg, ErrLong, or the bits stand behind the others; nothing but the builder's own memory is changed. Of (*Builder).Bit and Len, too.
-/
import Derived.Test.YtdjhpfojbnikdaaBtMem
import Derived.Test.YtdjhpfojbnikdaaWdSel
import Derived.Deep.RegionLaw
import Derived.Deep.RegionHeld
namespace Go.Proofs.Ytdjhpfojbnikdaa
open Go.RowKit
theorem Try.infoU64 : (Try.prog.info? 54).map (fun i => (i.zero, i.size, i.bytes)) = some (some (.int .u64 0), 1, 8) := by kernel_rfl
theorem Bt.or_mix (l x a : Nat) (hl : l < 2 ^ a) (hl2 : l < 18446744073709551616) (ha : a ≤ 64) : bits BinOp.or IntKind.u64 (l : Int) (IntKind.u64.wrap ((x : Int) * 2 ^ a)) = ((Bt.mix l x a : Nat) : Int) := by
  rw [Wd.shl_u64, bits_or_u64_nat l _ hl2 (Nat.mod_lt _ (by decide)), Bt.mix_or l x a hl ha]
theorem lt_pow64 {x k : Nat} (hx : x < 2 ^ k) (hk : k ≤ 64) : x < 18446744073709551616 :=
  Nat.lt_of_lt_of_le hx (Nat.le_trans (Nat.pow_le_pow_right (by decide) hk) (by decide))

theorem bk_drew {w w' : World} {B b m Y : Nat} {v v' : Value} (h : Bd w' B b m Y v' ∧ Kp w w' b v v') : Bd w'.drew B b m Y v' ∧ Kp w w'.drew b v v' :=
  ⟨⟨h.1.base, h.1.len, h.1.lt, h.1.cells, h.1.own⟩, ⟨h.2.os, h.2.tape, h.2.output, h.2.size, h.2.block, h.2.own⟩⟩
theorem bkx_drew {w w' : World} {B b m Y : Nat} {v : Value} (h : ∃ v', Bd w' B b m Y v' ∧ Kp w w' b v v') : ∃ v', Bd w'.drew B b m Y v' ∧ Kp w w'.drew b v v' :=
  h.elim fun v' h => ⟨v', bk_drew h⟩
theorem own_at {W1 : World} {v : Value} {g n cap : Nat} (h : v.ownBlock = some g ∨ g = W1.heap.size + 1) : (Value.slice (some ⟨g, 0, none⟩) n cap).ownBlock = v.ownBlock ∨ ∃ j, (Value.slice (some ⟨g, 0, none⟩) n cap).ownBlock = some j ∧ W1.heap.size ≤ j :=
  h.elim (fun e => .inl (by rw [e]; rfl)) (fun e => .inr ⟨g, rfl, by omega⟩)
/-- The last word alone is written. -/
theorem Bd.put_in {w : World} {B b n X x k : Nat} {v : Value} (h : Bd w B b n X v) (hx : x < 2 ^ k) (hn : n + k ≤ 4294967296) (hin : n % 64 + k < 64) {y m : Int} (hy : y = ((Bt.mix (Bt.last X n) x (n % 64) : Nat) : Int)) (hm : m = ((n + k : Nat) : Int)) :
    Bd ((w.setCell ⟨b, 2, none⟩ (.int .u64 y)).setCell ⟨b, 0, none⟩ (.int .i64 m)) B b (n + k) (X + x * 2 ^ n) v ∧ Kp w ((w.setCell ⟨b, 2, none⟩ (.int .u64 y)).setCell ⟨b, 0, none⟩ (.int .i64 m)) b v v := by
  subst hy
  subst hm
  have hne : v.ownBlock ≠ some b := own_other h.own h.cells (by decide)
  refine ⟨⟨h.base, hn, Bt.put_lt X x n k h.lt hx, ?_, ?_⟩, ⟨rfl, rfl, rfl, by simp [World.setCell], fun i _ hi _ => ?_, .inl rfl⟩⟩
  · rw [Bt.put_last_in X x n k h.lt hx hin]
    exact setCell_heap_same _ b 0 _ _ _ _ (setCell_heap_same w b 2 _ _ _ _ h.cells)
  · rw [Bt.put_count_in n k hin, Bt.wds_put X x n _ h.lt (Nat.le_refl _)]
    exact ownsRow_setCell_other (ownsRow_setCell_other h.own hne _) hne _
  · rw [setCell_heap_other _ _ _ _ hi, setCell_heap_other _ _ _ _ hi]
/-- A word becomes full. -/
theorem Bd.put_out {w W1 V1 w1 : World} {B b n X x k : Nat} {v v' : Value} (h : Bd w B b n X v) (hx : x < 2 ^ k) (hk : k ≤ 64) (hn : n + k ≤ 4294967296) (hin : 64 ≤ n % 64 + k) {M : Nat} (hM : M = Bt.mix (Bt.last X n) x (n % 64))
    (hW : w.setCell ⟨b, 2, none⟩ (.int .u64 (M : Int)) = W1) (hsz : W1.heap.size ≤ V1.heap.size) (hV : ∀ i, i < W1.heap.size → V1.heap[i]? = W1.heap[i]?) (hos : V1.os = W1.os) (htp : V1.tape = W1.tape) (hou : V1.output = W1.output) (hgrow : V1.grownBy w1 v.ownBlock)
    (hown : w1.ownsRow B 54 1 v' (n / 64 + 1) (Bt.wds X (n / 64) ++ [.int .u64 (M : Int)])) (hat : v'.ownBlock = v.ownBlock ∨ ∃ g, v'.ownBlock = some g ∧ W1.heap.size ≤ g)
    (hcb : w1.heap[b]? = some (.cells #[.int .i64 (n : Nat), v, .int .u64 (M : Int)] 56 (0, 0))) {z m : Int} (hz : z = ((x / 2 ^ (64 - n % 64) : Nat) : Int)) (hm : m = ((n + k : Nat) : Int)) :
    Bd (((w1.setCell ⟨b, 1, none⟩ v').setCell ⟨b, 2, none⟩ (.int .u64 z)).setCell ⟨b, 0, none⟩ (.int .i64 m)) B b (n + k) (X + x * 2 ^ n) v' ∧ Kp w (((w1.setCell ⟨b, 1, none⟩ v').setCell ⟨b, 2, none⟩ (.int .u64 z)).setCell ⟨b, 0, none⟩ (.int .i64 m)) b v v' := by
  subst hz
  subst hm
  have hne : v'.ownBlock ≠ some b := own_other hown hcb (by decide)
  have hws : W1.heap.size = w.heap.size := by rw [← hW]; simp [World.setCell]
  refine ⟨⟨h.base, hn, Bt.put_lt X x n k h.lt hx, ?_, ?_⟩, ⟨?_, ?_, ?_, ?_, fun i hi h1 h2 => ?_, ?_⟩⟩
  · rw [Bt.put_last_out X x n k h.lt hk hin]
    exact setCell_heap_same _ b 0 _ _ _ _ (setCell_heap_same _ b 2 _ _ _ _ (setCell_heap_same _ b 1 _ _ _ _ hcb))
  · rw [Bt.put_count_out n k hk hin, Bt.wds_succ, Bt.wds_put X x n _ h.lt (Nat.le_refl _), Bt.put_mix X x n h.lt, ← hM]
    exact ownsRow_setCell_other (ownsRow_setCell_other (ownsRow_setCell_other hown hne _) hne _) hne _
  · exact hgrow.os.trans (hos.trans (by rw [← hW]; rfl))
  · exact hgrow.tape.trans (htp.trans (by rw [← hW]; rfl))
  · exact hgrow.output.trans (hou.trans (by rw [← hW]; rfl))
  · have := hgrow.size
    simp [World.setCell]
    omega
  · rw [setCell_heap_other _ _ _ _ h1, setCell_heap_other _ _ _ _ h1, setCell_heap_other _ _ _ _ h1, hgrow.block i (by omega) (Ne.symm h2), hV i (by omega), ← hW, setCell_heap_other _ _ _ _ h1]
  · rw [hws] at hat
    exact hat

set_option maxHeartbeats 400000 in
theorem Put_in (b n X x k B : Nat) (v : Value) (w : World) (h : Bd w B b n X v) (hx : x < 2 ^ k) (hk : k ≤ 64) (hn : n + k ≤ 4294967296) (hin : n % 64 + k < 64) :
    Calls Try.prog 42 #[.pointer (some ⟨b, 0, none⟩), .int .u64 x, .int .i64 k] w fun e w' => e = .returned (.int .i64 0) ∧ ∃ v', Bd w' B b (n + k) (X + x * 2 ^ n) v' ∧ Kp w w' b v v' := by
  have hx64 := lt_pow64 hx hk
  have hor := Bt.or_mix (Bt.last X n) x (n % 64) (Bt.last_lt X n h.lt) (Bt.last_lt64 X n h.lt) (by omega)
  have HOR : Hid _ := hor
  clear hor
  have c0 := h.cell0
  have c1 := h.cell1
  have c2 := h.cell2
  have f0 := h.free 0
  have f1 := h.free 1
  have f2 := h.free 2
  have hneed : Wd.needTo x 64 ≤ k := (Bt.need_le x k hx64).2 hx
  have HH : Hid _ := h
  clear h
  go_enter Try.func42, Try.ntmps42
  go_wp2_with (go_at_call 54; refine (Need_any x _ hx64).mono ?_; rintro e w' ⟨rfl, rfl⟩)
  go_region
  go_wp2
  go_ret
  refine ⟨rfl, ?_⟩
  repeat (refine bkx_drew ?_)
  exact ⟨_, HH.out.put_in hx hn hin HOR.out (by omega)⟩
set_option maxHeartbeats 1000000 in
set_option maxRecDepth 100000 in
theorem Put_out (b n X x k B : Nat) (v : Value) (w : World) (h : Bd w B b n X v) (hx : x < 2 ^ k) (hk : k ≤ 64) (hn : n + k ≤ 4294967296) (hin : 64 ≤ n % 64 + k) :
    Calls Try.prog 42 #[.pointer (some ⟨b, 0, none⟩), .int .u64 x, .int .i64 k] w fun e w' => e = .returned (.int .i64 0) ∧ ∃ v', Bd w' B b (n + k) (X + x * 2 ^ n) v' ∧ Kp w w' b v v' := by
  obtain ⟨i0, hi, hz0, hz1, hz2⟩ := info_parts Try.infoU64
  have hx64 := lt_pow64 hx hk
  have hor := Bt.or_mix (Bt.last X n) x (n % 64) (Bt.last_lt X n h.lt) (Bt.last_lt64 X n h.lt) (by omega)
  obtain ⟨M, hM⟩ : ∃ M, M = Bt.mix (Bt.last X n) x (n % 64) := ⟨_, rfl⟩
  rw [← hM] at hor
  have HM : Hid _ := hM
  clear hM
  have c0 := h.cell0
  have c1 := h.cell1
  have c2 := h.cell2
  have f0 := h.free 0
  have f1 := h.free 1
  have f2 := h.free 2
  have hlt := lt_of_block h.cells
  have hown : Hid ((w.setCell ⟨b, 2, none⟩ (.int .u64 (M : Nat))).ownsRow B 54 1 v (n / 64) (Bt.wds X (n / 64))) := ownsRow_setCell_other h.own (own_other h.own h.cells (by decide)) _
  have hne : Hid (v.ownBlock ≠ some b) := own_other h.own h.cells (by decide)
  have hneed : Wd.needTo x 64 ≤ k := (Bt.need_le x k hx64).2 hx
  go_enter Try.func42, Try.ntmps42
  go_wp2_with (go_at_call 54; refine (Need_any x _ hx64).mono ?_; rintro e w' ⟨rfl, rfl⟩)
  go_region
  go_wp2
  generalize hW : w'.setCell ⟨b, 2, none⟩ (.int .u64 (M : Int)) = W1
  have hc1 : W1.heap[b]? = some (.cells #[.int .i64 (n : Nat), v, .int .u64 (M : Int)] 56 (0, 0)) := by rw [← hW]; exact setCell_heap_same w' b 2 _ _ _ _ h.cells
  have HC1 : Hid _ := hc1
  have ho1 : Hid (W1.ownsRow B 54 1 v (n / 64) (Bt.wds X (n / 64))) := by rw [← hW]; exact hown.out
  have HW : Hid _ := hW
  have hlt1 : b < W1.heap.size := lt_of_block hc1
  have d1 : W1.cell? ⟨b, 1, none⟩ = some v := by simp [World.cell?, hc1]
  have d2 : W1.cell? ⟨b, 2, none⟩ = some (.int .u64 (M : Int)) := by simp [World.cell?, hc1]
  have hB : B ≤ W1.heap.size := by have := h.base; omega
  have hlen := h.len
  have HH : Hid _ := h
  clear hc1 hW c0 c1 c2 f0 f1 f2 hown h
  have hn1 := World.new_ne W1 ⟨b, 1, none⟩ d1
  go_region_law ((refine step_append_lies _ (by rfl) (.tmp 50) (.tmp 55) 53 (by rfl) B 54 i0 (.int .u64 0) 1 8 Try.underlying53 hi hz0 hz1 hz2 rfl (by decide) v (n / 64) (Bt.wds X (n / 64)) (by rfl) (by exact ho1.out.alloc _) ⟨W1.heap.size, 0, none⟩ 1 1 [.int .u64 (M : Int)] (by rfl) (by rfl) (by exact World.news_of_block (heap_alloc_new W1 _)) (by intro u hu; simp at hu; subst hu; rfl) (by omega) (by unfold maxLen; omega) (by omega) (by simp; omega) (W1.heap.size + 1) (by simp) ?_; intro g cap w1 hown1 hgrow hat hlt2; have HO : Hid _ := hown1; have HG : Hid _ := hgrow; have HA : Hid _ := hat; have hcb : Hid (w1.heap[b]? = some (.cells #[.int .i64 (n : Nat), v, .int .u64 (M : Int)] 56 (0, 0))) := (hgrow.block b (by simp; omega) (Ne.symm hne.out)).trans ((Below.heap_alloc W1 _ b hlt1).trans HC1.out); clear hown1 hgrow hat; have q0 : w1.cell? ⟨b, 0, none⟩ = some (.int .i64 (n : Nat)) := Lib.cell_of_heap hcb.out 0; have q1 : w1.cell? ⟨b, 1, none⟩ = some v := Lib.cell_of_heap hcb.out 1; have q2 : w1.cell? ⟨b, 2, none⟩ = some (.int .u64 (M : Int)) := Lib.cell_of_heap hcb.out 2; have f0 := Lib.frozen_of_heap hcb.out 0; have f1 := Lib.frozen_of_heap hcb.out 1; have f2 := Lib.frozen_of_heap hcb.out 2))
  all_goals go_wp2
  all_goals go_ret
  all_goals refine ⟨rfl, ?_⟩
  all_goals repeat (refine bkx_drew ?_)
  all_goals have HG' := HG.out
  all_goals have HO' := HO.out
  all_goals have HA' := HA.out
  all_goals refine ⟨_, HH.out.put_out hx hk hn hin HM.out HW.out (by simp) (by exact fun i hi => Below.heap_alloc W1 _ i hi) (by rfl) (by rfl) (by rfl) HG' HO' ?_ hcb.out ?_ ?_⟩
  all_goals first | exact own_at HA' | exact Wd.div_pow _ _ | omega
set_option maxHeartbeats 400000 in
theorem Put_args (b n X x B : Nat) (k : Int) (v : Value) (w : World) (h : Bd w B b n X v) (hx : x < 18446744073709551616) (hk : k < 0 ∨ 64 < k ∨ (0 ≤ k ∧ k ≤ 64 ∧ ¬ x < 2 ^ k.toNat)) :
    Calls Try.prog 42 #[.pointer (some ⟨b, 0, none⟩), .int .u64 x, .int .i64 k] w fun e w' => e = .returned (.int .i64 1) ∧ w' = w := by
  rcases hk with hk | hk | ⟨h0, h1, h2⟩
  · go_enter Try.func42, Try.ntmps42
    go_wp2_with (go_at_call 54; refine (Need_any x _ hx).mono ?_; rintro e w' ⟨rfl, rfl⟩)
    go_ret
    exact ⟨rfl, rfl⟩
  · go_enter Try.func42, Try.ntmps42
    go_wp2_with (go_at_call 54; refine (Need_any x _ hx).mono ?_; rintro e w' ⟨rfl, rfl⟩)
    go_ret
    exact ⟨rfl, rfl⟩
  · obtain ⟨j, rfl⟩ := Int.eq_ofNat_of_zero_le h0
    rw [Int.toNat_natCast] at h2
    have hneed : j < Wd.needTo x 64 := by
      rcases Nat.lt_or_ge j (Wd.needTo x 64) with hl | hl
      · exact hl
      · exact absurd ((Bt.need_le x j hx).1 hl) h2
    clear h2
    go_enter Try.func42, Try.ntmps42
    go_wp2_with (go_at_call 54; refine (Need_any x _ hx).mono ?_; rintro e w' ⟨rfl, rfl⟩)
    go_ret
    exact ⟨rfl, rfl⟩
set_option maxHeartbeats 400000 in
theorem Put_long (b n X x k B : Nat) (v : Value) (w : World) (h : Bd w B b n X v) (hx : x < 2 ^ k) (hk : k ≤ 64) (hn : 4294967296 < n + k) :
    Calls Try.prog 42 #[.pointer (some ⟨b, 0, none⟩), .int .u64 x, .int .i64 k] w fun e w' => e = .returned (.int .i64 4) ∧ w' = w := by
  have hx64 := lt_pow64 hx hk
  have c0 := h.cell0
  have hl := h.len
  have hneed : Wd.needTo x 64 ≤ k := (Bt.need_le x k hx64).2 hx
  go_enter Try.func42, Try.ntmps42
  go_wp2_with (go_at_call 54; refine (Need_any x _ hx64).mono ?_; rintro e w' ⟨rfl, rfl⟩)
  go_ret
  exact ⟨rfl, rfl⟩
/-- The bits stand behind the others. -/
theorem Put_ok (b n X x k B : Nat) (v : Value) (w : World) (h : Bd w B b n X v) (hx : x < 2 ^ k) (hk : k ≤ 64) (hn : n + k ≤ 4294967296) :
    Calls Try.prog 42 #[.pointer (some ⟨b, 0, none⟩), .int .u64 x, .int .i64 k] w fun e w' => e = .returned (.int .i64 0) ∧ ∃ v', Bd w' B b (n + k) (X + x * 2 ^ n) v' ∧ Kp w w' b v v' := by
  by_cases hin : n % 64 + k < 64
  · exact Put_in b n X x k B v w h hx hk hn hin
  · exact Put_out b n X x k B v w h hx hk hn (by omega)
set_option maxHeartbeats 400000 in
theorem Bit_ok (b n X B : Nat) (o : Bool) (v : Value) (w : World) (h : Bd w B b n X v) (hn : n + 1 ≤ 4294967296) :
    Calls Try.prog 24 #[.pointer (some ⟨b, 0, none⟩), .bool o] w fun e w' => e = .returned (.int .i64 0) ∧ ∃ v', Bd w' B b (n + 1) (X + o.toNat * 2 ^ n) v' ∧ Kp w w' b v v' := by
  have HH : Hid _ := h
  clear h
  cases o with
  | true =>
    go_enter Try.func24, Try.ntmps24
    go_wp2_with (go_at_call 42; refine (Put_ok b n X 1 1 B v _ HH.out (by decide) (by decide) hn).mono ?_; rintro e w' ⟨rfl, hq⟩; have HQ : Hid _ := hq; clear hq)
    go_ret
    exact ⟨rfl, HQ.out⟩
  | false =>
    go_enter Try.func24, Try.ntmps24
    go_wp2_with (go_at_call 42; refine (Put_ok b n X 0 1 B v _ HH.out (by decide) (by decide) hn).mono ?_; rintro e w' ⟨rfl, hq⟩; have HQ : Hid _ := hq; clear hq)
    go_ret
    exact ⟨rfl, HQ.out⟩
end Go.Proofs.Ytdjhpfojbnikdaa
