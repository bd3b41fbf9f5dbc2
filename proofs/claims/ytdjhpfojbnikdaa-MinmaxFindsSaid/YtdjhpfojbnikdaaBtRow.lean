/-
  The contracts of needed and (*Builder).Row: of every builder a row of its bits is made, in new memory; nothing that was there is changed.
-/
import Derived.Test.YtdjhpfojbnikdaaBtPut
import Derived.Laws.CopyOwn
namespace Go.Proofs.Ytdjhpfojbnikdaa
open Go.RowKit
theorem made_words (c : Nat) : madeCells #[Value.int .u64 0] c = Array.replicate c (Value.int .u64 0) := by
  apply Array.toList_inj.1
  rw [toList_madeCells_one, Array.toList_replicate]
theorem mk_words (c : Nat) (hc : c ≤ 4294967296) (u : World) : (Instr.makeSlice 53 (.int .i64 (c : Int)) (.int .i64 (c : Int))).run Try.prog u = .ok (.slice (some ⟨u.heap.size, 0, none⟩) c c) (u.alloc (.cells (Array.replicate c (Value.int .u64 0)) 54)) := by
  obtain ⟨i0, hi, hz0, hz1, hz2⟩ := info_parts Try.infoU64
  have h := run_make (P := Try.prog) u 53 54 i0 (.int .u64 0) Try.underlying53 hi hz0 .i64 .i64 (c : Int) (c : Int) (by omega) (Int.le_refl _) (by rw [hz2]; omega) (by omega)
  rw [← made_words]
  simpa [hz1, Value.cells] using h
set_option maxHeartbeats 400000 in
theorem needed_any (n c : Nat) (w : World) (hn : n ≤ 4294967296) (hc : c = (n + 63) / 64) :
    Calls Try.prog 43 #[.int .i64 (n : Nat)] w fun e w' => e = .returned (.int .i64 (c : Int)) ∧ w' = w := by
  have HC : Hid _ := hc
  clear hc
  go_enter Try.func43, Try.ntmps43
  go_wp2
  go_ret
  exact ⟨ret_int (by have := HC.out; omega), rfl⟩
theorem heap_new_at {w : World} {o : Obj} {k : Nat} (hk : k = w.heap.size) : (w.alloc o).heap[k]? = some o := by
  subst hk
  exact heap_alloc_new w o
theorem wd_last (X n : Nat) (h : X < 2 ^ n) : Bt.wd X (n / 64) = Bt.last X n := Nat.mod_eq_of_lt (Bt.last_lt64 X n h)
theorem words_last (X n q : Nat) (h : X < 2 ^ n) (hq : q = n / 64) : (Bt.wds X q ++ List.replicate (q + 1 - q) (Value.int .u64 0)).toArray.setIfInBounds (q + 1 - 1) (.int .u64 ((Bt.last X n : Nat) : Int)) = (Bt.wds X (q + 1)).toArray := by
  rw [Nat.add_sub_cancel, Nat.add_sub_cancel_left, Bt.wds_succ, hq, wd_last X n h, ← hq]
  simp [Bt.wds_length]
/-- The row that a builder's words make. -/
theorem Rw.of_words {w : World} {r n X g : Nat} (hl : n ≤ 4294967296) (hX : X < 2 ^ n) {c : Nat} (hc : c = (n + 63) / 64) (hr : w.heap[r]? = some (.cells #[.int .i64 (n : Nat), .slice (some ⟨g, 0, none⟩) c c] 77 (0, 0))) (hg : w.heap[g]? = some (.cells (Bt.wds X c).toArray 54 (0, 0))) :
    Rw w r n X (.slice (some ⟨g, 0, none⟩) c c) := by
  subst hc
  exact ⟨hl, hX, hr, by rw [Bt.wds_length]; omega, .inr ⟨g, (n + 63) / 64, _, rfl, Nat.zero_le _, hg, Nat.le_refl _, by unfold maxLen; omega, by rw [List.size_toArray, Bt.wds_length]; omega, by rw [List.take_of_length_le]; rw [Bt.wds_length]; omega⟩⟩
theorem Bd.copy {w : World} {B b n X : Nat} {v : Value} (h : Bd w B b n X v) (q c : Nat) (hq : q = n / 64) (hqc : q ≤ c) :
    ∃ ao cap W1, v = .slice ao q cap ∧ (Builtin.copy_ #[53, 53] 3 #[.slice (some ⟨w.heap.size, 0, none⟩) c c, .slice ao q cap]).run Try.prog (w.alloc (.cells (Array.replicate c (Value.int .u64 0)) 54)) = .ok (.int .i64 (q : Int)) W1 ∧
      W1.heap[w.heap.size]? = some (.cells (Bt.wds X q ++ List.replicate (c - q) (Value.int .u64 0)).toArray 54 (0, 0)) ∧ Below w.heap.size w W1 ∧ W1.heap.size = w.heap.size + 1 := by
  obtain ⟨W, hW⟩ : ∃ W, W = w.alloc (.cells (Array.replicate c (Value.int .u64 0)) 54) := ⟨_, rfl⟩
  have hWg : W.heap[w.heap.size]? = some (.cells (Array.replicate c (Value.int .u64 0)) 54 (0, 0)) := by rw [hW]; exact heap_alloc_new w _
  have hWs : W.heap.size = w.heap.size + 1 := by rw [hW]; simp
  have hWb : Below w.heap.size w W := by rw [hW]; exact (Below.refl _ _).alloc (Nat.le_refl _) _
  rw [← hW]
  have h1 : W.ownsRow B 54 1 v (n / 64) (Bt.wds X (n / 64)) := own_same h.own fun k hk => hWb.block k (own_lt h.own k hk)
  rw [← hq] at h1
  have hi : (Try.prog.info? 54).map (·.size) = some 1 := by kernel_rfl
  by_cases h0 : q = 0
  · have hrun : ∀ ao cap, (Builtin.copy_ #[53, 53] 3 #[.slice (some ⟨w.heap.size, 0, none⟩) c c, .slice ao q cap]).run Try.prog W = .ok (.int .i64 (q : Int)) W := by
      intro ao cap
      have := run_copy_none (P := Try.prog) W 53 53 3 54 (some ⟨w.heap.size, 0, none⟩) ao c c q cap Try.underlying53 hi (by rw [h0]; exact Nat.zero_min c)
      rw [this, h0]
      rfl
    have hrow : W.heap[w.heap.size]? = some (.cells (Bt.wds X q ++ List.replicate (c - q) (Value.int .u64 0)).toArray 54 (0, 0)) := by
      rw [hWg, h0, Nat.sub_zero, show Bt.wds X 0 = [] from rfl, List.nil_append]
      simp
    rcases h1.2 with ⟨hv, _⟩ | ⟨g, cap, cur, hv, _⟩
    · exact ⟨none, 0, W, by rw [hv, h0], hrun _ _, hrow, hWb, hWs⟩
    · exact ⟨some ⟨g, 0, none⟩, cap, W, hv, hrun _ _, hrow, hWb, hWs⟩
  · rcases h1.2 with ⟨hv, hz⟩ | ⟨g, cap, cur, hv, _⟩
    · omega
    · subst hv
      have hcells := h1.cells (g := g) rfl
      have hrun := run_copy_row (P := Try.prog) W 53 53 3 54 w.heap.size 0 c c ⟨g, 0, none⟩ q cap (Array.replicate c (Value.int .u64 0)) 54 (Bt.wds X q) Try.underlying53 hi hWg (by rw [Bt.wds_length]; exact (Nat.min_eq_left hqc).symm) hcells (by rw [Bt.wds_length]; simp; omega) (Bt.wds_one X q)
      rw [Bt.wds_length] at hrun
      refine ⟨some ⟨g, 0, none⟩, cap, _, rfl, hrun, ?_, below_setRow hWb (Nat.le_refl _) _, ?_⟩
      · rw [setRow_heap W _ _ _ _ _ hWg]
        simp
      · rw [← hWs]
        simp [World.setRow]
set_option maxHeartbeats 1000000 in
theorem BRow_even (b n X B : Nat) (v : Value) (w : World) (h : Bd w B b n X v) (hn : n % 64 = 0) :
    Calls Try.prog 25 #[.pointer (some ⟨b, 0, none⟩)] w fun e w' => ∃ r u, e = .returned (.pointer (some ⟨r, 0, none⟩)) ∧ Rw w' r n X u ∧ Below w.heap.size w w' ∧ w.heap.size ≤ r ∧ ∀ k, u.ownBlock = some k → w.heap.size ≤ k := by
  have hl := h.len
  have hX := h.lt
  obtain ⟨c, hc⟩ : ∃ c, c = (n + 63) / 64 := ⟨_, rfl⟩
  have HC : Hid _ := hc
  have hc1 : c ≤ 4294967296 := by omega
  have hmk := mk_words c hc1
  obtain ⟨ao, cap, W1, rfl, hcp, hrow, hbel, hsz⟩ := h.copy c c (by omega) (Nat.le_refl _)
  have c0 := h.cell0
  have c1 := h.cell1
  have hlt := lt_of_block h.cells
  have d0 := (hbel.cell (p := ⟨b, 0, none⟩) hlt).trans c0
  rw [Nat.sub_self, List.replicate_zero, List.append_nil] at hrow
  have HR : Hid _ := hrow
  have HB : Hid _ := hbel
  have HX : Hid _ := hX
  have hsz1 : W1.heap.size ≤ w.heap.size + 1 := by omega
  have hsz2 : w.heap.size + 1 ≤ W1.heap.size := by omega
  have HZ : Hid _ := hsz
  clear hc h hn hrow hbel hX hsz
  go_enter Try.func25, Try.ntmps25
  go_wp2_with (go_at_call 43; refine (needed_any n c _ hl HC.out).mono ?_; rintro e w' ⟨rfl, rfl⟩)
  go_ret
  refine ⟨W1.heap.size, .slice (some ⟨w'.heap.size, 0, none⟩) c c, rfl, Rw.of_words hl HX.out HC.out (heap_alloc_new W1 _) ?_, HB.out.alloc (by omega) _, by omega, fun k hk => by simp [Value.ownBlock] at hk; omega⟩
  rw [Below.heap_alloc W1 _ _ (by omega)]
  exact HR.out
set_option maxHeartbeats 1000000 in
theorem BRow_odd (b n X B : Nat) (v : Value) (w : World) (h : Bd w B b n X v) (hn : n % 64 ≠ 0) :
    Calls Try.prog 25 #[.pointer (some ⟨b, 0, none⟩)] w fun e w' => ∃ r u, e = .returned (.pointer (some ⟨r, 0, none⟩)) ∧ Rw w' r n X u ∧ Below w.heap.size w w' ∧ w.heap.size ≤ r ∧ ∀ k, u.ownBlock = some k → w.heap.size ≤ k := by
  have hl := h.len
  have hX := h.lt
  obtain ⟨q, hq⟩ : ∃ q, q = n / 64 := ⟨_, rfl⟩
  obtain ⟨c, hc⟩ : ∃ c, c = q + 1 := ⟨_, rfl⟩
  have HC : Hid (c = (n + 63) / 64) := show _ = _ by omega
  have hc1 : c ≤ 4294967296 := by omega
  have hmk := mk_words c hc1
  obtain ⟨ao, cap, W1, rfl, hcp, hrow, hbel, hsz⟩ := h.copy q c hq (by omega)
  have c0 := h.cell0
  have c1 := h.cell1
  have c2 := h.cell2
  have hlt := lt_of_block h.cells
  have d0 := (hbel.cell (p := ⟨b, 0, none⟩) hlt).trans c0
  have d2 := (hbel.cell (p := ⟨b, 2, none⟩) hlt).trans c2
  have e2 : W1.cell? ⟨w.heap.size, c - 1, none⟩ = some (.int .u64 0) := by
    rw [Lib.cell_of_heap hrow]
    simp [Bt.wds_length, hc]
  have f2 : W1.frozen? ⟨w.heap.size, c - 1, none⟩ = false := Lib.frozen_of_heap hrow _
  have hb1 : ¬ b = w.heap.size := by omega
  have hb2 : ¬ w.heap.size = b := by omega
  have HR : Hid _ := hrow
  have HB : Hid _ := hbel
  have HX : Hid _ := hX
  have hsz1 : W1.heap.size ≤ w.heap.size + 1 := by omega
  have hsz2 : w.heap.size + 1 ≤ W1.heap.size := by omega
  have HZ : Hid _ := hsz
  have HQ : Hid _ := hq
  have hqc : q < c := by omega
  have hqc2 : c ≤ q + 1 := by omega
  have HCQ : Hid _ := hc
  clear h hn hrow hbel hX hsz hq hc
  go_enter Try.func25, Try.ntmps25
  go_wp2_with (go_at_call 43; refine (needed_any n c _ hl HC.out).mono ?_; rintro e w' ⟨rfl, rfl⟩)
  go_ret
  refine ⟨W1.heap.size, .slice (some ⟨w'.heap.size, 0, none⟩) c c, rfl, Rw.of_words hl HX.out HC.out (heap_new_at (by simp [World.setCell])) ?_, (HB.out.setCell (Nat.le_refl _) _).alloc (by simp [World.setCell]; omega) _, by omega, fun k hk => by simp [Value.ownBlock] at hk; omega⟩
  rw [Below.heap_alloc _ _ _ (by simp [World.setCell]; omega), setCell_heap_same _ _ _ _ _ _ _ HR.out, HCQ.out, words_last X n q HX.out HQ.out]
theorem BRow_any (b n X B : Nat) (v : Value) (w : World) (h : Bd w B b n X v) :
    Calls Try.prog 25 #[.pointer (some ⟨b, 0, none⟩)] w fun e w' => ∃ r u, e = .returned (.pointer (some ⟨r, 0, none⟩)) ∧ Rw w' r n X u ∧ Below w.heap.size w w' ∧ w.heap.size ≤ r ∧ ∀ k, u.ownBlock = some k → w.heap.size ≤ k := by
  by_cases hn : n % 64 = 0
  · exact BRow_even b n X B v w h hn
  · exact BRow_odd b n X B v w h hn
end Go.Proofs.Ytdjhpfojbnikdaa
