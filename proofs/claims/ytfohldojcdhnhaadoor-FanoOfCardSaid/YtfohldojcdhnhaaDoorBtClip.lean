/-
  The contract of (*Row).Clip: for every row and every two numbers: a row of the bits between, in new memory; nothing that was there is changed.
-/
import Derived.Test.YtfohldojcdhnhaaDoorBtRef
import Derived.Deep.RegionHeldLaw
namespace Go.Proofs.YtfohldojcdhnhaaDoor
open Go.RowKit
theorem Rw.drew {w : World} {r n X : Nat} {u : Value} (h : Rw w r n X u) : Rw w.drew r n X u := ⟨h.len, h.lt, h.cells, h.own⟩
namespace Bt
/-- The number of m bits from f on. -/
def cut (X f m : Nat) : Nat := X / 2 ^ f % 2 ^ m
theorem cut_lt (X f m : Nat) : cut X f m < 2 ^ m := Nat.mod_lt _ (Nat.two_pow_pos m)
theorem bt_cut (X f m i : Nat) : Wd.bt (cut X f m) i = if i < m then Wd.bt X (f + i) else 0 := by
  unfold cut
  rw [Wd.bt_mod, Wd.bt_div]
theorem testBit_cut (X f m i : Nat) : (cut X f m).testBit i = (decide (i < m) && X.testBit (f + i)) := by
  rw [Wd.testBit_bt, bt_cut, Wd.testBit_bt]
  by_cases h : i < m <;> simp [h]
theorem wd_cut (X f m j : Nat) : wd (cut X f m) j = fd X (f + 64 * j) (min 64 (m - 64 * j)) := by
  apply eq_of_bt
  intro i
  unfold fd
  rw [bt_wd, bt_cut, Wd.bt_mod, Wd.bt_div]
  by_cases h : i < 64
  · by_cases h2 : 64 * j + i < m
    · rw [if_pos h, if_pos h2, if_pos (by omega)]
      congr 1; omega
    · rw [if_pos h, if_neg h2, if_neg (by omega)]
  · rw [if_neg h, if_neg (by omega)]
end Bt
theorem needed_int (z : Int) (n c : Nat) (w : World) (hz : z = (n : Int)) (hn : n ≤ 4294967296) (hc : c = (n + 63) / 64) :
    Calls Tryd.prog 71 #[.int .i64 z] w fun e w' => e = .returned (.int .i64 (c : Int)) ∧ w' = w := by
  subst hz
  exact needed_any n c w hn hc
/-- The words so far. -/
theorem words_next (Y k c : Nat) (hk : k < c) : (Bt.wds Y k ++ List.replicate (c - k) (Value.int .u64 0)).toArray.setIfInBounds k (.int .u64 ((Bt.wd Y k : Nat) : Int)) = (Bt.wds Y (k + 1) ++ List.replicate (c - (k + 1)) (Value.int .u64 0)).toArray := by
  obtain ⟨d, hd⟩ : ∃ d, c - k = d + 1 := ⟨c - k - 1, by omega⟩
  rw [hd, show c - (k + 1) = d from by omega, Bt.wds_succ, List.replicate_succ]
  simp [Bt.wds_length]
theorem words_at (Y k c : Nat) (hk : k < c) : (Bt.wds Y k ++ List.replicate (c - k) (Value.int .u64 0)).toArray[k]? = some (Value.int .u64 0) := by
  rw [List.getElem?_toArray, List.getElem?_append_right (by rw [Bt.wds_length]; omega), Bt.wds_length, Nat.sub_self, List.getElem?_replicate, if_pos (by omega)]
set_option maxHeartbeats 1000000 in
theorem Clip_core (r n X f e : Nat) (a t : Int) (u : Value) (w : World) (h : Rw w r n X u) (hfe : f ≤ e) (hen : e ≤ n) (hf : min (max a 0) (n : Int) = (f : Int)) (ht : min (max t (f : Int)) (n : Int) = (e : Int)) :
    Calls Tryd.prog 78 #[.pointer (some ⟨r, 0, none⟩), .int .i64 a, .int .i64 t] w fun e' w' => ∃ r' u', e' = .returned (.pointer (some ⟨r', 0, none⟩)) ∧ Rw w' r' (e - f) (Bt.cut X f (e - f)) u' ∧ Below w.heap.size w w' ∧ w.heap.size ≤ r' ∧ ∀ k, u'.ownBlock = some k → w.heap.size ≤ k := by
  have hl := h.len
  have c0 := h.cell0
  have HH := hidden h
  obtain ⟨m, hm⟩ : ∃ m, m = e - f := ⟨_, rfl⟩
  obtain ⟨c, hc⟩ : ∃ c, c = (m + 63) / 64 := ⟨_, rfl⟩
  have hc1 : c ≤ 4294967296 := by omega
  have hc2 : 64 * c ≤ m + 63 := by omega
  have hmk := mk_words c hc1
  rw [← hm]
  have HM := hidden hm
  have HC := hidden hc
  clear h hc hm
  go_enter Tryd.func78, Tryd.ntmps78
  go_wp2_with fail
  refine (needed_int _ m c _ (by have := HM.out; omega) (by have := HM.out; omega) HC.out).mono ?_
  rintro e' w1 ⟨rfl, rfl⟩
  go_wp2_with fail
  go_loopw [40] (fun i wr => ∃ k : Nat, k ≤ c ∧ i = .int .i64 k ∧ wr.heap[w1.heap.size]? = some (.cells (Bt.wds (Bt.cut X f m) k ++ List.replicate (c - k) (Value.int .u64 0)).toArray 67 (0, 0)) ∧ wr.heap[w1.heap.size + 1]? = some (.cells #[.int .i64 ((e : Int) - (f : Int)), .slice (some ⟨w1.heap.size, 0, none⟩) c c] 99 (0, 0)) ∧ Below w1.heap.size w1 wr) (fun i _ => c - (intOf i).toNat)
  case atStart =>
    refine ⟨0, by omega, rfl, ?_, heap_new_at (by simp), ((Below.refl _ _).alloc (Nat.le_refl _) _).alloc (by simp) _⟩
    rw [Below.heap_alloc _ _ _ (by simp), heap_alloc_new, show Bt.wds (Bt.cut X f m) 0 = [] from rfl]
    simp
  case round =>
    obtain ⟨k, hk, rfl, hw, hr, hb⟩ := hrel
    by_cases hlt : k < c
    · obtain ⟨A, hA⟩ : ∃ A : Nat, (f : Int) + (k : Int) * 64 = (A : Int) := ⟨f + k * 64, by omega⟩
      obtain ⟨N, hN⟩ : ∃ N : Nat, min 64 ((e : Int) - (A : Int)) = (N : Int) := ⟨min 64 (e - A), by have := HM.out; have := HC.out; omega⟩
      have hN2 : N ≤ 64 := by omega
      have hA2 : A ≤ 9223372036854775000 := by omega
      have HV : Hid (Bt.fd X A N = Bt.wd (Bt.cut X f m) k) := by
        show _ = _
        rw [Bt.wd_cut, show A = f + 64 * k from by omega, show N = min 64 (m - 64 * k) from by have := HM.out; omega]
      have HRR := hidden (HH.out.below hb (Nat.le_refl _))
      have d0 : wr.cell? ⟨w1.heap.size + 1, 1, none⟩ = some (.slice (some ⟨w1.heap.size, 0, none⟩) c c) := Lib.cell_of_heap hr 1
      have d1 : wr.cell? ⟨w1.heap.size, k, none⟩ = some (.int .u64 0) := by
        rw [Lib.cell_of_heap hw, words_at _ k c hlt]
      have d2 : wr.frozen? ⟨w1.heap.size, k, none⟩ = false := Lib.frozen_of_heap hw k
      have hwr : IntKind.i64.wrap ((e : Int) - (A : Int)) = (e : Int) - (A : Int) := by rw [IntKind.wrap_i64]; omega
      have i0 : (0 : Int) ≤ (k : Int) := by omega
      have i1 : (k : Int) < (c : Int) := by omega
      have hsz := hb.size
      have HW := hidden hw
      have HR := hidden hr
      have HB := hidden hb
      clear hw hr hb
      go_wp2_with fail
      go_region_held (fun w' => w'.cell? ⟨w1.heap.size + 1, 1, none⟩ = some (.slice (some ⟨w1.heap.size, 0, none⟩) c c)) (go_keep)
        (first
          | (go_at_call 95; refine (field_any r n X A N u _ HRR.out.drew hA2 hN2).mono ?_; rintro e' w' ⟨rfl, rfl⟩))
      go_wp2_with fail
      go_roundw
      case rel =>
        refine ⟨k + 1, by omega, by go_num, ?_, ?_, (HB.out.setCell (Nat.le_refl _) _).drew⟩
        · show (World.setCell _ _ _).heap[_]? = _
          rw [setCell_heap_same _ _ _ _ _ _ _ HW.out, HV.out, words_next _ k c hlt]
        · show (World.setCell _ _ _).heap[_]? = _
          rw [setCell_heap_other _ _ _ _ (by simp)]
          exact HR.out
      case measure => simp [intOf]; omega
    · obtain rfl : k = c := by omega
      rw [Nat.sub_self, List.replicate_zero, List.append_nil] at hw
      have hsz := hb.size
      have HW := hidden hw
      have HR := hidden hr
      have HB := hidden hb
      clear hw hr hb
      go_wp2_with fail
      go_ret
      have hmm := HM.out
      have hr := HR.out
      rw [show (e : Int) - (f : Int) = (m : Int) from by omega] at hr
      exact ⟨_, _, rfl, Rw.of_words (by omega) (Bt.cut_lt _ _ _) HC.out hr HW.out, HB.out, by omega, fun j hj => by simp [Value.ownBlock] at hj; omega⟩
/-- Where a part begins, and where it ends. -/
def Bt.cf (n : Nat) (a : Int) : Nat := (min (max a 0) (n : Int)).toNat
def Bt.ct (n : Nat) (a t : Int) : Nat := (min (max t (Bt.cf n a : Int)) (n : Int)).toNat
theorem Bt.cf_le (n : Nat) (a t : Int) : Bt.cf n a ≤ Bt.ct n a t ∧ Bt.ct n a t ≤ n := by unfold Bt.ct Bt.cf; omega
theorem Clip_any (r n X : Nat) (a t : Int) (u : Value) (w : World) (h : Rw w r n X u) :
    Calls Tryd.prog 78 #[.pointer (some ⟨r, 0, none⟩), .int .i64 a, .int .i64 t] w fun e' w' => ∃ r' u', e' = .returned (.pointer (some ⟨r', 0, none⟩)) ∧ Rw w' r' (Bt.ct n a t - Bt.cf n a) (Bt.cut X (Bt.cf n a) (Bt.ct n a t - Bt.cf n a)) u' ∧ Below w.heap.size w w' ∧ w.heap.size ≤ r' ∧ ∀ k, u'.ownBlock = some k → w.heap.size ≤ k :=
  Clip_core r n X (Bt.cf n a) (Bt.ct n a t) a t u w h (Bt.cf_le n a t).1 (Bt.cf_le n a t).2 (by unfold Bt.cf; omega) (by unfold Bt.ct; omega)
end Go.Proofs.YtfohldojcdhnhaaDoor
