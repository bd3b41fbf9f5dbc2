/-
  The contracts of choose.seek and choose.samples: the place of a bit that is there; where each 256th one is, in new memory; nothing that was there is changed.
-/
import Derived.Test.YtfohldojcdhnhaaDoorCkMath
namespace Go.Proofs.YtfohldojcdhnhaaDoor
open Go.RowKit
theorem Tab.lt {w : World} (h : Tab w) : 1 < w.heap.size := World.block_lt_of_cell? _ _ (h 0 (by decide))
theorem Tab.below {w w' : World} {B : Nat} (h : Tab w) (hb : Below B w w') (hB : w.heap.size ≤ B) : Tab w' := fun j hj => by
  rw [hb.cell (p := ⟨1, j, none⟩) (Nat.lt_of_lt_of_le h.lt hB)]
  exact h j hj
theorem Tab.drewN {w : World} (h : Tab w) (m : Nat) : Tab (w.drewN m) := h
set_option maxHeartbeats 1000000 in
theorem seek_any (r n X Y tv a k j p : Nat) (u : Value) (w : World) (h : Rw w r n X u) (hv : Ck.View tv n X Y) (hT : Tab w) (hp : Ck.At Y n k p) (ha : 64 * a ≤ p) (hj : Wd.ones Y (64 * a) + j = k) :
    Calls Tryd.prog 85 #[.pointer (some ⟨r, 0, none⟩), .int .i64 (a : Nat), .int .i64 (j : Nat), .int .u64 (tv : Nat)] w fun e w' => e = .returned (.int .i64 (p : Nat)) ∧ w' = w := by
  have hl := h.len
  have hpn := hp.lt
  have hkp := Wd.ones_le Y p
  have hkk := hp.cnt
  have HH := hidden h
  have HV := hidden hv
  have HT := hidden hT
  have HP := hidden hp
  have HA := hidden ha
  have HJ := hidden hj
  clear h hv hT hp ha hj
  go_enter Tryd.func85, Tryd.ntmps85
  go_wp2_with fail
  go_loopw [1, 2] (fun s1 s2 wr => ∃ a j : Nat, s1 = .int .i64 a ∧ s2 = .int .i64 j ∧ 64 * a ≤ p ∧ Wd.ones Y (64 * a) + j = k ∧ wr = w) (fun s1 _ _ => p - (intOf s1).toNat)
  case atStart => exact ⟨a, j, rfl, rfl, HA.out, HJ.out, rfl⟩
  case round =>
    obtain ⟨a, j, rfl, rfl, ha, hj, hw⟩ := hrel
    subst hw
    have hx := HV.out.word a (by omega)
    have hwd := Bt.wd_lt Y a
    have hwx := Bt.wd_lt X a
    have hin := HP.out.word ha hj
    have hsl := HP.out.sel ha hj
    have HX : Hid _ := hidden hsl
    have HAA := hidden ha
    have HJJ := hidden hj
    have ha2 : a ≤ 67108864 := by omega
    have hj2 : j ≤ 4294967296 := by omega
    have ho := Wd.ones_le (Bt.wd Y a) 64
    obtain ⟨N, hN⟩ : ∃ N, Wd.ones (Bt.wd Y a) 64 = N := ⟨_, rfl⟩
    rw [hN] at hin ho
    have HN := hidden hN
    have HI := hidden hin
    clear hsl ha hj hin hN
    go_wp2_with fail
    refine (Word_in r n X a u _ HH.out (by have := HAA.out; omega)).mono ?_
    rintro e' w1 ⟨rfl, rfl⟩
    go_wp2_with fail
    refine (Ones_any _ _ _ hwd).mono ?_
    rintro e' w1 ⟨rfl, rfl⟩
    rw [show Wd.cl 64 = 64 from rfl, HN.out]
    by_cases hlt : j < N
    · have hps := HX.out (HI.out.1 hlt)
      have hs2 : Wd.sel (Bt.wd Y a) (j : Int) ≤ 64 := Wd.sel_le _ _
      have HPS := hidden hps
      clear hps
      go_wp2_with fail
      refine (Select_any _ _ _ hwd (by omega) HT.out).mono ?_
      rintro e' w1 ⟨rfl, rfl⟩
      go_wp2_with fail
      go_ret
      exact ⟨ret_int (by have := HPS.out; omega), rfl⟩
    · have hpn : ¬ p < 64 * (a + 1) := fun h => hlt (HI.out.2 h)
      have HPN := hidden hpn
      clear hpn
      go_wp2_with fail
      go_roundw
      case rel =>
        refine ⟨a + 1, j - N, by go_num, int_eq (by omega), by have := HPN.out; omega, ?_, by trivial⟩
        have h1 := Ck.wd_ones Y a 64 (Nat.le_refl _)
        have h2 := HN.out
        have h3 := HJJ.out
        rw [show 64 * a + 64 = 64 * (a + 1) from by omega] at h1
        omega
      case measure => have := HPN.out; simp [intOf]; omega
theorem Tryd.infoSample : (Tryd.prog.info? 125).map (fun i => (i.zero, i.size, i.bytes)) = some (some (.int .u32 0), 1, 4) := by kernel_rfl
theorem made_samples (c : Nat) : madeCells #[Value.int .u32 0] c = Array.replicate c (Value.int .u32 0) := by
  apply Array.toList_inj.1
  rw [toList_madeCells_one, Array.toList_replicate]
theorem mk_samples (c : Nat) (hc : c ≤ 4294967296) (u : World) : (Instr.makeSlice 89 (.int .i64 (c : Int)) (.int .i64 (c : Int))).run Tryd.prog u = .ok (.slice (some ⟨u.heap.size, 0, none⟩) c c) (u.alloc (.cells (Array.replicate c (Value.int .u32 0)) 125)) := by
  obtain ⟨i0, hi, hz0, hz1, hz2⟩ := info_parts Tryd.infoSample
  have h := run_make (P := Tryd.prog) u 89 125 i0 (.int .u32 0) Tryd.underlying89 hi hz0 .i64 .i64 (c : Int) (c : Int) (by omega) (Int.le_refl _) (by rw [hz2]; omega) (by omega)
  rw [← made_samples]
  simpa [hz1, Value.cells] using h
/-- The first k samples; the others are 0. -/
structure Ck.Sm (cur : Array Value) (Y n m k : Nat) : Prop where
  size : cur.size = m
  cell : ∀ j, j < m → cur[j]? = some (.int .u32 (((if j < k then Ck.pl Y (256 * j) n else 0) : Nat) : Int))
theorem Ck.Sm.new (Y n m : Nat) : Ck.Sm (Array.replicate m (Value.int .u32 0)) Y n m 0 := by
  refine ⟨by simp, fun j hj => ?_⟩
  simp [Array.getElem?_replicate]
  omega
theorem Ck.Sm.next {cur : Array Value} {Y n m k p : Nat} (h : Ck.Sm cur Y n m k) (hk : k < m) (hp : Ck.pl Y (256 * k) n = p) : Ck.Sm (cur.setIfInBounds k (.int .u32 (p : Nat))) Y n m (k + 1) := by
  have hs := h.size
  refine ⟨by simp [h.size], fun j hj => ?_⟩
  have := h.cell j hj
  rw [Array.getElem?_setIfInBounds]
  by_cases e : j = k
  · subst e
    rw [if_pos rfl, if_pos (by omega), if_pos (by omega), hp]
  · rw [if_neg (by omega), this]
    by_cases h2 : j < k
    · rw [if_pos h2, if_pos (by omega)]
    · rw [if_neg h2, if_neg (by omega)]
/-- Samples in memory, in block b. -/
def Sp (w : World) (b Y n : Nat) : Prop := ∃ cur, w.heap[b]? = some (.cells cur 125 (0, 0)) ∧ Ck.Sm cur Y n (Ck.sn Y n) (Ck.sn Y n)
theorem Sp.below {w w' : World} {b Y n C : Nat} (h : Sp w b Y n) (hb : Below C w w') (hC : w.heap.size ≤ C) : Sp w' b Y n := by
  obtain ⟨cur, h1, h2⟩ := h
  exact ⟨cur, by rw [hb.block b (Nat.lt_of_lt_of_le (lt_of_block h1) hC)]; exact h1, h2⟩
theorem Sp.drewN {w : World} {b Y n : Nat} (h : Sp w b Y n) (m : Nat) : Sp (w.drewN m) b Y n := h
theorem Sp.cell {w : World} {b Y n : Nat} (h : Sp w b Y n) (j : Nat) (hj : j < Ck.sn Y n) : w.cell? ⟨b, j, none⟩ = some (.int .u32 ((Ck.pl Y (256 * j) n : Nat) : Int)) := by
  obtain ⟨cur, h1, h2⟩ := h
  rw [Lib.cell_of_heap h1, h2.cell j hj, if_pos hj]
set_option maxHeartbeats 1000000 in
theorem samples_any (r n X Y tv : Nat) (u : Value) (w : World) (h : Rw w r n X u) (hv : Ck.View tv n X Y) (hT : Tab w) (cn : Nat) (hcn : cn = Wd.ones Y n) :
    Calls Tryd.prog 60 #[.pointer (some ⟨r, 0, none⟩), .int .i64 (cn : Nat), .int .u64 (tv : Nat)] w fun e w' => ∃ b, e = .returned (.slice (some ⟨b, 0, none⟩) (Ck.sn Y n) (Ck.sn Y n)) ∧ Sp w' b Y n ∧ Below w.heap.size w w' := by
  have hl := h.len
  have hon := Wd.ones_le Y n
  rw [← hcn] at hon
  have HH := hidden h
  have HV := hidden hv
  have HT := hidden hT
  obtain ⟨c, hc⟩ : ∃ c, c = Ck.sn Y n := ⟨_, rfl⟩
  have hc2 : c = (cn + 255) / 256 := by rw [hc, hcn]; rfl
  have hq : ((cn : Int) + 256 - 1) / 256 = (c : Int) := by omega
  have hc1 : c ≤ 4294967296 := by omega
  have hmk := mk_samples c hc1
  have HCN := hidden hcn
  have HC := hidden hc
  have HC2 := hidden hc2
  rw [← hc]
  clear h hv hT hcn hc hc2
  go_enter Tryd.func60, Tryd.ntmps60
  go_wp2_with fail
  go_loopw [8, 9, 19] (fun s8 s9 i wr => ∃ (k a j : Nat) (cur : Array Value), k ≤ c ∧ i = .int .i64 k ∧ s8 = .int .i64 a ∧ s9 = .int .i64 j ∧ Wd.ones Y (64 * a) + j = 256 * k ∧ (a = 0 ∨ Wd.ones Y (64 * a) < 256 * k) ∧ wr.heap[w.heap.size]? = some (.cells cur 125 (0, 0)) ∧ Ck.Sm cur Y n c k ∧ Below w.heap.size w wr) (fun _ _ i _ => c - (intOf i).toNat)
  case atStart =>
    exact ⟨0, 0, 0, _, by omega, rfl, rfl, rfl, rfl, .inl rfl, heap_alloc_new _ _, Ck.Sm.new Y n c, (Below.refl _ _).alloc (Nat.le_refl _) _⟩
  case round =>
    obtain ⟨k, a, j, cur, hk, rfl, rfl, rfl, hj, ha, hw, hcur, hbel⟩ := hrel
    clear hq
    have HW := hidden hw
    have HCU := hidden hcur
    have HBL := hidden hbel
    by_cases hlt : k < c
    · have hk2 : 256 * k < Wd.ones Y n := Ck.sn_lt (by rw [← HC.out]; exact hlt)
      have hp := Ck.pl_at hk2
      obtain ⟨p, hpp⟩ : ∃ p, p = Ck.pl Y (256 * k) n := ⟨_, rfl⟩
      rw [← hpp] at hp
      have hap : 64 * a ≤ p := by
        rcases ha with h | h
        · omega
        · rcases Nat.lt_or_ge p (64 * a) with h2 | h2
          · have := Wd.ones_mono Y p (64 * a) (by omega); have := hp.cnt; omega
          · exact h2
      have hpn := hp.lt
      have hwx := Bt.wd_lt X (p / 64)
      have hwd := Bt.wd_lt Y (p / 64)
      have hx := HV.out.word (p / 64) (by omega)
      have hrank := Ck.wd_ones Y (p / 64) (p % 64) (by omega)
      rw [show 64 * (p / 64) + p % 64 = p from by omega, hp.cnt] at hrank
      obtain ⟨q, hq1⟩ : ∃ q, q = p / 64 := ⟨_, rfl⟩
      obtain ⟨s, hs1⟩ : ∃ s, s = p % 64 := ⟨_, rfl⟩
      rw [← hq1] at hwx hwd hx hrank
      rw [← hs1] at hrank
      have q1 : (p : Int) / 64 = (q : Int) := by omega
      have s1 : (p : Int) % 64 = (s : Int) := by omega
      have hs64 : s < 64 := by omega
      have hqn : q < (n + 63) / 64 := by omega
      have ho := Wd.ones_le (Bt.wd Y q) s
      have c0 : wr.cell? ⟨w.heap.size, k, none⟩ = some (.int .u32 0) := by
        rw [Lib.cell_of_heap hw, hcur.cell k hlt, if_neg (Nat.lt_irrefl _)]; rfl
      have f0 : wr.frozen? ⟨w.heap.size, k, none⟩ = false := Lib.frozen_of_heap hw _
      have HRR := hidden (HH.out.below hbel (Nat.le_refl _))
      have HTT := hidden (HT.out.below hbel (Nat.le_refl _))
      have HP := hidden hp
      have HPP := hidden hpp
      have HRK := hidden hrank
      have HJ := hidden hj
      have HAP := hidden hap
      have i1 : (k : Int) < (c : Int) := by omega
      have hqp : 64 * q ≤ p := by omega
      have HQP := hidden hqp
      have hu32 : IntKind.u32.wrap (p : Int) = (p : Int) := by rw [IntKind.wrap_u32]; omega
      clear hw hcur hbel hp hpp hrank hj ha hap hq1 hs1 hk2 hqp
      go_wp2_with fail
      refine (seek_any r n X Y tv a _ j p u _ HRR.out HV.out HTT.out HP.out HAP.out HJ.out).mono ?_
      rintro e' w1 ⟨rfl, rfl⟩
      go_wp2_with fail
      refine (Word_in r n X q u _ (HH.out.below (HBL.out.setCell (Nat.le_refl _) _) (Nat.le_refl _)) hqn).mono ?_
      rintro e' w2 ⟨rfl, rfl⟩
      go_wp2_with fail
      refine (Ones_any _ _ _ hwd).mono ?_
      rintro e' w2 ⟨rfl, rfl⟩
      rw [Wd.cl_nat s (by omega)]
      go_wp2_with fail
      have h1 := HRK.out
      go_roundw
      case rel => exact ⟨k + 1, q, Wd.ones (Bt.wd Y q) s + 256, _, by omega, by go_num, rfl, by go_num, by omega, .inr (by omega), setCell_heap_same _ _ _ _ _ _ _ HW.out, HCU.out.next hlt HPP.out.symm, HBL.out.setCell (Nat.le_refl _) _⟩
      case measure => simp [intOf]; omega
    · obtain rfl : k = c := by omega
      clear hw hcur hbel
      go_wp2_with fail
      go_ret
      have h := HC.out
      exact ⟨_, rfl, ⟨_, HW.out, h ▸ HCU.out⟩, HBL.out⟩
end Go.Proofs.YtfohldojcdhnhaaDoor
