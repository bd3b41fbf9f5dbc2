/-
  Where a 1 of a number is: its place by how many others are ahead of it; the number of a row turned; the blocks that a search goes through.
  The contracts of choose.seek and choose.samples: the place of a bit that is there; where each 256th one is, in new memory; nothing that was there is changed.
  A chooser in memory, and the contract of choose.New: of every row a chooser, in new memory; nothing that was there is changed. Its Ones, Rank and Size.
  The contracts of sort.Search at a function that only reads, of a chooser's between, block and find, and of its One and Zero.
  The contracts of a chooser's One and Zero: for every chooser and every number; nothing that was there is changed.
-/
import Derived.Laws.Bits64
import Derived.Shelf.Abstract
import Derived.Deep.RegionHeld
import Derived.Test.YtoipliflphbeiaaGreatDoorJRk
namespace Go.Proofs.YtoipliflphbeiaaGreatDoor
open Go.RowKit
namespace Ck
open Wd Bt
/-- The largest place up to n ahead of which k bits or fewer are 1. -/
def pl (Y k : Nat) : Nat → Nat
  | 0 => 0
  | n + 1 => if ones Y (n + 1) ≤ k then n + 1 else pl Y k n
theorem pl_le (Y k n : Nat) : pl Y k n ≤ n := by
  induction n with
  | zero => exact Nat.le_refl _
  | succ n ih => unfold pl; split <;> omega
/-- The place of the 1 ahead of which k others are. -/
structure At (Y n k p : Nat) : Prop where
  lt : p < n
  one : bt Y p = 1
  cnt : ones Y p = k
theorem pl_at {Y k n : Nat} (h : k < ones Y n) : At Y n k (pl Y k n) := by
  induction n with
  | zero => simp [Wd.ones_zero] at h
  | succ n ih =>
    unfold pl
    rw [if_neg (by omega)]
    by_cases h2 : k < ones Y n
    · have := ih h2
      exact ⟨by have := this.lt; omega, this.one, this.cnt⟩
    · have h3 := ones_succ Y n
      have h4 := bt_lt Y n
      have e : pl Y k n = n := by
        cases n with
        | zero => rfl
        | succ n => unfold pl; rw [if_pos (by omega)]
      rw [e]
      exact ⟨by omega, by omega, by omega⟩
theorem At.unique {Y n m k p q : Nat} (h1 : At Y n k p) (h2 : At Y m k q) : p = q := by
  rcases Nat.lt_trichotomy p q with h | h | h
  · have := ones_lt Y p q h1.one h; have := h1.cnt; have := h2.cnt; omega
  · exact h
  · have := ones_lt Y q p h2.one h; have := h1.cnt; have := h2.cnt; omega
theorem pl_eq {Y n k p : Nat} (h : At Y n k p) : pl Y k n = p :=
  (pl_at (by have := ones_lt Y p n h.one h.lt; have := h.cnt; omega)).unique h
theorem At.below {Y n k p : Nat} (h : At Y n k p) : k < ones Y n := by
  have := ones_lt Y p n h.one h.lt; have := h.cnt; omega
/-- Ones ahead of a place tell on which side of the bit it is. -/
theorem At.ahead {Y n k p : Nat} (h : At Y n k p) (q : Nat) : k < ones Y q ↔ p < q := by
  constructor
  · intro h1
    rcases Nat.lt_or_ge p q with h2 | h2
    · exact h2
    · have := ones_mono Y q p h2; have := h.cnt; omega
  · intro h1
    have := ones_lt Y p q h.one h1; have := h.cnt; omega
theorem At.mono {Y n m k j p q : Nat} (h1 : At Y n k p) (h2 : At Y m j q) (h : k ≤ j) : p ≤ q := by
  rcases Nat.lt_or_ge q p with h3 | h3
  · have := ones_lt Y q p h2.one h3; have := h1.cnt; have := h2.cnt; omega
  · exact h3
theorem At.lt_of {Y n m k j p q : Nat} (h1 : At Y n k p) (h2 : At Y m j q) (h : k < j) : p < q := by
  have := h1.mono h2 (by omega)
  rcases Nat.lt_or_ge p q with h3 | h3
  · exact h3
  · obtain rfl : p = q := by omega
    have := h1.cnt; have := h2.cnt; omega
theorem wd_ones (Y a k : Nat) (hk : k ≤ 64) : ones Y (64 * a) + ones (wd Y a) k = ones Y (64 * a + k) := by
  rw [Rk.ones_word Y a k hk, ones_split]
/-- The bit is in the word a, or behind it. -/
theorem At.word {Y n k p a j : Nat} (h : At Y n k p) (ha : 64 * a ≤ p) (hj : ones Y (64 * a) + j = k) : j < ones (wd Y a) 64 ↔ p < 64 * (a + 1) := by
  have h1 := wd_ones Y a 64 (Nat.le_refl _)
  have h2 := h.ahead (64 * a + 64)
  omega
theorem At.sel {Y n k p a j : Nat} (h : At Y n k p) (ha : 64 * a ≤ p) (hj : ones Y (64 * a) + j = k) (hp : p < 64 * (a + 1)) : Wd.sel (wd Y a) (j : Int) + 64 * a = p := by
  have e : Wd.sel (wd Y a) (j : Int) = p - 64 * a := by
    refine sel_eq (.inl ⟨by omega, ?_, ?_⟩)
    · rw [bt_wd, if_pos (by omega), show 64 * a + (p - 64 * a) = p from by omega]
      exact h.one
    · have := wd_ones Y a (p - 64 * a) (by omega)
      rw [show 64 * a + (p - 64 * a) = p from by omega, h.cnt] at this
      omega
  omega
/-- The number of a row of n bits, seen by words that are turned by tv. -/
structure View (tv n X Y : Nat) : Prop where
  small : tv < 18446744073709551616
  word : ∀ a, 64 * a < n → bits .xor .u64 ((wd X a : Nat) : Int) (tv : Int) = ((wd Y a : Nat) : Int)
theorem View.same (n X : Nat) : View 0 n X X :=
  ⟨by decide, fun a _ => by rw [bits_xor_u64_nat _ 0 (wd_lt X a) (by decide), Nat.xor_zero]⟩
/-- The row's bits turned, up to the end of its last word. -/
def tn (X n : Nat) : Nat := 2 ^ (64 * ((n + 63) / 64)) - 1 - X
theorem bt_compl (X m i : Nat) (hX : X < 2 ^ m) (hi : i < m) : bt (2 ^ m - 1 - X) i = 1 - bt X i := by
  have h := Nat.testBit_two_pow_sub_succ (x := X) (n := m) hX i
  rw [show 2 ^ m - 1 - X = 2 ^ m - (X + 1) from by omega, bt_testBit, bt_testBit, h, decide_eq_true hi]
  cases X.testBit i <;> rfl
theorem tn_big (X n : Nat) (hX : X < 2 ^ n) : X < 2 ^ (64 * ((n + 63) / 64)) :=
  Nat.lt_of_lt_of_le hX (Nat.pow_le_pow_right (by decide) (by omega))
theorem bt_tn (X n i : Nat) (hX : X < 2 ^ n) (hi : i < 64 * ((n + 63) / 64)) : bt (tn X n) i = 1 - bt X i :=
  bt_compl X _ i (tn_big X n hX) hi
theorem ones_tn (X n p : Nat) (hX : X < 2 ^ n) (hp : p ≤ n) : ones (tn X n) p + ones X p = p := by
  induction p with
  | zero => rfl
  | succ p ih =>
    rw [ones_succ, ones_succ, bt_tn X n p hX (by omega)]
    have := ih (by omega)
    have := bt_lt X p
    omega
theorem wd_tn (X n a : Nat) (hX : X < 2 ^ n) (ha : 64 * a < n) : wd (tn X n) a = 2 ^ 64 - 1 - wd X a := by
  apply eq_of_bt
  intro i
  by_cases hi : i < 64
  · rw [bt_wd, if_pos hi, bt_tn X n _ hX (by omega), bt_compl _ 64 i (wd_lt' X a) hi, bt_wd, if_pos hi]
  · rw [bt_big _ 64 i (wd_lt' _ _) (by omega), bt_big _ 64 i (by omega) (by omega)]
theorem xor_all (x : Nat) (hx : x < 2 ^ 64) : x ^^^ 18446744073709551615 = 2 ^ 64 - 1 - x := by
  apply Nat.eq_of_testBit_eq
  intro i
  rw [show 2 ^ 64 - 1 - x = 2 ^ 64 - (x + 1) from by omega, Nat.testBit_two_pow_sub_succ hx, Nat.testBit_xor, show 18446744073709551615 = 2 ^ 64 - 1 from rfl, Nat.testBit_two_pow_sub_one]
  by_cases hi : i < 64
  · rw [decide_eq_true hi]; cases x.testBit i <;> rfl
  · rw [decide_eq_false hi, Nat.testBit_lt_two_pow (Nat.lt_of_lt_of_le hx (Nat.pow_le_pow_right (by decide) (by omega)))]; rfl
theorem View.turned (n X : Nat) (hX : X < 2 ^ n) : View 18446744073709551615 n X (tn X n) :=
  ⟨by decide, fun a ha => by rw [bits_xor_u64_nat _ _ (wd_lt X a) (by decide), xor_all _ (wd_lt' X a), wd_tn X n a hX ha]⟩
/-- How many samples there are. -/
def sn (Y n : Nat) : Nat := (ones Y n + 255) / 256
theorem sn_lt {Y n j : Nat} (h : j < sn Y n) : 256 * j < ones Y n := by unfold sn at h; omega
theorem sn_of {Y n k : Nat} (h : k < ones Y n) : k / 256 < sn Y n := by unfold sn; omega
theorem sn_le (Y n : Nat) : 256 * sn Y n ≤ n + 255 := by have := ones_le Y n; unfold sn; omega
end Ck
end Go.Proofs.YtoipliflphbeiaaGreatDoor
namespace Go.Proofs.YtoipliflphbeiaaGreatDoor
open Go.RowKit
theorem Tab.lt {w : World} (h : Tab w) : 1 < w.heap.size := World.block_lt_of_cell? _ _ (h 0 (by decide))
theorem Tab.below {w w' : World} {B : Nat} (h : Tab w) (hb : Below B w w') (hB : w.heap.size ≤ B) : Tab w' := fun j hj => by
  rw [hb.cell (p := ⟨1, j, none⟩) (Nat.lt_of_lt_of_le h.lt hB)]
  exact h j hj
theorem Tab.drewN {w : World} (h : Tab w) (m : Nat) : Tab (w.drewN m) := h
set_option maxHeartbeats 1000000 in
theorem seek_any (r n X Y tv a k j p : Nat) (u : Value) (w : World) (h : Rw w r n X u) (hv : Ck.View tv n X Y) (hT : Tab w) (hp : Ck.At Y n k p) (ha : 64 * a ≤ p) (hj : Wd.ones Y (64 * a) + j = k) :
    Calls Tryz.prog 140 #[.pointer (some ⟨r, 0, none⟩), .int .i64 (a : Nat), .int .i64 (j : Nat), .int .u64 (tv : Nat)] w fun e w' => e = .returned (.int .i64 (p : Nat)) ∧ w' = w := by
  have hl := h.len
  have hpn := hp.lt
  have hkp := Wd.ones_le Y p
  have hkk := hp.cnt
  have HH := hidden h
  have HV := hidden hv
  have HT := hidden hT
  have HP := hidden hp
  have HA := hidden ha
  have HJ := hidden hj
  clear h hv hT hp ha hj
  go_enter Tryz.func140, Tryz.ntmps140
  go_wp2_with fail
  go_loopw [1, 2] (fun s1 s2 wr => ∃ a j : Nat, s1 = .int .i64 a ∧ s2 = .int .i64 j ∧ 64 * a ≤ p ∧ Wd.ones Y (64 * a) + j = k ∧ wr = w) (fun s1 _ _ => p - (intOf s1).toNat)
  case atStart => exact ⟨a, j, rfl, rfl, HA.out, HJ.out, rfl⟩
  case round =>
    obtain ⟨a, j, rfl, rfl, ha, hj, hw⟩ := hrel
    subst hw
    have hx := HV.out.word a (by omega)
    have hwd := Bt.wd_lt Y a
    have hwx := Bt.wd_lt X a
    have hin := HP.out.word ha hj
    have hsl := HP.out.sel ha hj
    have HX : Hid _ := hidden hsl
    have HAA := hidden ha
    have HJJ := hidden hj
    have ha2 : a ≤ 67108864 := by omega
    have hj2 : j ≤ 4294967296 := by omega
    have ho := Wd.ones_le (Bt.wd Y a) 64
    obtain ⟨N, hN⟩ : ∃ N, Wd.ones (Bt.wd Y a) 64 = N := ⟨_, rfl⟩
    rw [hN] at hin ho
    have HN := hidden hN
    have HI := hidden hin
    clear hsl ha hj hin hN
    go_wp2_with fail
    refine (Word_in r n X a u _ HH.out (by have := HAA.out; omega)).mono ?_
    rintro e' w1 ⟨rfl, rfl⟩
    go_wp2_with fail
    refine (Ones_any _ _ _ hwd).mono ?_
    rintro e' w1 ⟨rfl, rfl⟩
    rw [show Wd.cl 64 = 64 from rfl, HN.out]
    by_cases hlt : j < N
    · have hps := HX.out (HI.out.1 hlt)
      have hs2 : Wd.sel (Bt.wd Y a) (j : Int) ≤ 64 := Wd.sel_le _ _
      have HPS := hidden hps
      clear hps
      go_wp2_with fail
      refine (Select_any _ _ _ hwd (by omega) HT.out).mono ?_
      rintro e' w1 ⟨rfl, rfl⟩
      go_wp2_with fail
      go_ret
      exact ⟨ret_int (by have := HPS.out; omega), rfl⟩
    · have hpn : ¬ p < 64 * (a + 1) := fun h => hlt (HI.out.2 h)
      have HPN := hidden hpn
      clear hpn
      go_wp2_with fail
      go_roundw
      case rel =>
        refine ⟨a + 1, j - N, by go_num, int_eq (by omega), by have := HPN.out; omega, ?_, by trivial⟩
        have h1 := Ck.wd_ones Y a 64 (Nat.le_refl _)
        have h2 := HN.out
        have h3 := HJJ.out
        rw [show 64 * a + 64 = 64 * (a + 1) from by omega] at h1
        omega
      case measure => have := HPN.out; simp [intOf]; omega
theorem Tryz.infoSample : (Tryz.prog.info? 202).map (fun i => (i.zero, i.size, i.bytes)) = some (some (.int .u32 0), 1, 4) := by kernel_rfl
theorem made_samples (c : Nat) : madeCells #[Value.int .u32 0] c = Array.replicate c (Value.int .u32 0) := by
  apply Array.toList_inj.1
  rw [toList_madeCells_one, Array.toList_replicate]
theorem mk_samples (c : Nat) (hc : c ≤ 4294967296) (u : World) : (Instr.makeSlice 128 (.int .i64 (c : Int)) (.int .i64 (c : Int))).run Tryz.prog u = .ok (.slice (some ⟨u.heap.size, 0, none⟩) c c) (u.alloc (.cells (Array.replicate c (Value.int .u32 0)) 202)) := by
  obtain ⟨i0, hi, hz0, hz1, hz2⟩ := info_parts Tryz.infoSample
  have h := run_make (P := Tryz.prog) u 128 202 i0 (.int .u32 0) Tryz.underlying128 hi hz0 .i64 .i64 (c : Int) (c : Int) (by omega) (Int.le_refl _) (by rw [hz2]; omega) (by omega)
  rw [← made_samples]
  simpa [hz1, Value.cells] using h
/-- The first k samples; the others are 0. -/
structure Ck.Sm (cur : Array Value) (Y n m k : Nat) : Prop where
  size : cur.size = m
  cell : ∀ j, j < m → cur[j]? = some (.int .u32 (((if j < k then Ck.pl Y (256 * j) n else 0) : Nat) : Int))
theorem Ck.Sm.new (Y n m : Nat) : Ck.Sm (Array.replicate m (Value.int .u32 0)) Y n m 0 := by
  refine ⟨by simp, fun j hj => ?_⟩
  simp [Array.getElem?_replicate]
  omega
theorem Ck.Sm.next {cur : Array Value} {Y n m k p : Nat} (h : Ck.Sm cur Y n m k) (hk : k < m) (hp : Ck.pl Y (256 * k) n = p) : Ck.Sm (cur.setIfInBounds k (.int .u32 (p : Nat))) Y n m (k + 1) := by
  have hs := h.size
  refine ⟨by simp [h.size], fun j hj => ?_⟩
  have := h.cell j hj
  rw [Array.getElem?_setIfInBounds]
  by_cases e : j = k
  · subst e
    rw [if_pos rfl, if_pos (by omega), if_pos (by omega), hp]
  · rw [if_neg (by omega), this]
    by_cases h2 : j < k
    · rw [if_pos h2, if_pos (by omega)]
    · rw [if_neg h2, if_neg (by omega)]
/-- Samples in memory, in block b. -/
def Sp (w : World) (b Y n : Nat) : Prop := ∃ cur, w.heap[b]? = some (.cells cur 202 (0, 0)) ∧ Ck.Sm cur Y n (Ck.sn Y n) (Ck.sn Y n)
theorem Sp.below {w w' : World} {b Y n C : Nat} (h : Sp w b Y n) (hb : Below C w w') (hC : w.heap.size ≤ C) : Sp w' b Y n := by
  obtain ⟨cur, h1, h2⟩ := h
  exact ⟨cur, by rw [hb.block b (Nat.lt_of_lt_of_le (lt_of_block h1) hC)]; exact h1, h2⟩
theorem Sp.drewN {w : World} {b Y n : Nat} (h : Sp w b Y n) (m : Nat) : Sp (w.drewN m) b Y n := h
theorem Sp.cell {w : World} {b Y n : Nat} (h : Sp w b Y n) (j : Nat) (hj : j < Ck.sn Y n) : w.cell? ⟨b, j, none⟩ = some (.int .u32 ((Ck.pl Y (256 * j) n : Nat) : Int)) := by
  obtain ⟨cur, h1, h2⟩ := h
  rw [Lib.cell_of_heap h1, h2.cell j hj, if_pos hj]
set_option maxHeartbeats 1000000 in
theorem samples_any (r n X Y tv : Nat) (u : Value) (w : World) (h : Rw w r n X u) (hv : Ck.View tv n X Y) (hT : Tab w) (cn : Nat) (hcn : cn = Wd.ones Y n) :
    Calls Tryz.prog 124 #[.pointer (some ⟨r, 0, none⟩), .int .i64 (cn : Nat), .int .u64 (tv : Nat)] w fun e w' => ∃ b, e = .returned (.slice (some ⟨b, 0, none⟩) (Ck.sn Y n) (Ck.sn Y n)) ∧ Sp w' b Y n ∧ Below w.heap.size w w' := by
  have hl := h.len
  have hon := Wd.ones_le Y n
  rw [← hcn] at hon
  have HH := hidden h
  have HV := hidden hv
  have HT := hidden hT
  obtain ⟨c, hc⟩ : ∃ c, c = Ck.sn Y n := ⟨_, rfl⟩
  have hc2 : c = (cn + 255) / 256 := by rw [hc, hcn]; rfl
  have hq : ((cn : Int) + 256 - 1) / 256 = (c : Int) := by omega
  have hc1 : c ≤ 4294967296 := by omega
  have hmk := mk_samples c hc1
  have HCN := hidden hcn
  have HC := hidden hc
  have HC2 := hidden hc2
  rw [← hc]
  clear h hv hT hcn hc hc2
  go_enter Tryz.func124, Tryz.ntmps124
  go_wp2_with fail
  go_loopw [8, 9, 19] (fun s8 s9 i wr => ∃ (k a j : Nat) (cur : Array Value), k ≤ c ∧ i = .int .i64 k ∧ s8 = .int .i64 a ∧ s9 = .int .i64 j ∧ Wd.ones Y (64 * a) + j = 256 * k ∧ (a = 0 ∨ Wd.ones Y (64 * a) < 256 * k) ∧ wr.heap[w.heap.size]? = some (.cells cur 202 (0, 0)) ∧ Ck.Sm cur Y n c k ∧ Below w.heap.size w wr) (fun _ _ i _ => c - (intOf i).toNat)
  case atStart =>
    exact ⟨0, 0, 0, _, by omega, rfl, rfl, rfl, rfl, .inl rfl, heap_alloc_new _ _, Ck.Sm.new Y n c, (Below.refl _ _).alloc (Nat.le_refl _) _⟩
  case round =>
    obtain ⟨k, a, j, cur, hk, rfl, rfl, rfl, hj, ha, hw, hcur, hbel⟩ := hrel
    clear hq
    have HW := hidden hw
    have HCU := hidden hcur
    have HBL := hidden hbel
    by_cases hlt : k < c
    · have hk2 : 256 * k < Wd.ones Y n := Ck.sn_lt (by rw [← HC.out]; exact hlt)
      have hp := Ck.pl_at hk2
      obtain ⟨p, hpp⟩ : ∃ p, p = Ck.pl Y (256 * k) n := ⟨_, rfl⟩
      rw [← hpp] at hp
      have hap : 64 * a ≤ p := by
        rcases ha with h | h
        · omega
        · rcases Nat.lt_or_ge p (64 * a) with h2 | h2
          · have := Wd.ones_mono Y p (64 * a) (by omega); have := hp.cnt; omega
          · exact h2
      have hpn := hp.lt
      have hwx := Bt.wd_lt X (p / 64)
      have hwd := Bt.wd_lt Y (p / 64)
      have hx := HV.out.word (p / 64) (by omega)
      have hrank := Ck.wd_ones Y (p / 64) (p % 64) (by omega)
      rw [show 64 * (p / 64) + p % 64 = p from by omega, hp.cnt] at hrank
      obtain ⟨q, hq1⟩ : ∃ q, q = p / 64 := ⟨_, rfl⟩
      obtain ⟨s, hs1⟩ : ∃ s, s = p % 64 := ⟨_, rfl⟩
      rw [← hq1] at hwx hwd hx hrank
      rw [← hs1] at hrank
      have q1 : (p : Int) / 64 = (q : Int) := by omega
      have s1 : (p : Int) % 64 = (s : Int) := by omega
      have hs64 : s < 64 := by omega
      have hqn : q < (n + 63) / 64 := by omega
      have ho := Wd.ones_le (Bt.wd Y q) s
      have c0 : wr.cell? ⟨w.heap.size, k, none⟩ = some (.int .u32 0) := by
        rw [Lib.cell_of_heap hw, hcur.cell k hlt, if_neg (Nat.lt_irrefl _)]; rfl
      have f0 : wr.frozen? ⟨w.heap.size, k, none⟩ = false := Lib.frozen_of_heap hw _
      have HRR := hidden (HH.out.below hbel (Nat.le_refl _))
      have HTT := hidden (HT.out.below hbel (Nat.le_refl _))
      have HP := hidden hp
      have HPP := hidden hpp
      have HRK := hidden hrank
      have HJ := hidden hj
      have HAP := hidden hap
      have i1 : (k : Int) < (c : Int) := by omega
      have hqp : 64 * q ≤ p := by omega
      have HQP := hidden hqp
      have hu32 : IntKind.u32.wrap (p : Int) = (p : Int) := by rw [IntKind.wrap_u32]; omega
      clear hw hcur hbel hp hpp hrank hj ha hap hq1 hs1 hk2 hqp
      go_wp2_with fail
      refine (seek_any r n X Y tv a _ j p u _ HRR.out HV.out HTT.out HP.out HAP.out HJ.out).mono ?_
      rintro e' w1 ⟨rfl, rfl⟩
      go_wp2_with fail
      refine (Word_in r n X q u _ (HH.out.below (HBL.out.setCell (Nat.le_refl _) _) (Nat.le_refl _)) hqn).mono ?_
      rintro e' w2 ⟨rfl, rfl⟩
      go_wp2_with fail
      refine (Ones_any _ _ _ hwd).mono ?_
      rintro e' w2 ⟨rfl, rfl⟩
      rw [Wd.cl_nat s (by omega)]
      go_wp2_with fail
      have h1 := HRK.out
      go_roundw
      case rel => exact ⟨k + 1, q, Wd.ones (Bt.wd Y q) s + 256, _, by omega, by go_num, rfl, by go_num, by omega, .inr (by omega), setCell_heap_same _ _ _ _ _ _ _ HW.out, HCU.out.next hlt HPP.out.symm, HBL.out.setCell (Nat.le_refl _) _⟩
      case measure => simp [intOf]; omega
    · obtain rfl : k = c := by omega
      clear hw hcur hbel
      go_wp2_with fail
      go_ret
      have h := HC.out
      exact ⟨_, rfl, ⟨_, HW.out, h ▸ HCU.out⟩, HBL.out⟩
end Go.Proofs.YtoipliflphbeiaaGreatDoor
namespace Go.Proofs.YtoipliflphbeiaaGreatDoor
open Go.RowKit
/-- The chooser in block c: its directory, its samples behind b0 (of 1s) and b1 (of 0s). -/
structure Cz (w : World) (c d g r n X b0 b1 : Nat) (u : Value) : Prop where
  dir : Dr w d g r n X u
  cells : w.heap[c]? = some (.cells #[.pointer (some ⟨d, 0, none⟩), .slice (some ⟨b0, 0, none⟩) (Ck.sn X n) (Ck.sn X n), .slice (some ⟨b1, 0, none⟩) (Ck.sn (Ck.tn X n) n) (Ck.sn (Ck.tn X n) n)] 130 (0, 0))
  ones : Sp w b0 X n
  zeros : Sp w b1 (Ck.tn X n) n
theorem Cz.below {w w' : World} {c d g r n X b0 b1 : Nat} {u : Value} {C : Nat} (h : Cz w c d g r n X b0 b1 u) (hb : Below C w w') (hC : w.heap.size ≤ C) : Cz w' c d g r n X b0 b1 u :=
  ⟨h.dir.below hb hC, by rw [hb.block c (Nat.lt_of_lt_of_le (lt_of_block h.cells) hC)]; exact h.cells, h.ones.below hb hC, h.zeros.below hb hC⟩
theorem Cz.drewN {w : World} {c d g r n X b0 b1 : Nat} {u : Value} (h : Cz w c d g r n X b0 b1 u) (m : Nat) : Cz (w.drewN m) c d g r n X b0 b1 u := ⟨h.dir.drewN m, h.cells, h.ones, h.zeros⟩
theorem Cz.cell0 {w : World} {c d g r n X b0 b1 : Nat} {u : Value} (h : Cz w c d g r n X b0 b1 u) : w.cell? ⟨c, 0, none⟩ = some (.pointer (some ⟨d, 0, none⟩)) := Lib.cell_of_heap h.cells 0
theorem Cz.cell1 {w : World} {c d g r n X b0 b1 : Nat} {u : Value} (h : Cz w c d g r n X b0 b1 u) : w.cell? ⟨c, 1, none⟩ = some (.slice (some ⟨b0, 0, none⟩) (Ck.sn X n) (Ck.sn X n)) := Lib.cell_of_heap h.cells 1
theorem Cz.cell2 {w : World} {c d g r n X b0 b1 : Nat} {u : Value} (h : Cz w c d g r n X b0 b1 u) : w.cell? ⟨c, 2, none⟩ = some (.slice (some ⟨b1, 0, none⟩) (Ck.sn (Ck.tn X n) n) (Ck.sn (Ck.tn X n) n)) := Lib.cell_of_heap h.cells 2
theorem Bt.cf_all (n : Nat) : Bt.cf n (n : Int) = n := Bt.cf_nat n n (Nat.le_refl _)
set_option maxHeartbeats 1000000 in
theorem CNew_any (r n X : Nat) (u : Value) (w : World) (h : Rw w r n X u) (hT : Tab w) :
    Calls Tryz.prog 93 #[.pointer (some ⟨r, 0, none⟩)] w fun e w' => ∃ c d g b0 b1, e = .returned (.pointer (some ⟨c, 0, none⟩)) ∧ Cz w' c d g r n X b0 b1 u ∧ Below w.heap.size w w' := by
  have HH := hidden h
  have hl := h.len
  have HLT := hidden h.lt
  have HT := hidden hT
  have HTN := hidden (Ck.ones_tn X n n h.lt (Nat.le_refl _))
  have hon := Wd.ones_le X n
  clear h hT
  go_enter Tryz.func93, Tryz.ntmps93
  go_wp2_with fail
  refine (New_any r n X u _ HH.out).mono ?_
  rintro e' w1 ⟨d, g, rfl, hd, hb1⟩
  have HD := hidden hd
  have HB1 := hidden hb1
  have HT1 := hidden (HT.out.below hb1 (Nat.le_refl _))
  clear hd hb1
  go_wp2_with fail
  refine (RLen_any r n X u _ HD.out.row).mono ?_
  rintro e' w2 ⟨rfl, rfl⟩
  go_wp2_with fail
  refine (One_at d g r n X _ n u _ HD.out (Bt.cf_all n)).mono ?_
  rintro e' w3 ⟨rfl, m3, rfl⟩
  go_wp2_with fail
  refine (samples_any r n X X 0 u _ (HD.out.row.drewN m3) (Ck.View.same n X) (HT1.out.drewN m3) _ rfl).mono ?_
  rintro e' w4 ⟨b0, rfl, hs0, hb4⟩
  have HS0 := hidden hs0
  have HD4 := hidden ((HD.out.drewN m3).below hb4 (Nat.le_refl _))
  have HT4 := hidden ((HT1.out.drewN m3).below hb4 (Nat.le_refl _))
  have HB4 : Hid (Below w.heap.size w w4) := (below_drewN HB1.out m3).trans (hb4.mono HB1.out.size)
  clear hs0 hb4
  go_wp2_with fail
  refine (RLen_any r n X u _ HD4.out.row).mono ?_
  rintro e' w2 ⟨rfl, rfl⟩
  go_wp2_with fail
  refine (Zero_at d g r n X _ n u _ HD4.out (Bt.cf_all n)).mono ?_
  rintro e' w5 ⟨rfl, m5, rfl⟩
  rw [show ((n : Nat) : Int) - ((Wd.ones X n : Nat) : Int) = ((Wd.ones (Ck.tn X n) n : Nat) : Int) from by have := HTN.out; omega]
  go_wp2_with fail
  refine (samples_any r n X (Ck.tn X n) 18446744073709551615 u _ (HD4.out.row.drewN m5) (Ck.View.turned n X HLT.out) (HT4.out.drewN m5) _ rfl).mono ?_
  rintro e' w6 ⟨b1, rfl, hs1, hb6⟩
  have HS1 := hidden hs1
  have HS06 := hidden ((HS0.out.drewN m5).below hb6 (Nat.le_refl _))
  have HD6 := hidden ((HD4.out.drewN m5).below hb6 (Nat.le_refl _))
  have HB6 : Hid (Below w.heap.size w w6) := (below_drewN HB4.out m5).trans (hb6.mono HB4.out.size)
  clear hs1 hb6
  go_wp2_with fail
  go_ret
  have hb : Below w6.heap.size w6 (w6.alloc (.cells #[.pointer (some ⟨d, 0, none⟩), .slice (some ⟨b0, 0, none⟩) (Ck.sn X n) (Ck.sn X n), .slice (some ⟨b1, 0, none⟩) (Ck.sn (Ck.tn X n) n) (Ck.sn (Ck.tn X n) n)] 130)) := (Below.refl _ _).alloc (Nat.le_refl _) _
  exact ⟨_, d, g, b0, b1, rfl, ⟨HD6.out.below hb (Nat.le_refl _), heap_alloc_new _ _, HS06.out.below hb (Nat.le_refl _), HS1.out.below hb (Nat.le_refl _)⟩, HB6.out.trans (hb.mono HB6.out.size)⟩
set_option maxHeartbeats 400000 in
theorem COnes_any (c d g r n X b0 b1 : Nat) (u : Value) (w : World) (h : Cz w c d g r n X b0 b1 u) :
    Calls Tryz.prog 51 #[.pointer (some ⟨c, 0, none⟩)] w fun e w' => e = .returned (.int .i64 ((Wd.ones X n : Nat) : Int)) ∧ ∃ m, w' = w.drewN m := by
  have c0 := h.cell0
  have HH := hidden h
  clear h
  go_enter Tryz.func51, Tryz.ntmps51
  go_wp2_with fail
  go_quiet (first
    | (go_at_call 87; exact Calls.quiet_of_same (DRow_any d g r n X u _ (HH.out.dir.drewN _)))
    | (go_at_call 83; exact Calls.quiet_of_same (RLen_any r n X u _ (HH.out.dir.row.drewN _)))
    | (go_at_call 86; exact Calls.quiet_of (One_at d g r n X _ n u _ (HH.out.dir.drewN _) (Bt.cf_all n))))
  go_wp2_with fail
  go_ret
  exact ⟨rfl, nq, rfl⟩
/-- How many bits a chooser takes. -/
def Ck.sz (X n : Nat) : Nat := (n / 512 + 1) * 128 + 32 * (Ck.sn X n + Ck.sn (Ck.tn X n) n)
theorem Ck.sz_le (X n : Nat) (hX : X < 2 ^ n) : Ck.sz X n ≤ n / 2 + 512 := by
  have h1 := Ck.ones_tn X n n hX (Nat.le_refl _)
  unfold Ck.sz Ck.sn
  omega
set_option maxHeartbeats 400000 in
theorem CSize_any (c d g r n X b0 b1 : Nat) (u : Value) (w : World) (h : Cz w c d g r n X b0 b1 u) :
    Calls Tryz.prog 116 #[.pointer (some ⟨c, 0, none⟩)] w fun e w' => e = .returned (.int .i64 ((Ck.sz X n : Nat) : Int)) ∧ ∃ m, w' = w.drewN m := by
  have c0 := h.cell0
  have c1 := h.cell1
  have c2 := h.cell2
  have hl := h.dir.row.len
  have h1 := Ck.sn_le X n
  have h2 := Ck.sn_le (Ck.tn X n) n
  have HD := hidden (fun m => Size_any d g r n X u _ (h.dir.drewN m))
  have HZ : Hid (Ck.sz X n = (n / 512 + 1) * 128 + 32 * (Ck.sn X n + Ck.sn (Ck.tn X n) n)) := by show _ = _; rfl
  have h3 : (n / 512 + 1) * 128 ≤ 4294967296 := by omega
  generalize Ck.sn X n = s0 at *
  generalize Ck.sn (Ck.tn X n) n = s1 at *
  generalize (n / 512 + 1) * 128 = s2 at *
  clear h
  go_enter Tryz.func116, Tryz.ntmps116
  go_wp2_with fail
  go_quiet (first
    | (go_at_call 142; exact Calls.quiet_of_same (HD.out _)))
  go_wp2_with fail
  go_ret
  refine ⟨ret_int ?_, nq, rfl⟩
  rw [HZ.out]
  omega
end Go.Proofs.YtoipliflphbeiaaGreatDoor
namespace Go.Proofs.YtoipliflphbeiaaGreatDoor
open Go.RowKit
set_option maxHeartbeats 1000000 in
/-- Of a function that is false at first, and true from the place t on: t. -/
theorem Search_any (g N t : Nat) (cb : Array Value) (w : World) (eg : ∀ args w, (callFunc g args).run Tryz.prog w = .ok (.enter g args) w) (hN : N ≤ 4294967296) (ht : t ≤ N)
    (hf : ∀ (m i : Nat), i < N → Calls Tryz.prog g (#[.int .i64 (i : Nat)] ++ cb) (w.drewN m) fun e w' => e = .returned (.bool (decide (t ≤ i))) ∧ ∃ q, w' = (w.drewN m).drewN q) :
    Calls Tryz.prog 171 #[.int .i64 (N : Nat), .func (.func g) #[] cb] w fun e w' => e = .returned (.int .i64 (t : Nat)) ∧ ∃ m, w' = w.drewN m := by
  have HF := hidden hf
  clear hf
  go_enter Tryz.func171, Tryz.ntmps171
  go_wp2_with fail
  go_loopw [5, 6] (fun s5 s6 wr => ∃ lo hi m : Nat, s5 = .int .i64 lo ∧ s6 = .int .i64 hi ∧ lo ≤ t ∧ t ≤ hi ∧ hi ≤ N ∧ wr = w.drewN m) (fun s5 s6 _ => (intOf s6).toNat - (intOf s5).toNat)
  case atStart => exact ⟨0, N, 0, rfl, rfl, by omega, ht, by omega, rfl⟩
  case round =>
    obtain ⟨lo, hi, m, rfl, rfl, h1, h2, h3, rfl⟩ := hrel
    by_cases hlt : lo < hi
    · obtain ⟨mid, hmid⟩ : ∃ mid : Nat, mid = (lo + hi) / 2 := ⟨_, rfl⟩
      have hm1 : ((lo : Int) + (hi : Int)) / 2 = (mid : Int) := by omega
      have hmn : mid < N := by omega
      have HM := hidden hmid
      clear hmid
      go_wp2_with fail
      refine (HF.out m mid hmn).mono ?_
      rintro e' w1 ⟨rfl, q, rfl⟩
      by_cases hd : t ≤ mid
      · rw [decide_eq_true hd]
        go_wp2_with fail
        go_roundw
        case rel => exact ⟨lo, mid, m + q, rfl, rfl, h1, hd, by omega, rfl⟩
        case measure => have := HM.out; simp [intOf]; omega
      · rw [decide_eq_false hd]
        go_wp2_with fail
        go_roundw
        case rel => exact ⟨mid + 1, hi, m + q, by go_num, rfl, by omega, h2, h3, rfl⟩
        case measure => have := HM.out; simp [intOf]; omega
    · obtain rfl : lo = t := by omega
      go_wp2_with fail
      go_ret
      exact ⟨rfl, m, rfl⟩
/-- A function that tells how many bits of a kind are ahead of a place: f at a directory. -/
structure Kd (f d g r n X Y : Nat) (u : Value) : Prop where
  enters : ∀ args w, (callFunc f args).run Tryz.prog w = .ok (.enter f args) w
  tells : ∀ (W : World) (i : Int), Dr W d g r n X u → Calls Tryz.prog f #[.pointer (some ⟨d, 0, none⟩), .int .i64 i] W fun e w' => e = .returned (.int .i64 ((Wd.ones Y (Bt.cf n i) : Nat) : Int)) ∧ ∃ m, w' = W.drewN m
theorem Kd.one (d g r n X : Nat) (u : Value) : Kd 86 d g r n X X u :=
  ⟨enters_of Tryz.func86 (by kernel_rfl) rfl, fun W i h => One_any d g r n X i u W h⟩
theorem Kd.zero (d g r n X : Nat) (u : Value) : Kd 125 d g r n X (Ck.tn X n) u :=
  ⟨enters_of Tryz.func125 (by kernel_rfl) rfl, fun W i h => (Zero_any d g r n X i u W h).mono (by
    rintro e w' ⟨rfl, hw⟩
    refine ⟨ret_int ?_, hw⟩
    have := Ck.ones_tn X n (Bt.cf n i) h.row.lt (Nat.le_trans (Bt.cf_le n i 0).1 (Bt.cf_le n i 0).2)
    omega)⟩
set_option maxHeartbeats 1000000 in
theorem literal_any (f d g r n X Y p7 p9 p5 F k i : Nat) (u : Value) (w : World) (h : Dr w d g r n X u) (hk : Kd f d g r n X Y u)
    (c7 : w.cell? ⟨p7, 0, none⟩ = some (.func (.func f) #[.pointer (some ⟨d, 0, none⟩)] #[])) (c9 : w.cell? ⟨p9, 0, none⟩ = some (.int .i64 (F : Nat))) (c5 : w.cell? ⟨p5, 0, none⟩ = some (.int .i64 (k : Nat))) (hF : F ≤ 4294967296) (hi : i ≤ 4294967296) :
    Calls Tryz.prog 172 #[.int .i64 (i : Nat), .pointer (some ⟨p7, 0, none⟩), .pointer (some ⟨p9, 0, none⟩), .pointer (some ⟨p5, 0, none⟩)] w fun e w' => e = .returned (.bool (decide (k < Wd.ones Y (Bt.cf n (((F + i + 1) * 512 : Nat) : Int))))) ∧ ∃ m, w' = w.drewN m := by
  have eg := hk.enters
  have HT : Hid (∀ m, Calls Tryz.prog f #[.pointer (some ⟨d, 0, none⟩), .int .i64 (((F : Int) + (i : Int) + 1) * 512)] (w.drewN m) fun e w' => e = .returned (.int .i64 ((Wd.ones Y (Bt.cf n (((F : Int) + (i : Int) + 1) * 512)) : Nat) : Int)) ∧ ∃ q, w' = (w.drewN m).drewN q) := fun m => hk.tells _ _ (h.drewN m)
  rw [show (((F + i + 1) * 512 : Nat) : Int) = ((F : Int) + (i : Int) + 1) * 512 from by omega]
  generalize Wd.ones Y (Bt.cf n (((F : Int) + (i : Int) + 1) * 512)) = O at *
  clear h hk
  go_enter Tryz.func172, Tryz.ntmps172
  go_wp2_with fail
  go_quiet (exact Calls.quiet_of (HT.out _))
  go_wp2_with fail
  go_ret
  refine ⟨ret_bool ?_, nq, rfl⟩
  simp
theorem ret_pair {k j : IntKind} {a b c d : Int} (h1 : a = c) (h2 : b = d) : Ending.returned (.tuple #[.int k a, .int j b]) = .returned (.tuple #[.int k c, .int j d]) := by rw [h1, h2]
/-- Up to which place a bit behind the sample i is looked for. -/
def Ck.upto (Y n i : Nat) : Nat := if i + 1 < Ck.sn Y n then Ck.pl Y (256 * (i + 1)) n else n - 1
set_option maxHeartbeats 1000000 in
theorem between_any (c d g r n X Y b b0 b1 i : Nat) (u : Value) (w : World) (h : Cz w c d g r n X b0 b1 u) (hs : Sp w b Y n) (hi : i < Ck.sn Y n) :
    Calls Tryz.prog 170 #[.pointer (some ⟨c, 0, none⟩), .slice (some ⟨b, 0, none⟩) (Ck.sn Y n) (Ck.sn Y n), .int .i64 (i : Nat)] w fun e w' => e = .returned (.tuple #[.int .i64 ((Ck.pl Y (256 * i) n / 512 : Nat) : Int), .int .i64 ((Ck.upto Y n i / 512 : Nat) : Int)]) ∧ w' = w := by
  have c0 := h.cell0
  have hl := h.dir.row.len
  have hn := Ck.sn_le Y n
  have hon := Wd.ones_le Y n
  have hn0 : 0 < n := by have := Ck.sn_lt hi; omega
  have k0 := hs.cell i hi
  have hp := Ck.pl_le Y (256 * i) n
  obtain ⟨P, hP⟩ : ∃ P, Ck.pl Y (256 * i) n = P := ⟨_, rfl⟩
  rw [hP] at k0 hp ⊢
  obtain ⟨P1, hP1⟩ : ∃ P1 : Nat, (P : Int) / 512 = (P1 : Int) := ⟨P / 512, by omega⟩
  have HP1 : Hid (P / 512 = P1) := by show _ = _; omega
  have HD := hidden h.dir
  have HU : Hid (Ck.upto Y n i = if i + 1 < Ck.sn Y n then Ck.pl Y (256 * (i + 1)) n else n - 1) := by show _ = _; rfl
  have hcell := hs.cell (i + 1)
  have HCE := hidden hcell
  generalize Ck.sn Y n = m at *
  clear h hs hcell hP
  by_cases hm : i + 1 < m
  · have k1 := HCE.out hm
    have hu := HU.out
    rw [if_pos hm] at hu
    have hq := Ck.pl_le Y (256 * (i + 1)) n
    rw [← hu] at k1 hq
    obtain ⟨Q, hQ⟩ : ∃ Q, Ck.upto Y n i = Q := ⟨_, rfl⟩
    rw [hQ] at k1 hq ⊢
    obtain ⟨Q1, hQ1⟩ : ∃ Q1 : Nat, (Q : Int) / 512 = (Q1 : Int) := ⟨Q / 512, by omega⟩
    have HQ1 : Hid (Q / 512 = Q1) := by show _ = _; omega
    have hm2 : (i : Int) + 1 < (m : Int) := by omega
    clear hu hQ
    go_enter Tryz.func170, Tryz.ntmps170
    go_wp2_with fail
    refine (DRow_any d g r n X u _ HD.out).mono ?_
    rintro e' w1 ⟨rfl, rfl⟩
    go_wp2_with fail
    refine (RLen_any r n X u _ HD.out.row).mono ?_
    rintro e' w1 ⟨rfl, rfl⟩
    go_wp2_with fail
    go_ret2
    exact ⟨ret_pair (by have := HP1.out; omega) (by have := HQ1.out; omega), rfl⟩
  · have hu := HU.out
    rw [if_neg hm] at hu
    rw [hu]
    obtain ⟨Q1, hQ1⟩ : ∃ Q1 : Nat, ((n : Int) - 1) / 512 = (Q1 : Int) := ⟨(n - 1) / 512, by omega⟩
    have HQ1 : Hid ((n - 1) / 512 = Q1) := by show _ = _; omega
    clear hu
    go_enter Tryz.func170, Tryz.ntmps170
    go_wp2_with fail
    refine (DRow_any d g r n X u _ HD.out).mono ?_
    rintro e' w1 ⟨rfl, rfl⟩
    go_wp2_with fail
    refine (RLen_any r n X u _ HD.out.row).mono ?_
    rintro e' w1 ⟨rfl, rfl⟩
    go_wp2_with fail
    go_ret2
    exact ⟨ret_pair (by have := HP1.out; omega) (by have := HQ1.out; omega), rfl⟩
theorem Ck.At.reach {Y n k p q : Nat} (h : Ck.At Y n k p) (hq : q = k / 256) : Ck.pl Y (256 * q) n ≤ p ∧ p ≤ Ck.upto Y n q ∧ Ck.upto Y n q ≤ n := by
  have h1 := h.below
  have h2 := Ck.pl_at (Y := Y) (n := n) (k := 256 * q) (by omega)
  refine ⟨h2.mono h (by omega), ?_, ?_⟩
  · unfold Ck.upto
    split
    · rename_i h3
      exact Nat.le_of_lt (h.lt_of (Ck.pl_at (Ck.sn_lt h3)) (by omega))
    · have := h.lt; omega
  · unfold Ck.upto
    split
    · exact Ck.pl_le _ _ _
    · omega
theorem Ck.At.block {Y n k p F t i : Nat} (h : Ck.At Y n k p) (hF : F + t = p / 512) : decide (k < Wd.ones Y (Bt.cf n (((F + i + 1) * 512 : Nat) : Int))) = decide (t ≤ i) := by
  have h1 := h.ahead (Bt.cf n (((F + i + 1) * 512 : Nat) : Int))
  have h2 := h.lt
  have h3 : p < Bt.cf n (((F + i + 1) * 512 : Nat) : Int) ↔ t ≤ i := by unfold Bt.cf; omega
  rw [decide_eq_decide]
  exact h1.trans h3
set_option maxHeartbeats 1000000 in
theorem block_any (f c d g r n X Y b b0 b1 k p : Nat) (u : Value) (w : World) (h : Cz w c d g r n X b0 b1 u) (hs : Sp w b Y n) (hk : Kd f d g r n X Y u) (hp : Ck.At Y n k p) :
    Calls Tryz.prog 139 #[.pointer (some ⟨c, 0, none⟩), .int .i64 (k : Nat), .slice (some ⟨b, 0, none⟩) (Ck.sn Y n) (Ck.sn Y n), .func (.func f) #[.pointer (some ⟨d, 0, none⟩)] #[]] w fun e w' => e = .returned (.int .i64 ((p / 512 : Nat) : Int)) ∧ Below w.heap.size w w' := by
  have HC := hidden h
  have HS := hidden hs
  have HK := hidden hk
  have HP := hidden hp
  have hl := h.dir.row.len
  have hkn := hp.below
  have hon := Wd.ones_le Y n
  have hq := Ck.sn_of hkn
  obtain ⟨q, hq1⟩ : ∃ q, q = k / 256 := ⟨_, rfl⟩
  have q1 : (k : Int) / 256 = (q : Int) := by omega
  rw [← hq1] at hq
  have HQ := hidden hq
  have HQ1 := hidden hq1
  clear h hs hk hp hq hq1
  go_enter Tryz.func139, Tryz.ntmps139
  go_wp2_with fail
  obtain ⟨w2, hw2⟩ : ∃ w2, w2 = ((w.alloc (.cells #[.int .i64 (k : Int)] 3)).alloc (.cells #[.func (.func f) #[.pointer (some ⟨d, 0, none⟩)] #[]] 42)) := ⟨_, rfl⟩
  rw [← hw2]
  have hs2 : w2.heap.size = w.heap.size + 2 := by rw [hw2]; simp
  have hk2 : w2.heap[w.heap.size]? = some (.cells #[.int .i64 (k : Int)] 3 (0, 0)) := by rw [hw2, Below.heap_alloc _ _ _ (by simp)]; exact heap_alloc_new _ _
  have hf2 : w2.heap[w.heap.size + 1]? = some (.cells #[.func (.func f) #[.pointer (some ⟨d, 0, none⟩)] #[]] 42 (0, 0)) := by rw [hw2]; exact heap_new_at (by simp)
  have hb2 : Below w.heap.size w w2 := by rw [hw2]; exact ((Below.refl _ _).alloc (Nat.le_refl _) _).alloc (by simp) _
  have HS2 := hidden hs2
  have HK2 := hidden hk2
  have HF2 := hidden hf2
  have HB2 := hidden hb2
  have HC2 := hidden (HC.out.below hb2 (Nat.le_refl _))
  have HSP2 := hidden (HS.out.below hb2 (Nat.le_refl _))
  clear hw2 hs2 hk2 hf2 hb2
  obtain ⟨hr1, hr2, hr3⟩ := HP.out.reach HQ1.out
  refine (between_any c d g r n X Y b b0 b1 q u _ HC2.out HSP2.out HQ.out).mono ?_
  rintro e' w3 ⟨rfl, rfl⟩
  obtain ⟨F, hF⟩ : ∃ F, Ck.pl Y (256 * q) n / 512 = F := ⟨_, rfl⟩
  obtain ⟨L, hL⟩ : ∃ L, Ck.upto Y n q / 512 = L := ⟨_, rfl⟩
  obtain ⟨t, ht⟩ : ∃ t, F + t = p / 512 := ⟨p / 512 - F, by omega⟩
  obtain ⟨N, hN⟩ : ∃ N : Nat, (L : Int) - (F : Int) = (N : Int) := ⟨L - F, by omega⟩
  have hF2 : F ≤ 4294967296 := by omega
  have hL2 : L ≤ 4294967296 := by omega
  have hN2 : N ≤ 4294967296 := by omega
  have htN : t ≤ N := by omega
  rw [hF, hL]
  have HT := hidden ht
  clear hr1 hr2 hr3 ht hF hL
  go_wp2_with fail
  obtain ⟨w4, hw4⟩ : ∃ w4, w4 = w3.alloc (.cells #[.int .i64 (F : Int)] 3) := ⟨_, rfl⟩
  rw [← hw4]
  have hb4 : Below w3.heap.size w3 w4 := by rw [hw4]; exact (Below.refl _ _).alloc (Nat.le_refl _) _
  have c9 : w4.cell? ⟨w3.heap.size, 0, none⟩ = some (.int .i64 (F : Int)) := by rw [hw4]; exact Lib.cell_of_heap (heap_alloc_new _ _) 0
  have c5 : w4.cell? ⟨w.heap.size, 0, none⟩ = some (.int .i64 (k : Int)) := (hb4.cell (p := ⟨w.heap.size, 0, none⟩) (lt_of_block HK2.out)).trans (Lib.cell_of_heap HK2.out 0)
  have c7 : w4.cell? ⟨w.heap.size + 1, 0, none⟩ = some (.func (.func f) #[.pointer (some ⟨d, 0, none⟩)] #[]) := (hb4.cell (p := ⟨w.heap.size + 1, 0, none⟩) (lt_of_block HF2.out)).trans (Lib.cell_of_heap HF2.out 0)
  have HD4 := hidden (HC2.out.dir.below hb4 (Nat.le_refl _))
  have HB4 : Hid (Below w.heap.size w w4) := HB2.out.trans (hb4.mono HB2.out.size)
  have HSE : Hid (∀ m, Calls Tryz.prog 171 #[.int .i64 (N : Nat), .func (.func 172) #[] #[.pointer (some ⟨w.heap.size + 1, 0, none⟩), .pointer (some ⟨w3.heap.size, 0, none⟩), .pointer (some ⟨w.heap.size, 0, none⟩)]] (w4.drewN m) fun e w' => e = .returned (.int .i64 (t : Nat)) ∧ ∃ m', w' = (w4.drewN m).drewN m') := fun m =>
    Search_any 172 N t _ _ (enters_of Tryz.func172 (by kernel_rfl) rfl) hN2 htN fun m2 i hi => by
      have := literal_any f d g r n X Y (w.heap.size + 1) w3.heap.size w.heap.size F k i u _ ((HD4.out.drewN m).drewN m2) HK.out c7 c9 c5 hF2 (by omega)
      rw [HP.out.block HT.out] at this
      exact this
  have hmf : ∀ (fn : Fn) (first cap : Array Value) (w : World), (Instr.makeFunc fn first cap).run Tryz.prog w = .ok (.func fn first cap) w := fun _ _ _ _ => rfl
  clear hw4 hb4
  go_quiet (first
    | (go_at_call 171; exact Calls.quiet_of (HSE.out _)))
  go_wp2_with fail
  go_ret
  exact ⟨ret_int (by have := HT.out; omega), below_drewN HB4.out _⟩
set_option maxHeartbeats 1000000 in
theorem find_at (f tv c d g r n X Y b b0 b1 k p : Nat) (u : Value) (w : World) (h : Cz w c d g r n X b0 b1 u) (hs : Sp w b Y n) (hk : Kd f d g r n X Y u) (hv : Ck.View tv n X Y) (hT : Tab w) (hp : Ck.At Y n k p) :
    Calls Tryz.prog 111 #[.pointer (some ⟨c, 0, none⟩), .int .i64 (k : Nat), .slice (some ⟨b, 0, none⟩) (Ck.sn Y n) (Ck.sn Y n), .func (.func f) #[.pointer (some ⟨d, 0, none⟩)] #[], .int .u64 (tv : Nat)] w fun e w' => e = .returned (.tuple #[.int .i64 (p : Nat), .int .i64 0]) ∧ Below w.heap.size w w' := by
  have HC := hidden h
  have HS := hidden hs
  have HK := hidden hk
  have HP := hidden hp
  have HV := hidden hv
  have HT := hidden hT
  have c0 := h.cell0
  have eg := hk.enters
  have hl := h.dir.row.len
  have hkn := hp.below
  have hon := Wd.ones_le Y n
  have hpn := hp.lt
  clear h hs hk hp hv hT
  go_enter Tryz.func111, Tryz.ntmps111
  go_wp2_with fail
  refine (DRow_any d g r n X u _ HC.out.dir).mono ?_
  rintro e' w1 ⟨rfl, rfl⟩
  go_wp2_with fail
  refine (RLen_any r n X u _ HC.out.dir.row).mono ?_
  rintro e' w1 ⟨rfl, rfl⟩
  go_wp2_with fail
  refine (HK.out.tells _ _ HC.out.dir).mono ?_
  rintro e' w2 ⟨rfl, m, rfl⟩
  rw [Bt.cf_all n]
  have HC2 := hidden (HC.out.drewN m)
  have HS2 := hidden (HS.out.drewN m)
  have HT2 := hidden (HT.out.drewN m)
  obtain ⟨w2, hw2⟩ : ∃ w2, w2 = w1.drewN m := ⟨_, rfl⟩
  have HB2 : Hid (Below w1.heap.size w1 w2) := by rw [hw2]; exact below_drewN (Below.refl _ _) m
  rw [← hw2] at HC2 HS2 HT2 ⊢
  clear hw2 c0
  go_wp2_with fail
  refine (block_any f c d g r n X Y b b0 b1 k p u _ HC2.out HS2.out HK.out HP.out).mono ?_
  rintro e' w3 ⟨rfl, hb3⟩
  have HC3 := hidden (HC2.out.below hb3 (Nat.le_refl _))
  have HT3 := hidden (HT2.out.below hb3 (Nat.le_refl _))
  have HB3 : Hid (Below w1.heap.size w1 w3) := HB2.out.trans (hb3.mono HB2.out.size)
  have c0 := HC3.out.cell0
  obtain ⟨B, hB⟩ : ∃ B, p / 512 = B := ⟨_, rfl⟩
  rw [hB]
  have hB2 : B ≤ 8388608 := by omega
  have hcf : Bt.cf n ((B : Int) * 512) = 512 * B := by unfold Bt.cf; omega
  have hon2 := Wd.ones_mono Y (512 * B) p (by omega)
  have hop := HP.out.cnt
  rw [hop] at hon2
  obtain ⟨j, hj⟩ : ∃ j : Nat, (k : Int) - ((Wd.ones Y (512 * B) : Nat) : Int) = (j : Int) := ⟨k - Wd.ones Y (512 * B), by omega⟩
  obtain ⟨A, hA⟩ : ∃ A : Nat, (B : Int) * 8 = (A : Int) := ⟨B * 8, by omega⟩
  have HSK : Hid (64 * A ≤ p ∧ Wd.ones Y (64 * A) + j = k) := by
    show _ ∧ _
    rw [show 64 * A = 512 * B from by omega]
    omega
  have HCF := hidden hcf
  clear hB hcf hb3 hop
  go_wp2_with fail
  refine (DRow_any d g r n X u _ HC3.out.dir).mono ?_
  rintro e' w4 ⟨rfl, rfl⟩
  go_wp2_with fail
  refine (HK.out.tells _ _ HC3.out.dir).mono ?_
  rintro e' w4 ⟨rfl, m4, rfl⟩
  rw [HCF.out]
  go_wp2_with fail
  refine (seek_any r n X Y tv A k j p u _ (HC3.out.dir.row.drewN m4) HV.out (HT3.out.drewN m4) HP.out HSK.out.1 HSK.out.2).mono ?_
  rintro e' w5 ⟨rfl, rfl⟩
  go_wp2_with fail
  go_ret2
  exact ⟨rfl, below_drewN HB3.out _⟩
set_option maxHeartbeats 1000000 in
theorem find_none (f tv c d g r n X Y b b0 b1 : Nat) (k : Int) (u : Value) (w : World) (h : Cz w c d g r n X b0 b1 u) (hk : Kd f d g r n X Y u) (hn : k < 0 ∨ ((Wd.ones Y n : Nat) : Int) ≤ k) :
    Calls Tryz.prog 111 #[.pointer (some ⟨c, 0, none⟩), .int .i64 k, .slice (some ⟨b, 0, none⟩) (Ck.sn Y n) (Ck.sn Y n), .func (.func f) #[.pointer (some ⟨d, 0, none⟩)] #[], .int .u64 (tv : Nat)] w fun e w' => e = .returned (.tuple #[.int .i64 0, .int .i64 2]) ∧ Below w.heap.size w w' := by
  have HC := hidden h
  have HK := hidden hk
  have c0 := h.cell0
  have eg := hk.enters
  have hl := h.dir.row.len
  have hon := Wd.ones_le Y n
  clear h hk
  by_cases h0 : k < 0
  · clear hn
    go_enter Tryz.func111, Tryz.ntmps111
    go_wp2_with fail
    go_ret2
    exact ⟨rfl, Below.refl _ _⟩
  · have h1 : ((Wd.ones Y n : Nat) : Int) ≤ k := by omega
    clear hn
    go_enter Tryz.func111, Tryz.ntmps111
    go_wp2_with fail
    refine (DRow_any d g r n X u _ HC.out.dir).mono ?_
    rintro e' w1 ⟨rfl, rfl⟩
    go_wp2_with fail
    refine (RLen_any r n X u _ HC.out.dir.row).mono ?_
    rintro e' w1 ⟨rfl, rfl⟩
    go_wp2_with fail
    refine (HK.out.tells _ _ HC.out.dir).mono ?_
    rintro e' w2 ⟨rfl, m, rfl⟩
    rw [Bt.cf_all n]
    go_wp2_with fail
    go_ret2
    exact ⟨rfl, below_drewN (Below.refl _ _) m⟩
end Go.Proofs.YtoipliflphbeiaaGreatDoor
namespace Go.Proofs.YtoipliflphbeiaaGreatDoor
open Go.RowKit
theorem below_undrewN {w w' : World} {m : Nat} (h : Below (w.drewN m).heap.size (w.drewN m) w') : Below w.heap.size w w' := ⟨h.os, h.tape, h.output, h.size, h.block⟩
set_option maxHeartbeats 1000000 in
theorem COne_of (c d g r n X b0 b1 : Nat) (k x y : Int) (u : Value) (w : World) (h : Cz w c d g r n X b0 b1 u)
    (hF : ∀ m, Calls Tryz.prog 111 #[.pointer (some ⟨c, 0, none⟩), .int .i64 k, .slice (some ⟨b0, 0, none⟩) (Ck.sn X n) (Ck.sn X n), .func (.func 86) #[.pointer (some ⟨d, 0, none⟩)] #[], .int .u64 0] (w.drewN m) fun e w' => e = .returned (.tuple #[.int .i64 x, .int .i64 y]) ∧ Below (w.drewN m).heap.size (w.drewN m) w') :
    Calls Tryz.prog 78 #[.pointer (some ⟨c, 0, none⟩), .int .i64 k] w fun e w' => e = .returned (.tuple #[.int .i64 x, .int .i64 y]) ∧ Below w.heap.size w w' := by
  have c0 := h.cell0
  have c1 := h.cell1
  have hcl := lt_of_block h.cells
  have HC := hidden h
  have hmf : ∀ (fn : Fn) (first cap : Array Value) (w : World), (Instr.makeFunc fn first cap).run Tryz.prog w = .ok (.func fn first cap) w := fun _ _ _ _ => rfl
  have HF := hidden hF
  clear h hF
  go_enter Tryz.func78, Tryz.ntmps78
  go_wp2_with fail
  go_region_held (fun w' => w'.cell? ⟨c, 0, none⟩ = some (.pointer (some ⟨d, 0, none⟩)) ∧ w'.cell? ⟨c, 1, none⟩ = some (.slice (some ⟨b0, 0, none⟩) (Ck.sn X n) (Ck.sn X n))) (first | (exact ⟨by assumption, by assumption⟩) | go_keep)
    (first
      | (go_at_call 111; refine (HF.out 1).mono ?_; rintro e' w' ⟨rfl, hb⟩; have HB := hidden (below_undrewN hb); clear hb; have e0 := (HB.out.cell (p := ⟨c, 0, none⟩) hcl).trans HC.out.cell0; have e1 := (HB.out.cell (p := ⟨c, 1, none⟩) hcl).trans HC.out.cell1))
  go_wp2_with fail
  go_ret2
  exact ⟨rfl, HB.out⟩
theorem COne_at (c d g r n X b0 b1 k p : Nat) (u : Value) (w : World) (h : Cz w c d g r n X b0 b1 u) (hT : Tab w) (hp : Ck.At X n k p) :
    Calls Tryz.prog 78 #[.pointer (some ⟨c, 0, none⟩), .int .i64 (k : Nat)] w fun e w' => e = .returned (.tuple #[.int .i64 (p : Nat), .int .i64 0]) ∧ Below w.heap.size w w' :=
  COne_of c d g r n X b0 b1 k p 0 u w h fun m => find_at 86 0 c d g r n X X b0 b0 b1 k p u _ (h.drewN m) h.ones (Kd.one d g r n X u) (Ck.View.same n X) (hT.drewN m) hp
theorem COne_none (c d g r n X b0 b1 : Nat) (k : Int) (u : Value) (w : World) (h : Cz w c d g r n X b0 b1 u) (hn : k < 0 ∨ ((Wd.ones X n : Nat) : Int) ≤ k) :
    Calls Tryz.prog 78 #[.pointer (some ⟨c, 0, none⟩), .int .i64 k] w fun e w' => e = .returned (.tuple #[.int .i64 0, .int .i64 2]) ∧ Below w.heap.size w w' :=
  COne_of c d g r n X b0 b1 k 0 2 u w h fun m => find_none 86 0 c d g r n X X b0 b0 b1 k u _ (h.drewN m) (Kd.one d g r n X u) hn
set_option maxHeartbeats 1000000 in
theorem CZero_of (c d g r n X b0 b1 : Nat) (k x y : Int) (u : Value) (w : World) (h : Cz w c d g r n X b0 b1 u)
    (hF : ∀ m, Calls Tryz.prog 111 #[.pointer (some ⟨c, 0, none⟩), .int .i64 k, .slice (some ⟨b1, 0, none⟩) (Ck.sn (Ck.tn X n) n) (Ck.sn (Ck.tn X n) n), .func (.func 125) #[.pointer (some ⟨d, 0, none⟩)] #[], .int .u64 18446744073709551615] (w.drewN m) fun e w' => e = .returned (.tuple #[.int .i64 x, .int .i64 y]) ∧ Below (w.drewN m).heap.size (w.drewN m) w') :
    Calls Tryz.prog 141 #[.pointer (some ⟨c, 0, none⟩), .int .i64 k] w fun e w' => e = .returned (.tuple #[.int .i64 x, .int .i64 y]) ∧ Below w.heap.size w w' := by
  have c0 := h.cell0
  have c1 := h.cell2
  have hcl := lt_of_block h.cells
  have HC := hidden h
  have hmf : ∀ (fn : Fn) (first cap : Array Value) (w : World), (Instr.makeFunc fn first cap).run Tryz.prog w = .ok (.func fn first cap) w := fun _ _ _ _ => rfl
  have HF := hidden hF
  clear h hF
  go_enter Tryz.func141, Tryz.ntmps141
  go_wp2_with fail
  go_region_held (fun w' => w'.cell? ⟨c, 0, none⟩ = some (.pointer (some ⟨d, 0, none⟩)) ∧ w'.cell? ⟨c, 2, none⟩ = some (.slice (some ⟨b1, 0, none⟩) (Ck.sn (Ck.tn X n) n) (Ck.sn (Ck.tn X n) n))) (first | (exact ⟨by assumption, by assumption⟩) | go_keep)
    (first
      | (go_at_call 111; refine (HF.out 1).mono ?_; rintro e' w' ⟨rfl, hb⟩; have HB := hidden (below_undrewN hb); clear hb; have e0 := (HB.out.cell (p := ⟨c, 0, none⟩) hcl).trans HC.out.cell0; have e1 := (HB.out.cell (p := ⟨c, 2, none⟩) hcl).trans HC.out.cell2))
  go_wp2_with fail
  go_ret2
  exact ⟨rfl, HB.out⟩
theorem CZero_at (c d g r n X b0 b1 k p : Nat) (u : Value) (w : World) (h : Cz w c d g r n X b0 b1 u) (hT : Tab w) (hp : Ck.At (Ck.tn X n) n k p) :
    Calls Tryz.prog 141 #[.pointer (some ⟨c, 0, none⟩), .int .i64 (k : Nat)] w fun e w' => e = .returned (.tuple #[.int .i64 (p : Nat), .int .i64 0]) ∧ Below w.heap.size w w' :=
  CZero_of c d g r n X b0 b1 k p 0 u w h fun m => find_at 125 18446744073709551615 c d g r n X (Ck.tn X n) b1 b0 b1 k p u _ (h.drewN m) h.zeros (Kd.zero d g r n X u) (Ck.View.turned n X h.dir.row.lt) (hT.drewN m) hp
end Go.Proofs.YtoipliflphbeiaaGreatDoor
