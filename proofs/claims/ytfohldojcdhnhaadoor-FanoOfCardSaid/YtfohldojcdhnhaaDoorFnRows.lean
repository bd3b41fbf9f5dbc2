/-
  The contract of rows of package fano: the low and the high row of numbers that rise.
-/
import Derived.Test.YtfohldojcdhnhaaDoorFnFill
namespace Go.Proofs.YtfohldojcdhnhaaDoor
open Go.RowKit
namespace Fn
/-- The numbers, as ints. -/
def ints (l : List Nat) : List Int := l.map fun x : Nat => (x : Int)
theorem ints_length (l : List Nat) : (ints l).length = l.length := by simp [ints]
theorem ints_getD (l : List Nat) (k : Nat) : (ints l).getD k 0 = ((l.getD k 0 : Nat) : Int) := by
  unfold ints
  rw [List.getD_eq_getElem?_getD, List.getD_eq_getElem?_getD, List.getElem?_map]
  cases l[k]? <;> rfl
/-- The high row, as it is kept: of no numbers no bits. -/
def HB (l : List Nat) (u : Nat) : List Bool := if l.length = 0 then [] else highB l u
theorem HB_none {l : List Nat} {u : Nat} (h : l.length = 0) : HB l u = [] := by unfold HB; rw [if_pos h]
theorem HB_some {l : List Nat} {u : Nat} (h : 0 < l.length) : HB l u = highB l u := by unfold HB; rw [if_neg (by omega)]
theorem bitsTo_mod (x n : Nat) : Bt.bitsTo (x % 2 ^ n) n = Bt.bitsTo x n := by
  apply List.ext_getElem?
  intro i
  by_cases h : i < n
  · rw [Bt.bitsTo_get _ n i h, Bt.bitsTo_get _ n i h, Nat.testBit_mod_two_pow]
    simp [h]
  · rw [List.getElem?_eq_none (by rw [Bt.bitsTo_length]; omega), List.getElem?_eq_none (by rw [Bt.bitsTo_length]; omega)]
end Fn
theorem Put_low (a B k W r : Nat) (l : List Nat) (v : Value) (w : World) (h : Bd w B a (Fn.loTo l W k).length (Bt.num (Fn.loTo l W k)) v) (hW : W ≤ 40) (hk : k ≤ 16777216) (hr : r = l.getD k 0 % 2 ^ W) :
    Calls Tryd.prog 42 #[.pointer (some ⟨a, 0, none⟩), .int .u64 (r : Nat), .int .i64 (W : Nat)] w fun e w' => e = .returned (.int .i64 0) ∧ ∃ v', Bd w' B a (Fn.loTo l W (k + 1)).length (Bt.num (Fn.loTo l W (k + 1))) v' ∧ Kp w w' a v v' := by
  have hlt : r < 2 ^ W := by rw [hr]; exact Nat.mod_lt _ (Nat.two_pow_pos _)
  have e : Fn.loTo l W (k + 1) = Fn.loTo l W k ++ Bt.bitsTo r W := by rw [hr, Fn.bitsTo_mod]; rfl
  rw [e, List.length_append, Bt.bitsTo_length, Bt.num_put _ _ _ hlt]
  refine Put_ok a _ _ r W B v w h hlt (by omega) ?_
  rw [Fn.loTo_length]
  have : k * W ≤ 16777216 * 40 := Nat.mul_le_mul hk hW
  omega
theorem Two.bd_below {W wr : World} {B a b : Nat} {La Lb : List Bool} {va vb : Value} (h : Two W wr B a b La Lb va vb) {w0 w' : World} {v' : Value} (hb : Below B w0 wr) (k : Kp wr w' a va v') : Below B w0 w' := hb.trans (k.below h.fa)
theorem Two.bd_belowB {W wr : World} {B a b : Nat} {La Lb : List Bool} {va vb : Value} (h : Two W wr B a b La Lb va vb) {w0 w' : World} {v' : Value} (hb : Below B w0 wr) (k : Kp wr w' b vb v') : Below B w0 w' := hb.trans (k.below h.fb)
theorem cell_made {w : World} {o : Obj} {p : Addr} {v : Value} (h : w.cell? p = some v) : (w.alloc o).cell? p = some v := cell_after ((Below.refl _ _).alloc (Nat.le_refl _) _) h
/-- Behind the loop: the rest of rows, of the two builders. -/
def RowsPost (w : World) (l : List Nat) (u : Nat) (e : Ending) (w' : World) : Prop :=
  ∃ r0 r1 u0 u1, e = .returned (.tuple #[.pointer (some ⟨r0, 0, none⟩), .pointer (some ⟨r1, 0, none⟩)]) ∧ Rw w' r0 (Fn.lowB l u).length (Bt.num (Fn.lowB l u)) u0 ∧ Rw w' r1 (Fn.HB l u).length (Bt.num (Fn.HB l u)) u1 ∧ Below w.heap.size w w'
set_option maxHeartbeats 4000000 in
set_option maxRecDepth 100000 in
theorem rows_any (l : List Nat) (u : Nat) (v : Value) (w : World) (h : Ints w v (Fn.ints l)) (ok : Fn.Ok l u) :
    Calls Tryd.prog 33 #[v, Fn.sh l.length u] w fun e w' => RowsPost w l u e w' := by
  obtain ⟨ao, cap, hv, hcap, hc⟩ := h.cells
  rw [Fn.ints_length] at hv hcap hc
  subst hv
  have HC := hidden hc
  have hn := ok.len
  have hu1 := ok.pos
  have hu2 := ok.le
  have OK := hidden ok
  have hW40 := Fn.wdt_le (n := l.length) (show u < 2199023255552 by omega)
  have HHI := hidden fun w => highs_any l.length u w hn (by omega)
  have HHE := hidden (Fn.highsI_eq (n := l.length) hu1)
  clear hc h ok
  unfold Fn.sh at *
  obtain ⟨W, hW⟩ : ∃ W, W = Fn.wdt l.length u := ⟨_, rfl⟩
  rw [← hW] at hW40 HHI ⊢
  have HW := hidden hW
  clear hW
  go_enter Tryd.func33, Tryd.ntmps33
  go_wp2_with fail
  have HB0 : Hid (Below w.heap.size w (w.alloc (.cells #[.int .i64 (l.length : Nat), .int .i64 (u : Nat), .int .i64 (W : Nat)] 50))) := (Below.refl _ _).alloc (Nat.le_refl _) _
  have HTW := hidden (Two.new HB0.out)
  generalize hw0 : ((w.alloc (.cells #[.int .i64 (l.length : Nat), .int .i64 (u : Nat), .int .i64 (W : Nat)] 50)).alloc (.cells #[.int .i64 0, .slice none 0 0, .int .u64 0] 69)).alloc (.cells #[.int .i64 0, .slice none 0 0, .int .u64 0] 69) = w0 at HTW
  have d0 : w0.cell? ⟨w.heap.size, 0, none⟩ = some (.int .i64 (l.length : Nat)) := by rw [← hw0]; exact cell_made (cell_made (by simp))
  have d1 : w0.cell? ⟨w.heap.size, 1, none⟩ = some (.int .i64 (u : Nat)) := by rw [← hw0]; exact cell_made (cell_made (by simp))
  have d2 : w0.cell? ⟨w.heap.size, 2, none⟩ = some (.int .i64 (W : Nat)) := by rw [← hw0]; exact cell_made (cell_made (by simp))
  rw [World.size_alloc] at HTW
  have HD0 := hidden d0
  have HD1 := hidden d1
  have HD2 := hidden d2
  have HCe : Hid (Below w.heap.size w w0) := HTW.out.bel
  clear d0 d1 d2
  clear hw0
  go_loopw [13] (fun i wr => ∃ (k : Nat) (va vb : Value), k ≤ l.length ∧ i = .int .i64 k ∧ Two w wr (w.heap.size + 1) (w.heap.size + 1) (w.heap.size + 1 + 1) (Fn.loTo l W k) (Fn.hiTo l W k) va vb ∧ Below (w.heap.size + 1) w0 wr) (fun i _ => l.length - (intOf i).toNat)
  case atStart => exact ⟨0, _, _, by omega, rfl, HTW.out, Below.refl _ _⟩
  case round =>
    obtain ⟨k, va, vb, hk, rfl, ht, hbel⟩ := hrel
    have HTr := hidden ht
    have HBr := hidden hbel
    have c0 := (hbel.cell (p := ⟨w.heap.size, 0, none⟩) (Nat.lt_succ_self _)).trans HD0.out
    have c1 := (hbel.cell (p := ⟨w.heap.size, 1, none⟩) (Nat.lt_succ_self _)).trans HD1.out
    have c2 := (hbel.cell (p := ⟨w.heap.size, 2, none⟩) (Nat.lt_succ_self _)).trans HD2.out
    clear ht hbel
    by_cases hlt : k < l.length
    · obtain ⟨g, off, rfl, hg, hcell⟩ := HC.out (by omega)
      have ck := hcell k hlt
      rw [Fn.ints_getD] at ck
      have cx := (HTr.out.bel.cell (p := ⟨g, off + k, none⟩) hg).trans ck
      obtain ⟨x, hx⟩ : ∃ x, x = l.getD k 0 := ⟨_, rfl⟩
      rw [← hx] at cx
      obtain ⟨p, hp⟩ : ∃ p, p = x / 2 ^ W := ⟨_, rfl⟩
      obtain ⟨q, hq⟩ : ∃ q, q = p * 2 ^ W := ⟨_, rfl⟩
      obtain ⟨r, hr⟩ : ∃ r, r = x % 2 ^ W := ⟨_, rfl⟩
      have hxu : x < u := by rw [hx]; exact OK.out.lt k hlt
      have hsum : q + r = x := by rw [hq, hp, hr]; exact Fn.join_eq x W
      have hp2 : (x : Int) / 2 ^ W = (p : Int) := by rw [Wd.div_pow, hp]
      have hq2 : (p : Int) * 2 ^ W = (q : Int) := by rw [hq]; push_cast; rfl
      have hr2 : (x : Int) - (q : Int) = (r : Int) := by omega
      have hr3 : IntKind.u64.wrap (r : Int) = (r : Int) := by rw [IntKind.wrap_u64]; omega
      have hq3 : IntKind.i64.wrap (q : Int) = (q : Int) := by rw [IntKind.wrap_i64]; omega
      have hr4 : IntKind.i64.wrap (r : Int) = (r : Int) := by rw [IntKind.wrap_i64]; omega
      have hpx : p ≤ x := by rw [hp]; exact Nat.div_le_self _ _
      have HP := hidden (Put_low (w.heap.size + 1) (w.heap.size + 1) k W r l va wr.drew HTr.out.drew.fa (by omega) (by omega) (by rw [hr, hx]))
      have hpc : Fn.pc l W k = k + p := by unfold Fn.pc; rw [← hx, hp]
      have HPC := hidden hpc
      have hpt : p ≤ Fn.top l.length u := by rw [hp, hx, HW.out]; exact OK.out.part_le hlt
      have htop := Fn.top_lt (n := l.length) (u := u) (by omega) (by omega)
      clear hcell ck hx hp hq hr hsum hpc
      have hpb : p < 33554432 := by omega
      clear hpt htop
      go_wp2_with fail
      go_region_held (fun w' => w'.cell? ⟨w.heap.size, 2, none⟩ = some (.int .i64 (W : Nat))) (go_keep)
        (first
          | (go_at_call 42; refine (HP.out).mono ?_; rintro e' w1 ⟨rfl, v1, hq1, hq2⟩; have HT1 := hidden (HTr.out.drew.putA hq1 hq2); have HB1 : Hid (Below (w.heap.size + 1) w0 w1) := (Below.drew HBr.out).trans (hq2.below HTr.out.drew.fa); clear hq1 hq2; have c2' := (HB1.out.cell (p := ⟨w.heap.size, 2, none⟩) (Nat.lt_succ_self _)).trans HD2.out))
      go_wp2_with fail
      refine (fill_any (w.heap.size + 1 + 1) (w.heap.size + 1) (k + p) _ (Fn.hiTo l W k) vb w1 HT1.out.fb (by omega) (by omega)).mono ?_
      rintro e' w2 ⟨rfl, v2, hq1, hq2⟩
      have HT2 := hidden (HT1.out.putB hq1 hq2)
      have HB2 : Hid (Below (w.heap.size + 1) w0 w2) := HB1.out.trans (hq2.below HT1.out.fb)
      clear hq1 hq2
      have hle : (Fn.pad (Fn.hiTo l W k) (k + p)).length ≤ 4294967295 := by
        have := HT1.out.fb.len
        have := Fn.hiTo_le OK.out.up W k hlt
        rw [HPC.out] at this
        rw [Fn.pad_length]
        omega
      have HLE := hidden hle
      clear hle
      go_wp2_with fail
      refine (Bit_list (w.heap.size + 1 + 1) (w.heap.size + 1) _ v2 true w2 HT2.out.fb (by have := HLE.out; omega)).mono ?_
      rintro e' w3 ⟨rfl, v3, hq1, hq2⟩
      have HT3 := hidden (HT2.out.putB hq1 hq2)
      have HB3 : Hid (Below (w.heap.size + 1) w0 w3) := HB2.out.trans (hq2.below HT2.out.fb)
      clear hq1 hq2
      go_wp2_with fail
      go_roundw
      case rel =>
        refine ⟨k + 1, v1, v3, by omega, by go_num, ?_, HB3.out⟩
        have e := HT3.out
        rw [← HPC.out] at e
        exact e
      case measure => simp [intOf]; omega
    · obtain rfl : k = l.length := by omega
      obtain ⟨N, hN⟩ : ∃ N, N = l.length := ⟨_, rfl⟩
      have HN := hidden hN
      rw [← hN] at HTr c0 hn HHI hcap ⊢
      have hle := Fn.highs_le (n := l.length) (u := u)
      rw [← hN] at hle
      have HHL : Hid (0 < N → Fn.highs N u ≤ 50331648) := fun h => hle h hn (by omega)
      rw [← hN] at HHE
      clear hN hle
      by_cases h0 : 0 < N
      · have d0 : decide ((0 : Int) < (N : Int)) = true := by simpa using h0
        go_wp2_with fail
        refine (HHI.out _).mono ?_
        rintro e' w1 ⟨rfl, hq⟩
        have HT1 := hidden (HTr.out.below hq)
        clear hq
        go_wp2_with fail
        refine (fill_any (w.heap.size + 1 + 1) (w.heap.size + 1) (Fn.highs N u) _ (Fn.hiTo l W N) vb w1 HT1.out.fb (by have := HHL.out h0; omega) HHE.out).mono ?_
        rintro e' w2 ⟨rfl, v2, hq1, hq2⟩
        have HT2 := hidden (HT1.out.putB hq1 hq2)
        clear hq1 hq2
        go_wp2_with fail
        refine (BRow_any _ _ _ _ _ _ HT2.out.fa).mono ?_
        rintro e' w3 ⟨r0, u0, rfl, hr0, hb3, _, _⟩
        have HR0 := hidden hr0
        have HT3 := hidden (HT2.out.below hb3)
        clear hr0 hb3
        go_wp2_with fail
        refine (BRow_any _ _ _ _ _ _ HT3.out.fb).mono ?_
        rintro e' w4 ⟨r1, u1, rfl, hr1, hb4, _, _⟩
        have HR1 := hidden hr1
        have HR0' := hidden (HR0.out.below hb4 (Nat.le_refl _))
        have HT4 := hidden (HT3.out.below hb4)
        clear hr1 hb4
        go_wp2_with fail
        go_ret2
        have e0 := HR0'.out
        have e1 := HR1.out
        rw [HW.out, HN.out] at e0 e1
        refine ⟨r0, r1, u0, u1, rfl, e0, ?_, HT4.out.bel⟩
        rw [Fn.HB_some (by rw [← HN.out]; exact h0)]
        exact e1
      · have d0 : decide ((0 : Int) < (N : Int)) = false := by simpa using h0
        go_wp2_with fail
        refine (BRow_any _ _ _ _ _ _ HTr.out.fa).mono ?_
        rintro e' w3 ⟨r0, u0, rfl, hr0, hb3, _, _⟩
        have HR0 := hidden hr0
        have HT3 := hidden (HTr.out.below hb3)
        clear hr0 hb3
        go_wp2_with fail
        refine (BRow_any _ _ _ _ _ _ HT3.out.fb).mono ?_
        rintro e' w4 ⟨r1, u1, rfl, hr1, hb4, _, _⟩
        have HR1 := hidden hr1
        have HR0' := hidden (HR0.out.below hb4 (Nat.le_refl _))
        have HT4 := hidden (HT3.out.below hb4)
        clear hr1 hb4
        go_wp2_with fail
        go_ret2
        have e0 := HR0'.out
        have e1 := HR1.out
        rw [HW.out, HN.out] at e0
        obtain rfl : N = 0 := by omega
        refine ⟨r0, r1, u0, u1, rfl, e0, ?_, HT4.out.bel⟩
        rw [Fn.HB_none HN.out.symm]
        exact e1
end Go.Proofs.YtfohldojcdhnhaaDoor
