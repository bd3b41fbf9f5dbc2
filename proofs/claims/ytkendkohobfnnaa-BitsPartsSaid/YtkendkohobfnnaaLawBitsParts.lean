/-
  The walk of the law BitsParts: it returns true for every list of Puts and every number of 16 bits; nothing that was there is changed.
-/
import Derived.Test.YtkendkohobfnnaaBtAwake
import Derived.Test.YtkendkohobfnnaaBtBytes
import Derived.Test.YtkendkohobfnnaaBtClip
import Derived.Test.YtkendkohobfnnaaOpsBelow
namespace Go.Proofs.Ytkendkohobfnnaa
open Go.RowKit
namespace Bt
theorem cut_next (X k : Nat) : cut X 0 (k + 1) = cut X 0 k + (X.testBit k).toNat * 2 ^ k := by
  unfold cut
  rw [Nat.pow_zero, Nat.div_one, Wd.mod_succ, Wd.bt_testBit]
theorem cut_whole (X n : Nat) (h : X < 2 ^ n) : cut X 0 n = X := by
  unfold cut
  rw [Nat.pow_zero, Nat.div_one, Nat.mod_eq_of_lt h]
theorem cut_none (X f : Nat) : cut X f 0 = 0 := by unfold cut; rw [Nat.pow_zero, Nat.mod_one]
end Bt
theorem Bit_cut (b B X k : Nat) (v : Value) (o : Bool) (w : World) (h : Bd w B b k (Bt.cut X 0 k) v) (ho : o = X.testBit k) (hk : k + 1 ≤ 4294967296) :
    Calls Try.prog 27 #[.pointer (some ⟨b, 0, none⟩), .bool o] w fun e w' => e = .returned (.int .i64 0) ∧ ∃ v', Bd w' B b (k + 1) (Bt.cut X 0 (k + 1)) v' ∧ Kp w w' b v v' := by
  rw [Bt.cut_next, ← ho]
  exact Bit_ok b k _ B o v w h hk
set_option maxHeartbeats 1000000 in
theorem BitsParts_long (l : List (Nat × Int)) (u : Value) (kk : Int) (w : World) (h : Ops w u l) (hl : 60 < l.length) (hm : l.length ≤ 9223372036854775807) :
    Calls Try.prog 7 #[u, .int .u16 kk] w fun e w' => e = .returned (.bool true) ∧ Below w.heap.size w w' := by
  obtain ⟨ao, cap, rfl, hcap, hc⟩ := h.cells
  clear h hc
  go_enter Try.func7, Try.ntmps7
  go_wp2_with fail
  refine (awake_any w).mono ?_
  rintro e w1 ⟨rfl, hq1⟩
  have HQ1 := hidden hq1
  clear hq1
  go_wp2_with fail
  refine (awake_any w1).mono ?_
  rintro e w2 ⟨rfl, hq2⟩
  have HQ2 := hidden hq2
  clear hq2
  go_wp2_with fail
  go_ret
  exact ⟨rfl, HQ1.out.trans (HQ2.out.mono HQ1.out.size)⟩
set_option maxHeartbeats 4000000 in
theorem BitsParts_short (l : List (Nat × Int)) (u : Value) (kk : Int) (w : World) (h : Ops w u l) (hl : l.length ≤ 60) (hk0 : 0 ≤ kk) (hk1 : kk ≤ 65535) :
    Calls Try.prog 7 #[u, .int .u16 kk] w fun e w' => e = .returned (.bool true) ∧ Below w.heap.size w w' := by
  have HH := hidden h
  have hL := Bt.all_length l l.length
  rw [List.take_of_length_le (Nat.le_refl _)] at hL
  obtain ⟨ao, cap, hu, hcap, _⟩ := h.cells
  subst hu
  clear h
  go_enter Try.func7, Try.ntmps7
  go_wp2_with fail
  refine (awake_any w).mono ?_
  rintro e' w1 ⟨rfl, hq1⟩
  have HQ1 := hidden hq1
  have HO1 := hidden (HH.out.below hq1 (Nat.le_refl _))
  clear hq1
  go_wp2_with fail
  refine (All_any l _ w1 HO1.out hl).mono ?_
  rintro e' w2 ⟨v2, rfl, hb2, hq2⟩
  have HB2 : Hid (Bl w2 v2 (Bt.all l)) := hb2
  have HQ2 := hidden (HQ1.out.trans (hq2.mono HQ1.out.size))
  clear hb2 hq2
  generalize Bt.all l = L at *
  go_wp2_with fail
  refine (Made_any L v2 w2 HB2.out (by omega)).mono ?_
  rintro e' w3 ⟨r3, u3, rfl, hr3, hq3, _, _⟩
  have HR3 := hidden hr3
  have HX := hidden hr3.lt
  have HQ3 := hidden (HQ2.out.trans (hq3.mono HQ2.out.size))
  clear hr3 hq3 HB2
  generalize Bt.num L = X at *
  generalize L.length = n at *
  obtain ⟨p, hp⟩ : ∃ p : Nat, min kk (n : Int) = (p : Int) := ⟨(min kk (n : Int)).toNat, by omega⟩
  have hpn : p ≤ n := by omega
  have HP := hidden hp
  clear hp
  go_wp2_with fail
  refine (Clip_core r3 n X 0 p 0 kk u3 _ HR3.out (by omega) hpn (by omega) (by have := HP.out; omega)).mono ?_
  rintro e' w4 ⟨r4, u4, rfl, hr4, hq4, _, _⟩
  rw [Nat.sub_zero] at hr4
  have HR4 := hidden hr4
  have HX4 := hidden (HR3.out.below hq4 (Nat.le_refl _))
  have HQ4 := hidden (HQ3.out.trans (hq4.mono HQ3.out.size))
  clear hr4 hq4
  go_wp2_with fail
  refine (RLen_any r3 n X u3 _ HX4.out).mono ?_
  rintro e' w5 ⟨rfl, rfl⟩
  go_wp2_with fail
  refine (Clip_core r3 n X p n kk (n : Int) u3 _ HX4.out hpn (Nat.le_refl _) (by have := HP.out; omega) (by omega)).mono ?_
  rintro e' w6 ⟨r6, u6, rfl, hr6, hq6, _, _⟩
  have HR6 := hidden hr6
  have HX6 := hidden (HX4.out.below hq6 (Nat.le_refl _))
  have HA6 := hidden (HR4.out.below hq6 (Nat.le_refl _))
  have HQ6 := hidden (HQ4.out.trans (hq6.mono HQ4.out.size))
  clear hr6 hq6
  go_wp2_with fail
  go_loopw [11] (fun i wr => ∃ (k : Nat) (vb : Value), k ≤ p ∧ i = .int .i64 k ∧ Bd wr w6.heap.size w6.heap.size k (Bt.cut X 0 k) vb ∧ Below w6.heap.size w6 wr) (fun i _ => p - (intOf i).toNat)
  case atStart => exact ⟨0, _, by omega, rfl, by rw [Bt.cut_none]; exact Bd.new w6, (Below.refl _ _).alloc (Nat.le_refl _) _⟩
  case round =>
    obtain ⟨k, vb, hk, rfl, hb, hbel⟩ := hrel
    have HB := hidden hb
    have HBL := hidden hbel
    have HAr := hidden (HA6.out.below hbel (Nat.le_refl _))
    clear hb hbel
    by_cases hlt : k < p
    · go_wp2_with fail
      refine (RLen_any r4 _ _ u4 _ HAr.out).mono ?_
      rintro e' w7 ⟨rfl, rfl⟩
      go_wp2_with fail
      refine (Get_in r4 _ _ k u4 _ HAr.out hlt).mono ?_
      rintro e' w8 ⟨rfl, rfl⟩
      go_wp2_with fail
      refine (Bit_cut w6.heap.size w6.heap.size X k vb _ _ HB.out (by rw [Bt.testBit_cut, decide_eq_true hlt, Bool.true_and, Nat.zero_add]) (by omega)).mono ?_
      rintro e' w9 ⟨rfl, vb9, h1, h2⟩
      have HB9 := hidden h1
      have HBL9 := hidden (HBL.out.trans (h2.below HB.out))
      clear h1 h2
      go_wp2_with fail
      go_roundw
      case rel => exact ⟨k + 1, vb9, by omega, by go_num, HB9.out, HBL9.out⟩
      case measure => simp [intOf]; omega
    · obtain rfl : k = p := by omega
      go_wp2_with fail
      refine (RLen_any r4 _ _ u4 _ HAr.out).mono ?_
      rintro e' w7 ⟨rfl, rfl⟩
      go_wp2_with fail
      go_loopw [12] (fun i wr => ∃ (j : Nat) (vb : Value), j ≤ n - k ∧ i = .int .i64 j ∧ Bd wr w6.heap.size w6.heap.size (k + j) (Bt.cut X 0 (k + j)) vb ∧ Below w6.heap.size w6 wr) (fun i _ => n - k - (intOf i).toNat)
      case atStart => exact ⟨0, vb, by omega, rfl, HB.out, HBL.out⟩
      case round =>
        obtain ⟨j, vb2, hj, rfl, hb, hbel⟩ := hrel
        have HB2 := hidden hb
        have HBL2 := hidden hbel
        have HCr := hidden (HR6.out.below hbel (Nat.le_refl _))
        clear hb hbel
        by_cases hjl : j < n - k
        · go_wp2_with fail
          refine (RLen_any r6 _ _ u6 _ HCr.out).mono ?_
          rintro e' w8 ⟨rfl, rfl⟩
          go_wp2_with fail
          refine (Get_in r6 _ _ j u6 _ HCr.out hjl).mono ?_
          rintro e' w9 ⟨rfl, rfl⟩
          go_wp2_with fail
          refine (Bit_cut w6.heap.size w6.heap.size X (k + j) vb2 _ _ HB2.out (by rw [Bt.testBit_cut, decide_eq_true hjl, Bool.true_and]) (by omega)).mono ?_
          rintro e' w10 ⟨rfl, vb9, h1, h2⟩
          have HB9 := hidden h1
          have HBL9 := hidden (HBL2.out.trans (h2.below HB2.out))
          clear h1 h2
          go_wp2_with fail
          go_roundw
          case rel => exact ⟨j + 1, vb9, by omega, by go_num, HB9.out, HBL9.out⟩
          case measure => simp [intOf]; omega
        · obtain rfl : j = n - k := by omega
          have hb := HB2.out
          rw [show k + (n - k) = n from by omega, Bt.cut_whole X n HX.out] at hb
          have HB3 := hidden hb
          have HXr := hidden (HX6.out.below HBL2.out (Nat.le_refl _))
          have HAr2 := hidden (HA6.out.below HBL2.out (Nat.le_refl _))
          clear hb
          go_wp2_with fail
          refine (RLen_any r6 _ _ u6 _ HCr.out).mono ?_
          rintro e' w8 ⟨rfl, rfl⟩
          go_wp2_with fail
          refine (BRow_any w6.heap.size n X w6.heap.size vb2 _ HB3.out).mono ?_
          rintro e' w9 ⟨r9, u9, rfl, h1, h2, _, _⟩
          have HR9 := hidden h1
          have HX9 := hidden (HXr.out.below h2 (Nat.le_refl _))
          have HA9 := hidden (HAr2.out.below h2 (Nat.le_refl _))
          have HL9 := hidden (HBL2.out.trans (h2.mono HBL2.out.size))
          clear h1 h2
          go_wp2_with fail
          refine (Bytes_any r9 n X u9 _ HR9.out).mono ?_
          rintro e' w10 ⟨rfl, h2⟩
          have HX10 := hidden (HX9.out.below h2 (Nat.le_refl _))
          have HA10 := hidden (HA9.out.below h2 (Nat.le_refl _))
          have HL10 := hidden (HL9.out.trans (h2.mono HL9.out.size))
          clear h2
          go_wp2_with fail
          refine (Bytes_any r3 n X u3 _ HX10.out).mono ?_
          rintro e' w11 ⟨rfl, h2⟩
          have HX11 := hidden (HX10.out.below h2 (Nat.le_refl _))
          have HA11 := hidden (HA10.out.below h2 (Nat.le_refl _))
          have HL11 := hidden (HL10.out.trans (h2.mono HL10.out.size))
          clear h2
          go_wp2_with fail
          refine (RLen_any r4 _ _ u4 _ HA11.out).mono ?_
          rintro e' w12 ⟨rfl, rfl⟩
          go_wp2_with fail
          refine (RLen_any r3 _ _ u3 _ HX11.out).mono ?_
          rintro e' w13 ⟨rfl, rfl⟩
          go_wp2_with fail
          go_ret
          refine ⟨ret_bool ?_, HQ6.out.trans (HL11.out.mono HQ6.out.size)⟩
          have hp := HP.out
          simp [hp]
theorem BitsParts_walk (l : List (Nat × Int)) (u : Value) (kk : Int) (w : World) (h : Ops w u l) (hm : l.length ≤ 9223372036854775807) (hk0 : 0 ≤ kk) (hk1 : kk ≤ 65535) :
    Calls Try.prog 7 #[u, .int .u16 kk] w fun e w' => e = .returned (.bool true) ∧ Below w.heap.size w w' := by
  by_cases hl : l.length ≤ 60
  · exact BitsParts_short l u kk w h hl hk0 hk1
  · exact BitsParts_long l u kk w h (by omega) hm
end Go.Proofs.Ytkendkohobfnnaa
