/-
  The walk of the law BitsEach: it returns true for every list of Puts; nothing that was there is changed.
-/
import Derived.Test.YtkendkohobfnnaaBtAwake
import Derived.Test.YtkendkohobfnnaaBtBytes
import Derived.Test.YtkendkohobfnnaaTwo
import Derived.Deep.RegionHeldLaw
namespace Go.Proofs.Ytkendkohobfnnaa
open Go.RowKit
theorem bd_list {w : World} {B b : Nat} {L : List Bool} {v : Value} (x N : Nat) (hx : x < 2 ^ N) (h : Bd w B b (L.length + N) (Bt.num L + x * 2 ^ L.length) v) : Bd w B b (L ++ Bt.bitsTo x N).length (Bt.num (L ++ Bt.bitsTo x N)) v := by
  rw [List.length_append, Bt.bitsTo_length, Bt.num_put L x N hx]
  exact h
set_option maxHeartbeats 1000000 in
theorem BitsEach_long (l : List (Nat × Int)) (u : Value) (w : World) (h : Ops w u l) (hl : 60 < l.length) (hm : l.length ≤ 9223372036854775807) :
    Calls Try.prog 8 #[u] w fun e w' => e = .returned (.bool true) ∧ Below w.heap.size w w' := by
  obtain ⟨ao, cap, rfl, hcap, hc⟩ := h.cells
  clear h hc
  go_enter Try.func8, Try.ntmps8
  go_wp2_with fail
  refine (awake_any w).mono ?_
  rintro e w1 ⟨rfl, hq1⟩
  have HQ1 := hidden hq1
  clear hq1
  go_wp2_with fail
  refine (awake_any w1).mono ?_
  rintro e w2 ⟨rfl, hq2⟩
  have HQ2 := hidden hq2
  clear hq2
  go_wp2_with fail
  go_ret
  exact ⟨rfl, HQ1.out.trans (HQ2.out.mono HQ1.out.size)⟩
set_option maxHeartbeats 4000000 in
theorem BitsEach_short (l : List (Nat × Int)) (u : Value) (w : World) (h : Ops w u l) (hl : l.length ≤ 60) :
    Calls Try.prog 8 #[u] w fun e w' => e = .returned (.bool true) ∧ Below w.heap.size w w' := by
  obtain ⟨ao, cap, rfl, hcap, hc⟩ := h.cells
  have HC := hidden hc
  have HLT := hidden h.lt
  clear hc h
  go_enter Try.func8, Try.ntmps8
  go_wp2_with fail
  refine (awake_any w).mono ?_
  rintro e w1 ⟨rfl, hq1⟩
  have HQ1 := hidden hq1
  clear hq1
  go_wp2_with fail
  go_loopw [5] (fun i wr => ∃ (k : Nat) (va vb : Value), k ≤ l.length ∧ i = .int .i64 k ∧ Two w wr w1.heap.size w1.heap.size (w1.heap.size + 1) (Bt.all (l.take k)) (Bt.all (l.take k)) va vb) (fun i _ => l.length - (intOf i).toNat)
  case atStart => exact ⟨0, _, _, by omega, rfl, Two.new HQ1.out⟩
  case round =>
    obtain ⟨k, va, vb, hk, rfl, htwo⟩ := hrel
    have HT := hidden htwo
    have hbb := hidden htwo.bel
    clear htwo
    by_cases hlt : k < l.length
    · obtain ⟨b, off, rfl, hb, hcell⟩ := HC.out (by omega)
      obtain ⟨x, n, hxn⟩ : ∃ x n, l[k]? = some (x, n) := ⟨l[k].1, l[k].2, by rw [List.getElem?_eq_getElem hlt]⟩
      have hg : l.getD k (0, 0) = (x, n) := by rw [List.getD_eq_getElem?_getD, hxn]; rfl
      have hcc := hcell k hlt
      rw [hg] at hcc
      have HCC := hidden hcc
      have c0 := (hbb.out.cell (p := ⟨b, off + k * 2, none⟩) hb).trans hcc.1
      have c1 := (hbb.out.cell (p := ⟨b, off + k * 2 + 1, none⟩) hb).trans hcc.2
      have hx : x < 18446744073709551616 := HLT.out (x, n) (List.mem_of_getElem? hxn)
      have HXN := hidden hxn
      have hlen := Bt.all_length l k
      clear hcell hxn hg hcc
      have i0 : (0 : Int) ≤ (k : Int) := by omega
      have i1 : (k : Int) < (l.length : Int) := by omega
      by_cases hok : Bt.okB (x, n) = true
      · obtain ⟨N, hnN, hN, hxN⟩ := Bt.okB_true hok
        subst hnN
        go_wp2_with fail
        go_region_held (fun w' => w'.cell? ⟨b, off + k * 2, none⟩ = some (.int .u64 x) ∧ w'.cell? ⟨b, off + k * 2 + 1, none⟩ = some (.int .i64 (N : Nat))) (first | (exact ⟨by assumption, by assumption⟩) | go_keep)
          (first
            | (go_at_call 12; refine (Put_ok w1.heap.size _ _ x N w1.heap.size va _ HT.out.fa.drew hxN hN (by omega)).mono ?_; rintro e w4 ⟨rfl, va4, hq3, hq4⟩; have HT4 : Hid (Two w w4 w1.heap.size w1.heap.size (w1.heap.size + 1) (Bt.all (l.take k) ++ Bt.bitsTo x N) (Bt.all (l.take k)) va4 vb) := HT.out.putA (bd_list x N hxN hq3) hq4.undrew; clear hq3 hq4; have hb4 := hidden HT4.out.bel; have e0 := (hb4.out.cell (p := ⟨b, off + k * 2, none⟩) hb).trans HCC.out.1; have e1 := (hb4.out.cell (p := ⟨b, off + k * 2 + 1, none⟩) hb).trans HCC.out.2))
        go_wp2_with fail
        go_loopw [6] (fun i wr => ∃ (j : Nat) (vb : Value), j ≤ N ∧ i = .int .i64 j ∧ Two w wr w1.heap.size w1.heap.size (w1.heap.size + 1) (Bt.all (l.take k) ++ Bt.bitsTo x N) (Bt.all (l.take k) ++ Bt.bitsTo x j) va4 vb) (fun i _ => N - (intOf i).toNat)
        case atStart => exact ⟨0, vb, by omega, rfl, by rw [show Bt.bitsTo x 0 = [] from rfl, List.append_nil]; exact HT4.out⟩
        case round =>
          obtain ⟨j, vb5, hj, rfl, ht5⟩ := hrel
          have HT5 := hidden ht5
          have hb5 := hidden ht5.bel
          have e0 := (hb5.out.cell (p := ⟨b, off + k * 2, none⟩) hb).trans HCC.out.1
          have e1 := (hb5.out.cell (p := ⟨b, off + k * 2 + 1, none⟩) hb).trans HCC.out.2
          clear ht5
          by_cases hjl : j < N
          · obtain ⟨o, ho⟩ : ∃ o, o = x.testBit j := ⟨_, rfl⟩
            have hbit : (bits BinOp.and IntKind.u64 ((x : Int) / 2 ^ j) 1 == 1) = o := by rw [Wd.bit_and x j hx, Bt.bt_beq, ho]
            have HO := hidden ho
            clear ho
            go_wp2_with fail
            refine (Bit_list (w1.heap.size + 1) w1.heap.size _ vb5 o _ HT5.out.fb (by rw [List.length_append, Bt.bitsTo_length]; omega)).mono ?_
            rintro e w6 ⟨rfl, vb6, h1, h2⟩
            have HT6 := hidden (HT5.out.putB h1 h2)
            clear h1 h2
            go_wp2_with fail
            go_roundw
            case rel => exact ⟨j + 1, vb6, by omega, by go_num, by rw [Bt.bitsTo_succ, ← List.append_assoc, ← HO.out]; exact HT6.out⟩
            case measure => simp [intOf]; omega
          · obtain rfl : j = N := by omega
            go_wp2_with fail
            go_roundw
            case rel => exact ⟨k + 1, va4, vb5, by omega, by go_num, by rw [Bt.all_take_succ l k _ HXN.out]; unfold Bt.putB; rw [if_pos hok]; exact HT5.out⟩
            case measure => simp [intOf]; omega
      · go_wp2_with fail
        go_region_held (fun w' => w'.cell? ⟨b, off + k * 2, none⟩ = some (.int .u64 x) ∧ w'.cell? ⟨b, off + k * 2 + 1, none⟩ = some (.int .i64 n)) (first | (exact ⟨by assumption, by assumption⟩) | go_keep)
          (first
            | (go_at_call 12; refine (Put_args w1.heap.size _ _ x w1.heap.size n va _ HT.out.fa.drew hx (Bt.okB_false (by simpa using hok))).mono ?_; rintro e w4 ⟨rfl, rfl⟩))
        go_wp2_with fail
        go_roundw
        case rel => exact ⟨k + 1, va, vb, by omega, by go_num, by rw [Bt.all_take_succ l k (x, n) HXN.out]; unfold Bt.putB; rw [if_neg hok]; exact HT.out.drew⟩
        case measure => simp [intOf]; omega
    · obtain rfl : k = l.length := by omega
      have hL := Bt.all_length l l.length
      generalize Bt.all (l.take l.length) = L at *
      go_wp2_with fail
      refine (BLen_any w1.heap.size _ _ w1.heap.size va _ HT.out.fa).mono ?_
      rintro e w2 ⟨rfl, rfl⟩
      go_wp2_with fail
      refine (BLen_any (w1.heap.size + 1) _ _ w1.heap.size vb _ HT.out.fb).mono ?_
      rintro e w3 ⟨rfl, rfl⟩
      go_wp2_with fail
      refine (BRow_any w1.heap.size _ _ w1.heap.size va _ HT.out.fa).mono ?_
      rintro e w4 ⟨r4, u4, rfl, h1, h2, h3, h4⟩
      have HR4 := hidden h1
      have HT4 := hidden (HT.out.below h2)
      clear h1 h2 h3 h4
      go_wp2_with fail
      refine (Bytes_any r4 _ _ u4 _ HR4.out).mono ?_
      rintro e w5 ⟨rfl, h2⟩
      have HT5 := hidden (HT4.out.below h2)
      clear h2
      go_wp2_with fail
      refine (BRow_any (w1.heap.size + 1) _ _ w1.heap.size vb _ HT5.out.fb).mono ?_
      rintro e w6 ⟨r6, u6, rfl, h1, h2, h3, h4⟩
      have HR6 := hidden h1
      have HT6 := hidden (HT5.out.below h2)
      clear h1 h2 h3 h4
      go_wp2_with fail
      refine (Bytes_any r6 _ _ u6 _ HR6.out).mono ?_
      rintro e w7 ⟨rfl, h2⟩
      have HT7 := hidden (HT6.out.below h2)
      clear h2
      go_wp2_with fail
      go_ret
      exact ⟨ret_bool (by simp), HT7.out.bel⟩
theorem BitsEach_walk (l : List (Nat × Int)) (u : Value) (w : World) (h : Ops w u l) (hm : l.length ≤ 9223372036854775807) :
    Calls Try.prog 8 #[u] w fun e w' => e = .returned (.bool true) ∧ Below w.heap.size w w' := by
  by_cases hl : l.length ≤ 60
  · exact BitsEach_short l u w h hl
  · exact BitsEach_long l u w h (by omega) hm
end Go.Proofs.Ytkendkohobfnnaa
