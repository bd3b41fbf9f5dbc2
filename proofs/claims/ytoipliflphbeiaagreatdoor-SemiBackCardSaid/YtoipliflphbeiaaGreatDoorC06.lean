/-
  The contracts of put of package fano, and of a sequence's Bytes, Size and Over: for every sequence whose bits a row may have.
  What a record's index has, by mathematics alone: what is wrong with a record, the bound of its marks' places, its bytes, its size. Of no program.
  Two records in an array: what their indexes tell, by mathematics alone.
-/
import Derived.Lib.QuietBelow
import Derived.Test.YtoipliflphbeiaaGreatDoorJFnMake
import Derived.Test.YtoipliflphbeiaaGreatDoorJBtOf
import Derived.Test.YtoipliflphbeiaaGreatDoorJBtRefB
import Derived.Test.YtoipliflphbeiaaGreatDoorC00
import Derived.Test.YtoipliflphbeiaaGreatDoorC02
import Derived.Test.YtoipliflphbeiaaGreatDoorJMath
namespace Go.Proofs.YtoipliflphbeiaaGreatDoor
open Go.RowKit Go.Sort
theorem Rw.under {w w' : World} {r n X C : Nat} {u : Value} (h : Rw w r n X u) (hr : r < C) (hu : ∀ k, u.ownBlock = some k → k < C) (hb : Below C w w') : Rw w' r n X u :=
  ⟨h.len, h.lt, by rw [hb.block r hr]; exact h.cells, own_same h.own fun k hk => hb.block k (hu k hk)⟩
theorem Put_bits (b B k x : Nat) (A : List Bool) (v : Value) (w : World) (h : Bd w B b A.length (Bt.num A) v) (hx : x < 2 ^ k) (hk : k ≤ 64) (hn : A.length + k ≤ 4294967296) :
    Calls Tryz.prog 69 #[.pointer (some ⟨b, 0, none⟩), .int .u64 (x : Nat), .int .i64 (k : Nat)] w fun e w' => e = .returned (.int .i64 0) ∧ ∃ v', Bd w' B b (A ++ Bt.bitsTo x k).length (Bt.num (A ++ Bt.bitsTo x k)) v' ∧ Kp w w' b v v' := by
  rw [List.length_append, Bt.bitsTo_length, Bt.num_put A x k hx]
  exact Put_ok b _ _ x k B v w h hx hk hn
namespace Fn
theorem word_lt (L : List Bool) (k : Nat) : Bt.wd (Bt.num L) k < 2 ^ min 64 (L.length - 64 * k) := by
  rw [Bt.wd_fd (Bt.num L) L.length k (Bt.num_lt L)]
  exact Bt.fd_lt _ _ _
theorem take_word (L : List Bool) (k : Nat) : L.take (64 * k) ++ Bt.bitsTo (Bt.wd (Bt.num L) k) (min 64 (L.length - 64 * k)) = L.take (64 * (k + 1)) := by
  apply List.ext_getElem?
  intro i
  by_cases h1 : i < 64 * k
  · by_cases h2 : i < L.length
    · rw [List.getElem?_append_left (by rw [List.length_take]; omega), List.getElem?_take, if_pos h1, List.getElem?_take, if_pos (by omega)]
    · rw [List.getElem?_eq_none (by rw [List.length_append, List.length_take, Bt.bitsTo_length]; omega), List.getElem?_eq_none (by rw [List.length_take]; omega)]
  · by_cases h2 : i < L.length
    · have hlen : (L.take (64 * k)).length = 64 * k := by rw [List.length_take]; omega
      rw [List.getElem?_append_right (by omega), hlen, List.getElem?_take]
      by_cases h3 : i < 64 * (k + 1)
      · rw [if_pos h3, Bt.bitsTo_get _ _ _ (by omega), List.getElem?_eq_getElem h2]
        congr 1
        rw [Wd.testBit_bt, Bt.bt_wd, if_pos (by omega), show 64 * k + (i - 64 * k) = i from by omega, ← Wd.testBit_bt, Bt.testBit_num, List.getD_eq_getElem?_getD, List.getElem?_eq_getElem h2]
        rfl
      · rw [if_neg h3, List.getElem?_eq_none (by rw [Bt.bitsTo_length]; omega)]
    · rw [List.getElem?_eq_none (by rw [List.length_append, List.length_take, Bt.bitsTo_length]; omega), List.getElem?_eq_none (by rw [List.length_take]; omega)]
end Fn
set_option maxHeartbeats 1000000 in
theorem put_any (b B r : Nat) (A L : List Bool) (v u : Value) (w : World) (h : Bd w B b A.length (Bt.num A) v) (hr : Rw w r L.length (Bt.num L) u) (hrB : r < B) (huB : ∀ k, u.ownBlock = some k → k < B) (hm : A.length + L.length ≤ 4294967296) :
    Calls Tryz.prog 70 #[.pointer (some ⟨b, 0, none⟩), .pointer (some ⟨r, 0, none⟩)] w fun e w' => e = .returned (.tuple #[]) ∧ ∃ v', Bd w' B b (A ++ L).length (Bt.num (A ++ L)) v' ∧ Kp w w' b v v' := by
  have HB := hidden h
  have HR := hidden hr
  have HUB := hidden huB
  clear h hr huB
  go_enter Tryz.func70, Tryz.ntmps70
  go_wp2
  go_loopw [4] (fun i wr => ∃ (k : Nat) (vb : Value), 64 * k ≤ L.length + 63 ∧ i = .int .i64 ((64 * k : Nat) : Int) ∧ Bd wr B b (A ++ L.take (64 * k)).length (Bt.num (A ++ L.take (64 * k))) vb ∧ Kp w wr b v vb) (fun i _ => L.length + 64 - (intOf i).toNat)
  case atStart => exact ⟨0, v, by omega, rfl, by rw [Nat.mul_zero, List.take_zero, List.append_nil]; exact HB.out, Kp.refl _ _ _⟩
  case round =>
    obtain ⟨k, vb, hk, rfl, hb, hkp⟩ := hrel
    have HBk := hidden hb
    have HKP := hidden hkp
    have HRr := hidden (HR.out.under hrB HUB.out (hkp.below HB.out))
    clear hb hkp
    obtain ⟨n, hn⟩ : ∃ n, n = L.length := ⟨_, rfl⟩
    rw [← hn] at HRr hk
    have HLen := hidden (RLen_any r n _ u wr HRr.out)
    by_cases hlt : 64 * k < n
    · obtain ⟨W, hW⟩ : ∃ W : Nat, W = min 64 (n - 64 * k) := ⟨_, rfl⟩
      have hW2 : min (64 : Int) ((n : Int) - ((64 * k : Nat) : Int)) = (W : Int) := by omega
      have hdiv : ((64 * k : Nat) : Int) / 64 = (k : Int) := by omega
      have HWD := hidden (Word_in r n (Bt.num L) k u wr HRr.out (by omega))
      have hx := Fn.word_lt L k
      have ht := Fn.take_word L k
      rw [← hn, ← hW] at hx ht
      have hlen : (A ++ L.take (64 * k)).length = A.length + 64 * k := by rw [List.length_append, List.length_take]; omega
      have HP := hidden (Put_bits b B W (Bt.wd (Bt.num L) k) _ vb wr HBk.out hx (by omega) (by rw [hlen]; omega))
      rw [List.append_assoc, ht] at HP
      obtain ⟨at', hat⟩ : ∃ a : Nat, a = 64 * k := ⟨_, rfl⟩
      rw [← hat] at hW2 hdiv ⊢
      have HAT := hidden hat
      have hW3 : W ≤ 64 := by omega
      have hatn : at' < n := by omega
      have hn32 : n ≤ 4294967296 := by omega
      have HHN := hidden hn
      generalize Bt.wd (Bt.num L) k = X at *
      clear hx ht hlen hn hW hat
      go_wp2_with (first
        | (go_at_call 83; refine (HLen.out).mono ?_; rintro e w1 ⟨rfl, rfl⟩)
        | (go_at_call 104; refine (HWD.out).mono ?_; rintro e w1 ⟨rfl, rfl⟩)
        | (go_at_call 69; refine (HP.out).mono ?_; rintro e w1 ⟨rfl, v1, hq1, hq2⟩; have HQ1 := hidden hq1; have HQ2 := hidden hq2; clear hq1 hq2))
      go_roundw
      case rel => exact ⟨k + 1, v1, by rw [← HHN.out]; have := HAT.out; omega, by have := HAT.out; go_num, HQ1.out, HKP.out.trans HQ2.out⟩
      case measure => rw [← HHN.out]; simp [intOf]; omega
    · have hd : decide (((64 * k : Nat) : Int) < (n : Int)) = false := by simp; omega
      have e := HBk.out
      rw [List.take_of_length_le (by omega)] at e
      have HE := hidden e
      obtain ⟨at', hat⟩ : ∃ a : Nat, a = 64 * k := ⟨_, rfl⟩
      rw [← hat] at hd ⊢
      have hna : n ≤ at' := by omega
      clear hat e hd hlt
      go_wp2_with (go_at_call 83; refine (HLen.out).mono ?_; rintro e w1 ⟨rfl, rfl⟩)
      go_end0
      exact ⟨rfl, vb, HE.out, HKP.out⟩
/-- A sequence's bits, as its bytes have them. -/
def Fn.allB (l : List Nat) (u : Nat) : List Bool := ((Bt.bitsTo l.length 24 ++ Bt.bitsTo u 41) ++ Fn.lowB l u) ++ Fn.highB l u
theorem Fn.Ok.all_length {l : List Nat} {u : Nat} (h : Fn.Ok l u) : (Fn.allB l u).length = 65 + Fn.lows l.length u + Fn.highs l.length u := by
  unfold Fn.allB
  rw [List.length_append, List.length_append, List.length_append, Bt.bitsTo_length, Bt.bitsTo_length, Fn.lowB_length, h.high_length]
theorem Fn.Ok.all_pad {l : List Nat} {u : Nat} (h : Fn.Ok l u) : Fn.pad (((Bt.bitsTo l.length 24 ++ Bt.bitsTo u 41) ++ Fn.lowB l u) ++ Fn.HB l u) (65 + Fn.lows l.length u + Fn.highs l.length u) = Fn.allB l u := by
  rcases Nat.eq_zero_or_pos l.length with h0 | h0
  · rw [Fn.HB_none h0, List.append_nil]
    unfold Fn.allB Fn.highB Fn.pad
    congr 1
    have e : Fn.hiTo l (Fn.wdt l.length u) l.length = [] := by rw [h0]; rfl
    rw [e, List.nil_append]
    congr 1
    rw [List.length_append, List.length_append, Bt.bitsTo_length, Bt.bitsTo_length, Fn.lowB_length]
    simp
  · rw [Fn.HB_some h0, Fn.pad_of_le]
    · rfl
    · rw [← h.all_length]
      exact Nat.le_refl _
theorem Sq.low_under {w : World} {s u : Nat} {l : List Nat} {q : Fn.Q} (h : Sq w s l u q) : q.low < w.heap.size ∧ ∀ k, q.u0.ownBlock = some k → k < w.heap.size := ⟨lt_of_block h.low.cells, fun k hk => own_lt h.low.own k hk⟩
theorem Sq.high_under {w : World} {s u : Nat} {l : List Nat} {q : Fn.Q} (h : Sq w s l u q) : q.high < w.heap.size ∧ ∀ k, q.u1.ownBlock = some k → k < w.heap.size := ⟨lt_of_block h.high.cells, fun k hk => own_lt h.high.own k hk⟩
set_option maxHeartbeats 4000000 in
set_option maxRecDepth 100000 in
theorem SBytes_any (s u : Nat) (l : List Nat) (q : Fn.Q) (w : World) (h : Sq w s l u q) (hfit : 65 + Fn.lows l.length u + Fn.highs l.length u ≤ 4294967296) :
    Calls Tryz.prog 41 #[.pointer (some ⟨s, 0, none⟩)] w fun e w' => e = .returned (.string ⟨(Bt.rowB (Fn.allB l u).length (Bt.num (Fn.allB l u))).toArray⟩) ∧ Below w.heap.size w w' := by
  have HS := hidden h
  have c0 := h.cell0
  have c1 := h.cell1
  have c2 := h.cell2
  have c3 := h.cell3
  have c4 := h.cell4
  have hn := h.ok.len
  have hu := h.ok.le
  have hu1 := h.ok.pos
  have hx := Fn.highsI_eq (n := l.length) hu1
  have HFI := hidden (fun w => fits_any l.length u w hn (by omega))
  have HAL := hidden (fun w => all_any l.length u w hn (by omega))
  rw [hx, show (65 + ((Fn.lows l.length u : Nat) : Int) + ((Fn.highs l.length u : Nat) : Int)) = ((65 + Fn.lows l.length u + Fn.highs l.length u : Nat) : Int) from by omega] at HFI HAL
  have HPD := hidden h.ok.all_pad
  have HAN := hidden h.ok.all_length
  have hll := Fn.lowB_length l u
  have hhl : (Fn.HB l u).length ≤ Fn.highs l.length u := by
    rcases Nat.eq_zero_or_pos l.length with h0 | h0
    · rw [Fn.HB_none h0]; exact Nat.zero_le _
    · rw [Fn.HB_some h0, h.ok.high_length]; exact Nat.le_refl _
  have HLL := hidden hll
  have HHL := hidden hhl
  unfold Fn.sh at HFI HAL
  have HTT : Hid (∃ T, T = 65 + Fn.lows l.length u + Fn.highs l.length u) := ⟨_, rfl⟩
  obtain ⟨T, hT⟩ := HTT.out
  rw [← hT] at hfit HFI HAL HPD HAN
  have HTE := hidden hT
  clear hT HTT
  generalize Fn.allB l u = AB at *
  obtain ⟨W, hWW⟩ : ∃ W, Fn.wdt l.length u = W := ⟨_, rfl⟩
  rw [hWW] at c2 HFI HAL
  have HWW := hidden hWW
  clear hWW
  obtain ⟨N, hN⟩ : ∃ N, N = l.length := ⟨_, rfl⟩
  rw [← hN] at c0 hn HFI HAL HPD
  have dT : decide (((T : Nat) : Int) ≤ 4294967296) = true := by simp; omega
  rw [dT] at HFI
  have hN3 : IntKind.u64.wrap (N : Int) = (N : Int) := by rw [IntKind.wrap_u64]; omega
  have hu3 : IntKind.u64.wrap (u : Int) = (u : Int) := by rw [IntKind.wrap_u64]; omega
  have HN := hidden hN
  clear h hx hll hhl dT hN
  go_enter Tryz.func41, Tryz.ntmps41
  go_wp2_with fail
  refine (HFI.out _).mono ?_
  rintro e' w1 ⟨rfl, hb1⟩
  have HB1 := hidden hb1
  have HS1 := hidden (HS.out.below hb1 (Nat.le_refl _))
  have hBd := Bd.new w1
  have hb2 : Below w1.heap.size w1 (w1.alloc (.cells #[.int .i64 0, .slice none 0 0, .int .u64 0] 111)) := (Below.refl _ _).alloc (Nat.le_refl _) _
  have HBD := hidden hBd
  have HB2 := hidden hb2
  clear hBd hb2 hb1 c0 c1 c2 c3 c4
  have c0 := HS1.out.cell0
  rw [← HN.out] at c0
  have hsl := lt_of_block HS1.out.cells
  go_wp2_with fail
  obtain ⟨w2, hw2⟩ : ∃ w2, w2 = w1.alloc (.cells #[.int .i64 0, .slice none 0 0, .int .u64 0] 111) := ⟨_, rfl⟩
  rw [← hw2] at HBD HB2 ⊢
  obtain ⟨b, hb⟩ : ∃ b, b = w1.heap.size := ⟨_, rfl⟩
  rw [← hb] at HBD ⊢
  have HS2 := hidden (HS1.out.below HB2.out (Nat.le_refl _))
  have lu := HS1.out.low_under
  have hu' := HS1.out.high_under
  rw [← hb] at lu hu'
  have HLU := hidden lu
  have HHU := hidden hu'
  have HBW : Hid (∀ w', Below b w2 w' → Below w.heap.size w w') := fun w' h => by
    rw [hb] at h
    exact below_after HB1.out (HB2.out.trans h)
  have HSK : Hid (∀ w', Below b w2 w' → Sq w' s l u q) := fun w' h => by
    rw [hb] at h
    exact HS1.out.below (HB2.out.trans h) (Nat.le_refl _)
  have hse : Bd w2 b b ([] : List Bool).length (Bt.num []) (.slice none 0 0) := HBD.out
  have HE := hidden hse
  clear hw2 hb lu hu' hse c0 hsl
  have hN24 : N < 2 ^ 24 := by omega
  have hu41 : u < 2 ^ 41 := by omega
  refine (Put_bits b b 24 N [] _ w2 HE.out hN24 (by decide) (by decide)).mono ?_
  rintro e' w3 ⟨rfl, v3, hd3, hk3⟩
  have HD3 := hidden hd3
  have HK3 := hidden (hk3.below HE.out)
  have c1 := (HSK.out _ HK3.out).cell1
  clear hd3 hk3
  go_wp2_with fail
  refine (Put_bits b b 41 u _ _ w3 HD3.out hu41 (by decide) (by rw [List.length_append, Bt.bitsTo_length]; decide)).mono ?_
  rintro e' w4 ⟨rfl, v4, hd4, hk4⟩
  have HD4 := hidden hd4
  have HK4 := hidden (HK3.out.trans (hk4.below HD3.out))
  have c3 := (HSK.out _ HK4.out).cell3
  clear hd4 hk4 c1
  go_wp2_with fail
  refine (put_any b b q.low _ _ _ q.u0 w4 HD4.out (HSK.out _ HK4.out).low HLU.out.1 HLU.out.2 (by rw [List.length_append, List.length_append, Bt.bitsTo_length, Bt.bitsTo_length]; have := HLL.out; have := HTE.out; simp; omega)).mono ?_
  rintro e' w5 ⟨rfl, v5, hd5, hk5⟩
  have HD5 := hidden hd5
  have HK5 := hidden (HK4.out.trans (hk5.below HD4.out))
  have c4 := (HSK.out _ HK5.out).cell4
  clear hd5 hk5 c3
  go_wp2_with fail
  refine (put_any b b q.high _ _ _ q.u1 w5 HD5.out (HSK.out _ HK5.out).high HHU.out.1 HHU.out.2 (by rw [List.length_append, List.length_append, List.length_append, Bt.bitsTo_length, Bt.bitsTo_length]; have := HLL.out; have := HTE.out; have := HHL.out; simp; omega)).mono ?_
  rintro e' w6 ⟨rfl, v6, hd6, hk6⟩
  have HD6 := hidden hd6
  have HK6 := hidden (HK5.out.trans (hk6.below HD5.out))
  have c0 := (HSK.out _ HK6.out).cell0
  have c1 := (HSK.out _ HK6.out).cell1
  have c2 := (HSK.out _ HK6.out).cell2
  rw [← HN.out] at c0
  have HWE : Hid (Fn.wdt l.length u = W) := HWW
  rw [HWE.out] at c2
  clear hd6 hk6 c4
  go_wp2_with fail
  refine (HAL.out _).mono ?_
  rintro e' w7 ⟨rfl, hb7⟩
  have HD7 := hidden (HD6.out.below hb7 (Nat.le_refl _))
  have HK7 : Hid (Below b w2 w7) := HK6.out.trans (hb7.mono (Nat.le_trans HD6.out.base (Nat.le_of_lt (lt_of_block HD6.out.cells))))
  clear hb7 c0 c1 c2
  go_wp2_with fail
  refine (fill_any b b T _ _ v6 w7 HD7.out (by omega) rfl).mono ?_
  rintro e' w8 ⟨rfl, v8, hd8, hk8⟩
  have HD8 := hidden hd8
  have HK8 := hidden (HK7.out.trans (hk8.below HD7.out))
  clear hd8 hk8
  have hAB := HPD.out
  have e8 := HD8.out
  rw [List.nil_append, hAB] at e8
  have HE8 := hidden e8
  clear hAB e8
  go_wp2_with fail
  refine (BRow_any _ _ _ _ _ _ HE8.out).mono ?_
  rintro e' w9 ⟨r9, u9, rfl, hr9, hb9, _, _⟩
  have HR9 := hidden hr9
  have HK9 : Hid (Below b w2 w9) := HK8.out.trans (hb9.mono (Nat.le_trans HE8.out.base (Nat.le_of_lt (lt_of_block HE8.out.cells))))
  clear hr9 hb9
  go_wp2_with fail
  refine (Bytes_any r9 _ _ u9 w9 HR9.out).mono ?_
  rintro e' w10 ⟨rfl, hb10⟩
  have HW := hidden (below_after (HBW.out _ HK9.out) hb10)
  clear hb10
  go_wp2_with fail
  go_ret
  exact ⟨rfl, HW.out⟩
set_option maxHeartbeats 1000000 in
theorem SSize_any (s u : Nat) (l : List Nat) (q : Fn.Q) (w : World) (h : Sq w s l u q) :
    Calls Tryz.prog 82 #[.pointer (some ⟨s, 0, none⟩)] w fun e w' => e = .returned (.int .i64 ((Fn.lows l.length u + Fn.highs l.length u : Nat) : Int)) ∧ Below w.heap.size w w' := by
  have c0 := cell_regrown h.cell0
  have c1 := cell_regrown h.cell1
  have c2 := cell_regrown h.cell2
  have hn := h.ok.len
  have hu := h.ok.le
  have hu1 := h.ok.pos
  have hx := Fn.highsI_eq (n := l.length) hu1
  have h1 := Fn.lows_le (n := l.length) (u := u) hn (by omega)
  have h2 := Fn.highsI_bounds (n := l.length) (u := u) hn (by omega)
  have QL : Hid (∀ d os, Calls Tryz.prog 106 #[Fn.sh l.length u] (grow (redrawn w d) os) fun e w'' => e = .returned (.int .i64 ((Fn.lows l.length u : Nat) : Int)) ∧ ∃ p : Regrown, w'' = grow (redrawn w p.d) p.os) := fun d os => Calls.regrown_of (lows_any l.length u _ hn (by omega))
  have QH : Hid (∀ d os, Calls Tryz.prog 107 #[Fn.sh l.length u] (grow (redrawn w d) os) fun e w'' => e = .returned (.int .i64 (Fn.highsI l.length u)) ∧ ∃ p : Regrown, w'' = grow (redrawn w p.d) p.os) := fun d os => Calls.regrown_of (highs_any l.length u _ hn (by omega))
  rw [hx] at QH h2
  unfold Fn.sh at QL QH
  generalize Fn.lows l.length u = P at *
  generalize Fn.highs l.length u = R at *
  generalize Fn.wdt l.length u = W at *
  generalize l.length = N at *
  clear h hx
  go_enter Tryz.func82, Tryz.ntmps82
  go_wp2_with fail
  refine wp_region_quiet_below (by kernel_rfl) (by kernel_rfl) ?_
  repeat (go_big_quiet_step (first
    | (go_at_call 106; exact QL.out _ _)
    | (go_at_call 107; exact QH.out _ _)))
  refine wpQuiet_nil ?_
  intro _ hw'
  obtain ⟨⟨dq, osq⟩, hw''⟩ := hw'
  subst hw''
  go_wp2_with fail
  go_ret
  exact ⟨ret_int (by omega), below_regrown w dq osq⟩
set_option maxHeartbeats 1000000 in
theorem SOver_any (s u : Nat) (l : List Nat) (q : Fn.Q) (w : World) (h : Sq w s l u q) :
    Calls Tryz.prog 84 #[.pointer (some ⟨s, 0, none⟩)] w fun e w' => e = .returned (.int .i64 ((Ck.sz (Bt.num (Fn.HB l u)) (Fn.HB l u).length : Nat) : Int)) ∧ ∃ m, w' = w.drewN m := by
  have c5 := h.cell5
  have HC := hidden (CSize_any _ _ _ _ _ _ _ _ _ w h.ch)
  generalize Ck.sz (Bt.num (Fn.HB l u)) (Fn.HB l u).length = P at *
  clear h
  go_enter Tryz.func84, Tryz.ntmps84
  go_wp2_with fail
  refine (HC.out).mono ?_
  rintro e' w1 ⟨rfl, m, rfl⟩
  go_wp2_with fail
  go_ret
  exact ⟨rfl, m, rfl⟩
end Go.Proofs.YtoipliflphbeiaaGreatDoor
namespace Go.Proofs.YtoipliflphbeiaaGreatDoor
namespace Sm
/-- The marks' places, and their bits. -/
def P (l : List UInt8) : List Nat := Mk.pl 0 0 l
def B (l : List UInt8) : List Bool := Mk.bs 0 l
/-- The bound of the places. -/
def bd (l : List UInt8) : Nat := if (P l).length = 0 then 1 else l.length
/-- What is wrong with a record. -/
def er (l : List UInt8) : Int :=
  if 65536 < l.length then 4 else match (Js.out Js.c0 l).1 with
    | none => 3
    | some D => if 4096 < D then 5 else 0
theorem er_val (l : List UInt8) : ((Js.val l 4096).1 = 4 ∧ er l = 4) ∨ ((Js.val l 4096).1 = 3 ∧ er l = 3) ∨ ((Js.val l 4096).1 = 2 ∧ er l = 5) ∨ ((Js.val l 4096).1 = 1 ∧ er l = 0) := by
  unfold er
  by_cases h : 65536 < l.length
  · rw [if_pos h, Js.val_long l _ h]
    exact .inl ⟨rfl, rfl⟩
  · rw [if_neg h]
    cases ho : Js.out Js.c0 l with
    | mk o q =>
      cases o with
      | none =>
        rw [Js.val_no l _ q h ho]
        exact .inr (.inl ⟨rfl, rfl⟩)
      | some D =>
        by_cases hD : 4096 < D
        · rw [Js.val_deep l _ D h (by rw [ho]) (by omega)]
          exact .inr (.inr (.inl ⟨rfl, if_pos hD⟩))
        · rw [Js.val_yes l _ D h (by rw [ho]) (by omega)]
          exact .inr (.inr (.inr ⟨rfl, if_neg hD⟩))
theorem er_zero {l : List UInt8} (h : er l = 0) : l.length ≤ 65536 ∧ ∃ D, (Js.out Js.c0 l).1 = some D ∧ D ≤ 4096 := by
  unfold er at h
  split at h
  · exact absurd h (by decide)
  · rename_i h0
    refine ⟨by omega, ?_⟩
    split at h
    · exact absurd h (by decide)
    · rename_i D hD
      split at h
      · exact absurd h (by decide)
      · rename_i h1
        exact ⟨D, hD, by omega⟩
theorem er_of {l : List UInt8} {D : Nat} (hl : l.length ≤ 65536) (ho : (Js.out Js.c0 l).1 = some D) (hD : D ≤ 4096) : er l = 0 := by
  unfold er
  rw [if_neg (by omega), ho]
  exact if_neg (by omega)
/-- The places rise. -/
theorem pl_up (l : List UInt8) : ∀ (q i : Nat), List.Pairwise (· < ·) (Mk.pl q i l) := by
  induction l with
  | nil => intro q i; exact List.Pairwise.nil
  | cons b l ih =>
    intro q i
    by_cases h : q = 0 ∧ Mk.isM b.toNat = true
    · obtain ⟨rfl, h⟩ := h
      rw [Mk.pl_mark i b l h]
      refine List.Pairwise.cons (fun p hp => ?_) (ih _ _)
      have := (Mk.pl_lt l 0 (i + 1) p hp).1
      omega
    · rw [Mk.pl_other q i b l h]
      exact ih _ _
theorem len_le (l : List UInt8) : (P l).length ≤ l.length := by
  have key : ∀ (l : List UInt8) (q i : Nat), (Mk.pl q i l).length ≤ l.length := by
    intro l
    induction l with
    | nil => intro q i; exact Nat.le_refl _
    | cons b l ih =>
      intro q i
      rw [List.length_cons]
      by_cases h : q = 0 ∧ Mk.isM b.toNat = true
      · obtain ⟨rfl, h⟩ := h
        rw [Mk.pl_mark i b l h, List.length_cons]
        have := ih 0 (i + 1)
        omega
      · rw [Mk.pl_other q i b l h]
        have := ih (Mk.st q b.toNat) (i + 1)
        omega
  exact key l 0 0
theorem B_len (l : List UInt8) : (B l).length = 2 * (P l).length := Mk.bs_len l 0 0
theorem get_eq (l : List Nat) (i : Nat) (h : i < l.length) : l.getD i 0 = l[i] := by
  rw [List.getD_eq_getElem?_getD, List.getElem?_eq_getElem h]
  rfl
theorem P_lt (l : List UInt8) (i : Nat) (h : i < (P l).length) : (P l).getD i 0 < l.length := by
  rw [get_eq _ _ h]
  have := (Mk.pl_lt l 0 0 _ (List.getElem_mem h)).2
  omega
theorem P_up (l : List UInt8) (i j : Nat) (hij : i < j) (h : j < (P l).length) : (P l).getD i 0 < (P l).getD j 0 := by
  rw [get_eq _ _ h, get_eq _ _ (by omega)]
  exact List.pairwise_iff_getElem.1 (pl_up l 0 0) i j (Nat.lt_trans hij h) h hij
theorem bd_some {l : List UInt8} (h : 0 < (P l).length) : bd l = l.length := if_neg (by omega)
theorem bd_none {l : List UInt8} (h : (P l).length = 0) : bd l = 1 := if_pos h
theorem bd_le (l : List UInt8) (hl : l.length ≤ 65536) : bd l ≤ 65536 := by
  unfold bd
  split <;> omega
theorem ok (l : List UInt8) (hl : l.length ≤ 65536) : Fn.Ok (P l) (bd l) := by
  have hn := len_le l
  refine ⟨fun i hi => Nat.le_of_lt (P_up l i (i + 1) (by omega) hi), fun i hi => ?_, by omega, ?_, ?_⟩
  · rw [bd_some (by omega)]
    exact P_lt l i hi
  · unfold bd
    split <;> omega
  · have := bd_le l hl
    omega
/-- How many stand ahead of a mark. -/
theorem less_at (l : List UInt8) (i : Nat) (h : i < (P l).length) (hl : l.length ≤ 65536) : Fn.less (P l) (((P l).getD i 0 : Nat) : Int) = i := by
  refine Fn.less_eq (ok l hl).up ⟨by omega, fun j hj => ?_, fun j h1 h2 => ?_⟩
  · have := P_up l j i hj h
    omega
  · rcases Nat.lt_or_ge i j with hij | hij
    · have := P_up l i j hij h2
      omega
    · obtain rfl : i = j := by omega
      exact Int.le_refl _
theorem less_all (l : List UInt8) (hl : l.length ≤ 65536) : Fn.less (P l) (l.length : Int) = (P l).length := by
  refine Fn.less_eq (ok l hl).up ⟨Nat.le_refl _, fun j hj => ?_, fun j h1 h2 => by omega⟩
  have := P_lt l j hj
  omega
theorem ex_exc (l : List Bool) (j : Nat) : j ≤ l.length → Mk.ex l j = Wd.exc (Bt.num l) j := by
  induction j with
  | zero => intro _; exact (Wd.exc_zero _).symm
  | succ j ih =>
    intro h
    show Mk.ex l j + (if l.getD j false then 1 else -1) = _
    rw [Wd.exc_succ, ih (by omega), Bt.bt_num]
    cases l.getD j false <;> rfl
theorem bal_pn (l : List Bool) (h : Mk.bal 0 l = true) : Pn.bal (Bt.num l) l.length = true := by
  have h0 : ∀ t, 0 < t → t ≤ l.length → 0 ≤ Mk.ex l t := fun t h1 h2 => by
    rcases Int.lt_or_le (Mk.ex l t) 0 with h3 | h3
    · rw [Mk.bal_no l t h1 h2 h3] at h
      cases h
    · exact h3
  rw [Mk.bal_end l h0, beq_iff_eq, ex_exc l _ (Nat.le_refl _)] at h
  refine (Pn.bal_iff _ _).2 ⟨h, fun j h1 h2 => ?_⟩
  rw [← ex_exc l j h2]
  exact h0 j h1 h2
theorem bal {l : List UInt8} (h : er l = 0) : Pn.bal (Bt.num (B l)) (B l).length = true := by
  obtain ⟨_, D, ho, _⟩ := er_zero h
  exact bal_pn _ (Mk.text_bal l D ho).2.1
/-- How many bits are 1. -/
theorem on_num (l : List Bool) : Mk.on l = Wd.ones (Bt.num l) l.length := by
  have key : ∀ j, j ≤ l.length → Mk.on (l.take j) = Wd.ones (Bt.num l) j := by
    intro j
    induction j with
    | zero => intro _; rfl
    | succ j ih =>
      intro h
      have hj : j < l.length := by omega
      rw [List.take_add_one, List.getElem?_eq_getElem hj, Mk.on_app, ih (by omega), Wd.ones_succ, Bt.bt_num, List.getD_eq_getElem?_getD, List.getElem?_eq_getElem hj]
      show _ + Mk.on [l[j]] = _ + (l[j]).toNat
      cases l[j] <;> rfl
  have := key l.length (Nat.le_refl _)
  rw [List.take_length] at this
  exact this
/-- The bytes of the sequence of the places; of the row of the bits; of the index. -/
def seqB (l : List UInt8) : List UInt8 := Bt.rowB (Fn.allB (P l) (bd l)).length (Bt.num (Fn.allB (P l) (bd l)))
def bitB (l : List UInt8) : List UInt8 := Bt.rowB (B l).length (Bt.num (B l))
def ixB (l : List UInt8) : List UInt8 := Bt.eightB (seqB l).length ++ (seqB l ++ bitB l)
theorem rowB_len (n X : Nat) : (Bt.rowB n X).length = 8 + 8 * ((n + 63) / 64) := Bt.rowTo_length n X _
theorem top_le (n u : Nat) : Fn.top n u ≤ u := by
  unfold Fn.top
  have := Nat.div_le_self (u - 1) (2 ^ Fn.wdt n u)
  omega
theorem fit (l : List UInt8) (hl : l.length ≤ 65536) : 65 + Fn.lows (P l).length (bd l) + Fn.highs (P l).length (bd l) ≤ 4000000 := by
  have h1 := Fn.wdt_le (n := (P l).length) (u := bd l) (by have := bd_le l hl; omega)
  have h2 := len_le l
  have h3 := top_le (P l).length (bd l)
  have h4 := bd_le l hl
  have h5 : (P l).length * Fn.wdt (P l).length (bd l) ≤ 65536 * 40 := Nat.mul_le_mul (by omega) h1
  unfold Fn.lows Fn.highs
  omega
theorem seqB_len (l : List UInt8) (hl : l.length ≤ 65536) : (seqB l).length ≤ 600000 := by
  unfold seqB
  rw [rowB_len, (ok l hl).all_length]
  have := fit l hl
  omega
theorem ix_small {l : List UInt8} (hl : l.length ≤ 65536) : (ixB l).length ≤ 9223372036854775807 := by
  unfold ixB
  rw [List.length_append, List.length_append, Bt.eightB_length]
  have h1 := seqB_len l hl
  have h2 : (bitB l).length ≤ 20000 := by
    unfold bitB
    rw [rowB_len, B_len]
    have := len_le l
    omega
  omega
/-- The size's bound: of the sequence's rows and all beside them, the row of bits, and its nest. -/
theorem size_le (l : List UInt8) (W m : Nat) (hl : l.length ≤ 65536) (hW : (P l).length = 0 ∨ l.length ≤ (P l).length * 2 ^ W) (hm : ∀ i, i + 1 < m → 1 < Mx.ln (B l).length i) (hX : Bt.num (Fn.HB (P l) (bd l)) < 2 ^ (Fn.HB (P l) (bd l)).length) (hY : Bt.num (B l) < 2 ^ (B l).length) :
    Fn.lows (P l).length (bd l) + Fn.highs (P l).length (bd l) + (B l).length + (Ck.sz (Bt.num (Fn.HB (P l) (bd l))) (Fn.HB (P l) (bd l)).length + (Mx.sz (B l).length m + Ck.sz (Bt.num (B l)) (B l).length)) ≤ 4 * (P l).length + (P l).length * W + 10 * (P l).length + 8192 := by
  have h1 := Ck.sz_le _ _ hX
  have h2 := Ck.sz_le _ _ hY
  have h3 := Mx.sz_le _ m hm
  have h4 := B_len l
  have h5 := bd_le l hl
  by_cases h0 : (P l).length = 0
  · have e1 : Fn.HB (P l) (bd l) = [] := Fn.HB_none h0
    have e2 : Fn.lows (P l).length (bd l) = 0 := by unfold Fn.lows; rw [h0, Nat.zero_mul]
    have e3 := top_le (P l).length (bd l)
    have e4 := bd_none h0
    have e5 : Fn.highs (P l).length (bd l) ≤ 2 := by unfold Fn.highs; omega
    rw [e1] at h1 ⊢
    have e6 : ([] : List Bool).length = 0 := rfl
    rw [e6] at h1 ⊢
    omega
  · have hW2 : bd l ≤ (P l).length * 2 ^ W := by
      rw [bd_some (by omega)]
      rcases hW with h | h
      · exact absurd h h0
      · exact h
    have e1 := Fn.size_le (n := (P l).length) (u := bd l) (W := W) (by omega) (by omega) hW2
    have e2 : Fn.HB (P l) (bd l) = Fn.highB (P l) (bd l) := Fn.HB_some (by omega)
    have e3 := (ok l hl).high_length
    have e4 := Fn.top_lt (n := (P l).length) (u := bd l) (by omega) (by omega)
    have e5 : Fn.highs (P l).length (bd l) ≤ 3 * (P l).length := by unfold Fn.highs; omega
    rw [e2, e3] at h1
    rw [e2, e3]
    have e6 : W * (P l).length = (P l).length * W := Nat.mul_comm _ _
    omega
end Sm
end Go.Proofs.YtoipliflphbeiaaGreatDoor
namespace Go.Proofs.YtoipliflphbeiaaGreatDoor
namespace Sm
theorem two_nums (s t : List UInt8) (hs : er s = 0) (ht : er t = 0) (h5 : s.length ≤ 150) (h6 : t.length ≤ 150) :
    er (91 :: (s ++ 44 :: (t ++ [93]))) = 0 ∧ (P (91 :: (s ++ 44 :: (t ++ [93])))).length = (P s).length + (P t).length + 3 ∧ (∀ j, j < (P s).length → (P (91 :: (s ++ 44 :: (t ++ [93])))).getD (j + 1) 0 = (P s).getD j 0 + 1) ∧ (∀ j, j < (P t).length → (P (91 :: (s ++ 44 :: (t ++ [93])))).getD (j + (P s).length + 2) 0 = (P t).getD j 0 + s.length + 2) ∧ Mk.on (B (91 :: (s ++ 44 :: (t ++ [93])))) = Mk.on (B s) + Mk.on (B t) + 3 := by
  obtain ⟨_, D, hD, _⟩ := er_zero hs
  obtain ⟨_, E, hE, _⟩ := er_zero ht
  have h1 := Js.out_deep s Js.c0 Js.ok_c0 D hD
  have h2 := Js.out_deep t Js.c0 Js.ok_c0 E hE
  have hd : Js.c0.d = 0 := rfl
  have hp : P (91 :: (s ++ 44 :: (t ++ [93]))) = 0 :: ((P s).map (· + 1) ++ (1 + s.length) :: ((P t).map (· + (2 + s.length)) ++ [2 + s.length + t.length])) := Mk.array_pl s t D E hD hE
  refine ⟨er_of (D := max D E + 1) ?_ (Js.nest_array s t D E hD hE) (by omega), ?_, ?_, ?_, Mk.array_on s t D E hD hE⟩
  · rw [List.length_cons, List.length_append, List.length_cons, List.length_append]
    show s.length + (t.length + 1 + 1) + 1 ≤ _
    omega
  · rw [hp, List.length_cons, List.length_append, List.length_map, List.length_cons, List.length_append, List.length_map]
    show (P s).length + ((P t).length + 1 + 1) + 1 = _
    omega
  · intro j hj
    rw [hp, List.getD_eq_getElem?_getD, List.getElem?_cons_succ, List.getElem?_append_left (by rw [List.length_map]; exact hj), List.getElem?_map, List.getElem?_eq_getElem hj, get_eq _ _ hj]
    rfl
  · intro j hj
    rw [hp, List.getD_eq_getElem?_getD, show j + (P s).length + 2 = (j + (P s).length + 1) + 1 from rfl, List.getElem?_cons_succ, List.getElem?_append_right (by rw [List.length_map]; omega), List.length_map, show j + (P s).length + 1 - (P s).length = j + 1 by omega, List.getElem?_cons_succ, List.getElem?_append_left (by rw [List.length_map]; exact hj), List.getElem?_map, List.getElem?_eq_getElem hj, get_eq _ _ hj]
    show (P t)[j] + (2 + s.length) = _
    omega
end Sm
end Go.Proofs.YtoipliflphbeiaaGreatDoor
