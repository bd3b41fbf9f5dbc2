/-
  The contracts of put of package fano, and of a sequence's Bytes, Size and Over: for every sequence whose bits a row may have.
-/
import Derived.Lib.QuietBelow
import Derived.Test.YtfohldojcdhnhaaDoorJFnMake
import Derived.Test.YtfohldojcdhnhaaDoorJBtOf
import Derived.Test.YtfohldojcdhnhaaDoorJBtRefB
namespace Go.Proofs.YtfohldojcdhnhaaDoor
open Go.RowKit Go.Sort
theorem Rw.under {w w' : World} {r n X C : Nat} {u : Value} (h : Rw w r n X u) (hr : r < C) (hu : ∀ k, u.ownBlock = some k → k < C) (hb : Below C w w') : Rw w' r n X u :=
  ⟨h.len, h.lt, by rw [hb.block r hr]; exact h.cells, own_same h.own fun k hk => hb.block k (hu k hk)⟩
theorem Put_bits (b B k x : Nat) (A : List Bool) (v : Value) (w : World) (h : Bd w B b A.length (Bt.num A) v) (hx : x < 2 ^ k) (hk : k ≤ 64) (hn : A.length + k ≤ 4294967296) :
    Calls Tryd.prog 42 #[.pointer (some ⟨b, 0, none⟩), .int .u64 (x : Nat), .int .i64 (k : Nat)] w fun e w' => e = .returned (.int .i64 0) ∧ ∃ v', Bd w' B b (A ++ Bt.bitsTo x k).length (Bt.num (A ++ Bt.bitsTo x k)) v' ∧ Kp w w' b v v' := by
  rw [List.length_append, Bt.bitsTo_length, Bt.num_put A x k hx]
  exact Put_ok b _ _ x k B v w h hx hk hn
namespace Fn
theorem word_lt (L : List Bool) (k : Nat) : Bt.wd (Bt.num L) k < 2 ^ min 64 (L.length - 64 * k) := by
  rw [Bt.wd_fd (Bt.num L) L.length k (Bt.num_lt L)]
  exact Bt.fd_lt _ _ _
theorem take_word (L : List Bool) (k : Nat) : L.take (64 * k) ++ Bt.bitsTo (Bt.wd (Bt.num L) k) (min 64 (L.length - 64 * k)) = L.take (64 * (k + 1)) := by
  apply List.ext_getElem?
  intro i
  by_cases h1 : i < 64 * k
  · by_cases h2 : i < L.length
    · rw [List.getElem?_append_left (by rw [List.length_take]; omega), List.getElem?_take, if_pos h1, List.getElem?_take, if_pos (by omega)]
    · rw [List.getElem?_eq_none (by rw [List.length_append, List.length_take, Bt.bitsTo_length]; omega), List.getElem?_eq_none (by rw [List.length_take]; omega)]
  · by_cases h2 : i < L.length
    · have hlen : (L.take (64 * k)).length = 64 * k := by rw [List.length_take]; omega
      rw [List.getElem?_append_right (by omega), hlen, List.getElem?_take]
      by_cases h3 : i < 64 * (k + 1)
      · rw [if_pos h3, Bt.bitsTo_get _ _ _ (by omega), List.getElem?_eq_getElem h2]
        congr 1
        rw [Wd.testBit_bt, Bt.bt_wd, if_pos (by omega), show 64 * k + (i - 64 * k) = i from by omega, ← Wd.testBit_bt, Bt.testBit_num, List.getD_eq_getElem?_getD, List.getElem?_eq_getElem h2]
        rfl
      · rw [if_neg h3, List.getElem?_eq_none (by rw [Bt.bitsTo_length]; omega)]
    · rw [List.getElem?_eq_none (by rw [List.length_append, List.length_take, Bt.bitsTo_length]; omega), List.getElem?_eq_none (by rw [List.length_take]; omega)]
end Fn
set_option maxHeartbeats 1000000 in
theorem put_any (b B r : Nat) (A L : List Bool) (v u : Value) (w : World) (h : Bd w B b A.length (Bt.num A) v) (hr : Rw w r L.length (Bt.num L) u) (hrB : r < B) (huB : ∀ k, u.ownBlock = some k → k < B) (hm : A.length + L.length ≤ 4294967296) :
    Calls Tryd.prog 43 #[.pointer (some ⟨b, 0, none⟩), .pointer (some ⟨r, 0, none⟩)] w fun e w' => e = .returned (.tuple #[]) ∧ ∃ v', Bd w' B b (A ++ L).length (Bt.num (A ++ L)) v' ∧ Kp w w' b v v' := by
  have HB := hidden h
  have HR := hidden hr
  have HUB := hidden huB
  clear h hr huB
  go_enter Tryd.func43, Tryd.ntmps43
  go_wp2
  go_loopw [4] (fun i wr => ∃ (k : Nat) (vb : Value), 64 * k ≤ L.length + 63 ∧ i = .int .i64 ((64 * k : Nat) : Int) ∧ Bd wr B b (A ++ L.take (64 * k)).length (Bt.num (A ++ L.take (64 * k))) vb ∧ Kp w wr b v vb) (fun i _ => L.length + 64 - (intOf i).toNat)
  case atStart => exact ⟨0, v, by omega, rfl, by rw [Nat.mul_zero, List.take_zero, List.append_nil]; exact HB.out, Kp.refl _ _ _⟩
  case round =>
    obtain ⟨k, vb, hk, rfl, hb, hkp⟩ := hrel
    have HBk := hidden hb
    have HKP := hidden hkp
    have HRr := hidden (HR.out.under hrB HUB.out (hkp.below HB.out))
    clear hb hkp
    obtain ⟨n, hn⟩ : ∃ n, n = L.length := ⟨_, rfl⟩
    rw [← hn] at HRr hk
    have HLen := hidden (RLen_any r n _ u wr HRr.out)
    by_cases hlt : 64 * k < n
    · obtain ⟨W, hW⟩ : ∃ W : Nat, W = min 64 (n - 64 * k) := ⟨_, rfl⟩
      have hW2 : min (64 : Int) ((n : Int) - ((64 * k : Nat) : Int)) = (W : Int) := by omega
      have hdiv : ((64 * k : Nat) : Int) / 64 = (k : Int) := by omega
      have HWD := hidden (Word_in r n (Bt.num L) k u wr HRr.out (by omega))
      have hx := Fn.word_lt L k
      have ht := Fn.take_word L k
      rw [← hn, ← hW] at hx ht
      have hlen : (A ++ L.take (64 * k)).length = A.length + 64 * k := by rw [List.length_append, List.length_take]; omega
      have HP := hidden (Put_bits b B W (Bt.wd (Bt.num L) k) _ vb wr HBk.out hx (by omega) (by rw [hlen]; omega))
      rw [List.append_assoc, ht] at HP
      obtain ⟨at', hat⟩ : ∃ a : Nat, a = 64 * k := ⟨_, rfl⟩
      rw [← hat] at hW2 hdiv ⊢
      have HAT := hidden hat
      have hW3 : W ≤ 64 := by omega
      have hatn : at' < n := by omega
      have hn32 : n ≤ 4294967296 := by omega
      have HHN := hidden hn
      generalize Bt.wd (Bt.num L) k = X at *
      clear hx ht hlen hn hW hat
      go_wp2_with (first
        | (go_at_call 62; refine (HLen.out).mono ?_; rintro e w1 ⟨rfl, rfl⟩)
        | (go_at_call 69; refine (HWD.out).mono ?_; rintro e w1 ⟨rfl, rfl⟩)
        | (go_at_call 42; refine (HP.out).mono ?_; rintro e w1 ⟨rfl, v1, hq1, hq2⟩; have HQ1 := hidden hq1; have HQ2 := hidden hq2; clear hq1 hq2))
      go_roundw
      case rel => exact ⟨k + 1, v1, by rw [← HHN.out]; have := HAT.out; omega, by have := HAT.out; go_num, HQ1.out, HKP.out.trans HQ2.out⟩
      case measure => rw [← HHN.out]; simp [intOf]; omega
    · have hd : decide (((64 * k : Nat) : Int) < (n : Int)) = false := by simp; omega
      have e := HBk.out
      rw [List.take_of_length_le (by omega)] at e
      have HE := hidden e
      obtain ⟨at', hat⟩ : ∃ a : Nat, a = 64 * k := ⟨_, rfl⟩
      rw [← hat] at hd ⊢
      have hna : n ≤ at' := by omega
      clear hat e hd hlt
      go_wp2_with (go_at_call 62; refine (HLen.out).mono ?_; rintro e w1 ⟨rfl, rfl⟩)
      go_end0
      exact ⟨rfl, vb, HE.out, HKP.out⟩
/-- A sequence's bits, as its bytes have them. -/
def Fn.allB (l : List Nat) (u : Nat) : List Bool := ((Bt.bitsTo l.length 24 ++ Bt.bitsTo u 41) ++ Fn.lowB l u) ++ Fn.highB l u
theorem Fn.Ok.all_length {l : List Nat} {u : Nat} (h : Fn.Ok l u) : (Fn.allB l u).length = 65 + Fn.lows l.length u + Fn.highs l.length u := by
  unfold Fn.allB
  rw [List.length_append, List.length_append, List.length_append, Bt.bitsTo_length, Bt.bitsTo_length, Fn.lowB_length, h.high_length]
theorem Fn.Ok.all_pad {l : List Nat} {u : Nat} (h : Fn.Ok l u) : Fn.pad (((Bt.bitsTo l.length 24 ++ Bt.bitsTo u 41) ++ Fn.lowB l u) ++ Fn.HB l u) (65 + Fn.lows l.length u + Fn.highs l.length u) = Fn.allB l u := by
  rcases Nat.eq_zero_or_pos l.length with h0 | h0
  · rw [Fn.HB_none h0, List.append_nil]
    unfold Fn.allB Fn.highB Fn.pad
    congr 1
    have e : Fn.hiTo l (Fn.wdt l.length u) l.length = [] := by rw [h0]; rfl
    rw [e, List.nil_append]
    congr 1
    rw [List.length_append, List.length_append, Bt.bitsTo_length, Bt.bitsTo_length, Fn.lowB_length]
    simp
  · rw [Fn.HB_some h0, Fn.pad_of_le]
    · rfl
    · rw [← h.all_length]
      exact Nat.le_refl _
theorem Sq.low_under {w : World} {s u : Nat} {l : List Nat} {q : Fn.Q} (h : Sq w s l u q) : q.low < w.heap.size ∧ ∀ k, q.u0.ownBlock = some k → k < w.heap.size := ⟨lt_of_block h.low.cells, fun k hk => own_lt h.low.own k hk⟩
theorem Sq.high_under {w : World} {s u : Nat} {l : List Nat} {q : Fn.Q} (h : Sq w s l u q) : q.high < w.heap.size ∧ ∀ k, q.u1.ownBlock = some k → k < w.heap.size := ⟨lt_of_block h.high.cells, fun k hk => own_lt h.high.own k hk⟩
set_option maxHeartbeats 4000000 in
set_option maxRecDepth 100000 in
theorem SBytes_any (s u : Nat) (l : List Nat) (q : Fn.Q) (w : World) (h : Sq w s l u q) (hfit : 65 + Fn.lows l.length u + Fn.highs l.length u ≤ 4294967296) :
    Calls Tryd.prog 25 #[.pointer (some ⟨s, 0, none⟩)] w fun e w' => e = .returned (.string ⟨(Bt.rowB (Fn.allB l u).length (Bt.num (Fn.allB l u))).toArray⟩) ∧ Below w.heap.size w w' := by
  have HS := hidden h
  have c0 := h.cell0
  have c1 := h.cell1
  have c2 := h.cell2
  have c3 := h.cell3
  have c4 := h.cell4
  have hn := h.ok.len
  have hu := h.ok.le
  have hu1 := h.ok.pos
  have hx := Fn.highsI_eq (n := l.length) hu1
  have HFI := hidden (fun w => fits_any l.length u w hn (by omega))
  have HAL := hidden (fun w => all_any l.length u w hn (by omega))
  rw [hx, show (65 + ((Fn.lows l.length u : Nat) : Int) + ((Fn.highs l.length u : Nat) : Int)) = ((65 + Fn.lows l.length u + Fn.highs l.length u : Nat) : Int) from by omega] at HFI HAL
  have HPD := hidden h.ok.all_pad
  have HAN := hidden h.ok.all_length
  have hll := Fn.lowB_length l u
  have hhl : (Fn.HB l u).length ≤ Fn.highs l.length u := by
    rcases Nat.eq_zero_or_pos l.length with h0 | h0
    · rw [Fn.HB_none h0]; exact Nat.zero_le _
    · rw [Fn.HB_some h0, h.ok.high_length]; exact Nat.le_refl _
  have HLL := hidden hll
  have HHL := hidden hhl
  unfold Fn.sh at HFI HAL
  have HTT : Hid (∃ T, T = 65 + Fn.lows l.length u + Fn.highs l.length u) := ⟨_, rfl⟩
  obtain ⟨T, hT⟩ := HTT.out
  rw [← hT] at hfit HFI HAL HPD HAN
  have HTE := hidden hT
  clear hT HTT
  generalize Fn.allB l u = AB at *
  obtain ⟨W, hWW⟩ : ∃ W, Fn.wdt l.length u = W := ⟨_, rfl⟩
  rw [hWW] at c2 HFI HAL
  have HWW := hidden hWW
  clear hWW
  obtain ⟨N, hN⟩ : ∃ N, N = l.length := ⟨_, rfl⟩
  rw [← hN] at c0 hn HFI HAL HPD
  have dT : decide (((T : Nat) : Int) ≤ 4294967296) = true := by simp; omega
  rw [dT] at HFI
  have hN3 : IntKind.u64.wrap (N : Int) = (N : Int) := by rw [IntKind.wrap_u64]; omega
  have hu3 : IntKind.u64.wrap (u : Int) = (u : Int) := by rw [IntKind.wrap_u64]; omega
  have HN := hidden hN
  clear h hx hll hhl dT hN
  go_enter Tryd.func25, Tryd.ntmps25
  go_wp2_with fail
  refine (HFI.out _).mono ?_
  rintro e' w1 ⟨rfl, hb1⟩
  have HB1 := hidden hb1
  have HS1 := hidden (HS.out.below hb1 (Nat.le_refl _))
  have hBd := Bd.new w1
  have hb2 : Below w1.heap.size w1 (w1.alloc (.cells #[.int .i64 0, .slice none 0 0, .int .u64 0] 69)) := (Below.refl _ _).alloc (Nat.le_refl _) _
  have HBD := hidden hBd
  have HB2 := hidden hb2
  clear hBd hb2 hb1 c0 c1 c2 c3 c4
  have c0 := HS1.out.cell0
  rw [← HN.out] at c0
  have hsl := lt_of_block HS1.out.cells
  go_wp2_with fail
  obtain ⟨w2, hw2⟩ : ∃ w2, w2 = w1.alloc (.cells #[.int .i64 0, .slice none 0 0, .int .u64 0] 69) := ⟨_, rfl⟩
  rw [← hw2] at HBD HB2 ⊢
  obtain ⟨b, hb⟩ : ∃ b, b = w1.heap.size := ⟨_, rfl⟩
  rw [← hb] at HBD ⊢
  have HS2 := hidden (HS1.out.below HB2.out (Nat.le_refl _))
  have lu := HS1.out.low_under
  have hu' := HS1.out.high_under
  rw [← hb] at lu hu'
  have HLU := hidden lu
  have HHU := hidden hu'
  have HBW : Hid (∀ w', Below b w2 w' → Below w.heap.size w w') := fun w' h => by
    rw [hb] at h
    exact below_after HB1.out (HB2.out.trans h)
  have HSK : Hid (∀ w', Below b w2 w' → Sq w' s l u q) := fun w' h => by
    rw [hb] at h
    exact HS1.out.below (HB2.out.trans h) (Nat.le_refl _)
  have hse : Bd w2 b b ([] : List Bool).length (Bt.num []) (.slice none 0 0) := HBD.out
  have HE := hidden hse
  clear hw2 hb lu hu' hse c0 hsl
  have hN24 : N < 2 ^ 24 := by omega
  have hu41 : u < 2 ^ 41 := by omega
  refine (Put_bits b b 24 N [] _ w2 HE.out hN24 (by decide) (by decide)).mono ?_
  rintro e' w3 ⟨rfl, v3, hd3, hk3⟩
  have HD3 := hidden hd3
  have HK3 := hidden (hk3.below HE.out)
  have c1 := (HSK.out _ HK3.out).cell1
  clear hd3 hk3
  go_wp2_with fail
  refine (Put_bits b b 41 u _ _ w3 HD3.out hu41 (by decide) (by rw [List.length_append, Bt.bitsTo_length]; decide)).mono ?_
  rintro e' w4 ⟨rfl, v4, hd4, hk4⟩
  have HD4 := hidden hd4
  have HK4 := hidden (HK3.out.trans (hk4.below HD3.out))
  have c3 := (HSK.out _ HK4.out).cell3
  clear hd4 hk4 c1
  go_wp2_with fail
  refine (put_any b b q.low _ _ _ q.u0 w4 HD4.out (HSK.out _ HK4.out).low HLU.out.1 HLU.out.2 (by rw [List.length_append, List.length_append, Bt.bitsTo_length, Bt.bitsTo_length]; have := HLL.out; have := HTE.out; simp; omega)).mono ?_
  rintro e' w5 ⟨rfl, v5, hd5, hk5⟩
  have HD5 := hidden hd5
  have HK5 := hidden (HK4.out.trans (hk5.below HD4.out))
  have c4 := (HSK.out _ HK5.out).cell4
  clear hd5 hk5 c3
  go_wp2_with fail
  refine (put_any b b q.high _ _ _ q.u1 w5 HD5.out (HSK.out _ HK5.out).high HHU.out.1 HHU.out.2 (by rw [List.length_append, List.length_append, List.length_append, Bt.bitsTo_length, Bt.bitsTo_length]; have := HLL.out; have := HTE.out; have := HHL.out; simp; omega)).mono ?_
  rintro e' w6 ⟨rfl, v6, hd6, hk6⟩
  have HD6 := hidden hd6
  have HK6 := hidden (HK5.out.trans (hk6.below HD5.out))
  have c0 := (HSK.out _ HK6.out).cell0
  have c1 := (HSK.out _ HK6.out).cell1
  have c2 := (HSK.out _ HK6.out).cell2
  rw [← HN.out] at c0
  have HWE : Hid (Fn.wdt l.length u = W) := HWW
  rw [HWE.out] at c2
  clear hd6 hk6 c4
  go_wp2_with fail
  refine (HAL.out _).mono ?_
  rintro e' w7 ⟨rfl, hb7⟩
  have HD7 := hidden (HD6.out.below hb7 (Nat.le_refl _))
  have HK7 : Hid (Below b w2 w7) := HK6.out.trans (hb7.mono (Nat.le_trans HD6.out.base (Nat.le_of_lt (lt_of_block HD6.out.cells))))
  clear hb7 c0 c1 c2
  go_wp2_with fail
  refine (fill_any b b T _ _ v6 w7 HD7.out (by omega) rfl).mono ?_
  rintro e' w8 ⟨rfl, v8, hd8, hk8⟩
  have HD8 := hidden hd8
  have HK8 := hidden (HK7.out.trans (hk8.below HD7.out))
  clear hd8 hk8
  have hAB := HPD.out
  have e8 := HD8.out
  rw [List.nil_append, hAB] at e8
  have HE8 := hidden e8
  clear hAB e8
  go_wp2_with fail
  refine (BRow_any _ _ _ _ _ _ HE8.out).mono ?_
  rintro e' w9 ⟨r9, u9, rfl, hr9, hb9, _, _⟩
  have HR9 := hidden hr9
  have HK9 : Hid (Below b w2 w9) := HK8.out.trans (hb9.mono (Nat.le_trans HE8.out.base (Nat.le_of_lt (lt_of_block HE8.out.cells))))
  clear hr9 hb9
  go_wp2_with fail
  refine (Bytes_any r9 _ _ u9 w9 HR9.out).mono ?_
  rintro e' w10 ⟨rfl, hb10⟩
  have HW := hidden (below_after (HBW.out _ HK9.out) hb10)
  clear hb10
  go_wp2_with fail
  go_ret
  exact ⟨rfl, HW.out⟩
set_option maxHeartbeats 1000000 in
theorem SSize_any (s u : Nat) (l : List Nat) (q : Fn.Q) (w : World) (h : Sq w s l u q) :
    Calls Tryd.prog 28 #[.pointer (some ⟨s, 0, none⟩)] w fun e w' => e = .returned (.int .i64 ((Fn.lows l.length u + Fn.highs l.length u : Nat) : Int)) ∧ Below w.heap.size w w' := by
  have c0 := cell_regrown h.cell0
  have c1 := cell_regrown h.cell1
  have c2 := cell_regrown h.cell2
  have hn := h.ok.len
  have hu := h.ok.le
  have hu1 := h.ok.pos
  have hx := Fn.highsI_eq (n := l.length) hu1
  have h1 := Fn.lows_le (n := l.length) (u := u) hn (by omega)
  have h2 := Fn.highsI_bounds (n := l.length) (u := u) hn (by omega)
  have QL : Hid (∀ d os, Calls Tryd.prog 52 #[Fn.sh l.length u] (grow (redrawn w d) os) fun e w'' => e = .returned (.int .i64 ((Fn.lows l.length u : Nat) : Int)) ∧ ∃ p : Regrown, w'' = grow (redrawn w p.d) p.os) := fun d os => Calls.regrown_of (lows_any l.length u _ hn (by omega))
  have QH : Hid (∀ d os, Calls Tryd.prog 53 #[Fn.sh l.length u] (grow (redrawn w d) os) fun e w'' => e = .returned (.int .i64 (Fn.highsI l.length u)) ∧ ∃ p : Regrown, w'' = grow (redrawn w p.d) p.os) := fun d os => Calls.regrown_of (highs_any l.length u _ hn (by omega))
  rw [hx] at QH h2
  unfold Fn.sh at QL QH
  generalize Fn.lows l.length u = P at *
  generalize Fn.highs l.length u = R at *
  generalize Fn.wdt l.length u = W at *
  generalize l.length = N at *
  clear h hx
  go_enter Tryd.func28, Tryd.ntmps28
  go_wp2_with fail
  refine wp_region_quiet_below (by kernel_rfl) (by kernel_rfl) ?_
  repeat (go_big_quiet_step (first
    | (go_at_call 52; exact QL.out _ _)
    | (go_at_call 53; exact QH.out _ _)))
  refine wpQuiet_nil ?_
  intro _ hw'
  obtain ⟨⟨dq, osq⟩, hw''⟩ := hw'
  subst hw''
  go_wp2_with fail
  go_ret
  exact ⟨ret_int (by omega), below_regrown w dq osq⟩
set_option maxHeartbeats 1000000 in
theorem SOver_any (s u : Nat) (l : List Nat) (q : Fn.Q) (w : World) (h : Sq w s l u q) :
    Calls Tryd.prog 29 #[.pointer (some ⟨s, 0, none⟩)] w fun e w' => e = .returned (.int .i64 ((Ck.sz (Bt.num (Fn.HB l u)) (Fn.HB l u).length : Nat) : Int)) ∧ ∃ m, w' = w.drewN m := by
  have c5 := h.cell5
  have HC := hidden (CSize_any _ _ _ _ _ _ _ _ _ w h.ch)
  generalize Ck.sz (Bt.num (Fn.HB l u)) (Fn.HB l u).length = P at *
  clear h
  go_enter Tryd.func29, Tryd.ntmps29
  go_wp2_with fail
  refine (HC.out).mono ?_
  rintro e' w1 ⟨rfl, m, rfl⟩
  go_wp2_with fail
  go_ret
  exact ⟨rfl, m, rfl⟩
end Go.Proofs.YtfohldojcdhnhaaDoor
