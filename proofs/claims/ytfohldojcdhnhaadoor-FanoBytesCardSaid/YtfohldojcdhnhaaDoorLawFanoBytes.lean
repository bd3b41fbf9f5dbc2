/-
  The walk of the law FanoBytes: it returns true for all numbers and bounds; nothing that was there is changed.
-/
import Derived.Test.YtfohldojcdhnhaaDoorLawFanoEach
import Derived.Test.YtfohldojcdhnhaaDoorJFnNum
import Derived.Test.YtfohldojcdhnhaaDoorJFnRefR
namespace Go.Proofs.YtfohldojcdhnhaaDoor
open Go.RowKit
namespace Fn
theorem Ok.small {l : List Nat} {u : Nat} (h : Ok l u) (hl : l.length ≤ 100) (h0 : l.length = 0 → u < 4096) : 65 + lows l.length u + highs l.length u ≤ 1048576 := by
  have hu := h.le
  have hw := wdt_le (n := l.length) (u := u) (by omega)
  rcases Nat.eq_zero_or_pos l.length with h1 | h1
  · have := h0 h1
    have h2 : top l.length u ≤ u - 1 := by unfold top; exact Nat.div_le_self _ _
    unfold lows highs
    rw [h1, Nat.zero_mul] at *
    omega
  · have ht := top_lt h1 (show u < 2 ^ 64 by omega)
    have h3 : l.length * wdt l.length u ≤ 100 * 40 := Nat.mul_le_mul hl hw
    unfold lows highs
    omega
theorem HB_le {l : List Nat} {u : Nat} (h : Ok l u) : (HB l u).length ≤ highs l.length u := by
  rcases Nat.eq_zero_or_pos l.length with h0 | h0
  · rw [HB_none h0]; exact Nat.zero_le _
  · rw [HB_some h0, h.high_length]; exact Nat.le_refl _
end Fn
set_option maxHeartbeats 1000000 in
theorem FanoBytes_no (li : List Int) (b : Int) (v : Value) (w : World) (h : Ints w v li) (hm : li.length ≤ 9223372036854775807) (hb : b ≤ 9223372036854775807) (hT : Tab w) (hno : ¬ Fn.OkI li b) :
    Calls Tryd.prog 5 #[v, .int .i64 b] w fun e w' => e = .returned (.bool true) ∧ Below w.heap.size w w' := by
  have HI := hidden h
  obtain ⟨ao, cap, rfl, hcap, _⟩ := h.cells
  have HT := hidden hT
  have HNO := hidden hno
  clear h hT hno
  go_enter Tryd.func5, Tryd.ntmps5
  go_wp2_with fail
  refine (awake5_any w HT.out).mono ?_
  rintro e' w1 ⟨rfl, hq1⟩
  have HQ1 := hidden hq1
  clear hq1
  go_wp2_with fail
  refine (few_any li b _ w1 (HI.out.after HQ1.out) hm hb).mono ?_
  rintro e' w2 ⟨⟨r, rfl, hr⟩, rfl⟩
  have HR := hidden hr
  clear hr
  cases r
  · go_wp2_with fail
    refine (awake5_any w2 (HT.out.after HQ1.out)).mono ?_
    rintro e' w3 ⟨rfl, hq3⟩
    have HQ3 := hidden (below_after HQ1.out hq3)
    clear hq3
    go_wp2_with fail
    go_ret
    exact ⟨rfl, HQ3.out⟩
  · have hl := (HR.out rfl).1
    go_wp2_with fail
    refine (Right_any li b _ w2 (HI.out.after HQ1.out) hl).mono ?_
    rintro e' w3 ⟨⟨r, rfl, hr⟩, m, rfl⟩
    obtain rfl : r = false := by
      cases r
      · rfl
      · exact absurd (hr.1 rfl) HNO.out
    have HQ2 := hidden (below_drewN HQ1.out m)
    clear hr
    go_wp2_with fail
    refine (awake5_any _ (HT.out.after HQ2.out)).mono ?_
    rintro e' w3 ⟨rfl, hq3⟩
    have HQ3 := hidden (below_after HQ2.out hq3)
    clear hq3
    go_wp2_with fail
    go_ret
    exact ⟨rfl, HQ3.out⟩
set_option maxHeartbeats 4000000 in
set_option maxRecDepth 100000 in
theorem FanoBytes_yes (l : List Nat) (u : Nat) (v : Value) (w : World) (h : Ints w v (Fn.ints l)) (hT : Tab w) (ok : Fn.Ok l u) :
    Calls Tryd.prog 5 #[v, .int .i64 (u : Nat)] w fun e w' => e = .returned (.bool true) ∧ Below w.heap.size w w' := by
  have HI := hidden h
  obtain ⟨ao, cap, rfl, hcap, hc⟩ := h.cells
  have HT := hidden hT
  have OK := hidden ok
  have HOI := hidden ok.int
  have hu := ok.le
  have hu1 := ok.pos
  have hn := ok.len
  clear h hT ok hc
  rw [Fn.ints_length] at hcap HI ⊢
  obtain ⟨N, hN⟩ : ∃ N, N = l.length := ⟨_, rfl⟩
  rw [← hN] at hn hcap HI ⊢
  have HN := hidden hN
  clear hN
  go_enter Tryd.func5, Tryd.ntmps5
  go_wp2_with fail
  refine (awake5_any w HT.out).mono ?_
  rintro e' w1 ⟨rfl, hq1⟩
  have HQ1 := hidden hq1
  clear hq1
  go_wp2_with fail
  refine (few_any (Fn.ints l) u _ w1 (HI.out.after HQ1.out) (by rw [Fn.ints_length, ← HN.out]; omega) (by omega)).mono ?_
  rintro e' w2 ⟨⟨r, rfl, hr⟩, rfl⟩
  have HR := hidden hr
  clear hr
  cases r
  · go_wp2_with fail
    refine (awake5_any w2 (HT.out.after HQ1.out)).mono ?_
    rintro e' w3 ⟨rfl, hq3⟩
    have HQ3 := hidden (below_after HQ1.out hq3)
    clear hq3
    go_wp2_with fail
    go_ret
    exact ⟨rfl, HQ3.out⟩
  · have hl : N ≤ 100 := by have := (HR.out rfl).1; rw [Fn.ints_length] at this; rw [HN.out]; exact this
    have HFIT := hidden (OK.out.small (by rw [← HN.out]; exact hl) (fun h => by have := (HR.out rfl).2; rw [Fn.ints_length] at this; have := this h; omega))
    go_wp2_with fail
    refine (Right_any (Fn.ints l) u _ w2 (HI.out.after HQ1.out) (by rw [Fn.ints_length, ← HN.out]; exact hl)).mono ?_
    rintro e' w3 ⟨⟨r, rfl, hr⟩, m, rfl⟩
    obtain rfl : r = true := hr.2 HOI.out
    have HQ2 := hidden (below_drewN HQ1.out m)
    clear hr
    go_wp2_with fail
    refine (Make_ok l u _ _ (HI.out.after HQ2.out) OK.out (HT.out.after HQ2.out)).mono ?_
    rintro e' w4 ⟨s, q, rfl, hs, hb4⟩
    have HS := hidden hs
    have HB4 := hidden (below_after HQ2.out hb4)
    clear hs hb4
    go_wp2_with fail
    refine (Rows_any l u _ _ (HI.out.after HB4.out) OK.out (by have := HFIT.out; omega)).mono ?_
    rintro e' w5 ⟨va, vb, rfl, hva, hvb, hb5⟩
    have B5 := hidden (below_after HB4.out hb5)
    have HS5 := hidden (HS.out.after hb5)
    obtain ⟨ca, capa, hea, hca⟩ := Fn.lenV_own hva
    obtain ⟨cb, capb, heb, hcb⟩ := Fn.lenV_own hvb
    rw [Fn.lowB_length, ← HN.out] at hea hca
    rw [OK.out.high_length, ← HN.out] at heb hcb
    subst hea heb
    clear hb5 hva hvb
    go_wp2_with fail
    refine (SBytes_any s u l q _ HS5.out (by have := HFIT.out; omega)).mono ?_
    rintro e' w6 ⟨rfl, hb6⟩
    have B6 := hidden (below_after B5.out hb6)
    have HS6 := hidden (HS5.out.after hb6)
    clear hb6
    obtain ⟨T, hTT⟩ : ∃ T : List UInt8, T = Bt.rowB (Fn.allB l u).length (Bt.num (Fn.allB l u)) := ⟨_, rfl⟩
    have hof : Bt.ofB T = some ((Fn.allB l u).length, Bt.num (Fn.allB l u)) := by
      rw [hTT]
      exact Bt.ofB_row _ _ (by rw [OK.out.all_length]; have := HFIT.out; omega) (Bt.num_lt _)
    have htl : T.length ≤ 9223372036854775807 := by
      rw [hTT]
      unfold Bt.rowB
      rw [Bt.rowTo_length, OK.out.all_length]
      have := HFIT.out
      omega
    have HFO := hidden (fun w (hT : Tab w) => FOf_yes ⟨T.toArray⟩ _ _ l u w htl (by rw [show (⟨T.toArray⟩ : ByteArray).data.toList = T from rfl]; exact hof) (Fn.Reads.of OK.out) hT)
    have HRBy := hidden (fun w (h : Ints w (.slice ao N cap) (Fn.ints l)) => rFBytes_any l u _ w h OK.out HFIT.out)
    have HSBy := hidden (fun s q w (h : Sq w s l u q) => SBytes_any s u l q w h (by have := HFIT.out; omega))
    rw [← hTT] at HRBy HSBy ⊢
    clear hTT hof htl
    go_wp2_with fail
    refine (HFO.out _ (HT.out.after B6.out)).mono ?_
    rintro e' w7 ⟨p, q2, rfl, hs7, hb7⟩
    have HP7 := hidden hs7
    have B7 := hidden (below_after B6.out hb7)
    have HS7 := hidden (HS6.out.after hb7)
    clear hs7 hb7
    go_wp2_with fail
    refine (HRBy.out _ (HI.out.after B7.out)).mono ?_
    rintro e' w8 ⟨rfl, hb8⟩
    have HP8 := hidden (HP7.out.after hb8)
    have B8 := hidden (below_after B7.out hb8)
    have HS8 := hidden (HS7.out.after hb8)
    clear hb8
    go_wp2_with fail
    refine (HSBy.out p q2 _ HP8.out).mono ?_
    rintro e' w9 ⟨rfl, hb9⟩
    have HP9 := hidden (HP8.out.after hb9)
    have B9 := hidden (below_after B8.out hb9)
    have HS9 := hidden (HS8.out.after hb9)
    clear hb9
    go_wp2_with fail
    refine (SLen_any p u l q2 _ HP9.out).mono ?_
    rintro e' w10 ⟨rfl, rfl⟩
    rw [← HN.out]
    go_wp2_with fail
    have HSZ := hidden (fun w (h : Sq w s l u q) => SSize_any s u l q w h)
    have HOV := hidden (fun w (h : Sq w s l u q) => SOver_any s u l q w h)
    have hov : Ck.sz (Bt.num (Fn.HB l u)) (Fn.HB l u).length ≤ Fn.highs l.length u / 2 + 512 := by
      have h1 := Ck.sz_le (Bt.num (Fn.HB l u)) (Fn.HB l u).length (Bt.num_lt _)
      have h2 := Fn.HB_le OK.out
      omega
    have HSL := hidden (fun (W : Nat) (h0 : 0 < N) (h : u ≤ N * 2 ^ W) => Fn.size_le (n := N) (u := u) (W := W) h0 (by omega) h)
    have hfit := HFIT.out
    rw [← HN.out] at HSZ hov hfit
    generalize Ck.sz (Bt.num (Fn.HB l u)) (Fn.HB l u).length = OV at *
    generalize Fn.highs N u = H at *
    generalize Fn.lows N u = Lw at *
    clear HFO HRBy HSBy HFIT HR
    go_loopw [12] (fun i wr => ∃ k : Nat, k ≤ 40 ∧ i = .int .i64 k ∧ wr = w10) (fun i _ => 64 - (intOf i).toNat)
    case atStart => exact ⟨0, by omega, rfl, rfl⟩
    case round =>
      obtain ⟨k, hk, rfl, rfl⟩ := hrel
      rcases Nat.eq_zero_or_pos N with h0 | h0
      · have d0 : decide (0 < N) = false := by simp; omega
        have d1 : decide ((0 : Int) < (N : Int)) = false := by simp; omega
        clear HSL
        go_wp2_with fail
        refine (HSZ.out _ HS9.out).mono ?_
        rintro e' w12 ⟨rfl, hb12⟩
        have B12 := hidden (below_after B9.out hb12)
        have HS12 := hidden (HS9.out.after hb12)
        clear hb12
        go_wp2_with fail
        refine (HOV.out _ HS12.out).mono ?_
        rintro e' w13 ⟨rfl, m2, rfl⟩
        have B13 := hidden (below_drewN B12.out m2)
        have HS13 := hidden (HS12.out.after (below_drewN (Below.refl _ _) m2))
        go_wp2_with fail
        refine (HOV.out _ HS13.out).mono ?_
        rintro e' w14 ⟨rfl, m3, rfl⟩
        have B14 := hidden (below_drewN B12.out (m2 + m3))
        go_wp2_with fail
        go_ret
        exact ⟨ret_bool (by simp; omega), B14.out⟩
      · have d0 : decide (0 < N) = true := by simp; omega
        have d1 : decide ((0 : Int) < (N : Int)) = true := by simp; omega
        obtain ⟨P, hP⟩ : ∃ P : Nat, P = N * 2 ^ k := ⟨_, rfl⟩
        have hP2 : (N : Int) * 2 ^ k = (P : Int) := by rw [hP]; simp
        have hPb : P ≤ 109951162777600 := by
          have : N * 2 ^ k ≤ 100 * 2 ^ 40 := Nat.mul_le_mul hl (Nat.pow_le_pow_right (by decide) hk)
          omega
        have HP := hidden hP
        by_cases hlt : P < u
        · have hk2 : k < 40 := by
            rcases Nat.lt_or_ge k 40 with hl2 | hl2
            · exact hl2
            · obtain rfl : k = 40 := by omega
              omega
          clear hP HSL
          go_wp2_with fail
          go_roundw
          case rel => exact ⟨k + 1, by omega, by go_num, trivial⟩
          case measure => simp [intOf]; omega
        · have hsl := HSL.out k h0 (by rw [← hP]; omega)
          obtain ⟨R, hR⟩ : ∃ R : Nat, R = k * N := ⟨_, rfl⟩
          have hR2 : (k : Int) * (N : Int) = (R : Int) := by rw [hR]; simp
          rw [← hR] at hsl
          have hRb : R ≤ 4000 := by
            have : k * N ≤ 40 * 100 := Nat.mul_le_mul hk hl
            omega
          clear hP HSL hR
          go_wp2_with fail
          refine (HSZ.out _ HS9.out).mono ?_
          rintro e' w11 ⟨rfl, hb11⟩
          have B11 := hidden (below_after B9.out hb11)
          have HS11 := hidden (HS9.out.after hb11)
          clear hb11
          go_wp2_with fail
          refine (HSZ.out _ HS11.out).mono ?_
          rintro e' w12 ⟨rfl, hb12⟩
          have B12 := hidden (below_after B11.out hb12)
          have HS12 := hidden (HS11.out.after hb12)
          clear hb12
          go_wp2_with fail
          refine (HOV.out _ HS12.out).mono ?_
          rintro e' w13 ⟨rfl, m2, rfl⟩
          have B13 := hidden (below_drewN B12.out m2)
          have HS13 := hidden (HS12.out.after (below_drewN (Below.refl _ _) m2))
          go_wp2_with fail
          refine (HOV.out _ HS13.out).mono ?_
          rintro e' w14 ⟨rfl, m3, rfl⟩
          have B14 := hidden (below_drewN B12.out (m2 + m3))
          go_wp2_with fail
          go_ret
          exact ⟨ret_bool (by simp; omega), B14.out⟩
theorem FanoBytes_walk (li : List Int) (b : Int) (v : Value) (w : World) (h : Ints w v li) (hm : li.length ≤ 9223372036854775807) (hb : b ≤ 9223372036854775807) (hT : Tab w) :
    Calls Tryd.prog 5 #[v, .int .i64 b] w fun e w' => e = .returned (.bool true) ∧ Below w.heap.size w w' := by
  by_cases hok : Fn.OkI li b
  · obtain ⟨l, u, rfl, rfl, ok⟩ := hok.nat
    exact FanoBytes_yes l u v w h hT ok
  · exact FanoBytes_no li b v w h hm hb hT hok
end Go.Proofs.YtfohldojcdhnhaaDoor
