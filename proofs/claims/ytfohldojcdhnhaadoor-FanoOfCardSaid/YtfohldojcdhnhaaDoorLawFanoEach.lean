/-
  The walk of the law FanoEach: it returns true for all numbers and bounds; nothing that was there is changed.
-/
import Derived.Test.YtfohldojcdhnhaaDoorLawFanoMakes
namespace Go.Proofs.YtfohldojcdhnhaaDoor
open Go.RowKit
namespace Fn
theorem less_self_le {l : List Nat} (h : Up l) {k : Nat} : less l ((l.getD k 0 : Nat) : Int) ≤ k := hi_of h (by omega)
theorem next_self {l : List Nat} (h : Up l) {k : Nat} (hk : k < l.length) : next l ((l.getD k 0 : Nat) : Int) = some (l.getD k 0) := by
  have h1 := less_self_le h (k := k)
  have h2 := (less_spec h ((l.getD k 0 : Nat) : Int)).hi _ (Nat.le_refl _) (by omega)
  have h3 := h.le k _ h1 hk
  unfold next
  rw [getD_some (by omega), show l.getD (less l ((l.getD k 0 : Nat) : Int)) 0 = l.getD k 0 from by omega]
theorem prev_self {l : List Nat} (h : Up l) {k : Nat} (hk : k < l.length) : prev l ((l.getD k 0 : Nat) : Int) = some (l.getD k 0) := by
  have h1 := lo_of h (x := l.getD k 0 + 1) (i := k) (by omega) hk
  rw [show (((l.getD k 0 + 1 : Nat)) : Int) = ((l.getD k 0 : Nat) : Int) + 1 from by omega] at h1
  have h2 := less_le l (((l.getD k 0 : Nat) : Int) + 1)
  have h3 := (less_spec h (((l.getD k 0 : Nat) : Int) + 1)).lo (less l (((l.getD k 0 : Nat) : Int) + 1) - 1) (by omega)
  have h4 := h.le (less l (((l.getD k 0 : Nat) : Int) + 1) - 1) k (by omega) (by omega)
  unfold prev
  rw [if_neg (by omega), getD_some (by omega), show l.getD (less l (((l.getD k 0 : Nat) : Int) + 1) - 1) 0 = l.getD k 0 from by omega]
theorem less_first {l : List Nat} (h : Up l) : less l ((l.getD 0 0 : Nat) : Int) = 0 := by have := less_self_le h (k := 0); omega
theorem less_next {l : List Nat} (h : Up l) {k : Nat} (hk : k + 1 < l.length) (hne : l.getD (k + 1) 0 ≠ l.getD k 0) : less l ((l.getD (k + 1) 0 : Nat) : Int) = k + 1 := by
  have h1 := less_self_le h (k := k + 1)
  have h2 := h k hk
  have h3 := lo_of h (x := l.getD (k + 1) 0) (i := k) (by omega) (by omega)
  omega
/-- Which number of its like is the first one, of those ahead of k. -/
def firstTo (l : List Nat) (k : Nat) : Nat := if k = 0 then 0 else less l ((l.getD (k - 1) 0 : Nat) : Int)
theorem firstTo_succ (l : List Nat) (k : Nat) : firstTo l (k + 1) = less l ((l.getD k 0 : Nat) : Int) := by unfold firstTo; simp
end Fn
set_option maxHeartbeats 1000000 in
theorem FanoEach_no (li : List Int) (b : Int) (v : Value) (w : World) (h : Ints w v li) (hm : li.length ≤ 9223372036854775807) (hb : b ≤ 9223372036854775807) (hT : Tab w) (hno : ¬ Fn.OkI li b) :
    Calls Tryd.prog 7 #[v, .int .i64 b] w fun e w' => e = .returned (.bool true) ∧ Below w.heap.size w w' := by
  have HI := hidden h
  obtain ⟨ao, cap, rfl, hcap, _⟩ := h.cells
  have HT := hidden hT
  have HNO := hidden hno
  clear h hT hno
  go_enter Tryd.func7, Tryd.ntmps7
  go_wp2_with fail
  refine (awake5_any w HT.out).mono ?_
  rintro e' w1 ⟨rfl, hq1⟩
  have HQ1 := hidden hq1
  clear hq1
  go_wp2_with fail
  refine (few_any li b _ w1 (HI.out.after HQ1.out) hm hb).mono ?_
  rintro e' w2 ⟨⟨r, rfl, hr⟩, rfl⟩
  have HR := hidden hr
  clear hr
  cases r
  · go_wp2_with fail
    refine (awake5_any w2 (HT.out.after HQ1.out)).mono ?_
    rintro e' w3 ⟨rfl, hq3⟩
    have HQ3 := hidden (below_after HQ1.out hq3)
    clear hq3
    go_wp2_with fail
    go_ret
    exact ⟨rfl, HQ3.out⟩
  · have hl := (HR.out rfl).1
    go_wp2_with fail
    refine (Right_any li b _ w2 (HI.out.after HQ1.out) hl).mono ?_
    rintro e' w3 ⟨⟨r, rfl, hr⟩, m, rfl⟩
    obtain rfl : r = false := by
      cases r
      · rfl
      · exact absurd (hr.1 rfl) HNO.out
    have HQ2 := hidden (below_drewN HQ1.out m)
    clear hr
    go_wp2_with fail
    refine (awake5_any _ (HT.out.after HQ2.out)).mono ?_
    rintro e' w3 ⟨rfl, hq3⟩
    have HQ3 := hidden (below_after HQ2.out hq3)
    clear hq3
    go_wp2_with fail
    go_ret
    exact ⟨rfl, HQ3.out⟩
set_option maxHeartbeats 4000000 in
set_option maxRecDepth 100000 in
theorem FanoEach_yes (l : List Nat) (u : Nat) (v : Value) (w : World) (h : Ints w v (Fn.ints l)) (hT : Tab w) (ok : Fn.Ok l u) :
    Calls Tryd.prog 7 #[v, .int .i64 (u : Nat)] w fun e w' => e = .returned (.bool true) ∧ Below w.heap.size w w' := by
  have HI := hidden h
  obtain ⟨ao, cap, rfl, hcap, hc⟩ := h.cells
  have HC := hidden hc
  have HT := hidden hT
  have OK := hidden ok
  have HOI := hidden ok.int
  have hu := ok.le
  have hn := ok.len
  clear h hT ok hc
  rw [Fn.ints_length] at hcap HI HC ⊢
  obtain ⟨N, hN⟩ : ∃ N, N = l.length := ⟨_, rfl⟩
  rw [← hN] at hn hcap HI HC ⊢
  have HN := hidden hN
  clear hN
  go_enter Tryd.func7, Tryd.ntmps7
  go_wp2_with fail
  refine (awake5_any w HT.out).mono ?_
  rintro e' w1 ⟨rfl, hq1⟩
  have HQ1 := hidden hq1
  clear hq1
  go_wp2_with fail
  refine (few_any (Fn.ints l) u _ w1 (HI.out.after HQ1.out) (by rw [Fn.ints_length, ← HN.out]; omega) (by omega)).mono ?_
  rintro e' w2 ⟨⟨r, rfl, hr⟩, rfl⟩
  have HR := hidden hr
  clear hr
  cases r
  · go_wp2_with fail
    refine (awake5_any w2 (HT.out.after HQ1.out)).mono ?_
    rintro e' w3 ⟨rfl, hq3⟩
    have HQ3 := hidden (below_after HQ1.out hq3)
    clear hq3
    go_wp2_with fail
    go_ret
    exact ⟨rfl, HQ3.out⟩
  · have hl : N ≤ 100 := by have := (HR.out rfl).1; rw [Fn.ints_length] at this; rw [HN.out]; exact this
    go_wp2_with fail
    refine (Right_any (Fn.ints l) u _ w2 (HI.out.after HQ1.out) (by rw [Fn.ints_length, ← HN.out]; exact hl)).mono ?_
    rintro e' w3 ⟨⟨r, rfl, hr⟩, m, rfl⟩
    obtain rfl : r = true := hr.2 HOI.out
    have HQ2 := hidden (below_drewN HQ1.out m)
    clear hr
    go_wp2_with fail
    refine (Make_ok l u _ _ (HI.out.after HQ2.out) OK.out (HT.out.after HQ2.out)).mono ?_
    rintro e' w4 ⟨s, q, rfl, hs, hb4⟩
    have HS := hidden hs
    have HB4 := hidden (below_after HQ2.out hb4)
    clear hs hb4
    go_wp2_with fail
    go_loopw [7, 8] (fun f i wr => ∃ k : Nat, k ≤ N ∧ i = .int .i64 k ∧ f = .int .i64 ((Fn.firstTo l k : Nat) : Int) ∧ Below w.heap.size w wr ∧ Below w4.heap.size w4 wr) (fun _ i _ => N - (intOf i).toNat)
    case atStart => exact ⟨0, by omega, rfl, rfl, HB4.out, Below.refl _ _⟩
    case round =>
      obtain ⟨k, hk, rfl, rfl, hb, hb4⟩ := hrel
      have HB := hidden hb
      have HB4' := hidden hb4
      clear hb hb4
      by_cases hlt : k < N
      · have hkl : k < l.length := by rw [← HN.out]; exact hlt
        obtain ⟨g, off, rfl, hg, hcell⟩ := HC.out (by omega)
        have c0 := cell_after HB.out (hcell k hlt)
        have c1 := cell_after HB.out (hcell (k - 1) (by omega))
        rw [Fn.ints_getD] at c0 c1
        have HF : Hid (Fn.firstTo l (k + 1) = if 0 < k ∧ l.getD k 0 ≠ l.getD (k - 1) 0 then k else Fn.firstTo l k) := by
          show _ = _
          rw [Fn.firstTo_succ]
          cases k with
          | zero => rw [if_neg (by omega)]; exact Fn.less_first OK.out.up
          | succ j =>
            rw [Nat.add_sub_cancel, Fn.firstTo_succ]
            split
            · rename_i h; exact Fn.less_next OK.out.up hkl h.2
            · rename_i h
              rw [show l.getD (j + 1) 0 = l.getD j 0 from by
                rcases Nat.lt_or_ge (l.getD (j + 1) 0) (l.getD j 0) with h3 | h3
                · exact absurd ⟨by omega, by omega⟩ h
                · rcases Nat.lt_or_ge (l.getD j 0) (l.getD (j + 1) 0) with h4 | h4
                  · exact absurd ⟨by omega, by omega⟩ h
                  · omega]
        have HNX := hidden (fun w' (hb : Below w4.heap.size w4 w') (hb2 : Below w.heap.size w w') => SNext_any s u ((l.getD k 0 : Nat) : Int) l q w' (HS.out.after hb) (HT.out.after hb2))
        have HPV := hidden (fun w' (hb : Below w4.heap.size w4 w') (hb2 : Below w.heap.size w w') => SPrev_any s u ((l.getD k 0 : Nat) : Int) l q w' (HS.out.after hb) (HT.out.after hb2) (by omega))
        have HHA := hidden (fun w' (hb : Below w4.heap.size w4 w') (hb2 : Below w.heap.size w w') => SHas_any s u ((l.getD k 0 : Nat) : Int) l q w' (HS.out.after hb) (HT.out.after hb2))
        have HLE := hidden (fun w' (hb : Below w4.heap.size w4 w') (hb2 : Below w.heap.size w w') => SLess_any s u ((l.getD k 0 : Nat) : Int) l q w' (HS.out.after hb) (HT.out.after hb2))
        rw [Fn.next_self OK.out.up hkl] at HNX HHA
        rw [Fn.prev_self OK.out.up hkl] at HPV
        rw [← Fn.firstTo_succ] at HLE
        obtain ⟨F', hF'⟩ : ∃ F', F' = Fn.firstTo l (k + 1) := ⟨_, rfl⟩
        rw [← hF'] at HLE HF
        have HF' := hidden hF'
        obtain ⟨F, hF⟩ : ∃ F, F = Fn.firstTo l k := ⟨_, rfl⟩
        rw [← hF] at HF ⊢
        obtain ⟨y, hy⟩ : ∃ y, y = l.getD k 0 := ⟨_, rfl⟩
        obtain ⟨p, hp⟩ : ∃ p, p = l.getD (k - 1) 0 := ⟨_, rfl⟩
        rw [← hy] at c0 HNX HPV HHA HLE HF
        rw [← hp] at c1 HF
        unfold Fn.two at HNX HPV
        rw [show (some y : Option Nat).isSome = true from rfl, show (some y : Option Nat).getD 0 = y from rfl] at HNX HPV HHA
        rw [show ((y : Int) == (y : Int)) = true from by simp] at HHA
        clear hcell hkl hy hp hF hF'
        by_cases h0 : 0 < k
        · have d0 : decide (0 < k) = true := by simpa using h0
          obtain ⟨j, hj⟩ : ∃ j, j = k - 1 := ⟨_, rfl⟩
          rw [← hj] at c1
          have hkj : (k : Int) - 1 = (j : Int) := by omega
          have hj2 : j < N := by omega
          clear hj
          by_cases hne : y = p
          · subst hne
            have e := HF.out
            rw [if_neg (by omega)] at e
            obtain rfl : F' = F := e
            clear HF
            go_wp2_with fail
            go_quiet (fail)
            go_wp2_with fail
            refine (HNX.out _ (below_drewN HB4'.out nq) (below_drewN HB.out nq)).mono ?_
            rintro e' w5 ⟨rfl, hb5⟩
            have B5 := hidden (below_after (below_drewN HB.out nq) hb5)
            have B5' := hidden (below_after (below_drewN HB4'.out nq) hb5)
            have c5 := cell_after hb5 c0
            clear hb5
            go_wp2_with fail
            refine (HPV.out _ B5'.out B5.out).mono ?_
            rintro e' w6 ⟨rfl, hb6⟩
            have B6 := hidden (below_after B5.out hb6)
            have B6' := hidden (below_after B5'.out hb6)
            have c6 := cell_after hb6 c5
            clear hb6
            go_wp2_with fail
            refine (HHA.out _ B6'.out B6.out).mono ?_
            rintro e' w7 ⟨rfl, hb7⟩
            have B7 := hidden (below_after B6.out hb7)
            have B7' := hidden (below_after B6'.out hb7)
            have c7 := cell_after hb7 c6
            clear hb7
            go_wp2_with fail
            refine (HLE.out _ B7'.out B7.out).mono ?_
            rintro e' w8 ⟨rfl, hb8⟩
            have B8 := hidden (below_after B7.out hb8)
            have B8' := hidden (below_after B7'.out hb8)
            clear hb8
            go_wp2_with fail
            go_roundw
            case rel => exact ⟨k + 1, by omega, by go_num, int_eq (by rw [← HF'.out]), B8.out, B8'.out⟩
            case measure => simp [intOf]; omega
          · have hne2 : ((y : Int) == (p : Int)) = false := by simp; omega
            have e := HF.out
            rw [if_pos ⟨h0, hne⟩] at e
            obtain rfl : F' = k := e
            clear HF
            go_wp2_with fail
            go_quiet (fail)
            go_wp2_with fail
            refine (HNX.out _ (below_drewN HB4'.out nq) (below_drewN HB.out nq)).mono ?_
            rintro e' w5 ⟨rfl, hb5⟩
            have B5 := hidden (below_after (below_drewN HB.out nq) hb5)
            have B5' := hidden (below_after (below_drewN HB4'.out nq) hb5)
            have c5 := cell_after hb5 c0
            clear hb5
            go_wp2_with fail
            refine (HPV.out _ B5'.out B5.out).mono ?_
            rintro e' w6 ⟨rfl, hb6⟩
            have B6 := hidden (below_after B5.out hb6)
            have B6' := hidden (below_after B5'.out hb6)
            have c6 := cell_after hb6 c5
            clear hb6
            go_wp2_with fail
            refine (HHA.out _ B6'.out B6.out).mono ?_
            rintro e' w7 ⟨rfl, hb7⟩
            have B7 := hidden (below_after B6.out hb7)
            have B7' := hidden (below_after B6'.out hb7)
            have c7 := cell_after hb7 c6
            clear hb7
            go_wp2_with fail
            refine (HLE.out _ B7'.out B7.out).mono ?_
            rintro e' w8 ⟨rfl, hb8⟩
            have B8 := hidden (below_after B7.out hb8)
            have B8' := hidden (below_after B7'.out hb8)
            clear hb8
            go_wp2_with fail
            go_roundw
            case rel => exact ⟨F' + 1, by omega, by go_num, int_eq (by rw [← HF'.out]), B8.out, B8'.out⟩
            case measure => simp [intOf]; omega
        · obtain rfl : k = 0 := by omega
          have e := HF.out
          rw [if_neg (by omega)] at e
          obtain rfl : F' = F := e
          clear HF c1
          rw [Nat.add_zero] at c0
          go_wp2_with fail
          go_quiet (fail)
          go_wp2_with fail
          refine (HNX.out _ (below_drewN HB4'.out nq) (below_drewN HB.out nq)).mono ?_
          rintro e' w5 ⟨rfl, hb5⟩
          have B5 := hidden (below_after (below_drewN HB.out nq) hb5)
          have B5' := hidden (below_after (below_drewN HB4'.out nq) hb5)
          have c5 := cell_after hb5 c0
          clear hb5
          go_wp2_with fail
          refine (HPV.out _ B5'.out B5.out).mono ?_
          rintro e' w6 ⟨rfl, hb6⟩
          have B6 := hidden (below_after B5.out hb6)
          have B6' := hidden (below_after B5'.out hb6)
          have c6 := cell_after hb6 c5
          clear hb6
          go_wp2_with fail
          refine (HHA.out _ B6'.out B6.out).mono ?_
          rintro e' w7 ⟨rfl, hb7⟩
          have B7 := hidden (below_after B6.out hb7)
          have B7' := hidden (below_after B6'.out hb7)
          have c7 := cell_after hb7 c6
          clear hb7
          go_wp2_with fail
          refine (HLE.out _ B7'.out B7.out).mono ?_
          rintro e' w8 ⟨rfl, hb8⟩
          have B8 := hidden (below_after B7.out hb8)
          have B8' := hidden (below_after B7'.out hb8)
          clear hb8
          go_wp2_with fail
          go_roundw
          case rel => exact ⟨1, by omega, by go_num, int_eq (by rw [← HF'.out]), B8.out, B8'.out⟩
          case measure => simp [intOf]; omega
      · obtain rfl : k = N := by omega
        have HL1 := hidden (fun w' (hb : Below w4.heap.size w4 w') (hb2 : Below w.heap.size w w') => SLess_any s u (u : Int) l q w' (HS.out.after hb) (HT.out.after hb2))
        have HL0 := hidden (fun w' (hb : Below w4.heap.size w4 w') (hb2 : Below w.heap.size w w') => SLess_any s u 0 l q w' (HS.out.after hb) (HT.out.after hb2))
        rw [Fn.less_top OK.out (Int.le_refl _), ← HN.out] at HL1
        rw [Fn.less_zero OK.out.up (.inl (Int.le_refl _))] at HL0
        go_wp2_with fail
        refine (HL1.out _ HB4'.out HB.out).mono ?_
        rintro e' w5 ⟨rfl, hb5⟩
        have B5 := hidden (below_after HB.out hb5)
        have B5' := hidden (below_after HB4'.out hb5)
        clear hb5
        go_wp2_with fail
        refine (HL0.out _ B5'.out B5.out).mono ?_
        rintro e' w6 ⟨rfl, hb6⟩
        have B6 := hidden (below_after B5.out hb6)
        clear hb6
        go_wp2_with fail
        go_ret
        exact ⟨rfl, B6.out⟩
theorem FanoEach_walk (li : List Int) (b : Int) (v : Value) (w : World) (h : Ints w v li) (hm : li.length ≤ 9223372036854775807) (hb : b ≤ 9223372036854775807) (hT : Tab w) :
    Calls Tryd.prog 7 #[v, .int .i64 b] w fun e w' => e = .returned (.bool true) ∧ Below w.heap.size w w' := by
  by_cases hok : Fn.OkI li b
  · obtain ⟨l, u, rfl, rfl, ok⟩ := hok.nat
    exact FanoEach_yes l u v w h hT ok
  · exact FanoEach_no li b v w h hm hb hT hok
end Go.Proofs.YtfohldojcdhnhaaDoor
