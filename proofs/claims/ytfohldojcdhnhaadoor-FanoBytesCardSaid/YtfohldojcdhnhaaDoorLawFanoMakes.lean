/-
  The walk of the law FanoMakes: it returns true for all numbers and bounds; nothing that was there is changed.
-/
import Derived.Test.YtfohldojcdhnhaaDoorJFnLess
namespace Go.Proofs.YtfohldojcdhnhaaDoor
open Go.RowKit
theorem Tab.after {w w' : World} (h : Tab w) (hb : Below w.heap.size w w') : Tab w' := h.below hb (Nat.le_refl _)
theorem Ints.after {w w' : World} {u : Value} {l : List Int} (h : Ints w u l) (hb : Below w.heap.size w w') : Ints w' u l := h.below hb (Nat.le_refl _)
theorem Sq.after {w w' : World} {s u : Nat} {l : List Nat} {q : Fn.Q} (h : Sq w s l u q) (hb : Below w.heap.size w w') : Sq w' s l u q := h.below hb (Nat.le_refl _)
set_option maxHeartbeats 1000000 in
theorem FanoMakes_long (li : List Int) (b : Int) (v : Value) (w : World) (h : Ints w v li) (hl : 100 < li.length) (hm : li.length ≤ 9223372036854775807) (hT : Tab w) :
    Calls Tryd.prog 3 #[v, .int .i64 b] w fun e w' => e = .returned (.bool true) ∧ Below w.heap.size w w' := by
  obtain ⟨ao, cap, rfl, hcap, _⟩ := h.cells
  have HT := hidden hT
  have d0 : decide ((100 : Int) < (li.length : Int)) = true := by simp; omega
  clear h hT
  go_enter Tryd.func3, Tryd.ntmps3
  go_wp2_with fail
  refine (awake5_any w HT.out).mono ?_
  rintro e' w1 ⟨rfl, hq1⟩
  have HQ1 := hidden hq1
  clear hq1
  go_wp2_with fail
  refine (awake5_any w1 (HT.out.after HQ1.out)).mono ?_
  rintro e' w2 ⟨rfl, hq2⟩
  have HQ2 := hidden (below_after HQ1.out hq2)
  clear hq2
  go_wp2_with fail
  go_ret
  exact ⟨rfl, HQ2.out⟩
set_option maxHeartbeats 4000000 in
set_option maxRecDepth 100000 in
theorem FanoMakes_no (li : List Int) (b : Int) (v : Value) (w : World) (h : Ints w v li) (hl : li.length ≤ 100) (hT : Tab w) (hno : ¬ Fn.OkI li b) :
    Calls Tryd.prog 3 #[v, .int .i64 b] w fun e w' => e = .returned (.bool true) ∧ Below w.heap.size w w' := by
  have HI := hidden h
  obtain ⟨ao, cap, rfl, hcap, _⟩ := h.cells
  have HT := hidden hT
  have HNO := hidden hno
  have d0 : decide ((100 : Int) < (li.length : Int)) = false := by simp; omega
  clear h hT hno
  go_enter Tryd.func3, Tryd.ntmps3
  go_wp2_with fail
  refine (awake5_any w HT.out).mono ?_
  rintro e' w1 ⟨rfl, hq1⟩
  have HQ1 := hidden hq1
  clear hq1
  go_wp2_with fail
  refine (Right_any li b _ w1 (HI.out.after HQ1.out) hl).mono ?_
  rintro e' w2 ⟨⟨r, rfl, hr⟩, m, rfl⟩
  obtain rfl : r = false := by
    cases r
    · rfl
    · exact absurd (hr.1 rfl) HNO.out
  have HQ2 := hidden (below_drewN HQ1.out m)
  clear hr
  go_wp2_with fail
  refine (Make_no li b _ _ (HI.out.after HQ2.out) (by omega) HNO.out).mono ?_
  rintro e' w3 ⟨rfl, rfl⟩
  go_wp2_with fail
  go_ret
  exact ⟨rfl, HQ2.out⟩
set_option maxHeartbeats 4000000 in
set_option maxRecDepth 100000 in
theorem FanoMakes_yes (l : List Nat) (u : Nat) (v : Value) (w : World) (h : Ints w v (Fn.ints l)) (hl : l.length ≤ 100) (hT : Tab w) (ok : Fn.Ok l u) :
    Calls Tryd.prog 3 #[v, .int .i64 (u : Nat)] w fun e w' => e = .returned (.bool true) ∧ Below w.heap.size w w' := by
  have HI := hidden h
  obtain ⟨ao, cap, rfl, hcap, hc⟩ := h.cells
  have HC := hidden hc
  have HT := hidden hT
  have OK := hidden ok
  have HOI := hidden ok.int
  have hu := ok.le
  clear h hT ok hc
  rw [Fn.ints_length] at hcap HI HC ⊢
  obtain ⟨N, hN⟩ : ∃ N, N = l.length := ⟨_, rfl⟩
  rw [← hN] at hl hcap HI HC ⊢
  have HN := hidden hN
  clear hN
  have d0 : decide ((100 : Int) < (N : Int)) = false := by simp; omega
  go_enter Tryd.func3, Tryd.ntmps3
  go_wp2_with fail
  refine (awake5_any w HT.out).mono ?_
  rintro e' w1 ⟨rfl, hq1⟩
  have HQ1 := hidden hq1
  clear hq1
  go_wp2_with fail
  refine (Right_any (Fn.ints l) u _ w1 (HI.out.after HQ1.out) (by rw [Fn.ints_length, ← HN.out]; exact hl)).mono ?_
  rintro e' w2 ⟨⟨r, rfl, hr⟩, m, rfl⟩
  obtain rfl : r = true := hr.2 HOI.out
  have HQ2 := hidden (below_drewN HQ1.out m)
  clear hr
  go_wp2_with fail
  refine (few_any (Fn.ints l) u _ _ (HI.out.after HQ2.out) (by rw [Fn.ints_length, ← HN.out]; omega) (by omega)).mono ?_
  rintro e' w3 ⟨⟨r, rfl, hr⟩, rfl⟩
  clear hr
  cases r
  · go_wp2_with fail
    go_ret
    exact ⟨rfl, HQ2.out⟩
  · go_wp2_with fail
    refine (Make_ok l u _ _ (HI.out.after HQ2.out) OK.out (HT.out.after HQ2.out)).mono ?_
    rintro e' w4 ⟨s, q, rfl, hs, hb4⟩
    have HS := hidden hs
    have HB4 := hidden (below_after HQ2.out hb4)
    clear hs hb4
    go_wp2_with fail
    refine (SLen_any s u l q w4 HS.out).mono ?_
    rintro e' w5 ⟨rfl, rfl⟩
    rw [← HN.out]
    go_wp2_with fail
    refine (SBound_any s u l q w5 HS.out).mono ?_
    rintro e' w6 ⟨rfl, rfl⟩
    go_wp2_with fail
    go_loopw [9] (fun i wr => ∃ k : Nat, k ≤ N + 2 ∧ i = .int .i64 ((k : Int) - 1) ∧ Below w.heap.size w wr ∧ Below w6.heap.size w6 wr) (fun i _ => N + 2 - (intOf i + 1).toNat)
    case atStart => exact ⟨0, by omega, rfl, HB4.out, Below.refl _ _⟩
    case round =>
      obtain ⟨k, hk, rfl, hb, hb6⟩ := hrel
      have HB := hidden hb
      have HB6 := hidden hb6
      clear hb hb6
      rcases (show k = 0 ∨ (∃ j, k = j + 1 ∧ j < N) ∨ k = N + 1 ∨ k = N + 2 from by
        rcases Nat.eq_zero_or_pos k with h | h
        · exact .inl h
        · rcases Nat.lt_or_ge k (N + 1) with h2 | h2
          · exact .inr (.inl ⟨k - 1, by omega, by omega⟩)
          · omega) with rfl | ⟨j, rfl, hj⟩ | rfl | rfl
      · rw [show ((0 : Nat) : Int) - 1 = -1 from rfl]
        go_wp2_with fail
        refine (SGet_out s u (-1) l q wr (HS.out.after HB6.out) (.inl (by omega))).mono ?_
        rintro e' w7 ⟨rfl, hb7⟩
        have HB7 := hidden hb7
        clear hb7
        go_wp2_with fail
        go_roundw
        case rel => exact ⟨1, by omega, by go_num, below_after HB.out HB7.out, below_after HB6.out HB7.out⟩
        case measure => simp [intOf]
      · rw [show ((j + 1 : Nat) : Int) - 1 = (j : Int) from by omega]
        have hjl : j < l.length := by rw [← HN.out]; exact hj
        obtain ⟨g, off, rfl, hg, hcell⟩ := HC.out (by omega)
        have c0 := hcell j hj
        rw [Fn.ints_getD] at c0
        have HG := hidden (SGet_in s u j j l q wr (HS.out.after HB6.out) (HT.out.after HB.out) hjl rfl)
        obtain ⟨y, hy⟩ : ∃ y, y = l.getD j 0 := ⟨_, rfl⟩
        rw [← hy] at c0 HG
        clear hcell hy hjl
        go_wp2_with fail
        refine (HG.out).mono ?_
        rintro e' w7 ⟨rfl, hb7⟩
        have HB7 := hidden hb7
        have c1 := cell_after (below_after HB.out hb7) c0
        clear hb7
        go_wp2_with fail
        go_roundw
        case rel => exact ⟨j + 2, by omega, by go_num, below_after HB.out HB7.out, below_after HB6.out HB7.out⟩
        case measure => simp [intOf]; omega
      · rw [show ((N + 1 : Nat) : Int) - 1 = (N : Int) from by omega]
        have HG := hidden (SGet_out s u N l q wr (HS.out.after HB6.out) (.inr (by rw [HN.out]; exact Int.le_refl _)))
        go_wp2_with fail
        refine (HG.out).mono ?_
        rintro e' w7 ⟨rfl, hb7⟩
        have HB7 := hidden hb7
        clear hb7
        go_wp2_with fail
        go_roundw
        case rel => exact ⟨N + 2, by omega, by go_num, below_after HB.out HB7.out, below_after HB6.out HB7.out⟩
        case measure => simp [intOf]; omega
      · rw [show ((N + 2 : Nat) : Int) - 1 = (N : Int) + 1 from by omega]
        go_wp2_with fail
        go_ret
        exact ⟨rfl, HB.out⟩
theorem FanoMakes_walk (li : List Int) (b : Int) (v : Value) (w : World) (h : Ints w v li) (hm : li.length ≤ 9223372036854775807) (hT : Tab w) :
    Calls Tryd.prog 3 #[v, .int .i64 b] w fun e w' => e = .returned (.bool true) ∧ Below w.heap.size w w' := by
  by_cases hl : li.length ≤ 100
  · by_cases hok : Fn.OkI li b
    · obtain ⟨l, u, rfl, rfl, ok⟩ := hok.nat
      exact FanoMakes_yes l u v w h (by rw [Fn.ints_length] at hl; exact hl) hT ok
    · exact FanoMakes_no li b v w h hl hT hok
  · exact FanoMakes_long li b v w h (by omega) hm hT
end Go.Proofs.YtfohldojcdhnhaaDoor
