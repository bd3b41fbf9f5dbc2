/-
  The walk of the law FanoMore: it returns true for all numbers, bounds and numbers more; nothing that was there is changed.
-/
import Derived.Test.YtfohldojcdhnhaaDoorLawFanoEach
import Derived.Lib.QuietBelow
namespace Go.Proofs.YtfohldojcdhnhaaDoor
open Go.RowKit Go.Sort
theorem Tryd.infoInt : (Tryd.prog.info? 3).map (fun i => (i.zero, i.size, i.bytes)) = some (some (.int .i64 0), 1, 8) := by kernel_rfl
namespace Fn
/-- Numbers, as values. -/
def vals (li : List Int) : List Value := li.map fun x => Value.int .i64 x
theorem vals_length (li : List Int) : (vals li).length = li.length := by simp [vals]
theorem vals_one (li : List Int) : ∀ u ∈ vals li, u.oneCell' = true := by
  intro u hu
  simp only [vals, List.mem_map] at hu
  obtain ⟨x, _, rfl⟩ := hu
  rfl
theorem vals_get (li : List Int) (j : Nat) (u : Value) (h : (vals li)[j]? = some u) : j < li.length ∧ u = .int .i64 (li.getD j 0) := by
  unfold vals at h
  rw [List.getElem?_map] at h
  by_cases hj : j < li.length
  · rw [List.getElem?_eq_getElem hj] at h
    refine ⟨hj, ?_⟩
    rw [List.getD_eq_getElem?_getD, List.getElem?_eq_getElem hj]
    simp at h
    exact h.symm
  · rw [List.getElem?_eq_none (by omega)] at h
    cases h
theorem vals_at (li : List Int) (j : Nat) (h : j < li.length) : (vals li)[j]? = some (.int .i64 (li.getD j 0)) := by
  unfold vals
  rw [List.getElem?_map, List.getD_eq_getElem?_getD, List.getElem?_eq_getElem h]
  rfl
theorem ints_snoc (l : List Nat) (m : Nat) : ints (l ++ [m]) = ints l ++ [(m : Int)] := by simp [ints]
theorem vals_snoc (li : List Int) (x : Int) : vals (li ++ [x]) = vals li ++ [.int .i64 x] := by simp [vals]
theorem getD_snoc (l : List Nat) (m : Nat) {i : Nat} (h : i < l.length) : (l ++ [m]).getD i 0 = l.getD i 0 := by
  rw [List.getD_eq_getElem?_getD, List.getD_eq_getElem?_getD, List.getElem?_append_left h]
theorem getD_last (l : List Nat) (m : Nat) : (l ++ [m]).getD l.length 0 = m := by
  rw [List.getD_eq_getElem?_getD, List.getElem?_append_right (Nat.le_refl _)]
  simp
theorem Ok.snoc {l : List Nat} {u m : Nat} (h : Ok l u) (hl : l.length ≤ 99) (hm : m < u) (hge : ∀ i, i < l.length → l.getD i 0 ≤ m) : Ok (l ++ [m]) u := by
  refine ⟨fun i hi => ?_, fun i hi => ?_, by simp; omega, h.pos, h.le⟩
  · simp at hi
    rcases Nat.lt_or_ge (i + 1) l.length with h2 | h2
    · rw [getD_snoc l m h2, getD_snoc l m (by omega)]
      exact h.up i h2
    · obtain e : i + 1 = l.length := by omega
      rw [e, getD_last, getD_snoc l m (by omega)]
      exact hge i (by omega)
  · simp at hi
    rcases Nat.lt_or_ge i l.length with h2 | h2
    · rw [getD_snoc l m h2]
      exact h.lt i h2
    · obtain e : i = l.length := by omega
      rw [e, getD_last]
      exact hm
theorem less_snoc {l : List Nat} {m : Nat} (h : Up l) (h2 : Up (l ++ [m])) {x : Nat} (hx : x ≤ m) : less (l ++ [m]) (x : Int) = less l (x : Int) := by
  refine less_eq h2 ⟨by have := less_le l (x : Int); simp; omega, fun i hi => ?_, fun i hi hl => ?_⟩
  · have := less_le l (x : Int)
    rw [getD_snoc l m (by omega)]
    exact (less_spec h (x : Int)).lo i hi
  · simp at hl
    rcases Nat.lt_or_ge i l.length with h3 | h3
    · rw [getD_snoc l m h3]
      exact (less_spec h (x : Int)).hi i hi h3
    · obtain e : i = l.length := by omega
      rw [e, getD_last]
      omega
end Fn
theorem Ints.of_own {w : World} {B : Nat} {v : Value} {n : Nat} {li : List Int} (h : w.ownsRow B 3 1 v n (Fn.vals li)) (hn : n = li.length) : Ints w v li := by
  subst hn
  rcases h.2 with ⟨hv, h0⟩ | ⟨g, cap, cur, hv, _, hg, hnc, _⟩
  · exact ⟨none, 0, by rw [hv, h0], by omega, fun hp => by omega⟩
  · refine ⟨some ⟨g, 0, none⟩, cap, hv, hnc, fun _ => ⟨g, 0, rfl, lt_of_block hg, fun i hi => ?_⟩⟩
    subst hv
    rw [Nat.zero_add, h.cellAt i (by omega)]
    exact Fn.vals_at li i hi
theorem Ints.news {w : World} {b off n cap : Nat} {li : List Int} (h : Ints w (.slice (some ⟨b, off, none⟩) n cap) li) : ∀ j u, (Fn.vals li)[j]? = some u → w.cell? ((⟨b, off, none⟩ : Addr).add j) = some u := by
  intro j u hu
  obtain ⟨hj, rfl⟩ := Fn.vals_get li j u hu
  obtain ⟨ao, c, he, _, hf⟩ := h.cells
  obtain ⟨b', off', ha, _, hcell⟩ := hf (by omega)
  simp at he
  obtain ⟨rfl, _, _⟩ := he
  simp at ha
  obtain ⟨rfl, rfl⟩ := ha
  rw [show (⟨b, off, none⟩ : Addr).add j = ⟨b, off + j, none⟩ from by simp [Addr.add]]
  exact hcell j hj
set_option maxHeartbeats 1000000 in
theorem FanoMore_long (li : List Int) (b m : Int) (v : Value) (w : World) (h : Ints w v li) (hl : 99 < li.length) (hm : li.length ≤ 9223372036854775807) (hT : Tab w) :
    Calls Tryd.prog 8 #[v, .int .i64 b, .int .i64 m] w fun e w' => e = .returned (.bool true) ∧ Below w.heap.size w w' := by
  obtain ⟨ao, cap, rfl, hcap, _⟩ := h.cells
  have HT := hidden hT
  have d0 : decide ((99 : Int) < (li.length : Int)) = true := by simp; omega
  clear h hT
  go_enter Tryd.func8, Tryd.ntmps8
  go_wp2_with fail
  refine (awake5_any w HT.out).mono ?_
  rintro e' w1 ⟨rfl, hq1⟩
  have HQ1 := hidden hq1
  clear hq1
  go_wp2_with fail
  refine (awake5_any w1 (HT.out.after HQ1.out)).mono ?_
  rintro e' w2 ⟨rfl, hq2⟩
  have HQ2 := hidden (below_after HQ1.out hq2)
  clear hq2
  go_wp2_with fail
  go_ret
  exact ⟨rfl, HQ2.out⟩
set_option maxHeartbeats 1000000 in
theorem FanoMore_no (li : List Int) (b z : Int) (v : Value) (w : World) (h : Ints w v li) (hl : li.length ≤ 99) (hb : b ≤ 9223372036854775807) (hT : Tab w) (hno : ¬ Fn.OkI li b) :
    Calls Tryd.prog 8 #[v, .int .i64 b, .int .i64 z] w fun e w' => e = .returned (.bool true) ∧ Below w.heap.size w w' := by
  have HI := hidden h
  obtain ⟨ao, cap, rfl, hcap, _⟩ := h.cells
  have HT := hidden hT
  have HNO := hidden hno
  have d0 : decide ((99 : Int) < (li.length : Int)) = false := by simp; omega
  clear h hT hno
  go_enter Tryd.func8, Tryd.ntmps8
  go_wp2_with fail
  refine (awake5_any w HT.out).mono ?_
  rintro e' w1 ⟨rfl, hq1⟩
  have HQ1 := hidden hq1
  clear hq1
  go_wp2_with fail
  refine (few_any li b _ w1 (HI.out.after HQ1.out) (by omega) hb).mono ?_
  rintro e' w2 ⟨⟨r, rfl, hr⟩, rfl⟩
  clear hr
  cases r
  · go_wp2_with fail
    refine (awake5_any w2 (HT.out.after HQ1.out)).mono ?_
    rintro e' w3 ⟨rfl, hq3⟩
    have HQ3 := hidden (below_after HQ1.out hq3)
    clear hq3
    go_wp2_with fail
    go_ret
    exact ⟨rfl, HQ3.out⟩
  · go_wp2_with fail
    refine (Right_any li b _ w2 (HI.out.after HQ1.out) (by omega)).mono ?_
    rintro e' w3 ⟨⟨r, rfl, hr⟩, m, rfl⟩
    obtain rfl : r = false := by
      cases r
      · rfl
      · exact absurd (hr.1 rfl) HNO.out
    have HQ2 := hidden (below_drewN HQ1.out m)
    clear hr
    go_wp2_with fail
    refine (awake5_any _ (HT.out.after HQ2.out)).mono ?_
    rintro e' w3 ⟨rfl, hq3⟩
    have HQ3 := hidden (below_after HQ2.out hq3)
    clear hq3
    go_wp2_with fail
    go_ret
    exact ⟨rfl, HQ3.out⟩
set_option maxHeartbeats 4000000 in
set_option maxRecDepth 100000 in
theorem FanoMore_yes (l : List Nat) (u : Nat) (z : Int) (v : Value) (w : World) (h : Ints w v (Fn.ints l)) (hl : l.length ≤ 99) (hT : Tab w) (ok : Fn.Ok l u) :
    Calls Tryd.prog 8 #[v, .int .i64 (u : Nat), .int .i64 z] w fun e w' => e = .returned (.bool true) ∧ Below w.heap.size w w' := by
  have HI := hidden h
  obtain ⟨ao, cap, rfl, hcap, hc⟩ := h.cells
  have HC := hidden hc
  have HT := hidden hT
  have OK := hidden ok
  have HOI := hidden ok.int
  have hu := ok.le
  clear h hT ok hc
  rw [Fn.ints_length] at hcap HI HC ⊢
  obtain ⟨N, hN⟩ : ∃ N, N = l.length := ⟨_, rfl⟩
  rw [← hN] at hl hcap HI HC ⊢
  have HN := hidden hN
  clear hN
  have d0 : decide ((99 : Int) < (N : Int)) = false := by simp; omega
  go_enter Tryd.func8, Tryd.ntmps8
  go_wp2_with fail
  refine (awake5_any w HT.out).mono ?_
  rintro e' w1 ⟨rfl, hq1⟩
  have HQ1 := hidden hq1
  clear hq1
  go_wp2_with fail
  refine (few_any (Fn.ints l) u _ w1 (HI.out.after HQ1.out) (by rw [Fn.ints_length, ← HN.out]; omega) (by omega)).mono ?_
  rintro e' w2 ⟨⟨r, rfl, hr⟩, rfl⟩
  clear hr
  cases r
  · go_wp2_with fail
    refine (awake5_any w2 (HT.out.after HQ1.out)).mono ?_
    rintro e' w3 ⟨rfl, hq3⟩
    have HQ3 := hidden (below_after HQ1.out hq3)
    clear hq3
    go_wp2_with fail
    go_ret
    exact ⟨rfl, HQ3.out⟩
  · go_wp2_with fail
    refine (Right_any (Fn.ints l) u _ w2 (HI.out.after HQ1.out) (by rw [Fn.ints_length, ← HN.out]; omega)).mono ?_
    rintro e' w3 ⟨⟨r, rfl, hr⟩, m, rfl⟩
    obtain rfl : r = true := hr.2 HOI.out
    have hq2 := below_drewN HQ1.out m
    obtain ⟨w3, hw3⟩ : ∃ w3, w3 = w2.drewN m := ⟨_, rfl⟩
    rw [← hw3] at hq2 ⊢
    have HQ2 := hidden hq2
    clear hr hw3 hq2
    have HAW := hidden (awake5_any w3 (HT.out.after HQ2.out))
    by_cases h0 : 0 < N
    · have d1 : ((N : Int) == 0) = false := by simp; omega
      obtain ⟨g, off, rfl, hg, hcell⟩ := HC.out (by omega)
      obtain ⟨j, hj⟩ : ∃ j, j = N - 1 := ⟨_, rfl⟩
      have hj2 : j < N := by omega
      have hj3 : (N : Int) - 1 = (j : Int) := by omega
      have c0 := cell_after HQ2.out (hcell j hj2)
      rw [Fn.ints_getD] at c0
      obtain ⟨y, hy⟩ : ∃ y, y = l.getD j 0 := ⟨_, rfl⟩
      rw [← hy] at c0
      have HJ := hidden hj
      have HY := hidden hy
      clear hcell hj hy
      by_cases h1 : z < (y : Int)
      · have d2 : decide (z < (y : Int)) = true := by simpa using h1
        go_wp2_with fail
        refine (HAW.out).mono ?_
        rintro e' w4 ⟨rfl, hq3⟩
        have HQ3 := hidden (below_after HQ2.out hq3)
        clear hq3
        go_wp2_with fail
        go_ret
        exact ⟨rfl, HQ3.out⟩
      · have d2 : decide (z < (y : Int)) = false := by simpa using h1
        by_cases h2 : (u : Int) ≤ z
        · have d3 : decide ((u : Int) ≤ z) = true := by simpa using h2
          go_wp2_with fail
          refine (HAW.out).mono ?_
          rintro e' w4 ⟨rfl, hq3⟩
          have HQ3 := hidden (below_after HQ2.out hq3)
          clear hq3
          go_wp2_with fail
          go_ret
          exact ⟨rfl, HQ3.out⟩
        · have d3 : decide ((u : Int) ≤ z) = false := by simpa using h2
          obtain ⟨x, rfl⟩ := Int.eq_ofNat_of_zero_le (show 0 ≤ z by omega)
          have ok2 := OK.out.snoc (m := x) (by rw [← HN.out]; exact hl) (by omega) (fun i hi => by have := OK.out.up.le j i (by rw [HJ.out, HN.out]; omega) (by rw [← HN.out]; exact hj2); have := HY.out; omega)
          have OK2 := hidden ok2
          obtain ⟨i0, hi, hz0, hz1, hz2⟩ := info_parts Tryd.infoInt
          have HNW := hidden ((HI.out.after HQ2.out).news)
          clear ok2 HAW
          go_wp2_with (first
            | (at_builtin; refine wpList_append_own _ rfl (.tmp 59) (.tmp 60) 22 rfl w.heap.size 3 i0 (.int .i64 0) 1 8 Tryd.underlying22 hi hz0 hz1 hz2 rfl (by decide) (.slice (some ⟨w3.heap.size, 0, none⟩) 0 0) 0 [] rfl (by exact World.ownsRow_lit w3 #[] 0 HQ2.out.size (by unfold maxLen; omega) rfl) ⟨g, off, none⟩ N cap (Fn.vals (Fn.ints l)) rfl (by rw [Fn.vals_length, Fn.ints_length, Nat.mul_one]; exact HN.out.symm) (by intro j' u' hu'; exact cell_made (HNW.out j' u' hu')) (Fn.vals_one _) (by unfold maxLen; omega) (by omega) (by have := HQ2.out.size; simp; omega) ?_; intro v1 w4 hown1 hgrow1 _; rw [Nat.zero_add, List.nil_append] at hown1; have HO1 := hidden hown1; have HB4 : Hid (Below w.heap.size w w4) := (HQ2.out.alloc HQ2.out.size _).grown hgrow1 (by have := HQ2.out.size; simp; omega) (fun k e => by have := HQ2.out.size; simp [Value.ownBlock] at e; omega); clear hown1 hgrow1)
            | (at_builtin; refine wpList_append_one _ rfl (.tmp 61) (.tmp 63) 22 rfl w.heap.size 3 i0 (.int .i64 0) 8 Tryd.underlying22 hi hz0 hz1 hz2 rfl v1 N (Fn.vals (Fn.ints l)) rfl (by exact HO1.out.alloc _) _ 1 (.int .i64 (x : Nat)) _ rfl (by exact heap_alloc_new _ _) rfl (by unfold maxLen; omega) (by omega) (by have := HB4.out.size; simp; omega) ?_; intro v2 w5 hown2 hgrow2; have HO2 := hidden hown2; have HB5 : Hid (Below w.heap.size w w5) := (HB4.out.alloc HB4.out.size _).grown hgrow2 (by have := HB4.out.size; simp; omega) (fun k e => (HO1.out.lt k e).1); clear hown2 hgrow2))
          have HI2 : Hid (Ints w5 v2 (Fn.ints (l ++ [x]))) := Ints.of_own (B := w.heap.size) (n := N + 1) (by rw [Fn.ints_snoc, Fn.vals_snoc]; exact HO2.out) (by rw [Fn.ints_length, HN.out]; simp)
          have HG1 : Hid (∀ i, i < N → (l ++ [x]).getD i 0 = l.getD i 0) := fun i hi => Fn.getD_snoc l x (by rw [← HN.out]; exact hi)
          have HG2 : Hid ((l ++ [x]).getD N 0 = x) := by show _ = _; rw [HN.out]; exact Fn.getD_last l x
          have HG3 : Hid (∀ i, i < N → Fn.less (l ++ [x]) ((l.getD i 0 : Nat) : Int) = Fn.less l ((l.getD i 0 : Nat) : Int)) := fun i hi => Fn.less_snoc OK.out.up OK2.out.up (by
            have := OK2.out.up.le N i (by omega) (by rw [HN.out]; simp)
            rw [HG1.out i hi, HG2.out] at this
            exact this)
          have HL2 : Hid ((l ++ [x]).length = N + 1) := by show _ = _; rw [HN.out]; simp
          generalize l ++ [x] = L2 at *
          obtain ⟨ao2, cap2, hv2, hcap2, _⟩ := HI2.out.cells
          rw [Fn.ints_length, HL2.out] at hv2 hcap2
          subst hv2
          refine (Make_ok l u _ _ (HI.out.after HB5.out) OK.out (HT.out.after HB5.out)).mono ?_
          rintro e' w6 ⟨s, q, rfl, hs, hb6⟩
          have HS := hidden hs
          have HI3 := hidden (HI2.out.after hb6)
          have HB6 := hidden (below_after HB5.out hb6)
          clear hs hb6
          go_wp2_with fail
          refine (Make_ok L2 u _ _ HI3.out OK2.out (HT.out.after HB6.out)).mono ?_
          rintro e' w7 ⟨t, q2, rfl, ht, hb7⟩
          have HS2 := hidden ht
          have HS1 := hidden (HS.out.after hb7)
          have HB7 := hidden (below_after HB6.out hb7)
          clear ht hb7
          go_wp2_with fail
          refine (SLen_any t u L2 q2 w7 HS2.out).mono ?_
          rintro e' w8 ⟨rfl, rfl⟩
          rw [HL2.out]
          go_wp2_with fail
          refine (SLen_any s u l q w8 HS1.out).mono ?_
          rintro e' w9 ⟨rfl, rfl⟩
          rw [← HN.out]
          go_wp2_with fail
          go_loopw [12] (fun i wr => ∃ k : Nat, k ≤ N ∧ i = .int .i64 k ∧ Below w.heap.size w wr ∧ Below w9.heap.size w9 wr) (fun i _ => N - (intOf i).toNat)
          case atStart => exact ⟨0, by omega, rfl, HB7.out, Below.refl _ _⟩
          case round =>
            obtain ⟨k, hk, rfl, hb, hb9⟩ := hrel
            have HB := hidden hb
            have HB9 := hidden hb9
            clear hb hb9 c0
            by_cases hlt : k < N
            · obtain ⟨g', off', he, _, hcell⟩ := HC.out (by omega)
              simp at he
              obtain ⟨rfl, rfl⟩ := he
              have c0 : ∀ W, Below w.heap.size w W → W.cell? ⟨g, off + k, none⟩ = some (.int .i64 ((l.getD k 0 : Nat) : Int)) := fun W hW => by
                have := cell_after hW (hcell k hlt)
                rw [Fn.ints_getD] at this
                exact this
              have HGS := hidden (fun w' (hb : Below w9.heap.size w9 w') (hb2 : Below w.heap.size w w') => SGet_in s u k k l q w' (HS1.out.after hb) (HT.out.after hb2) (by rw [← HN.out]; exact hlt) rfl)
              have HGT := hidden (fun w' (hb : Below w9.heap.size w9 w') (hb2 : Below w.heap.size w w') => SGet_in t u k k L2 q2 w' (HS2.out.after hb) (HT.out.after hb2) (by rw [HL2.out]; omega) rfl)
              rw [HG1.out k hlt] at HGT
              have HLS : Hid (∀ p w', p = s ∨ p = t → Below w9.heap.size w9 w' → Below w.heap.size w w' → Calls Tryd.prog 21 #[.pointer (some ⟨p, 0, none⟩), .int .i64 ((l.getD k 0 : Nat) : Int)] w' fun e w'' => e = .returned (.int .i64 ((Fn.less l ((l.getD k 0 : Nat) : Int) : Nat) : Int)) ∧ Below w'.heap.size w' w'') := fun p w' hp hb hb2 => by
                rcases hp with rfl | rfl
                · exact SLess_any p u _ l q w' (HS1.out.after hb) (HT.out.after hb2)
                · have := SLess_any p u ((l.getD k 0 : Nat) : Int) L2 q2 w' (HS2.out.after hb) (HT.out.after hb2)
                  rw [HG3.out k hlt] at this
                  exact this
              generalize Fn.less l ((l.getD k 0 : Nat) : Int) = R at *
              generalize l.getD k 0 = y' at *
              have HC0 := hidden c0
              clear hcell c0
              go_wp2_with fail
              refine (HGS.out _ HB9.out HB.out).mono ?_
              rintro e' wa ⟨rfl, hba⟩
              have BA := hidden (below_after HB.out hba)
              have BA9 := hidden (below_after HB9.out hba)
              clear hba
              go_wp2_with fail
              refine (HGT.out _ BA9.out BA.out).mono ?_
              rintro e' wb ⟨rfl, hbb⟩
              have BB := hidden (below_after BA.out hbb)
              have BB9 := hidden (below_after BA9.out hbb)
              have c9 := cell_regrown (HC0.out _ BB.out)
              have QL : Hid (∀ p d os, p = s ∨ p = t → Calls Tryd.prog 21 #[.pointer (some ⟨p, 0, none⟩), .int .i64 (y' : Nat)] (grow (redrawn wb d) os) fun e w'' => e = .returned (.int .i64 (R : Nat)) ∧ ∃ p : Regrown, w'' = grow (redrawn wb p.d) p.os) := fun p d os hp => Calls.regrown_of (HLS.out p _ hp (below_after BB9.out (below_regrown wb d os)) (below_after BB.out (below_regrown wb d os)))
              clear hbb HLS HGT HGS
              go_wp2_with fail
              refine wp_region_quiet_below (by kernel_rfl) (by kernel_rfl) ?_
              repeat (go_big_quiet_step (first
                | (go_at_call 21; exact QL.out _ _ _ (by first | exact .inl rfl | exact .inr rfl))))
              refine wpQuiet_nil ?_
              intro _ hw'
              obtain ⟨⟨dq, osq⟩, hw''⟩ := hw'
              subst hw''
              go_wp2_with fail
              exact ⟨⟨k + 1, by omega, by go_num, below_after BB.out (below_regrown wb dq osq), below_after BB9.out (below_regrown wb dq osq)⟩, by simp [intOf]; omega⟩
            · obtain rfl : k = N := by omega
              have HGT := hidden (fun w' (hb : Below w9.heap.size w9 w') (hb2 : Below w.heap.size w w') => SGet_in t u k k L2 q2 w' (HS2.out.after hb) (HT.out.after hb2) (by rw [HL2.out]; omega) rfl)
              have HHA := hidden (fun w' (hb : Below w9.heap.size w9 w') (hb2 : Below w.heap.size w w') => SHas_any t u (x : Int) L2 q2 w' (HS2.out.after hb) (HT.out.after hb2))
              have hns := Fn.next_self OK2.out.up (k := k) (by rw [HL2.out]; omega)
              rw [HG2.out] at HGT hns
              rw [hns, show (some x : Option Nat).isSome = true from rfl, show (some x : Option Nat).getD 0 = x from rfl, show ((x : Int) == (x : Int)) = true from by simp] at HHA
              clear hns
              go_wp2_with fail
              refine (HGT.out _ HB9.out HB.out).mono ?_
              rintro e' wa ⟨rfl, hba⟩
              have BA := hidden (below_after HB.out hba)
              have BA9 := hidden (below_after HB9.out hba)
              clear hba
              go_wp2_with fail
              refine (HHA.out _ BA9.out BA.out).mono ?_
              rintro e' wb ⟨rfl, hbb⟩
              have BB := hidden (below_after BA.out hbb)
              clear hbb
              go_wp2_with fail
              go_ret
              exact ⟨rfl, BB.out⟩
    · obtain rfl : N = 0 := by omega
      go_wp2_with fail
      refine (HAW.out).mono ?_
      rintro e' w4 ⟨rfl, hq3⟩
      have HQ3 := hidden (below_after HQ2.out hq3)
      clear hq3
      go_wp2_with fail
      go_ret
      exact ⟨rfl, HQ3.out⟩
theorem FanoMore_walk (li : List Int) (b z : Int) (v : Value) (w : World) (h : Ints w v li) (hm : li.length ≤ 9223372036854775807) (hb : b ≤ 9223372036854775807) (hT : Tab w) :
    Calls Tryd.prog 8 #[v, .int .i64 b, .int .i64 z] w fun e w' => e = .returned (.bool true) ∧ Below w.heap.size w w' := by
  by_cases hl : li.length ≤ 99
  · by_cases hok : Fn.OkI li b
    · obtain ⟨l, u, rfl, rfl, ok⟩ := hok.nat
      exact FanoMore_yes l u z v w h (by rw [Fn.ints_length] at hl; exact hl) hT ok
    · exact FanoMore_no li b z v w h hl hb hT hok
  · exact FanoMore_long li b z v w h (by omega) hm hT
end Go.Proofs.YtfohldojcdhnhaaDoor
