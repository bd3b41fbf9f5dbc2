/-
  The walk of the law FanoAsks: it returns true for all numbers, bounds and questions; nothing that was there is changed.
-/
import Derived.Test.YtfohldojcdhnhaaDoorLawFanoMakes
import Derived.Lib.QuietBelow
namespace Go.Proofs.YtfohldojcdhnhaaDoor
open Go.RowKit Go.Sort
set_option maxHeartbeats 1000000 in
theorem FanoAsks_many (li at' : List Int) (b : Int) (v v2 : Value) (w : World) (h : Ints w v li) (h2 : Ints w v2 at') (hm : at'.length ≤ 9223372036854775807) (hl : 20 < at'.length) (hT : Tab w) :
    Calls Tryd.prog 4 #[v, .int .i64 b, v2] w fun e w' => e = .returned (.bool true) ∧ Below w.heap.size w w' := by
  obtain ⟨ao, cap, rfl, hcap, _⟩ := h.cells
  obtain ⟨ao2, cap2, rfl, hcap2, _⟩ := h2.cells
  have HT := hidden hT
  have d0 : decide ((20 : Int) < (at'.length : Int)) = true := by simp; omega
  clear h h2 hT
  go_enter Tryd.func4, Tryd.ntmps4
  go_wp2_with fail
  refine (awake5_any w HT.out).mono ?_
  rintro e' w1 ⟨rfl, hq1⟩
  have HQ1 := hidden hq1
  clear hq1
  go_wp2_with fail
  refine (awake5_any w1 (HT.out.after HQ1.out)).mono ?_
  rintro e' w2 ⟨rfl, hq2⟩
  have HQ2 := hidden (below_after HQ1.out hq2)
  clear hq2
  go_wp2_with fail
  go_ret
  exact ⟨rfl, HQ2.out⟩
set_option maxHeartbeats 1000000 in
theorem FanoAsks_no (li at' : List Int) (b : Int) (v v2 : Value) (w : World) (h : Ints w v li) (h2 : Ints w v2 at') (hm : li.length ≤ 9223372036854775807) (hb : b ≤ 9223372036854775807) (hl2 : at'.length ≤ 20) (hT : Tab w) (hno : ¬ Fn.OkI li b) :
    Calls Tryd.prog 4 #[v, .int .i64 b, v2] w fun e w' => e = .returned (.bool true) ∧ Below w.heap.size w w' := by
  have HI := hidden h
  obtain ⟨ao, cap, rfl, hcap, _⟩ := h.cells
  obtain ⟨ao2, cap2, rfl, hcap2, _⟩ := h2.cells
  have HT := hidden hT
  have HNO := hidden hno
  have d0 : decide ((20 : Int) < (at'.length : Int)) = false := by simp; omega
  clear h hT hno h2
  go_enter Tryd.func4, Tryd.ntmps4
  go_wp2_with fail
  refine (awake5_any w HT.out).mono ?_
  rintro e' w1 ⟨rfl, hq1⟩
  have HQ1 := hidden hq1
  clear hq1
  go_wp2_with fail
  refine (few_any li b _ w1 (HI.out.after HQ1.out) hm hb).mono ?_
  rintro e' w2 ⟨⟨r, rfl, hr⟩, rfl⟩
  have HR := hidden hr
  clear hr
  cases r
  · go_wp2_with fail
    refine (awake5_any w2 (HT.out.after HQ1.out)).mono ?_
    rintro e' w3 ⟨rfl, hq3⟩
    have HQ3 := hidden (below_after HQ1.out hq3)
    clear hq3
    go_wp2_with fail
    go_ret
    exact ⟨rfl, HQ3.out⟩
  · have hl := (HR.out rfl).1
    go_wp2_with fail
    refine (Right_any li b _ w2 (HI.out.after HQ1.out) hl).mono ?_
    rintro e' w3 ⟨⟨r, rfl, hr⟩, m, rfl⟩
    obtain rfl : r = false := by
      cases r
      · rfl
      · exact absurd (hr.1 rfl) HNO.out
    have HQ2 := hidden (below_drewN HQ1.out m)
    clear hr
    go_wp2_with fail
    refine (awake5_any _ (HT.out.after HQ2.out)).mono ?_
    rintro e' w3 ⟨rfl, hq3⟩
    have HQ3 := hidden (below_after HQ2.out hq3)
    clear hq3
    go_wp2_with fail
    go_ret
    exact ⟨rfl, HQ3.out⟩
set_option maxHeartbeats 8000000 in
set_option maxRecDepth 100000 in
theorem FanoAsks_yes (l : List Nat) (at' : List Int) (u : Nat) (v v2 : Value) (w : World) (h : Ints w v (Fn.ints l)) (h2 : Ints w v2 at') (hx2 : ∀ x ∈ at', -9223372036854775808 ≤ x ∧ x ≤ 9223372036854775807) (hl2 : at'.length ≤ 20) (hT : Tab w) (ok : Fn.Ok l u) :
    Calls Tryd.prog 4 #[v, .int .i64 (u : Nat), v2] w fun e w' => e = .returned (.bool true) ∧ Below w.heap.size w w' := by
  have HI := hidden h
  have HX2 := hidden hx2
  obtain ⟨ao, cap, rfl, hcap, hc⟩ := h.cells
  obtain ⟨ao2, cap2, rfl, hcap2, hc2⟩ := h2.cells
  have HC2 := hidden hc2
  have HT := hidden hT
  have OK := hidden ok
  have HOI := hidden ok.int
  have hu := ok.le
  have hn := ok.len
  clear h hT ok hc h2 hc2 hx2
  rw [Fn.ints_length] at hcap HI ⊢
  obtain ⟨N, hN⟩ : ∃ N, N = l.length := ⟨_, rfl⟩
  rw [← hN] at hn hcap HI ⊢
  have HN := hidden hN
  clear hN
  have d0 : decide ((20 : Int) < (at'.length : Int)) = false := by simp; omega
  go_enter Tryd.func4, Tryd.ntmps4
  go_wp2_with fail
  refine (awake5_any w HT.out).mono ?_
  rintro e' w1 ⟨rfl, hq1⟩
  have HQ1 := hidden hq1
  clear hq1
  go_wp2_with fail
  refine (few_any (Fn.ints l) u _ w1 (HI.out.after HQ1.out) (by rw [Fn.ints_length, ← HN.out]; omega) (by omega)).mono ?_
  rintro e' w2 ⟨⟨r, rfl, hr⟩, rfl⟩
  have HR := hidden hr
  clear hr
  cases r
  · go_wp2_with fail
    refine (awake5_any w2 (HT.out.after HQ1.out)).mono ?_
    rintro e' w3 ⟨rfl, hq3⟩
    have HQ3 := hidden (below_after HQ1.out hq3)
    clear hq3
    go_wp2_with fail
    go_ret
    exact ⟨rfl, HQ3.out⟩
  · have hl : N ≤ 100 := by have := (HR.out rfl).1; rw [Fn.ints_length] at this; rw [HN.out]; exact this
    go_wp2_with fail
    refine (Right_any (Fn.ints l) u _ w2 (HI.out.after HQ1.out) (by rw [Fn.ints_length, ← HN.out]; exact hl)).mono ?_
    rintro e' w3 ⟨⟨r, rfl, hr⟩, m, rfl⟩
    obtain rfl : r = true := hr.2 HOI.out
    have HQ2 := hidden (below_drewN HQ1.out m)
    clear hr
    go_wp2_with fail
    refine (Make_ok l u _ _ (HI.out.after HQ2.out) OK.out (HT.out.after HQ2.out)).mono ?_
    rintro e' w4 ⟨s, q, rfl, hs, hb4⟩
    have HS := hidden hs
    have HB4 := hidden (below_after HQ2.out hb4)
    clear hs hb4
    go_wp2_with fail
    go_loopw [9] (fun i wr => ∃ k : Nat, k ≤ at'.length ∧ i = .int .i64 k ∧ Below w.heap.size w wr ∧ Below w4.heap.size w4 wr) (fun i _ => at'.length - (intOf i).toNat)
    case atStart => exact ⟨0, by omega, rfl, HB4.out, Below.refl _ _⟩
    case round =>
      obtain ⟨k, hk, rfl, hb, hb4⟩ := hrel
      have HB := hidden hb
      have HB4' := hidden hb4
      clear hb hb4
      by_cases hlt : k < at'.length
      · obtain ⟨g, off, rfl, hg, hcell⟩ := HC2.out (by omega)
        have c0 := cell_after HB.out (hcell k hlt)
        have hxb := HX2.out (at'.getD k 0) (by rw [List.getD_eq_getElem?_getD, List.getElem?_eq_getElem hlt]; exact List.getElem_mem hlt)
        obtain ⟨x, hx⟩ : ∃ x, x = at'.getD k 0 := ⟨_, rfl⟩
        rw [← hx] at c0 hxb
        have HCX : Hid (∀ W, Below w.heap.size w W → W.cell? ⟨g, off + k, none⟩ = some (.int .i64 x)) := fun W hW => by rw [hx]; exact (hW.cell (p := ⟨g, off + k, none⟩) hg).trans (hcell k hlt)
        have HNX := hidden (fun w' (hb : Below w4.heap.size w4 w') (hb2 : Below w.heap.size w w') => SNext_any s u x l q w' (HS.out.after hb) (HT.out.after hb2))
        have HPV := hidden (fun w' (hb : Below w4.heap.size w4 w') (hb2 : Below w.heap.size w w') => SPrev_any s u x l q w' (HS.out.after hb) (HT.out.after hb2) hxb.1)
        have HHA := hidden (fun w' (hb : Below w4.heap.size w4 w') (hb2 : Below w.heap.size w w') => SHas_any s u x l q w' (HS.out.after hb) (HT.out.after hb2))
        have HLE := hidden (fun w' (hb : Below w4.heap.size w4 w') (hb2 : Below w.heap.size w w') => SLess_any s u x l q w' (HS.out.after hb) (HT.out.after hb2))
        have RNX := hidden (fun w' (hb2 : Below w.heap.size w w') => rNext_any l x _ w' (HI.out.after hb2) OK.out.up (by rw [← HN.out]; omega))
        have RPV := hidden (fun w' (hb2 : Below w.heap.size w w') => rPrev_any l x _ w' (HI.out.after hb2) OK.out.up (by rw [← HN.out]; omega))
        have RLE := hidden (fun w' (hb2 : Below w.heap.size w w') => rLess_any l x _ w' (HI.out.after hb2) (by rw [← HN.out]; omega))
        unfold Fn.two at HNX HPV RNX RPV
        generalize Fn.next l x = nx at *
        generalize (Fn.prev l x).isSome = pb at *
        generalize (Fn.prev l x).getD 0 = pv at *
        have hle := Fn.less_le l x
        rw [← HN.out] at hle
        generalize Fn.less l x = R at *
        clear hcell hx
        obtain ⟨o, y, ho, hy⟩ : ∃ (o : Bool) (y : Nat), nx.isSome = o ∧ nx.getD 0 = y := ⟨_, _, rfl, rfl⟩
        rw [ho, hy] at HNX HHA RNX
        obtain ⟨t, ht⟩ : ∃ t : Bool, ((y : Int) == x) = t := ⟨_, rfl⟩
        rw [ht] at HHA
        clear ho hy
        go_wp2_with fail
        refine (HNX.out _ HB4'.out HB.out).mono ?_
        rintro e' w5 ⟨rfl, hb5⟩
        have B5 := hidden (below_after HB.out hb5)
        have B5' := hidden (below_after HB4'.out hb5)
        have c5 := HCX.out _ B5.out
        clear hb5 c0
        go_wp2_with fail
        refine (RNX.out _ B5.out).mono ?_
        rintro e' w6 ⟨rfl, rfl⟩
        go_wp2_with fail
        refine (HPV.out _ B5'.out B5.out).mono ?_
        rintro e' w7 ⟨rfl, hb7⟩
        have B7 := hidden (below_after B5.out hb7)
        have B7' := hidden (below_after B5'.out hb7)
        have c7 := HCX.out _ B7.out
        clear hb7 c5
        go_wp2_with fail
        refine (RPV.out _ B7.out).mono ?_
        rintro e' w8 ⟨rfl, rfl⟩
        have c9 := cell_regrown c7
        have QLE : Hid (∀ d os, Calls Tryd.prog 21 #[.pointer (some ⟨s, 0, none⟩), .int .i64 x] (grow (redrawn w8 d) os) fun e w'' => e = .returned (.int .i64 (R : Nat)) ∧ ∃ p : Regrown, w'' = grow (redrawn w8 p.d) p.os) := fun d os => Calls.regrown_of (HLE.out _ (below_after B7'.out (below_regrown w8 d os)) (below_after B7.out (below_regrown w8 d os)))
        have QHA : Hid (∀ d os, Calls Tryd.prog 23 #[.pointer (some ⟨s, 0, none⟩), .int .i64 x] (grow (redrawn w8 d) os) fun e w'' => e = .returned (.bool (o && t)) ∧ ∃ p : Regrown, w'' = grow (redrawn w8 p.d) p.os) := fun d os => Calls.regrown_of (HHA.out _ (below_after B7'.out (below_regrown w8 d os)) (below_after B7.out (below_regrown w8 d os)))
        have QRL : Hid (∀ d os, Calls Tryd.prog 22 #[.slice ao N cap, .int .i64 x] (grow (redrawn w8 d) os) fun e w'' => e = .returned (.int .i64 (R : Nat)) ∧ ∃ p : Regrown, w'' = grow (redrawn w8 p.d) p.os) := fun d os => Calls.regrown_of ((RLE.out _ (below_after B7.out (below_regrown w8 d os))).mono fun e w' ⟨h1, h2⟩ => ⟨h1, by rw [h2]; exact Below.refl _ _⟩)
        clear HNX HPV RNX RPV HHA HLE RLE
        go_wp2_with fail
        cases o
        · rw [Bool.false_and] at QHA
          refine wp_region_quiet_below (by kernel_rfl) (by kernel_rfl) ?_
          repeat (go_big_quiet_step (first
            | (go_at_call 21; exact QLE.out _ _)
            | (go_at_call 23; exact QHA.out _ _)
            | (go_at_call 22; exact QRL.out _ _)))
          refine wpQuiet_nil ?_
          intro _ hw'
          obtain ⟨⟨dq, osq⟩, hw''⟩ := hw'
          subst hw''
          go_wp2_with fail
          exact ⟨⟨k + 1, by omega, by go_num, below_after B7.out (below_regrown w8 dq osq), below_after B7'.out (below_regrown w8 dq osq)⟩, by simp [intOf]; omega⟩
        · rw [Bool.true_and] at QHA
          cases t
          · refine wp_region_quiet_below (by kernel_rfl) (by kernel_rfl) ?_
            repeat (go_big_quiet_step (first
              | (go_at_call 21; exact QLE.out _ _)
              | (go_at_call 23; exact QHA.out _ _)
              | (go_at_call 22; exact QRL.out _ _)))
            refine wpQuiet_nil ?_
            intro _ hw'
            obtain ⟨⟨dq, osq⟩, hw''⟩ := hw'
            subst hw''
            go_wp2_with fail
            exact ⟨⟨k + 1, by omega, by go_num, below_after B7.out (below_regrown w8 dq osq), below_after B7'.out (below_regrown w8 dq osq)⟩, by simp [intOf]; omega⟩
          · refine wp_region_quiet_below (by kernel_rfl) (by kernel_rfl) ?_
            repeat (go_big_quiet_step (first
              | (go_at_call 21; exact QLE.out _ _)
              | (go_at_call 23; exact QHA.out _ _)
              | (go_at_call 22; exact QRL.out _ _)))
            refine wpQuiet_nil ?_
            intro _ hw'
            obtain ⟨⟨dq, osq⟩, hw''⟩ := hw'
            subst hw''
            go_wp2_with fail
            exact ⟨⟨k + 1, by omega, by go_num, below_after B7.out (below_regrown w8 dq osq), below_after B7'.out (below_regrown w8 dq osq)⟩, by simp [intOf]; omega⟩
      · obtain rfl : k = at'.length := by omega
        go_wp2_with fail
        go_ret
        exact ⟨rfl, HB.out⟩
theorem FanoAsks_walk (li at' : List Int) (b : Int) (v v2 : Value) (w : World) (h : Ints w v li) (hm : li.length ≤ 9223372036854775807) (h2 : Ints w v2 at') (hm2 : at'.length ≤ 9223372036854775807) (hx2 : ∀ x ∈ at', -9223372036854775808 ≤ x ∧ x ≤ 9223372036854775807) (hb : b ≤ 9223372036854775807) (hT : Tab w) :
    Calls Tryd.prog 4 #[v, .int .i64 b, v2] w fun e w' => e = .returned (.bool true) ∧ Below w.heap.size w w' := by
  by_cases hl : at'.length ≤ 20
  · by_cases hok : Fn.OkI li b
    · obtain ⟨l, u, rfl, rfl, ok⟩ := hok.nat
      exact FanoAsks_yes l at' u v v2 w h h2 hx2 hl hT ok
    · exact FanoAsks_no li at' b v v2 w h h2 hm hb hl hT hok
  · exact FanoAsks_many li at' b v v2 w h h2 hm2 (by omega) hT
end Go.Proofs.YtfohldojcdhnhaaDoor
