/-
  The walk of the law FanoBetween: it returns true for all numbers, bounds and two numbers; nothing that was there is changed.
-/
import Derived.Test.YtfohldojcdhnhaaDoorLawFanoEach
namespace Go.Proofs.YtfohldojcdhnhaaDoor
open Go.RowKit
namespace Fn
theorem next_ge {l : List Nat} (h : Up l) {x : Int} {y : Nat} (hy : next l x = some y) : x ≤ (y : Int) := by
  unfold next at hy
  rcases Nat.lt_or_ge (less l x) l.length with hl | hl
  · rw [getD_some hl] at hy
    have := (less_spec h x).hi _ (Nat.le_refl _) hl
    simp only [Option.some.injEq] at hy
    omega
  · rw [List.getElem?_eq_none hl] at hy
    cases hy
theorem prev_le {l : List Nat} (h : Up l) {x : Int} {y : Nat} (hy : prev l x = some y) : (y : Int) ≤ x := by
  unfold prev at hy
  by_cases h0 : less l (x + 1) = 0
  · rw [if_pos h0] at hy
    cases hy
  · rw [if_neg h0] at hy
    have h1 := less_le l (x + 1)
    rw [getD_some (by omega)] at hy
    have := (less_spec h (x + 1)).lo (less l (x + 1) - 1) (by omega)
    simp only [Option.some.injEq] at hy
    omega
theorem none_none {l : List Nat} (h : Up l) {x : Int} (h1 : next l x = none) (h2 : prev l x = none) : l.length = 0 := by
  have h3 : l.length ≤ less l x := by
    unfold next at h1
    exact List.getElem?_eq_none_iff.1 h1
  unfold prev at h2
  by_cases h0 : less l (x + 1) = 0
  · have := less_mono h (show x ≤ x + 1 by omega)
    omega
  · rw [if_neg h0] at h2
    have h4 := less_le l (x + 1)
    rw [getD_some (by omega)] at h2
    cases h2
theorem lessTo_mono (l : List Nat) {x y : Int} (h : x ≤ y) (k : Nat) : lessTo l x k ≤ lessTo l y k := by
  induction k with
  | zero => exact Nat.le_refl _
  | succ k ih =>
    unfold lessTo
    split
    · rw [if_pos (by omega)]
      omega
    · split <;> omega
end Fn
set_option maxHeartbeats 1000000 in
theorem FanoBetween_no (li : List Int) (b a0 a1 : Int) (v : Value) (w : World) (h : Ints w v li) (hm : li.length ≤ 9223372036854775807) (hb : b ≤ 9223372036854775807) (hT : Tab w) (hno : ¬ Fn.OkI li b) :
    Calls Tryd.prog 9 #[v, .int .i64 b, .agg #[.int .i64 a0, .int .i64 a1]] w fun e w' => e = .returned (.bool true) ∧ Below w.heap.size w w' := by
  have HI := hidden h
  obtain ⟨ao, cap, rfl, hcap, _⟩ := h.cells
  have HT := hidden hT
  have HNO := hidden hno
  clear h hT hno
  go_enter Tryd.func9, Tryd.ntmps9
  go_wp2_with fail
  obtain ⟨w0, hw0⟩ : ∃ w0, w0 = w.alloc (.cells #[.int .i64 a0, .int .i64 a1] 47) := ⟨_, rfl⟩
  rw [← hw0]
  have HQ0 : Hid (Below w.heap.size w w0) := by rw [hw0]; exact (Below.refl _ _).alloc (Nat.le_refl _) _
  clear hw0
  refine (awake5_any w0 (HT.out.after HQ0.out)).mono ?_
  rintro e' w1 ⟨rfl, hq1⟩
  have HQ1 := hidden (below_after HQ0.out hq1)
  clear hq1
  go_wp2_with fail
  refine (few_any li b _ w1 (HI.out.after HQ1.out) hm hb).mono ?_
  rintro e' w2 ⟨⟨r, rfl, hr⟩, rfl⟩
  have HR := hidden hr
  clear hr
  cases r
  · go_wp2_with fail
    refine (awake5_any w2 (HT.out.after HQ1.out)).mono ?_
    rintro e' w3 ⟨rfl, hq3⟩
    have HQ3 := hidden (below_after HQ1.out hq3)
    clear hq3
    go_wp2_with fail
    go_ret
    exact ⟨rfl, HQ3.out⟩
  · have hl := (HR.out rfl).1
    go_wp2_with fail
    refine (Right_any li b _ w2 (HI.out.after HQ1.out) hl).mono ?_
    rintro e' w3 ⟨⟨r, rfl, hr⟩, m, rfl⟩
    obtain rfl : r = false := by
      cases r
      · rfl
      · exact absurd (hr.1 rfl) HNO.out
    have HQ2 := hidden (below_drewN HQ1.out m)
    clear hr
    go_wp2_with fail
    refine (awake5_any _ (HT.out.after HQ2.out)).mono ?_
    rintro e' w3 ⟨rfl, hq3⟩
    have HQ3 := hidden (below_after HQ2.out hq3)
    clear hq3
    go_wp2_with fail
    go_ret
    exact ⟨rfl, HQ3.out⟩
set_option maxHeartbeats 4000000 in
set_option maxRecDepth 100000 in
theorem FanoBetween_yes (l : List Nat) (u : Nat) (a0 a1 : Int) (v : Value) (w : World) (h : Ints w v (Fn.ints l)) (hT : Tab w) (ok : Fn.Ok l u) (hb0 : -9223372036854775808 ≤ a0) (hb1 : -9223372036854775808 ≤ a1) :
    Calls Tryd.prog 9 #[v, .int .i64 (u : Nat), .agg #[.int .i64 a0, .int .i64 a1]] w fun e w' => e = .returned (.bool true) ∧ Below w.heap.size w w' := by
  have HI := hidden h
  obtain ⟨ao, cap, rfl, hcap, hc⟩ := h.cells
  have HC := hidden hc
  have HT := hidden hT
  have OK := hidden ok
  have HOI := hidden ok.int
  have hu := ok.le
  have hn := ok.len
  clear h hT ok hc
  rw [Fn.ints_length] at hcap HI HC ⊢
  obtain ⟨N, hN⟩ : ∃ N, N = l.length := ⟨_, rfl⟩
  rw [← hN] at hn hcap HI HC ⊢
  have HN := hidden hN
  clear hN
  go_enter Tryd.func9, Tryd.ntmps9
  go_wp2_with fail
  obtain ⟨w0, hw0⟩ : ∃ w0, w0 = w.alloc (.cells #[.int .i64 a0, .int .i64 a1] 47) := ⟨_, rfl⟩
  rw [← hw0]
  have HQ0 : Hid (Below w.heap.size w w0) := by rw [hw0]; exact (Below.refl _ _).alloc (Nat.le_refl _) _
  have c0 : w0.cell? ⟨w.heap.size, 0, none⟩ = some (.int .i64 a0) := by rw [hw0]; exact Lib.cell_of_heap (heap_alloc_new _ _) 0
  have c1 : w0.cell? ⟨w.heap.size, 1, none⟩ = some (.int .i64 a1) := by rw [hw0]; exact Lib.cell_of_heap (heap_alloc_new _ _) 1
  have HC0 := hidden c0
  have HC1 := hidden c1
  clear hw0 c0 c1
  refine (awake5_any w0 (HT.out.after HQ0.out)).mono ?_
  rintro e' w1 ⟨rfl, hq1⟩
  have HQ1 := hidden (below_after HQ0.out hq1)
  have HQ1' := hidden hq1
  clear hq1
  go_wp2_with fail
  refine (few_any (Fn.ints l) u _ w1 (HI.out.after HQ1.out) (by rw [Fn.ints_length, ← HN.out]; omega) (by omega)).mono ?_
  rintro e' w2 ⟨⟨r, rfl, hr⟩, rfl⟩
  have HR := hidden hr
  clear hr
  cases r
  · go_wp2_with fail
    refine (awake5_any w2 (HT.out.after HQ1.out)).mono ?_
    rintro e' w3 ⟨rfl, hq3⟩
    have HQ3 := hidden (below_after HQ1.out hq3)
    clear hq3
    go_wp2_with fail
    go_ret
    exact ⟨rfl, HQ3.out⟩
  · have hl : N ≤ 100 := by have := (HR.out rfl).1; rw [Fn.ints_length] at this; rw [HN.out]; exact this
    go_wp2_with fail
    refine (Right_any (Fn.ints l) u _ w2 (HI.out.after HQ1.out) (by rw [Fn.ints_length, ← HN.out]; exact hl)).mono ?_
    rintro e' w3 ⟨⟨r, rfl, hr⟩, m, rfl⟩
    obtain rfl : r = true := hr.2 HOI.out
    have HQ2 := hidden (below_drewN HQ1.out m)
    have HQ2' := hidden (below_drewN HQ1'.out m)
    clear hr
    go_wp2_with fail
    refine (Make_ok l u _ _ (HI.out.after HQ2.out) OK.out (HT.out.after HQ2.out)).mono ?_
    rintro e' w4 ⟨s, q, rfl, hs, hb4⟩
    have HS := hidden hs
    have HB4 := hidden (below_after HQ2.out hb4)
    have c0 := cell_after (below_after HQ2'.out hb4) HC0.out
    have c1 := cell_after (below_after HQ2'.out hb4) HC1.out
    clear hs hb4
    obtain ⟨a, ha⟩ : ∃ a, min a0 a1 = a := ⟨_, rfl⟩
    obtain ⟨b, hb⟩ : ∃ b, max a0 a1 = b := ⟨_, rfl⟩
    have hab : a ≤ b := by omega
    have haa : -9223372036854775808 ≤ a := by omega
    go_wp2_with fail
    go_quiet (fail)
    obtain ⟨w5, hw5⟩ : ∃ w5, w5 = w4.drewN nq := ⟨_, rfl⟩
    have hb5 : Below w.heap.size w (w4.drewN nq) := below_drewN HB4.out nq
    have hs5 : Sq (w4.drewN nq) s l u q := HS.out.drewN nq
    rw [← hw5] at hb5 hs5 ⊢
    have HB5 := hidden hb5
    have HS5 := hidden hs5
    clear hw5 hb5 hs5 c0 c1 ha hb
    go_wp2_with fail
    go_loopw [11, 12] (fun c i wr => ∃ k : Nat, k ≤ N ∧ i = .int .i64 k ∧ c = .int .i64 ((Fn.lessTo l b k : Nat) - (Fn.lessTo l a k : Nat) : Int) ∧ wr = w5) (fun _ i _ => N - (intOf i).toNat)
    case atStart => exact ⟨0, by omega, rfl, rfl, rfl⟩
    case round =>
      obtain ⟨k, hk, rfl, rfl, rfl⟩ := hrel
      by_cases hlt : k < N
      · obtain ⟨g, off, rfl, hg, hcell⟩ := HC.out (by omega)
        have c0 := cell_after HB5.out (hcell k hlt)
        rw [Fn.ints_getD] at c0
        have hSb : Fn.lessTo l b (k + 1) = Fn.lessTo l b k + (if ((l.getD k 0 : Nat) : Int) < b then 1 else 0) := rfl
        have hSa : Fn.lessTo l a (k + 1) = Fn.lessTo l a k + (if ((l.getD k 0 : Nat) : Int) < a then 1 else 0) := rfl
        have hlb := Fn.lessTo_le l b k
        have hla := Fn.lessTo_mono l hab k
        obtain ⟨y, hy⟩ : ∃ y, y = l.getD k 0 := ⟨_, rfl⟩
        rw [← hy] at c0 hSb hSa
        have HSb := hidden hSb
        have HSa := hidden hSa
        obtain ⟨P, hP⟩ : ∃ P, P = Fn.lessTo l b k := ⟨_, rfl⟩
        obtain ⟨R, hR⟩ : ∃ R, R = Fn.lessTo l a k := ⟨_, rfl⟩
        rw [← hP] at hlb hla HSb ⊢
        rw [← hR] at hla HSa ⊢
        clear hcell hy hSb hSa hP hR
        by_cases h1 : a ≤ (y : Int)
        · have d1 : decide (a ≤ (y : Int)) = true := by simpa using h1
          by_cases h2 : (y : Int) < b
          · have d2 : decide ((y : Int) < b) = true := by simpa using h2
            go_wp2_with fail
            go_roundw
            case rel => exact ⟨k + 1, by omega, by go_num, int_eq (by rw [HSb.out, HSa.out, if_pos h2, if_neg (by omega)]; omega), trivial⟩
            case measure => simp [intOf]; omega
          · have d2 : decide ((y : Int) < b) = false := by simpa using h2
            go_wp2_with fail
            go_roundw
            case rel => exact ⟨k + 1, by omega, by go_num, int_eq (by rw [HSb.out, HSa.out, if_neg h2, if_neg (by omega)]; omega), trivial⟩
            case measure => simp [intOf]; omega
        · have d1 : decide (a ≤ (y : Int)) = false := by simpa using h1
          go_wp2_with fail
          go_roundw
          case rel => exact ⟨k + 1, by omega, by go_num, int_eq (by rw [HSb.out, HSa.out, if_pos (show (y : Int) < b by omega), if_pos (show (y : Int) < a by omega)]; omega), trivial⟩
          case measure => simp [intOf]; omega
      · obtain rfl : k = N := by omega
        have HNX := hidden (fun w' (hb : Below wr.heap.size wr w') => SNext_any s u a l q w' (HS5.out.after hb) (HT.out.after (below_after HB5.out hb)))
        have HPV := hidden (fun w' (hb : Below wr.heap.size wr w') => SPrev_any s u a l q w' (HS5.out.after hb) (HT.out.after (below_after HB5.out hb)) haa)
        have HLE := hidden (fun x w' (hb : Below wr.heap.size wr w') => SLess_any s u x l q w' (HS5.out.after hb) (HT.out.after (below_after HB5.out hb)))
        have hlb := Fn.less_le l b
        have hla := Fn.less_mono OK.out.up hab
        have eb : Fn.lessTo l b k = Fn.less l b := by rw [HN.out]; rfl
        have ea : Fn.lessTo l a k = Fn.less l a := by rw [HN.out]; rfl
        rw [eb, ea]
        have HLB := hidden (HLE.out b)
        have HLA := hidden (HLE.out a)
        have hxge := fun y => Fn.next_ge OK.out.up (x := a) (y := y)
        have hyle := fun y => Fn.prev_le OK.out.up (x := a) (y := y)
        have hnn := Fn.none_none OK.out.up (x := a)
        rw [← HN.out] at hnn hlb
        have HXG := hidden hxge
        have HYL := hidden hyle
        have HNN := hidden hnn
        clear hxge hyle hnn eb ea HLE
        unfold Fn.two at HNX HPV
        generalize Fn.less l b = P at *
        generalize Fn.less l a = R at *
        generalize Fn.next l a = nx at *
        generalize Fn.prev l a = pv at *
        go_wp2_with fail
        refine (HNX.out _ (Below.refl _ _)).mono ?_
        rintro e' w6 ⟨rfl, hb6⟩
        have B6 := hidden hb6
        clear hb6
        go_wp2_with fail
        refine (HPV.out _ B6.out).mono ?_
        rintro e' w7 ⟨rfl, hb7⟩
        have B7 := hidden (below_after B6.out hb7)
        clear hb7
        go_wp2_with fail
        refine (HLB.out _ B7.out).mono ?_
        rintro e' w8 ⟨rfl, hb8⟩
        have B8 := hidden (below_after B7.out hb8)
        clear hb8
        go_wp2_with fail
        refine (HLA.out _ B8.out).mono ?_
        rintro e' w9 ⟨rfl, hb9⟩
        have B9 := hidden (below_after B8.out hb9)
        clear hb9
        have BW := hidden (below_after HB5.out B9.out)
        rcases nx with _ | y <;> rcases pv with _ | y2
        · obtain rfl : k = 0 := HNN.out rfl rfl
          rw [show (none : Option Nat).isSome = false from rfl]
          go_wp2_with fail
          go_ret
          exact ⟨ret_bool (by simp), BW.out⟩
        · have h2 := HYL.out y2 rfl
          rw [show (none : Option Nat).isSome = false from rfl, show (some y2 : Option Nat).isSome = true from rfl, show (some y2 : Option Nat).getD 0 = y2 from rfl]
          have d2 : decide ((y2 : Int) ≤ a) = true := by simpa using h2
          go_wp2_with fail
          go_ret
          exact ⟨ret_bool (by simp), BW.out⟩
        · have h1 := HXG.out y rfl
          rw [show (none : Option Nat).isSome = false from rfl, show (some y : Option Nat).isSome = true from rfl, show (some y : Option Nat).getD 0 = y from rfl]
          have d1 : decide (a ≤ (y : Int)) = true := by simpa using h1
          go_wp2_with fail
          go_ret
          exact ⟨ret_bool (by simp), BW.out⟩
        · have h1 := HXG.out y rfl
          have h2 := HYL.out y2 rfl
          rw [show (some y : Option Nat).isSome = true from rfl, show (some y : Option Nat).getD 0 = y from rfl, show (some y2 : Option Nat).isSome = true from rfl, show (some y2 : Option Nat).getD 0 = y2 from rfl]
          have d1 : decide (a ≤ (y : Int)) = true := by simpa using h1
          have d2 : decide ((y2 : Int) ≤ a) = true := by simpa using h2
          go_wp2_with fail
          go_ret
          exact ⟨ret_bool (by simp), BW.out⟩
theorem FanoBetween_walk (li : List Int) (b a0 a1 : Int) (v : Value) (w : World) (h : Ints w v li) (hm : li.length ≤ 9223372036854775807) (hb : b ≤ 9223372036854775807) (hb0 : -9223372036854775808 ≤ a0) (hb1 : -9223372036854775808 ≤ a1) (hT : Tab w) :
    Calls Tryd.prog 9 #[v, .int .i64 b, .agg #[.int .i64 a0, .int .i64 a1]] w fun e w' => e = .returned (.bool true) ∧ Below w.heap.size w w' := by
  by_cases hok : Fn.OkI li b
  · obtain ⟨l, u, rfl, rfl, ok⟩ := hok.nat
    exact FanoBetween_yes l u a0 a1 v w h hT ok hb0 hb1
  · exact FanoBetween_no li b a0 a1 v w h hm hb hT hok
end Go.Proofs.YtfohldojcdhnhaaDoor
