/-
  The contracts of laceworkref05's Right, Width, Less, Next and Prev, and of laceworklaw05's awake and few.
-/
import Derived.Test.YtfohldojcdhnhaaDoorFnLess
namespace Go.Proofs.YtfohldojcdhnhaaDoor
open Go.RowKit
theorem drewN_twice (w : World) (a b : Nat) : (w.drewN a).drewN b = w.drewN (a + b) := by simp
namespace Fn
theorem Ris.last {li : List Int} {b : Int} {k : Nat} (h : Ris li b k) : 0 ≤ lastI li k := by
  induction k with
  | zero => exact Int.le_refl _
  | succ k ih =>
    have h1 := ih (fun i hi => h i (by omega))
    have h2 := (h k (by omega)).1
    rw [lastI_succ]
    omega
def RightPost (li : List Int) (b : Int) (e : Ending) : Prop := ∃ r, e = .returned (.bool r) ∧ (r = true ↔ OkI li b)
theorem RightPost.no {li : List Int} {b : Int} {e : Ending} (h : ¬ Ris li b li.length) (he : e = .returned (.bool false)) : RightPost li b e := ⟨false, he, ⟨(fun h => by cases h), fun g => absurd g.2.2.2 h⟩⟩
end Fn
set_option maxHeartbeats 2000000 in
set_option maxRecDepth 100000 in
theorem Right_any (li : List Int) (b : Int) (u : Value) (w : World) (h : Ints w u li) (hl : li.length ≤ 100) :
    Calls Tryd.prog 11 #[u, .int .i64 b] w fun e w' => Fn.RightPost li b e ∧ ∃ m, w' = w.drewN m := by
  obtain ⟨ao, cap, rfl, hcap, hc⟩ := h.cells
  have HC := hidden hc
  clear hc h
  go_enter Tryd.func11, Tryd.ntmps11
  go_wp2_with fail
  go_loopw [5] (fun i wr => ∃ (k m : Nat), k ≤ li.length ∧ i = .int .i64 k ∧ Fn.Ris li b k ∧ wr = w.drewN m) (fun i _ => li.length - (intOf i).toNat)
  case atStart => exact ⟨0, 0, by omega, rfl, fun i hi => by omega, rfl⟩
  case round =>
    obtain ⟨k, m, hk, rfl, hr, hwr⟩ := hrel
    have HR := hidden hr
    have HL := hidden hr.last
    have HWR := hidden hwr
    clear hr
    by_cases hlt : k < li.length
    · obtain ⟨g, off, rfl, hg, hcell⟩ := HC.out (by omega)
      have c0 : wr.cell? ⟨g, off + k, none⟩ = some (.int .i64 (li.getD k 0)) := by rw [hwr]; exact hcell k hlt
      have c1 : wr.cell? ⟨g, off + (k - 1), none⟩ = some (.int .i64 (li.getD (k - 1) 0)) := by rw [hwr]; exact hcell (k - 1) (by omega)
      obtain ⟨x, hx⟩ : ∃ x, x = li.getD k 0 := ⟨_, rfl⟩
      obtain ⟨p, hp⟩ : ∃ p, p = li.getD (k - 1) 0 := ⟨_, rfl⟩
      rw [← hx] at c0
      rw [← hp] at c1
      have HX := hidden hx
      have HP := hidden hp
      clear hcell hx hp hwr
      by_cases h1 : x < 0
      · have d1 : decide (x < 0) = true := by simpa using h1
        go_wp2_with fail
        go_quiet (fail)
        go_wp2_with fail
        go_ret
        refine ⟨Fn.RightPost.no (fun g => ?_) rfl, m + nq, by rw [HWR.out]; exact drewN_twice _ _ _⟩
        have := (g k hlt).1
        rw [← HX.out] at this
        have := HL.out
        omega
      · have d1 : decide (x < 0) = false := by simpa using h1
        by_cases h2 : b ≤ x
        · have d2 : decide (b ≤ x) = true := by simpa using h2
          go_wp2_with fail
          go_quiet (fail)
          go_wp2_with fail
          go_ret
          refine ⟨Fn.RightPost.no (fun g => ?_) rfl, m + nq, by rw [HWR.out]; exact drewN_twice _ _ _⟩
          have := (g k hlt).2
          rw [← HX.out] at this
          omega
        · have d2 : decide (b ≤ x) = false := by simpa using h2
          by_cases h3 : k = 0
          · subst h3
            rw [Nat.add_zero] at c0
            go_wp2_with fail
            go_quiet (fail)
            go_wp2_with fail
            go_roundw
            case rel => exact ⟨1, m + nq, by omega, by go_num, HR.out.next (by rw [← HX.out]; show (0 : Int) ≤ x; omega) (by rw [← HX.out]; omega), by rw [HWR.out]; exact drewN_twice _ _ _⟩
            case measure => simp [intOf]; omega
          · obtain ⟨j, hj⟩ : ∃ j, j = k - 1 := ⟨_, rfl⟩
            rw [← hj] at c1
            have hkj : (k : Int) - 1 = (j : Int) := by omega
            have hj2 : j < li.length := by omega
            have d3 : decide (0 < k) = true := by simp; omega
            have hk0 : 0 < k := by omega
            have hlast : Fn.lastI li k = p := by
              unfold Fn.lastI
              rw [if_neg h3, HP.out]
            have HLA := hidden hlast
            have HJ := hidden hj
            clear hlast hj
            by_cases h4 : x < p
            · have d4 : decide (x < p) = true := by simpa using h4
              go_wp2_with fail
              go_quiet (fail)
              go_wp2_with fail
              go_ret
              refine ⟨Fn.RightPost.no (fun g => ?_) rfl, m + nq, by rw [HWR.out]; exact drewN_twice _ _ _⟩
              have := (g k hlt).1
              rw [← HX.out, HLA.out] at this
              omega
            · have d4 : decide (x < p) = false := by simpa using h4
              go_wp2_with fail
              go_quiet (fail)
              go_wp2_with fail
              go_roundw
              case rel => exact ⟨k + 1, m + nq, by omega, by go_num, HR.out.next (by rw [← HX.out, HLA.out]; omega) (by rw [← HX.out]; omega), by rw [HWR.out]; exact drewN_twice _ _ _⟩
              case measure => simp [intOf]; omega
    · obtain rfl : k = li.length := by omega
      clear hwr
      have d5 : decide ((li.length : Int) < 16777216) = true := by simp; omega
      by_cases h1 : 1 ≤ b
      · by_cases h2 : b ≤ 1099511627776
        · go_wp2_with fail
          go_ret
          exact ⟨⟨true, ret_bool (by simp), ⟨fun _ => ⟨h1, h2, by omega, HR.out⟩, fun _ => rfl⟩⟩, m, HWR.out⟩
        · go_wp2_with fail
          go_ret
          exact ⟨⟨false, ret_bool (by simp), ⟨(fun h => by cases h), fun g => absurd g.2.1 (by omega)⟩⟩, m, HWR.out⟩
      · go_wp2_with fail
        go_ret
        exact ⟨⟨false, ret_bool (by simp), ⟨(fun h => by cases h), fun g => absurd g.1 (by omega)⟩⟩, m, HWR.out⟩
namespace Fn
theorem wdt_step {n u k : Nat} (h : ¬ (n = 0 ∨ u < 2 * n)) (hu : u < 2 ^ 64) : (2 ≤ u / n / 2 ^ k → k + 1 ≤ wdt n u) ∧ (u / n / 2 ^ k < 2 → wdt n u ≤ k) := by
  have hn : 0 < n := by omega
  obtain ⟨h1, h2, h3⟩ := wdt_spec h hu
  have hq1 : 2 ^ wdt n u ≤ u / n := (Nat.le_div_iff_mul_le hn).2 h1
  have hq2 : u / n < 2 ^ (wdt n u + 1) := (Nat.div_lt_iff_lt_mul hn).2 h2
  constructor
  · intro h4
    have h5 : 2 * 2 ^ k ≤ u / n := (Nat.le_div_iff_mul_le (Nat.two_pow_pos _)).1 h4
    rcases Nat.lt_or_ge k (wdt n u) with hl | hl
    · exact hl
    · have h6 : 2 ^ (wdt n u + 1) ≤ 2 ^ (k + 1) := Nat.pow_le_pow_right (by decide) (by omega)
      rw [Nat.pow_succ 2 k] at h6
      omega
  · intro h4
    have h5 : u / n < 2 * 2 ^ k := (Nat.div_lt_iff_lt_mul (Nat.two_pow_pos _)).1 h4
    rcases Nat.lt_or_ge k (wdt n u) with hl | hl
    · have h6 : 2 ^ (k + 1) ≤ 2 ^ wdt n u := Nat.pow_le_pow_right (by decide) (by omega)
      rw [Nat.pow_succ 2 k] at h6
      omega
    · exact hl
theorem wdt_le63 {n u : Nat} : wdt n u ≤ 63 := by
  by_cases h : n = 0 ∨ u < 2 * n
  · rw [wdt_none h]; omega
  · rw [wdt_some h]
    have := Wd.needTo_le (u / n) 64
    omega
end Fn
set_option maxHeartbeats 1000000 in
theorem Width_any (n u : Nat) (w : World) (hn : n < 16777216) (hu : u < 9223372036854775808) :
    Calls Tryd.prog 35 #[.int .i64 (n : Nat), .int .i64 (u : Nat)] w fun e w' => e = .returned (.int .i64 ((Fn.wdt n u : Nat) : Int)) ∧ w' = w := by
  by_cases h0 : n = 0
  · subst h0
    rw [Fn.wdt_none (.inl rfl), Int.natCast_zero]
    go_enter Tryd.func35, Tryd.ntmps35
    go_wp2_with fail
    go_ret
    exact ⟨rfl, rfl⟩
  · have d0 : ((n : Int) == 0) = false := by simp; omega
    by_cases h : u < 2 * n
    · rw [Fn.wdt_none (.inr h), Int.natCast_zero]
      have d1 : decide ((u : Int) < 2 * (n : Int)) = true := by simp; omega
      go_enter Tryd.func35, Tryd.ntmps35
      go_wp2_with fail
      go_ret
      exact ⟨rfl, rfl⟩
    · have d1 : decide ((u : Int) < 2 * (n : Int)) = false := by simp; omega
      have hW := Fn.wdt_le63 (n := n) (u := u)
      have HST := hidden (fun k => Fn.wdt_step (k := k) (show ¬ (n = 0 ∨ u < 2 * n) by omega) (show u < 2 ^ 64 by omega))
      obtain ⟨q, hq⟩ : ∃ q, q = u / n := ⟨_, rfl⟩
      have hq2 : (u : Int) / (n : Int) = (q : Int) := by rw [hq]; rfl
      have hq3 : q ≤ u := by rw [hq]; exact Nat.div_le_self _ _
      rw [← hq] at HST
      generalize Fn.wdt n u = W at *
      clear hq
      go_enter Tryd.func35, Tryd.ntmps35
      go_wp2_with fail
      go_loopw [5, 6] (fun i v wr => ∃ k : Nat, k ≤ W ∧ i = .int .i64 (k : Nat) ∧ v = .int .i64 ((q / 2 ^ k : Nat) : Int) ∧ wr = w) (fun i _ _ => W - (intOf i).toNat)
      case atStart => exact ⟨0, by omega, rfl, by simp, rfl⟩
      case round =>
        obtain ⟨k, hk, rfl, rfl, rfl⟩ := hrel
        obtain ⟨h1, h2⟩ := HST.out k
        have hv : q / 2 ^ k ≤ q := Nat.div_le_self _ _
        have hs : q / 2 ^ k / 2 = q / 2 ^ (k + 1) := by rw [Nat.div_div_eq_div_mul, ← Nat.pow_succ]
        obtain ⟨v, hv2⟩ : ∃ v, v = q / 2 ^ k := ⟨_, rfl⟩
        rw [← hv2] at h1 h2 hv hs ⊢
        have HH1 := hidden h1
        have HH2 := hidden h2
        have HS := hidden hs
        clear h1 h2 hs hv2
        by_cases hlt : 1 < v
        · have d2 : decide ((1 : Int) < (v : Int)) = true := by simp; omega
          obtain ⟨v', hv'⟩ : ∃ v' : Nat, (v : Int) / 2 = (v' : Int) := ⟨v / 2, by omega⟩
          have HV : Hid (v' = v / 2) := by show _ = _; omega
          go_wp2_with fail
          go_roundw
          case rel => exact ⟨k + 1, HH1.out (by omega), by go_num, by rw [← HS.out, ← HV.out], trivial⟩
          case measure => have := HH1.out (by omega); simp [intOf]; omega
        · have d2 : decide ((1 : Int) < (v : Int)) = false := by simp; omega
          go_wp2_with fail
          go_ret
          exact ⟨ret_int (by have := HH2.out (by omega); omega), rfl⟩
def Fn.FewPost (N : Nat) (b : Int) (e : Ending) : Prop := ∃ r, e = .returned (.bool r) ∧ (r = true → N ≤ 100 ∧ (N = 0 → b < 4096))
set_option maxHeartbeats 1000000 in
theorem few_any (li : List Int) (b : Int) (u : Value) (w : World) (h : Ints w u li) (hl : li.length ≤ 9223372036854775807) (hb : b ≤ 9223372036854775807) :
    Calls Tryd.prog 13 #[u, .int .i64 b] w fun e w' => Fn.FewPost li.length b e ∧ w' = w := by
  obtain ⟨ao, cap, rfl, hcap, _⟩ := h.cells
  obtain ⟨N, hN⟩ : ∃ N, N = li.length := ⟨_, rfl⟩
  rw [← hN] at hl hcap ⊢
  clear h hN
  by_cases h1 : N ≤ 100
  · have d1 : decide ((N : Int) ≤ 100) = true := by simp; omega
    by_cases h2 : b < 4096
    · have d2 : decide (b < 4096) = true := by simpa using h2
      go_enter Tryd.func13, Tryd.ntmps13
      go_wp2_with fail
      go_ret
      exact ⟨⟨true, ret_bool (by simp), fun _ => ⟨h1, fun _ => h2⟩⟩, rfl⟩
    · have d2 : decide (b < 4096) = false := by simpa using h2
      by_cases h3 : 0 < N
      · have d3 : decide (0 < N) = true := by simpa using h3
        obtain ⟨x, rfl⟩ := Int.eq_ofNat_of_zero_le (show 0 ≤ b by omega)
        have HW := hidden (fun w => Width_any N x w (by omega) (by omega))
        have hW := Fn.wdt_le63 (n := N) (u := x)
        generalize Fn.wdt N x = W at *
        go_enter Tryd.func13, Tryd.ntmps13
        go_wp2_with fail
        refine (HW.out _).mono ?_
        rintro e' w1 ⟨rfl, rfl⟩
        go_wp2_with fail
        go_ret
        exact ⟨⟨_, rfl, fun _ => ⟨h1, fun h => by omega⟩⟩, rfl⟩
      · have d3 : decide (0 < N) = false := by simpa using h3
        obtain rfl : N = 0 := by omega
        go_enter Tryd.func13, Tryd.ntmps13
        go_wp2_with fail
        go_ret
        exact ⟨⟨false, ret_bool (by simp), fun h => by cases h⟩, rfl⟩
  · have d1 : decide ((N : Int) ≤ 100) = false := by simp; omega
    go_enter Tryd.func13, Tryd.ntmps13
    go_wp2_with fail
    go_ret
    exact ⟨⟨false, ret_bool (by simp), fun h => by cases h⟩, rfl⟩
set_option maxHeartbeats 1000000 in
theorem rLess_any (l : List Nat) (x : Int) (u : Value) (w : World) (h : Ints w u (Fn.ints l)) (hl : l.length ≤ 4294967296) :
    Calls Tryd.prog 22 #[u, .int .i64 x] w fun e w' => e = .returned (.int .i64 ((Fn.less l x : Nat) : Int)) ∧ w' = w := by
  obtain ⟨ao, cap, rfl, hcap, hc⟩ := h.cells
  rw [Fn.ints_length] at hcap hc ⊢
  have HC := hidden hc
  have HL : Hid (Fn.less l x = Fn.lessTo l x l.length) := by show _ = _; rfl
  obtain ⟨N, hN⟩ : ∃ N, N = l.length := ⟨_, rfl⟩
  rw [← hN] at hcap hl HC HL ⊢
  clear hc h hN
  go_enter Tryd.func22, Tryd.ntmps22
  go_wp2_with fail
  go_loopw [5, 6] (fun c i wr => ∃ k : Nat, k ≤ N ∧ i = .int .i64 k ∧ c = .int .i64 ((Fn.lessTo l x k : Nat) : Int) ∧ wr = w) (fun _ i _ => N - (intOf i).toNat)
  case atStart => exact ⟨0, by omega, rfl, rfl, rfl⟩
  case round =>
    obtain ⟨k, hk, rfl, rfl, rfl⟩ := hrel
    by_cases hlt : k < N
    · obtain ⟨g, off, rfl, hg, hcell⟩ := HC.out (by omega)
      have c0 := hcell k hlt
      rw [Fn.ints_getD] at c0
      have hS : Fn.lessTo l x (k + 1) = Fn.lessTo l x k + (if ((l.getD k 0 : Nat) : Int) < x then 1 else 0) := rfl
      have hle := Fn.lessTo_le l x k
      obtain ⟨y, hy⟩ : ∃ y, y = l.getD k 0 := ⟨_, rfl⟩
      rw [← hy] at c0 hS
      have HS := hidden hS
      clear hcell hy hS
      by_cases hd : (y : Int) < x
      · have d : decide ((y : Int) < x) = true := by simpa using hd
        go_wp2_with fail
        go_roundw
        case rel => exact ⟨k + 1, by omega, by go_num, int_eq (by rw [HS.out, if_pos hd]; omega), trivial⟩
        case measure => simp [intOf]; omega
      · have d : decide ((y : Int) < x) = false := by simpa using hd
        go_wp2_with fail
        go_roundw
        case rel => exact ⟨k + 1, by omega, by go_num, int_eq (by rw [HS.out, if_neg hd]; omega), trivial⟩
        case measure => simp [intOf]; omega
    · obtain rfl : k = N := by omega
      go_wp2_with fail
      go_ret
      exact ⟨ret_int (by rw [HL.out]), rfl⟩
set_option maxHeartbeats 1000000 in
theorem rNext_any (l : List Nat) (x : Int) (u : Value) (w : World) (h : Ints w u (Fn.ints l)) (hup : Fn.Up l) (hl : l.length ≤ 4294967296) :
    Calls Tryd.prog 18 #[u, .int .i64 x] w fun e w' => e = .returned (Fn.two (Fn.next l x)) ∧ w' = w := by
  obtain ⟨ao, cap, rfl, hcap, hc⟩ := h.cells
  rw [Fn.ints_length] at hcap hc ⊢
  have HC := hidden hc
  have HU := hidden hup
  obtain ⟨N, hN⟩ : ∃ N, N = l.length := ⟨_, rfl⟩
  rw [← hN] at hcap hl HC ⊢
  have HN := hidden hN
  clear hc h hN hup
  obtain ⟨V, hV⟩ : ∃ V, V = Fn.two (Fn.next l x) := ⟨_, rfl⟩
  rw [← hV]
  have HV := hidden hV
  clear hV
  go_enter Tryd.func18, Tryd.ntmps18
  go_wp2_with fail
  go_loopw [6] (fun i wr => ∃ k : Nat, k ≤ N ∧ i = .int .i64 k ∧ (∀ j, j < k → ((l.getD j 0 : Nat) : Int) < x) ∧ wr = w) (fun i _ => N - (intOf i).toNat)
  case atStart => exact ⟨0, by omega, rfl, fun j hj => by omega, rfl⟩
  case round =>
    obtain ⟨k, hk, rfl, ha, rfl⟩ := hrel
    have HA := hidden ha
    clear ha
    by_cases hlt : k < N
    · obtain ⟨g, off, rfl, hg, hcell⟩ := HC.out (by omega)
      have c0 := hcell k hlt
      rw [Fn.ints_getD] at c0
      obtain ⟨y, hy⟩ : ∃ y, y = l.getD k 0 := ⟨_, rfl⟩
      rw [← hy] at c0
      have HY := hidden hy
      clear hcell hy
      by_cases hd : x ≤ (y : Int)
      · have d : decide (x ≤ (y : Int)) = true := by simpa using hd
        go_wp2_with fail
        go_ret2
        refine ⟨?_, rfl⟩
        have hkl : k < l.length := by rw [← HN.out]; exact hlt
        have e : Fn.next l x = some y := by
          unfold Fn.next
          rw [Fn.less_eq HU.out (r := k) ⟨by omega, HA.out, fun i h1 h2 => by have := HU.out.le i k h1 h2; have := HY.out; omega⟩, Fn.getD_some hkl, HY.out]
        rw [HV.out, e]
        rfl
      · have d : decide (x ≤ (y : Int)) = false := by simpa using hd
        go_wp2_with fail
        go_roundw
        case rel =>
          refine ⟨k + 1, by omega, by go_num, fun j hj => ?_, trivial⟩
          rcases Nat.lt_or_ge j k with hl | hl
          · exact HA.out j hl
          · obtain rfl : j = k := by omega
            rw [← HY.out]
            omega
        case measure => simp [intOf]; omega
    · obtain rfl : k = N := by omega
      go_wp2_with fail
      go_ret2
      refine ⟨?_, rfl⟩
      have e : Fn.next l x = none := by
        unfold Fn.next
        rw [Fn.less_eq HU.out (r := k) ⟨by rw [HN.out]; omega, HA.out, fun i h1 h2 => by rw [HN.out] at h1; omega⟩, List.getElem?_eq_none (by rw [HN.out]; omega)]
      rw [HV.out, e]
      rfl
set_option maxHeartbeats 1000000 in
theorem rPrev_any (l : List Nat) (x : Int) (u : Value) (w : World) (h : Ints w u (Fn.ints l)) (hup : Fn.Up l) (hl : l.length ≤ 4294967296) :
    Calls Tryd.prog 20 #[u, .int .i64 x] w fun e w' => e = .returned (Fn.two (Fn.prev l x)) ∧ w' = w := by
  obtain ⟨ao, cap, rfl, hcap, hc⟩ := h.cells
  rw [Fn.ints_length] at hcap hc ⊢
  have HC := hidden hc
  have HU := hidden hup
  obtain ⟨N, hN⟩ : ∃ N, N = l.length := ⟨_, rfl⟩
  rw [← hN] at hcap hl HC ⊢
  have HN := hidden hN
  clear hc h hN hup
  obtain ⟨V, hV⟩ : ∃ V, V = Fn.two (Fn.prev l x) := ⟨_, rfl⟩
  rw [← hV]
  have HV := hidden hV
  clear hV
  go_enter Tryd.func20, Tryd.ntmps20
  go_wp2_with fail
  go_loopw [6] (fun i wr => ∃ k : Nat, k ≤ N ∧ i = .int .i64 ((k : Int) - 1) ∧ (∀ j, k ≤ j → j < l.length → x < ((l.getD j 0 : Nat) : Int)) ∧ wr = w) (fun i _ => (intOf i + 1).toNat)
  case atStart => exact ⟨N, by omega, rfl, fun j hj h2 => by rw [HN.out] at hj; omega, rfl⟩
  case round =>
    obtain ⟨k, hk, rfl, ha, rfl⟩ := hrel
    have HA := hidden ha
    clear ha
    by_cases hlt : 0 < k
    · obtain ⟨j, rfl⟩ : ∃ j, k = j + 1 := ⟨k - 1, by omega⟩
      have hj : ((j + 1 : Nat) : Int) - 1 = (j : Int) := by omega
      rw [hj]
      obtain ⟨g, off, rfl, hg, hcell⟩ := HC.out (by omega)
      have c0 := hcell j (by omega)
      rw [Fn.ints_getD] at c0
      obtain ⟨y, hy⟩ : ∃ y, y = l.getD j 0 := ⟨_, rfl⟩
      rw [← hy] at c0
      have HY := hidden hy
      have hjN : j < N := by omega
      clear hcell hy
      by_cases hd : (y : Int) ≤ x
      · have d : decide ((y : Int) ≤ x) = true := by simpa using hd
        go_wp2_with fail
        go_ret2
        refine ⟨?_, rfl⟩
        have hkl : j < l.length := by rw [← HN.out]; exact hjN
        have e : Fn.prev l x = some y := by
          unfold Fn.prev
          rw [Fn.less_eq HU.out (x := x + 1) (r := j + 1) ⟨by omega, fun i hi => by have := HU.out.le j i (by omega) hkl; have := HY.out; omega, fun i h1 h2 => by have := HA.out i h1 h2; omega⟩, if_neg (by omega), Nat.add_sub_cancel, Fn.getD_some hkl, HY.out]
        rw [HV.out, e]
        rfl
      · have d : decide ((y : Int) ≤ x) = false := by simpa using hd
        go_wp2_with fail
        go_roundw
        case rel =>
          refine ⟨j, by omega, by go_num, fun i hi h2 => ?_, trivial⟩
          rcases Nat.lt_or_ge j i with hl | hl
          · exact HA.out i hl h2
          · obtain rfl : i = j := by omega
            rw [← HY.out]
            omega
        case measure => simp [intOf]
    · obtain rfl : k = 0 := by omega
      go_wp2_with fail
      go_ret2
      refine ⟨?_, rfl⟩
      have e : Fn.prev l x = none := by
        unfold Fn.prev
        rw [Fn.less_eq HU.out (x := x + 1) (r := 0) ⟨by omega, fun i hi => by omega, fun i h1 h2 => by have := HA.out i h1 h2; omega⟩, if_pos rfl]
      rw [HV.out, e]
      rfl
theorem Fn.ok_awake : Fn.Ok [1, 4, 4, 9] 10 := by
  refine ⟨fun i hi => ?_, fun i hi => ?_, by decide, by decide, by decide⟩
  · rcases (show i = 0 ∨ i = 1 ∨ i = 2 from by simp at hi; omega) with rfl | rfl | rfl <;> decide
  · rcases (show i = 0 ∨ i = 1 ∨ i = 2 ∨ i = 3 from by simp at hi; omega) with rfl | rfl | rfl | rfl <;> decide
set_option maxHeartbeats 1000000 in
theorem awake5_any (w : World) (hT : Tab w) :
    Calls Tryd.prog 10 #[] w fun e w' => e = .returned (.bool true) ∧ Below w.heap.size w w' := by
  have HT := hidden hT
  clear hT
  go_enter Tryd.func10, Tryd.ntmps10
  go_wp2_with fail
  obtain ⟨w0, hw0⟩ : ∃ w0, w0 = w.alloc (.cells #[.int .i64 1, .int .i64 4, .int .i64 4, .int .i64 9] 3) := ⟨_, rfl⟩
  rw [← hw0]
  have hb0 : Below w.heap.size w w0 := by rw [hw0]; exact (Below.refl _ _).alloc (Nat.le_refl _) _
  have hI : Ints w0 (.slice (some ⟨w.heap.size, 0, none⟩) 4 4) (Fn.ints [1, 4, 4, 9]) := by
    refine ⟨some ⟨w.heap.size, 0, none⟩, 4, rfl, by decide, fun _ => ⟨w.heap.size, 0, rfl, by rw [hw0]; simp, fun i hi => ?_⟩⟩
    have hh : w0.heap[w.heap.size]? = some (.cells #[.int .i64 1, .int .i64 4, .int .i64 4, .int .i64 9] 3 (0, 0)) := by rw [hw0]; exact heap_alloc_new _ _
    rw [Fn.ints_length] at hi
    rw [Lib.cell_of_heap hh]
    rcases (show i = 0 ∨ i = 1 ∨ i = 2 ∨ i = 3 from by simp at hi; omega) with rfl | rfl | rfl | rfl <;> rfl
  have HB0 := hidden hb0
  have HI := hidden hI
  clear hI hb0 hw0
  refine (Make_ok [1, 4, 4, 9] 10 _ w0 HI.out Fn.ok_awake (HT.out.below HB0.out (Nat.le_refl _))).mono ?_
  rintro e' w1 ⟨s, q, rfl, hs, hb1⟩
  have HS := hidden hs
  have HB1 := hidden (below_after HB0.out hb1)
  clear hs hb1
  go_wp2_with fail
  refine (SLen_any s 10 _ q w1 HS.out).mono ?_
  rintro e' w2 ⟨rfl, rfl⟩
  rw [show (([1, 4, 4, 9] : List Nat).length : Int) = 4 from rfl]
  go_wp2_with fail
  refine (SLess_any s 10 4 _ q w2 HS.out (HT.out.below HB1.out (Nat.le_refl _))).mono ?_
  rintro e' w3 ⟨rfl, hb3⟩
  rw [show Fn.less [1, 4, 4, 9] 4 = 1 from by decide]
  have HB3 := hidden (below_after HB1.out hb3)
  clear hb3
  go_wp2_with fail
  go_ret
  exact ⟨rfl, HB3.out⟩
end Go.Proofs.YtfohldojcdhnhaaDoor
