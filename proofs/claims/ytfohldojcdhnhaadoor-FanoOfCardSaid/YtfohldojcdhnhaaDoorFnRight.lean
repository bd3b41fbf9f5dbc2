/-
  The contracts of laceworkref05's Right for long lists, and of laceworklaw05's Is: whether bytes are a sequence's.
-/
import Derived.Test.YtfohldojcdhnhaaDoorFnOfAll
import Derived.Test.YtfohldojcdhnhaaDoorFnRefR
import Derived.Test.YtfohldojcdhnhaaDoorBtRefO
namespace Go.Proofs.YtfohldojcdhnhaaDoor
open Go.RowKit
set_option maxHeartbeats 2000000 in
set_option maxRecDepth 100000 in
theorem Right_big (li : List Int) (b : Int) (u : Value) (w : World) (h : Ints w u li) (hl : li.length ≤ 1000000) :
    Calls Tryd.prog 11 #[u, .int .i64 b] w fun e w' => Fn.RightPost li b e ∧ ∃ m, w' = w.drewN m := by
  obtain ⟨ao, cap, rfl, hcap, hc⟩ := h.cells
  have HC := hidden hc
  clear hc h
  go_enter Tryd.func11, Tryd.ntmps11
  go_wp2_with fail
  go_loopw [5] (fun i wr => ∃ (k m : Nat), k ≤ li.length ∧ i = .int .i64 k ∧ Fn.Ris li b k ∧ wr = w.drewN m) (fun i _ => li.length - (intOf i).toNat)
  case atStart => exact ⟨0, 0, by omega, rfl, fun i hi => by omega, rfl⟩
  case round =>
    obtain ⟨k, m, hk, rfl, hr, hwr⟩ := hrel
    have HR := hidden hr
    have HL := hidden hr.last
    have HWR := hidden hwr
    clear hr
    by_cases hlt : k < li.length
    · obtain ⟨g, off, rfl, hg, hcell⟩ := HC.out (by omega)
      have c0 : wr.cell? ⟨g, off + k, none⟩ = some (.int .i64 (li.getD k 0)) := by rw [hwr]; exact hcell k hlt
      have c1 : wr.cell? ⟨g, off + (k - 1), none⟩ = some (.int .i64 (li.getD (k - 1) 0)) := by rw [hwr]; exact hcell (k - 1) (by omega)
      obtain ⟨x, hx⟩ : ∃ x, x = li.getD k 0 := ⟨_, rfl⟩
      obtain ⟨p, hp⟩ : ∃ p, p = li.getD (k - 1) 0 := ⟨_, rfl⟩
      rw [← hx] at c0
      rw [← hp] at c1
      have HX := hidden hx
      have HP := hidden hp
      clear hcell hx hp hwr
      by_cases h1 : x < 0
      · have d1 : decide (x < 0) = true := by simpa using h1
        go_wp2_with fail
        go_quiet (fail)
        go_wp2_with fail
        go_ret
        refine ⟨Fn.RightPost.no (fun g => ?_) rfl, m + nq, by rw [HWR.out]; exact drewN_twice _ _ _⟩
        have := (g k hlt).1
        rw [← HX.out] at this
        have := HL.out
        omega
      · have d1 : decide (x < 0) = false := by simpa using h1
        by_cases h2 : b ≤ x
        · have d2 : decide (b ≤ x) = true := by simpa using h2
          go_wp2_with fail
          go_quiet (fail)
          go_wp2_with fail
          go_ret
          refine ⟨Fn.RightPost.no (fun g => ?_) rfl, m + nq, by rw [HWR.out]; exact drewN_twice _ _ _⟩
          have := (g k hlt).2
          rw [← HX.out] at this
          omega
        · have d2 : decide (b ≤ x) = false := by simpa using h2
          by_cases h3 : k = 0
          · subst h3
            rw [Nat.add_zero] at c0
            go_wp2_with fail
            go_quiet (fail)
            go_wp2_with fail
            go_roundw
            case rel => exact ⟨1, m + nq, by omega, by go_num, HR.out.next (by rw [← HX.out]; show (0 : Int) ≤ x; omega) (by rw [← HX.out]; omega), by rw [HWR.out]; exact drewN_twice _ _ _⟩
            case measure => simp [intOf]; omega
          · obtain ⟨j, hj⟩ : ∃ j, j = k - 1 := ⟨_, rfl⟩
            rw [← hj] at c1
            have hkj : (k : Int) - 1 = (j : Int) := by omega
            have hj2 : j < li.length := by omega
            have d3 : decide (0 < k) = true := by simp; omega
            have hk0 : 0 < k := by omega
            have hlast : Fn.lastI li k = p := by
              unfold Fn.lastI
              rw [if_neg h3, HP.out]
            have HLA := hidden hlast
            have HJ := hidden hj
            clear hlast hj
            by_cases h4 : x < p
            · have d4 : decide (x < p) = true := by simpa using h4
              go_wp2_with fail
              go_quiet (fail)
              go_wp2_with fail
              go_ret
              refine ⟨Fn.RightPost.no (fun g => ?_) rfl, m + nq, by rw [HWR.out]; exact drewN_twice _ _ _⟩
              have := (g k hlt).1
              rw [← HX.out, HLA.out] at this
              omega
            · have d4 : decide (x < p) = false := by simpa using h4
              go_wp2_with fail
              go_quiet (fail)
              go_wp2_with fail
              go_roundw
              case rel => exact ⟨k + 1, m + nq, by omega, by go_num, HR.out.next (by rw [← HX.out, HLA.out]; omega) (by rw [← HX.out]; omega), by rw [HWR.out]; exact drewN_twice _ _ _⟩
              case measure => simp [intOf]; omega
    · obtain rfl : k = li.length := by omega
      clear hwr
      have d5 : decide ((li.length : Int) < 16777216) = true := by simp; omega
      by_cases h1 : 1 ≤ b
      · by_cases h2 : b ≤ 1099511627776
        · go_wp2_with fail
          go_ret
          exact ⟨⟨true, ret_bool (by simp), ⟨fun _ => ⟨h1, h2, by omega, HR.out⟩, fun _ => rfl⟩⟩, m, HWR.out⟩
        · go_wp2_with fail
          go_ret
          exact ⟨⟨false, ret_bool (by simp), ⟨(fun h => by cases h), fun g => absurd g.2.1 (by omega)⟩⟩, m, HWR.out⟩
      · go_wp2_with fail
        go_ret
        exact ⟨⟨false, ret_bool (by simp), ⟨(fun h => by cases h), fun g => absurd g.1 (by omega)⟩⟩, m, HWR.out⟩
end Go.Proofs.YtfohldojcdhnhaaDoor
