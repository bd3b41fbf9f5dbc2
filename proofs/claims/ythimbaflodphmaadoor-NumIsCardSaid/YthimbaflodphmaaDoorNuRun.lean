/-
  The reference's run and digit.
-/
import Derived.Test.YthimbaflodphmaaDoorNuText
namespace Go.Proofs.YthimbaflodphmaaDoor
open Go.RowKit
open Nu
namespace Nu
theorem rDigit_any (c : UInt8) (w : World) :
    Calls Tryd.prog 49 #[.int .u8 ((c.toNat : Nat) : Int)] w fun e w' => e = .returned (.bool (dig c)) ∧ w' = w := by
  have hd : dig c = (decide (48 ≤ c.toNat) && decide (c.toNat ≤ 57)) := rfl
  rw [hd]
  have h255 := c.toNat_lt
  generalize c.toNat = m at h255 ⊢
  by_cases h1 : 48 ≤ m
  · by_cases h2 : m ≤ 57
    · go_enter Tryd.func49, Tryd.ntmps49
      go_wp2_with fail
      go_ret
      exact ⟨ret_bool (by first | (rw [decide_eq_true h1, Bool.true_and]; exact decide_eq_decide.2 (by omega)) | (simp; done) | (rw [decide_eq_false h1]; rfl) | rfl), rfl⟩
    · go_enter Tryd.func49, Tryd.ntmps49
      go_wp2_with fail
      go_ret
      exact ⟨ret_bool (by first | (rw [decide_eq_true h1, Bool.true_and]; exact decide_eq_decide.2 (by omega)) | (simp; done) | (rw [decide_eq_false h1]; rfl) | rfl), rfl⟩
  · go_enter Tryd.func49, Tryd.ntmps49
    go_wp2_with fail
    go_ret
    exact ⟨ret_bool (by first | (rw [decide_eq_true h1, Bool.true_and]; exact decide_eq_decide.2 (by omega)) | (simp; done) | (rw [decide_eq_false h1]; rfl) | rfl), rfl⟩
theorem rRun_any (l : List UInt8) (a : Nat) (w : World) (hs : l.length ≤ 1000000) (ha : a ≤ l.length) :
    Calls Tryd.prog 41 #[.string (str l), .int .i64 (a : Nat)] w fun e w' => e = .returned (.int .i64 ((dc (l.drop a) : Nat) : Int)) ∧ w' = w := by
  have hgo := dc_go (l.drop a)
  have hstop := dc_stop (l.drop a)
  have hle := dc_le (l.drop a)
  rw [List.length_drop] at hle
  have hgo2 : ∀ k, k < dc (l.drop a) → ∃ h : a + k < l.length, dig (l[a + k]) = true := fun k hk => by
    obtain ⟨h1, h2⟩ := hgo k hk
    rw [List.length_drop] at h1
    rw [List.getElem_drop] at h2
    exact ⟨by omega, h2⟩
  have hstop2 : ∀ h : a + dc (l.drop a) < l.length, dig (l[a + dc (l.drop a)]) = false := fun h => by
    have h2 := hstop (by rw [List.length_drop]; omega)
    rw [List.getElem_drop] at h2
    exact h2
  obtain ⟨s, hS, hsz, hat⟩ := str_open l
  rw [← hS]
  clear hgo hstop hS
  generalize dc (l.drop a) = n at hgo2 hstop2 hle ⊢
  have HGO := hidden hgo2
  have HST := hidden hstop2
  have HAT := hidden hat
  clear hgo2 hstop2 hat
  go_enter Tryd.func41, Tryd.ntmps41
  go_wp2_with fail
  go_loop [5] (fun v => ∃ k : Nat, k ≤ n ∧ v = .int .i64 k) (fun v => l.length - (intOf v).toNat)
  case atStart => exact ⟨0, by omega, rfl⟩
  case round =>
    obtain ⟨k, hk, rfl⟩ := hrel
    have hw : IntKind.i64.wrap ((a : Int) + k) = ((a + k : Nat) : Int) := by rw [IntKind.wrap_i64]; omega
    by_cases hlt : k < n
    · obtain ⟨h1, h2⟩ := HGO.out k hlt
      have h6 : a + k < s.size := by omega
      have hd := rDigit_any (s[a + k]'h6) w
      rw [HAT.out _ h6 h1, h2, ← HAT.out _ h6 h1] at hd
      have HD := hidden hd
      clear hd h2
      go_wp2_with fail
      refine HD.out.mono ?_
      rintro e w2 ⟨rfl, rfl⟩
      go_wp2_with fail
      go_round
      case rel => exact ⟨k + 1, by omega, by go_num⟩
      case measure => simp [intOf]; omega
    · obtain rfl : k = n := by omega
      by_cases h1 : a + k < l.length
      · have h6 : a + k < s.size := by omega
        have hd := rDigit_any (s[a + k]'h6) w
        rw [HAT.out _ h6 h1, HST.out h1, ← HAT.out _ h6 h1] at hd
        have HD := hidden hd
        clear hd
        go_wp2_with fail
        refine HD.out.mono ?_
        rintro e w2 ⟨rfl, rfl⟩
        go_wp2_with fail
        go_ret
        exact ⟨rfl, rfl⟩
      · go_wp2_with fail
        go_ret
        exact ⟨rfl, rfl⟩
end Nu
end Go.Proofs.YthimbaflodphmaaDoor
