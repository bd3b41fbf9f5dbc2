/-
  The contracts of word.Select, word.Need, word.Reach and word.Find, for every word and every number; nothing in memory is changed. Select: where the world holds the library's table.
  The contracts of the reference's functions of layer 1 (the package laceworkref01), for every word and every number: each returns what the plain mathematics says; nothing in memory is changed.
-/
import Derived.Test.YtfohldojcdhnhaaDoorWdWalk
import Derived.Test.YtfohldojcdhnhaaDoorWdLen
import Derived.Test.YtfohldojcdhnhaaDoorJScope
namespace Go.Proofs.YtfohldojcdhnhaaDoor
open Go.RowKit
theorem Wd.and_pred_u64 (y : Nat) (h0 : y ≠ 0) (hy : y < 18446744073709551616) : bits .and .u64 (y : Int) ((y : Int) - 1) = ((y &&& (y - 1) : Nat) : Int) := by
  rw [← bits_and_u64_nat y (y - 1) hy (by omega)]
  congr 1
  omega
set_option maxHeartbeats 400000 in
theorem Select_nonneg (x : Nat) (k : Int) (w : World) (hx : x < 18446744073709551616) (hk : 0 ≤ k) (hk2 : k ≤ 9223372036854775807) (hT : Tab w) :
    Calls Tryd.prog 97 #[.int .u64 x, .int .i64 k] w fun e w' => e = .returned (.int .i64 (Wd.sel x k)) ∧ w' = w := by
  have HT : Hid (Tab w) := hT
  clear hT
  go_enter Tryd.func97, Tryd.ntmps97
  go_wp2
  refine wp_scope_label 0 (fun a' w' => w' = w ∧ ∃ (y : Nat) (k' : Int) (u5 u6 u7 u8 u9 u10 u11 u12 u13 u14 u15 u16 u17 u18 : Value), a' = { tmps := #[.int .u64 y, .int .i64 k', undef, undef, .int .i64 0, u5, u6, u7, u8, u9, u10, u11, u12, u13, u14, u15, u16, u17, u18], defers := [] } ∧ y < 18446744073709551616 ∧ 0 ≤ k' ∧ k' ≤ 9223372036854775807 ∧ Wd.sel y k' = Wd.sel x k) (fun a' _ => (intOf (a'.tmps.getD 0 undef)).toNat) rfl ?_ ?_
  · go_wp2
    exact ⟨by trivial, x, k, _, _, _, _, _, _, _, _, _, _, _, _, _, _, rfl, hx, hk, hk2, rfl⟩
  · rintro a' w' ⟨rfl, y, k', u5, u6, u7, u8, u9, u10, u11, u12, u13, u14, u15, u16, u17, u18, rfl, hy, hk', hk2', hs⟩
    have Hs : Hid _ := hs
    clear hs
    by_cases h0 : y = 0
    · subst h0
      have hs := Hs.out
      rw [Wd.sel_of_zero] at hs
      go_wp2
      simp only [Exit.jump]
      go_ret
      exact ⟨ret_int (by rw [← hs]; rfl), rfl⟩
    · have hz : ((y : Int) == 0) = false := by simpa using h0
      by_cases hp : 0 < k'
      · have hb := Wd.and_pred_u64 y h0 hy
        obtain ⟨hn, hlt⟩ := Wd.sel_next y k' h0 hy hp
        have Hn : Hid _ := hn
        clear hn
        go_wp2
        go_step3
        refine ⟨rfl, ⟨rfl, y &&& (y - 1), k' - 1, _, _, _, _, _, _, _, _, _, _, _, _, _, _, rfl, ?_⟩, ?_⟩
        · exact ⟨by omega, by omega, by omega, by rw [Hn.out, Hs.out]⟩
        · simp [intOf]
          exact hlt
      · obtain rfl : k' = 0 := by omega
        go_wp2_with (go_at_call 108; refine (TrailingZeros64_any y _ hy h0 HT.out).mono ?_; rintro e w' ⟨rfl, rfl⟩)
        simp only [Exit.jump]
        go_ret
        exact ⟨ret_int (by rw [Hs.out]), rfl⟩
theorem Select_any (x : Nat) (k : Int) (w : World) (hx : x < 18446744073709551616) (hk2 : k ≤ 9223372036854775807) (hT : Tab w) :
    Calls Tryd.prog 97 #[.int .u64 x, .int .i64 k] w fun e w' => e = .returned (.int .i64 (Wd.sel x k)) ∧ w' = w := by
  by_cases h : k < 0
  · rw [Wd.sel_neg x k h]
    go_enter Tryd.func97, Tryd.ntmps97
    go_wp2
    go_step3
    go_wp2
    rw [Exit.noGoto_ret]
    go_ret
    exact ⟨rfl, rfl⟩
  · exact Select_nonneg x k w hx (by omega) hk2 hT
set_option maxHeartbeats 400000 in
theorem Need_any (x : Nat) (w : World) (hx : x < 18446744073709551616) :
    Calls Tryd.prog 57 #[.int .u64 x] w fun e w' => e = .returned (.int .i64 (Wd.needTo x 64)) ∧ w' = w := by
  rw [← Wd.bitLen_need x hx]
  go_enter Tryd.func57, Tryd.ntmps57
  go_wp2_with (go_at_call 83; refine (Len64_any x _ hx).mono ?_; rintro e w' ⟨rfl, rfl⟩)
  go_ret
  exact ⟨rfl, rfl⟩
end Go.Proofs.YtfohldojcdhnhaaDoor
namespace Go.Proofs.YtfohldojcdhnhaaDoor
open Go.RowKit
end Go.Proofs.YtfohldojcdhnhaaDoor
