/-
  The contracts of laceworkref11's hex and unit: for every byte, every string and every place; nothing that was there is changed.
-/
import Derived.Lib.Builder
import Derived.Laws.ResultCell
import Derived.Laws.Rows
import Derived.Test.YtjhjkahjljikhaaEsQuote
import Derived.Test.YtjhjkahjljikhaaEsRight
import Derived.Test.YtjhjkahjljikhaaJBtMem
namespace Go.Proofs.Ytjhjkahjljikhaa
open Go.RowKit
set_option maxHeartbeats 1000000 in
theorem rHex_any (b : Nat) (w : World) :
    Calls Try.prog 44 #[.int .u8 (b : Nat)] w fun e w' => e = .returned (.int .i64 (Es.hx b)) ∧ w' = w := by
  unfold Es.hx
  by_cases h1 : 48 ≤ b ∧ b ≤ 57
  · obtain ⟨h2, h3⟩ := h1
    rw [if_pos ⟨h2, h3⟩]
    go_enter Try.func44, Try.ntmps44
    go_wp2
    go_ret
    exact ⟨ret_int (by omega), rfl⟩
  rw [if_neg h1]
  by_cases h4 : 97 ≤ b ∧ b ≤ 102
  · obtain ⟨h2, h3⟩ := h4
    have h5 : ¬ b ≤ 57 := by omega
    rw [if_pos ⟨h2, h3⟩]
    clear h1
    go_enter Try.func44, Try.ntmps44
    go_wp2
    go_ret
    exact ⟨ret_int (by omega), rfl⟩
  rw [if_neg h4]
  by_cases h6 : 65 ≤ b ∧ b ≤ 70
  · obtain ⟨h2, h3⟩ := h6
    have h5 : ¬ b ≤ 57 := by omega
    have h7 : ¬ 97 ≤ b := by omega
    rw [if_pos ⟨h2, h3⟩]
    clear h1 h4
    go_enter Try.func44, Try.ntmps44
    go_wp2
    go_ret
    exact ⟨ret_int (by omega), rfl⟩
  rw [if_neg h6]
  by_cases a1 : 48 ≤ b
  · have a2 : ¬ b ≤ 57 := by omega
    by_cases a3 : 97 ≤ b
    · have a4 : ¬ b ≤ 102 := by omega
      have a5 : ¬ b ≤ 70 := by omega
      have a6 : 65 ≤ b := by omega
      clear h1 h4 h6
      go_enter Try.func44, Try.ntmps44
      go_wp2
      go_ret
      exact ⟨rfl, rfl⟩
    · by_cases a5 : 65 ≤ b
      · have a6 : ¬ b ≤ 70 := by omega
        clear h1 h4 h6
        go_enter Try.func44, Try.ntmps44
        go_wp2
        go_ret
        exact ⟨rfl, rfl⟩
      · clear h1 h4 h6
        go_enter Try.func44, Try.ntmps44
        go_wp2
        go_ret
        exact ⟨rfl, rfl⟩
  · have a2 : ¬ 97 ≤ b := by omega
    have a3 : ¬ 65 ≤ b := by omega
    clear h1 h4 h6
    go_enter Try.func44, Try.ntmps44
    go_wp2
    go_ret
    exact ⟨rfl, rfl⟩
namespace Es
theorem drop_two (s : ByteArray) (k : Nat) (h : k + 1 < s.size) : s.data.toList.drop k = s[k] :: s[k + 1] :: s.data.toList.drop (k + 2) := by
  have h1 : k < s.data.toList.length := by show k < s.size; omega
  have h2 : k + 1 < s.data.toList.length := h
  rw [List.drop_eq_getElem_cons h1, List.drop_eq_getElem_cons h2]
  rfl
theorem drop_one (s : ByteArray) (k : Nat) (h : k < s.size) : s.data.toList.drop k = s[k] :: s.data.toList.drop (k + 1) := by
  have h1 : k < s.data.toList.length := h
  rw [List.drop_eq_getElem_cons h1]
  rfl
theorem ru_short (l : List UInt8) (h : l.length < 6) : ru l = -1 := by
  rcases ru_cases l with h1 | ⟨_, _, h1, _⟩
  · exact h1
  · omega
theorem drop_get (s : ByteArray) (k j q : Nat) (hq : q = k + j) (h : q < s.size) : (s.data.toList.drop k).getD j 0 = s[q] := by
  subst hq
  rw [List.getD_eq_getElem?_getD, List.getElem?_drop, List.getElem?_eq_getElem (show k + j < s.data.toList.length from h)]
  rfl
end Es
set_option maxHeartbeats 2000000 in
theorem rUnit_any (s : ByteArray) (k : Nat) (z : Int) (w : World) (hz : z = (k : Int)) (hs : s.size ≤ 1000000) (hk : k ≤ 2000000) :
    Calls Try.prog 34 #[.string s, .int .i64 z] w fun e w' => e = .returned (.int .i64 (Es.ru (s.data.toList.drop k))) ∧ w' = w := by
  by_cases h6 : s.size < k + 6
  · rw [Es.ru_short _ (by rw [List.length_drop]; show s.size - k < 6; omega)]
    have hlt : (s.size : Int) - z < 6 := by omega
    have hz1 : -2000000 ≤ -z := by omega
    have hz2 : z ≤ 2000000 := by omega
    have hz3 : 0 ≤ z := by omega
    clear hz
    go_enter Try.func34, Try.ntmps34
    go_wp2_with fail
    go_ret
    exact ⟨rfl, rfl⟩
  · subst hz
    have hd := Es.drop_two s k (by omega)
    have hlt : ¬ (s.size : Int) - (k : Int) < 6 := by omega
    have hk0 : k < s.size := by omega
    have hk1 : k + 1 < s.size := by omega
    by_cases h0 : s[k].toNat = 92
    · by_cases h1 : s[k + 1].toNat = 117
      · have hru : Es.ru (s.data.toList.drop k) = Es.up (s.data.toList.drop (k + 2)) 4 := by
          rw [hd, Es.ru_cons, if_pos ⟨h0, h1⟩]
        rw [hru]
        clear hru hd
        go_enter Try.func34, Try.ntmps34
        go_wp2_with fail
        go_loop [5, 6] (fun c i => ∃ j C : Nat, j ≤ 4 ∧ i = .int .i64 ((2 + j : Nat) : Int) ∧ c = .int .i64 (C : Nat) ∧ Es.up (s.data.toList.drop (k + 2)) j = (C : Int)) (fun _ i => 6 - (intOf i).toNat)
        case atStart => exact ⟨0, 0, by omega, rfl, rfl, rfl⟩
        case round =>
          obtain ⟨j, C, hj, rfl, rfl, hc⟩ := hrel
          have HC := hidden hc
          have hC : C < 65536 := by
            rcases Es.up_cases (s.data.toList.drop (k + 2)) j with h1 | ⟨_, h1⟩
            · omega
            · have : (16 : Int) ^ j ≤ 16 ^ 4 := by
                obtain rfl | rfl | rfl | rfl | rfl : j = 0 ∨ j = 1 ∨ j = 2 ∨ j = 3 ∨ j = 4 := by omega
                all_goals decide
              omega
          clear hc
          by_cases hlt : j < 4
          · obtain ⟨q, hq⟩ : ∃ q, q = k + 2 + j := ⟨_, rfl⟩
            have hi : q < s.size := by omega
            have hup := Es.up_succ (s.data.toList.drop (k + 2)) j
            rw [Es.drop_get s (k + 2) j q hq hi, HC.out] at hup
            have hlen : ¬ (s.data.toList.drop (k + 2)).length ≤ j := by
              rw [List.length_drop]
              show ¬ s.size - (k + 2) ≤ j
              omega
            have HD := hidden (rHex_any (s[q]).toNat)
            have hqi : (k : Int) + (2 + (j : Int)) = (q : Int) := by omega
            rcases Es.hx_cases (s[q]).toNat with hx | ⟨hx, hx2⟩
            · rw [if_pos (by omega)] at hup
              have hun : Es.up (s.data.toList.drop (k + 2)) 4 = -1 := by
                have := Es.up_dead (s.data.toList.drop (k + 2)) (j + 1) (3 - j) (by omega)
                rw [show j + 1 + (3 - j) = 4 from by omega] at this
                exact this
              rw [hx] at HD
              have HU := hidden hun
              clear hup hlen hx hun hq
              go_wp2_with fail
              refine (HD.out _).mono ?_
              rintro e w1 ⟨rfl, rfl⟩
              go_wp2_with fail
              go_ret
              rw [HU.out]
              exact ⟨rfl, rfl⟩
            · obtain ⟨D, hD⟩ : ∃ D : Nat, Es.hx (s[q]).toNat = (D : Int) := ⟨(Es.hx (s[q]).toNat).toNat, by omega⟩
              rw [hD] at hup HD hx hx2
              rw [if_neg (by omega)] at hup
              have HU := hidden hup
              clear hup hlen hx hD hq
              go_wp2_with fail
              refine (HD.out _).mono ?_
              rintro e w1 ⟨rfl, rfl⟩
              go_wp2_with fail
              go_round
              case rel => exact ⟨j + 1, C * 16 + D, by omega, by go_num, by go_num, by rw [HU.out]; omega⟩
              case measure => simp [intOf]; omega
          · obtain rfl : j = 4 := by omega
            go_wp2_with fail
            go_ret
            rw [HC.out]
            exact ⟨rfl, rfl⟩
      · have hru : Es.ru (s.data.toList.drop k) = -1 := by
          rw [hd, Es.ru_cons, if_neg (fun h => h1 h.2)]
        rw [hru]
        have hn1 : (((s[k + 1].toNat : Nat) : Int) == 117) = false := by rw [beq_eq_false_iff_ne]; omega
        clear hru hd h1
        go_enter Try.func34, Try.ntmps34
        go_wp2_with fail
        go_ret
        exact ⟨rfl, rfl⟩
    · have hru : Es.ru (s.data.toList.drop k) = -1 := by
        rw [hd, Es.ru_cons, if_neg (fun h => h0 h.1)]
      rw [hru]
      have hn0 : (((s[k].toNat : Nat) : Int) == 92) = false := by rw [beq_eq_false_iff_ne]; omega
      clear hru hd h0
      go_enter Try.func34, Try.ntmps34
      go_wp2_with fail
      go_ret
      exact ⟨rfl, rfl⟩
end Go.Proofs.Ytjhjkahjljikhaa
