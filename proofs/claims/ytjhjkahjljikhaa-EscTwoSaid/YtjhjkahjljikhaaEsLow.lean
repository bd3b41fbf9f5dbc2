/-
  The contracts of package esc's digit, unit and signed: for every byte and every string; nothing in memory is changed.
-/
import Derived.Test.YtjhjkahjljikhaaEsYs
namespace Go.Proofs.Ytjhjkahjljikhaa
open Go.RowKit
set_option maxHeartbeats 1000000 in
theorem digit_any (b : Nat) (w : World) :
    Calls Try.prog 55 #[.int .u8 (b : Nat)] w fun e w' => e = .returned (.int .i64 (Es.hx b)) ∧ w' = w := by
  unfold Es.hx
  by_cases h1 : 48 ≤ b ∧ b ≤ 57
  · obtain ⟨h2, h3⟩ := h1
    rw [if_pos ⟨h2, h3⟩]
    go_enter Try.func55, Try.ntmps55
    go_wp2
    go_ret
    exact ⟨ret_int (by omega), rfl⟩
  rw [if_neg h1]
  by_cases h4 : 97 ≤ b ∧ b ≤ 102
  · obtain ⟨h2, h3⟩ := h4
    have h5 : ¬ b ≤ 57 := by omega
    rw [if_pos ⟨h2, h3⟩]
    clear h1
    go_enter Try.func55, Try.ntmps55
    go_wp2
    go_ret
    exact ⟨ret_int (by omega), rfl⟩
  rw [if_neg h4]
  by_cases h6 : 65 ≤ b ∧ b ≤ 70
  · obtain ⟨h2, h3⟩ := h6
    have h5 : ¬ b ≤ 57 := by omega
    have h7 : ¬ 97 ≤ b := by omega
    rw [if_pos ⟨h2, h3⟩]
    clear h1 h4
    go_enter Try.func55, Try.ntmps55
    go_wp2
    go_ret
    exact ⟨ret_int (by omega), rfl⟩
  rw [if_neg h6]
  by_cases a1 : 48 ≤ b
  · have a2 : ¬ b ≤ 57 := by omega
    by_cases a3 : 97 ≤ b
    · have a4 : ¬ b ≤ 102 := by omega
      have a5 : ¬ b ≤ 70 := by omega
      have a6 : 65 ≤ b := by omega
      clear h1 h4 h6
      go_enter Try.func55, Try.ntmps55
      go_wp2
      go_ret
      exact ⟨rfl, rfl⟩
    · by_cases a5 : 65 ≤ b
      · have a6 : ¬ b ≤ 70 := by omega
        clear h1 h4 h6
        go_enter Try.func55, Try.ntmps55
        go_wp2
        go_ret
        exact ⟨rfl, rfl⟩
      · clear h1 h4 h6
        go_enter Try.func55, Try.ntmps55
        go_wp2
        go_ret
        exact ⟨rfl, rfl⟩
  · have a2 : ¬ 97 ≤ b := by omega
    have a3 : ¬ 65 ≤ b := by omega
    clear h1 h4 h6
    go_enter Try.func55, Try.ntmps55
    go_wp2
    go_ret
    exact ⟨rfl, rfl⟩
namespace Es
theorem or_digit (c d : Nat) (hc : c < 65536) (hd : d < 16) : bits .or .i64 ((c : Int) * 16) (d : Int) = ((c * 16 + d : Nat) : Int) := by
  have e := Ut.or_i64 (c * 16) d (by omega) (by omega)
  have := Nat.two_pow_add_eq_or_of_lt (i := 4) (show d < 2 ^ 4 from hd) c
  rw [show c * 16 = 2 ^ 4 * c from by omega, ← this] at e
  rw [show c * 16 = 2 ^ 4 * c from by omega, ← e]
  congr 1
  omega
theorem drop_at (s : ByteArray) (k : Nat) (h : 2 + k < s.size) : (s.data.toList.drop 2).getD k 0 = s[2 + k] := by
  rw [List.getD_eq_getElem?_getD, List.getElem?_drop, List.getElem?_eq_getElem (show 2 + k < s.data.toList.length from h)]
  rfl
/-- What unit tells. -/
def un (l : List UInt8) : Int × Nat := if up (l.drop 2) 4 < 0 then (-1, 0) else (up (l.drop 2) 4, 6)
theorem un_none (l : List UInt8) (h : up (l.drop 2) 4 < 0) : un l = (-1, 0) := if_pos h
theorem un_some (l : List UInt8) (h : 0 ≤ up (l.drop 2) 4) : un l = (up (l.drop 2) 4, 6) := if_neg (by omega)
end Es
set_option maxHeartbeats 1000000 in
theorem unit_any (s : ByteArray) (w : World) (hs : s.size ≤ 9223372036854775807) :
    Calls Try.prog 54 #[.string s] w fun e w' => e = .returned (.tuple #[.int .i64 (Es.un s.data.toList).1, .int .i64 ((Es.un s.data.toList).2 : Nat)]) ∧ w' = w := by
  by_cases h6 : s.size < 6
  · rw [Es.un_none _ (by rw [Es.up_short _ _ (by rw [List.length_drop]; show s.size - 2 < 4; omega)]; decide)]
    go_enter Try.func54, Try.ntmps54
    go_wp2_with fail
    go_ret2
    exact ⟨rfl, rfl⟩
  · have h7 : 6 ≤ s.size := by omega
    go_enter Try.func54, Try.ntmps54
    go_wp2_with fail
    go_loop [4, 5] (fun c i => ∃ k C : Nat, k ≤ 4 ∧ i = .int .i64 ((2 + k : Nat) : Int) ∧ c = .int .i64 (C : Nat) ∧ Es.up (s.data.toList.drop 2) k = (C : Int)) (fun _ i => 6 - (intOf i).toNat)
    case atStart => exact ⟨0, 0, by omega, rfl, rfl, rfl⟩
    case round =>
      obtain ⟨k, C, hk, rfl, rfl, hc⟩ := hrel
      have HC := hidden hc
      have hC : C < 65536 := by
        rcases Es.up_cases (s.data.toList.drop 2) k with h1 | ⟨_, h1⟩
        · omega
        · have : (16 : Int) ^ k ≤ 16 ^ 4 := by
            obtain rfl | rfl | rfl | rfl | rfl : k = 0 ∨ k = 1 ∨ k = 2 ∨ k = 3 ∨ k = 4 := by omega
            all_goals decide
          omega
      clear hc
      by_cases hlt : k < 4
      · have hi : 2 + k < s.size := by omega
        have hup := Es.up_succ (s.data.toList.drop 2) k
        rw [Es.drop_at s k hi, HC.out] at hup
        have hlen : ¬ (s.data.toList.drop 2).length ≤ k := by
          rw [List.length_drop]
          show ¬ s.size - 2 ≤ k
          omega
        have HD := hidden (digit_any (s[2 + k]).toNat)
        rcases Es.hx_cases (s[2 + k]).toNat with hx | ⟨hx, hx2⟩
        · rw [if_pos (by omega)] at hup
          have hun : Es.un s.data.toList = (-1, 0) := by
            refine Es.un_none _ ?_
            have := Es.up_dead (s.data.toList.drop 2) (k + 1) (3 - k) (by omega)
            rw [show k + 1 + (3 - k) = 4 from by omega] at this
            omega
          rw [hx] at HD
          have HU := hidden hun
          clear hup hlen hx hun
          go_wp2_with fail
          refine (HD.out _).mono ?_
          rintro e w1 ⟨rfl, rfl⟩
          go_wp2_with fail
          go_ret2
          rw [HU.out]
          exact ⟨rfl, rfl⟩
        · obtain ⟨D, hD⟩ : ∃ D : Nat, Es.hx (s[2 + k]).toNat = (D : Int) := ⟨(Es.hx (s[2 + k]).toNat).toNat, by omega⟩
          rw [hD] at hup HD hx hx2
          rw [if_neg (by omega)] at hup
          have hor := hidden (Es.or_digit C D hC (by omega))
          have HU := hidden hup
          have hd1 : ((D : Int) == -1) = false := by rw [beq_eq_false_iff_ne]; omega
          clear hup hlen hx hx2 hD
          go_wp2_with fail
          refine (HD.out _).mono ?_
          rintro e w1 ⟨rfl, rfl⟩
          go_wp2_with fail
          go_round
          case rel => exact ⟨k + 1, C * 16 + D, by omega, by go_num, by rw [hor.out], by rw [HU.out]; omega⟩
          case measure => simp [intOf]; omega
      · obtain rfl : k = 4 := by omega
        have hun : Es.un s.data.toList = ((C : Int), 6) := by
          rw [Es.un_some _ (by rw [HC.out]; omega), HC.out]
        have HU := hidden hun
        clear hun
        go_wp2_with fail
        go_ret2
        rw [HU.out]
        exact ⟨rfl, rfl⟩
namespace Es
theorem sign_list (s : ByteArray) (h : 1 < s.size) (h0 : s[0].toNat = 92) : ∃ t, s.data.toList = (92 : UInt8) :: s[1] :: t := by
  obtain ⟨⟨l⟩⟩ := s
  match l, h, h0 with
  | [], h, _ => exact absurd h (by simp [ByteArray.size])
  | [a], h, _ => exact absurd h (by simp [ByteArray.size])
  | a :: b :: t, _, h0 => exact ⟨t, by rw [show a = 92 from UInt8.toNat_inj.1 h0]; rfl⟩
theorem bs_unit (b : UInt8) (t : List UInt8) (h : b.toNat = 117) : bs (92 :: b :: t) = un (92 :: b :: t) := by
  have e : ru (92 :: b :: t) = up t 4 := by rw [ru_cons, if_pos ⟨rfl, h⟩]
  have e2 : ((92 :: b :: t : List UInt8).getD 1 0).toNat = 117 := h
  unfold bs un
  rw [e, e2]
  show (if 0 ≤ up t 4 then (up t 4, 6) else if 0 ≤ sg 117 then (sg 117, 2) else (-1, 0)) = (if up t 4 < 0 then (-1, 0) else (up t 4, 6))
  by_cases h1 : 0 ≤ up t 4
  · rw [if_pos h1, if_neg (by omega)]
  · rw [if_neg h1, if_neg (show ¬ 0 ≤ sg 117 by decide), if_pos (by omega)]
theorem bs_sign (b : UInt8) (t : List UInt8) (h : b.toNat ≠ 117) : bs (92 :: b :: t) = if 0 ≤ sg b.toNat then (sg b.toNat, 2) else (-1, 0) := by
  have e : ru (92 :: b :: t) = -1 := by rw [ru_cons, if_neg (fun h2 => h h2.2)]
  unfold bs
  rw [e, if_neg (by decide)]
  rfl
end Es
set_option maxHeartbeats 1000000 in
theorem signed_any (s : ByteArray) (w : World) (hs : s.size ≤ 9223372036854775807) (h1 : 0 < s.size) (h0 : s[0].toNat = 92) :
    Calls Try.prog 49 #[.string s] w fun e w' => e = .returned (.tuple #[.int .i64 (Es.bs s.data.toList).1, .int .i64 ((Es.bs s.data.toList).2 : Nat)]) ∧ w' = w := by
  by_cases h2 : s.size < 2
  · have : Es.bs s.data.toList = (-1, 0) := by
      obtain ⟨⟨l⟩⟩ := s
      match l, h1, h2 with
      | [], h1, _ => exact absurd h1 (by simp [ByteArray.size])
      | [a], _, _ => rfl
      | a :: b :: t, _, h2 => exact absurd h2 (by simp [ByteArray.size])
    rw [this]
    clear this
    go_enter Try.func49, Try.ntmps49
    go_wp2_with fail
    go_ret2
    exact ⟨rfl, rfl⟩
  · have h3 : 1 < s.size := by omega
    obtain ⟨t, ht⟩ := Es.sign_list s h3 h0
    have HU := hidden (unit_any s w hs)
    have hb : s[1].toNat < 256 := s[1].toNat_lt
    by_cases hu : s[1].toNat = 117
    · have e := Es.bs_unit s[1] t hu
      rw [← ht] at e
      rw [e]
      clear e ht
      go_enter Try.func49, Try.ntmps49
      go_wp2_with fail
      refine HU.out.mono ?_
      rintro e w1 ⟨rfl, rfl⟩
      go_wp2_with fail
      go_ret2
      exact ⟨rfl, rfl⟩
    · have e := Es.bs_sign s[1] t hu
      rw [← ht] at e
      rw [e]
      clear e ht HU
      obtain ⟨b, hb2⟩ : ∃ b, b = s[1].toNat := ⟨_, rfl⟩
      have H0 := hidden h0
      rw [← hb2] at hu hb ⊢
      by_cases a1 : b = 34
      · rw [a1] at hb2 ⊢
        have hbe := hb2.symm
        clear hu hb hb2 a1 h0
        go_enter Try.func49, Try.ntmps49
        go_wp2_with fail
        go_ret2
        exact ⟨rfl, rfl⟩
      by_cases a2 : b = 92
      · rw [a2] at hb2 ⊢
        have hbe := hb2.symm
        clear hu hb hb2 a1 h0
        go_enter Try.func49, Try.ntmps49
        go_wp2_with fail
        go_ret2
        exact ⟨rfl, rfl⟩
      by_cases a3 : b = 47
      · rw [a3] at hb2 ⊢
        have hbe := hb2.symm
        clear hu hb hb2 a1 a2 h0
        go_enter Try.func49, Try.ntmps49
        go_wp2_with fail
        go_ret2
        exact ⟨rfl, rfl⟩
      by_cases a4 : b = 98
      · rw [a4] at hb2 ⊢
        have hbe := hb2.symm
        clear hu hb hb2 a1 a2 a3 h0
        go_enter Try.func49, Try.ntmps49
        go_wp2_with fail
        go_ret2
        exact ⟨rfl, rfl⟩
      by_cases a5 : b = 102
      · rw [a5] at hb2 ⊢
        have hbe := hb2.symm
        clear hu hb hb2 a1 a2 a3 a4 h0
        go_enter Try.func49, Try.ntmps49
        go_wp2_with fail
        go_ret2
        exact ⟨rfl, rfl⟩
      by_cases a6 : b = 110
      · rw [a6] at hb2 ⊢
        have hbe := hb2.symm
        clear hu hb hb2 a1 a2 a3 a4 a5 h0
        go_enter Try.func49, Try.ntmps49
        go_wp2_with fail
        go_ret2
        exact ⟨rfl, rfl⟩
      by_cases a7 : b = 114
      · rw [a7] at hb2 ⊢
        have hbe := hb2.symm
        clear hu hb hb2 a1 a2 a3 a4 a5 a6 h0
        go_enter Try.func49, Try.ntmps49
        go_wp2_with fail
        go_ret2
        exact ⟨rfl, rfl⟩
      by_cases a8 : b = 116
      · rw [a8] at hb2 ⊢
        have hbe := hb2.symm
        clear hu hb hb2 a1 a2 a3 a4 a5 a6 a7 h0
        go_enter Try.func49, Try.ntmps49
        go_wp2_with fail
        go_ret2
        exact ⟨rfl, rfl⟩
      · have hsg : Es.sg b = -1 := by
          unfold Es.sg
          rw [if_neg a1, if_neg a2, if_neg a3, if_neg a4, if_neg a5, if_neg a6, if_neg a7, if_neg a8]
        rw [hsg]
        clear hsg h0
        subst hb2
        go_enter Try.func49, Try.ntmps49
        go_wp2_with fail
        go_ret2
        exact ⟨rfl, rfl⟩
end Go.Proofs.Ytjhjkahjljikhaa
