/-
  The contracts of package scan's first, skip, digits, isHex, hexes and literal: for every string; nothing in memory is changed.
-/
import Derived.Deep.QuietTactic
import Derived.BigQuiet
import Derived.WalkLawsBesides
import Derived.WalkSpells
import Derived.Test.YtkjkjnkpncgdnaaScMath
import Derived.Test.YtkjkjnkpncgdnaaUtWalk
namespace Go.Proofs.Ytkjkjnkpncgdnaa
open Go.RowKit
theorem cut_tail (s : ByteArray) (i : Nat) : (s.extract i s.size).data.toList = s.data.toList.drop i := by
  obtain ⟨⟨l⟩⟩ := s
  rw [ByteArray.extract_mk]
  show List.take (l.length - i) (l.drop i) = l.drop i
  exact List.take_of_length_le (by rw [List.length_drop]; exact Nat.le_refl _)
theorem cut_size (s : ByteArray) (i : Nat) : (s.extract i s.size).size = s.size - i := by
  rw [ByteArray.size_extract, Nat.min_self]
theorem bt_byte (s : ByteArray) (i : Nat) (h : i < s.size) : Js.bt s.data.toList i = s[i].toNat := Js.bt_at s.data.toList i h
theorem bt_end (s : ByteArray) (i : Nat) (h : s.size ≤ i) : Js.bt s.data.toList i = 0 := Js.bt_past s.data.toList i h
theorem bt_within (s : ByteArray) (i : Nat) (h : Js.bt s.data.toList i ≠ 0) : i < s.size := Js.bt_in s.data.toList i h
theorem sFirst_any (s : ByteArray) (w : World) :
    Calls Try.prog 20 #[.string s] w fun e w' => e = .returned (.int .u8 ((Js.bt s.data.toList 0 : Nat) : Int)) ∧ w' = w := by
  by_cases h : 0 < s.size
  · have hb := bt_byte s 0 h
    rw [hb]
    have hne : s.toList.isEmpty = false := by
      rw [List.isEmpty_eq_false_iff, Go.ByteArray.toList_eq]
      intro e
      rw [show s.size = s.data.toList.length from rfl, e] at h
      cases h
    clear hb
    go_enter Try.func20, Try.ntmps20
    go_wp2_with fail
    go_ret
    exact ⟨rfl, rfl⟩
  · rw [bt_end s 0 (by omega)]
    obtain rfl : s = ⟨#[]⟩ := by
      obtain ⟨⟨l⟩⟩ := s
      cases l with
      | nil => rfl
      | cons a l => exact absurd (Nat.succ_pos _) h
    clear h
    go_enter Try.func20, Try.ntmps20
    go_wp2_with fail
    go_ret
    exact ⟨rfl, rfl⟩
theorem sFirst_at (s : ByteArray) (i : Nat) (w : World) :
    Calls Try.prog 20 #[.string (s.extract i s.size)] w fun e w' => e = .returned (.int .u8 ((Js.bt s.data.toList i : Nat) : Int)) ∧ w' = w := by
  have h := sFirst_any (s.extract i s.size) w
  rw [cut_tail s i, Js.bt_drop] at h
  exact h
set_option maxHeartbeats 1000000 in
theorem sSkip_any (s : ByteArray) (z : Int) (i : Nat) (w : World) (hz : z = (i : Int)) (hs : s.size ≤ 1000000) (hi : i ≤ s.size) :
    Calls Try.prog 19 #[.string s, .int .i64 z] w fun e w' => (∃ j : Nat, e = .returned (.int .i64 (j : Nat)) ∧ i ≤ j ∧ j ≤ s.size ∧ Js.isB (Js.bt s.data.toList j) = false ∧ (∀ c, Js.Sp c → Js.T s.data.toList c i = Js.T s.data.toList c j) ∧ (Js.As s.data.toList i → Js.As s.data.toList j)) ∧ w' = w := by
  subst hz
  go_enter Try.func19, Try.ntmps19
  go_wp2_with fail
  go_loop [1] (fun v => ∃ j : Nat, v = .int .i64 (j : Nat) ∧ i ≤ j ∧ j ≤ s.size ∧ (∀ c, Js.Sp c → Js.T s.data.toList c i = Js.T s.data.toList c j) ∧ (Js.As s.data.toList i → Js.As s.data.toList j)) (fun v => s.size - (intOf v).toNat)
  case atStart => exact ⟨i, rfl, Nat.le_refl _, hi, fun _ _ => rfl, id⟩
  case round =>
    obtain ⟨j, rfl, hij, hjs, hT, hA⟩ := hrel
    have HT := hidden hT
    have HA := hidden hA
    clear hT hA
    by_cases hlt : j < s.size
    · have hb := s[j].toNat_lt
      have hlt2 : decide ((j : Int) < (s.size : Int)) = true := decide_eq_true (by omega)
      have next : Hid (Js.isB s[j].toNat = true → ∀ c, Js.Sp c → Js.T s.data.toList c i = Js.T s.data.toList c (j + 1)) := fun h c hc => (HT.out c hc).trans (Js.T_blank _ c j hc hlt h)
      have nextA : Hid (∀ {n : Nat}, s[j].toNat = n → n < 128 → (Js.As s.data.toList i → Js.As s.data.toList (j + 1))) := fun h1 h2 _ => Js.As.next _ _ (by rw [bt_byte s j hlt, h1]; exact h2)
      by_cases h1 : s[j].toNat = 32
      · skip
        go_wp2_with fail
        go_round
        case rel => exact ⟨j + 1, by go_num, by omega, hlt, next.out (Js.isB_of _ (.inl h1)), nextA.out h1 (by decide)⟩
        case measure => simp [intOf]; omega
      by_cases h2 : s[j].toNat = 9
      · clear h1
        go_wp2_with fail
        go_round
        case rel => exact ⟨j + 1, by go_num, by omega, hlt, next.out (Js.isB_of _ (.inr (.inl h2))), nextA.out h2 (by decide)⟩
        case measure => simp [intOf]; omega
      by_cases h3 : s[j].toNat = 10
      · clear h1 h2
        go_wp2_with fail
        go_round
        case rel => exact ⟨j + 1, by go_num, by omega, hlt, next.out (Js.isB_of _ (.inr (.inr (.inl h3)))), nextA.out h3 (by decide)⟩
        case measure => simp [intOf]; omega
      by_cases h4 : s[j].toNat = 13
      · clear h1 h2 h3
        go_wp2_with fail
        go_round
        case rel => exact ⟨j + 1, by go_num, by omega, hlt, next.out (Js.isB_of _ (.inr (.inr (.inr h4)))), nextA.out h4 (by decide)⟩
        case measure => simp [intOf]; omega
      · have HN := hidden (Js.isB_not _ h1 h2 h3 h4)
        have e1 : (((s[j].toNat : Nat) : Int) == 32) = false := by rw [beq_eq_false_iff_ne]; omega
        have e2 : (((s[j].toNat : Nat) : Int) == 9) = false := by rw [beq_eq_false_iff_ne]; omega
        have e3 : (((s[j].toNat : Nat) : Int) == 10) = false := by rw [beq_eq_false_iff_ne]; omega
        have e4 : (((s[j].toNat : Nat) : Int) == 13) = false := by rw [beq_eq_false_iff_ne]; omega
        clear h1 h2 h3 h4
        go_wp2_with fail
        go_ret
        exact ⟨⟨j, rfl, hij, hjs, by rw [bt_byte s j hlt]; exact HN.out, HT.out, HA.out⟩, rfl⟩
    · have hlt2 : decide ((j : Int) < (s.size : Int)) = false := decide_eq_false (by omega)
      go_wp2_with fail
      go_ret
      exact ⟨⟨j, rfl, hij, hjs, by rw [bt_end s j (by omega)]; rfl, HT.out, HA.out⟩, rfl⟩
set_option maxHeartbeats 1000000 in
theorem sDigits_any (s : ByteArray) (w : World) (hs : s.size ≤ 1000000) :
    Calls Try.prog 43 #[.string s] w fun e w' => (∃ n : Nat, e = .returned (.int .i64 (n : Nat)) ∧ n ≤ s.size ∧ Js.isD (Js.bt s.data.toList n) = false ∧ ∀ j, j < n → Js.isD (Js.bt s.data.toList j) = true) ∧ w' = w := by
  go_enter Try.func43, Try.ntmps43
  go_wp2_with fail
  go_loop [3] (fun v => ∃ n : Nat, v = .int .i64 (n : Nat) ∧ n ≤ s.size ∧ ∀ j, j < n → Js.isD (Js.bt s.data.toList j) = true) (fun v => s.size - (intOf v).toNat)
  case atStart => exact ⟨0, rfl, Nat.zero_le _, fun j h => by omega⟩
  case round =>
    obtain ⟨n, rfl, hn, hall⟩ := hrel
    have HA := hidden hall
    clear hall
    by_cases hlt : n < s.size
    · have hb := s[n].toNat_lt
      have d0 : decide ((n : Int) < (s.size : Int)) = true := decide_eq_true (by omega)
      have d0n : decide (n < s.size) = true := decide_eq_true hlt
      by_cases h1 : 48 ≤ s[n].toNat
      · have d1 : decide ((48 : Int) ≤ ((s[n].toNat : Nat) : Int)) = true := decide_eq_true (by omega)
        by_cases h2 : s[n].toNat ≤ 57
        · have d2 : decide (((s[n].toNat : Nat) : Int) ≤ 57) = true := decide_eq_true (by omega)
          have HD := hidden ((Js.isD_iff _).2 ⟨h1, h2⟩)
          clear h1 h2
          go_wp2_with fail
          go_round
          case rel =>
            refine ⟨n + 1, by go_num, hlt, fun j h3 => ?_⟩
            by_cases h5 : j < n
            · exact HA.out j h5
            · obtain rfl : j = n := by omega
              rw [bt_byte s j hlt]
              exact HD.out
          case measure => simp [intOf]; omega
        · have d2 : decide (((s[n].toNat : Nat) : Int) ≤ 57) = false := decide_eq_false (by omega)
          have HD : Hid (Js.isD s[n].toNat = false) := by
            show _ = _
            cases h3 : Js.isD s[n].toNat with
            | false => rfl
            | true => rw [Js.isD_iff] at h3; omega
          clear h1 h2
          go_wp2_with fail
          go_ret
          exact ⟨⟨n, rfl, hn, by rw [bt_byte s n hlt]; exact HD.out, HA.out⟩, rfl⟩
      · have d1 : decide ((48 : Int) ≤ ((s[n].toNat : Nat) : Int)) = false := decide_eq_false (by omega)
        have HD : Hid (Js.isD s[n].toNat = false) := by
          show _ = _
          cases h3 : Js.isD s[n].toNat with
          | false => rfl
          | true => rw [Js.isD_iff] at h3; omega
        clear h1
        go_wp2_with fail
        go_ret
        exact ⟨⟨n, rfl, hn, by rw [bt_byte s n hlt]; exact HD.out, HA.out⟩, rfl⟩
    · have d0 : decide ((n : Int) < (s.size : Int)) = false := decide_eq_false (by omega)
      have d0n : decide (n < s.size) = false := decide_eq_false hlt
      go_wp2_with fail
      go_ret
      exact ⟨⟨n, rfl, hn, by rw [bt_end s n (by omega)]; rfl, HA.out⟩, rfl⟩
/-- The digits from a place on. -/
theorem sDigits_at (s : ByteArray) (i : Nat) (w : World) (hs : s.size ≤ 1000000) (hi : i ≤ s.size) :
    Calls Try.prog 43 #[.string (s.extract i s.size)] w fun e w' => (∃ n : Nat, e = .returned (.int .i64 (n : Nat)) ∧ i + n ≤ s.size ∧ Js.isD (Js.bt s.data.toList (i + n)) = false ∧ ∀ j, i ≤ j → j < i + n → Js.isD (Js.bt s.data.toList j) = true) ∧ w' = w := by
  have h := sDigits_any (s.extract i s.size) w (by rw [cut_size]; omega)
  rw [cut_tail s i, cut_size s i] at h
  refine h.mono ?_
  rintro e w' ⟨⟨n, he, h1, h2, h3⟩, hw⟩
  rw [Js.bt_drop] at h2
  refine ⟨⟨n, he, by omega, h2, fun j h4 h5 => ?_⟩, hw⟩
  have := h3 (j - i) (by omega)
  rw [Js.bt_drop, show i + (j - i) = j by omega] at this
  exact this
set_option maxHeartbeats 1000000 in
theorem sHex_any (b : Nat) (w : World) :
    Calls Try.prog 44 #[.int .u8 (b : Nat)] w fun e w' => e = .returned (.bool (Js.isH b)) ∧ w' = w := by
  rcases (show b < 48 ∨ (48 ≤ b ∧ b ≤ 57) ∨ (57 < b ∧ b < 65) ∨ (65 ≤ b ∧ b ≤ 70) ∨ (70 < b ∧ b < 97) ∨ (97 ≤ b ∧ b ≤ 102) ∨ 102 < b by omega) with h | h | h | h | h | h | h
  · have HR : Hid (Js.isH b = false) := by
      show _ = _
      unfold Js.isH Js.isD
      rw [decide_eq_false (show ¬ 48 ≤ b by omega), decide_eq_false (show ¬ 97 ≤ b by omega), decide_eq_false (show ¬ 65 ≤ b by omega)]
      rfl
    have a1 : ¬ 48 ≤ b := by omega
    have a2 : ¬ 97 ≤ b := by omega
    have a3 : ¬ 65 ≤ b := by omega
    clear h
    go_enter Try.func44, Try.ntmps44
    go_wp2
    go_ret
    rw [HR.out]
    exact ⟨rfl, rfl⟩
  · have HR : Hid (Js.isH b = true) := by
      show _ = _
      unfold Js.isH Js.isD
      rw [decide_eq_true h.1, decide_eq_true h.2]
      rfl
    obtain ⟨a1, a2⟩ := h
    have d57 : decide ((b : Int) ≤ 57) = true := decide_eq_true (by omega)
    go_enter Try.func44, Try.ntmps44
    go_wp2
    go_ret
    rw [HR.out]
    exact ⟨rfl, rfl⟩
  · have HR : Hid (Js.isH b = false) := by
      show _ = _
      unfold Js.isH Js.isD
      rw [decide_eq_false (show ¬ b ≤ 57 by omega), decide_eq_false (show ¬ 97 ≤ b by omega), decide_eq_false (show ¬ 65 ≤ b by omega), Bool.and_false]
      rfl
    have a0 : 48 ≤ b := by omega
    have a1 : ¬ b ≤ 57 := by omega
    have d57 : decide ((b : Int) ≤ 57) = false := decide_eq_false (by omega)
    have a2 : ¬ 97 ≤ b := by omega
    have a3 : ¬ 65 ≤ b := by omega
    clear h
    go_enter Try.func44, Try.ntmps44
    go_wp2
    go_ret
    rw [HR.out]
    exact ⟨rfl, rfl⟩
  · have HR : Hid (Js.isH b = true) := by
      show _ = _
      unfold Js.isH
      rw [decide_eq_true h.1, decide_eq_true h.2, Bool.and_true, Bool.or_true]
    have a0 : 48 ≤ b := by omega
    have a1 : ¬ b ≤ 57 := by omega
    have d57 : decide ((b : Int) ≤ 57) = false := decide_eq_false (by omega)
    have a2 : ¬ 97 ≤ b := by omega
    obtain ⟨a3, a4⟩ := h
    have d70 : decide ((b : Int) ≤ 70) = true := decide_eq_true (by omega)
    go_enter Try.func44, Try.ntmps44
    go_wp2
    go_ret
    rw [HR.out]
    exact ⟨rfl, rfl⟩
  · have HR : Hid (Js.isH b = false) := by
      show _ = _
      unfold Js.isH Js.isD
      rw [decide_eq_false (show ¬ b ≤ 57 by omega), decide_eq_false (show ¬ 97 ≤ b by omega), decide_eq_false (show ¬ b ≤ 70 by omega), Bool.and_false, Bool.and_false]
      rfl
    have a0 : 48 ≤ b := by omega
    have a1 : ¬ b ≤ 57 := by omega
    have d57 : decide ((b : Int) ≤ 57) = false := decide_eq_false (by omega)
    have a2 : ¬ 97 ≤ b := by omega
    have a3 : 65 ≤ b := by omega
    have a4 : ¬ b ≤ 70 := by omega
    have d70 : decide ((b : Int) ≤ 70) = false := decide_eq_false (by omega)
    clear h
    go_enter Try.func44, Try.ntmps44
    go_wp2
    go_ret
    rw [HR.out]
    exact ⟨rfl, rfl⟩
  · have HR : Hid (Js.isH b = true) := by
      show _ = _
      unfold Js.isH
      rw [decide_eq_true h.1, decide_eq_true h.2, Bool.and_true, Bool.or_true, Bool.true_or]
    have a0 : 48 ≤ b := by omega
    have a1 : ¬ b ≤ 57 := by omega
    have d57 : decide ((b : Int) ≤ 57) = false := decide_eq_false (by omega)
    obtain ⟨a2, a3⟩ := h
    have d102 : decide ((b : Int) ≤ 102) = true := decide_eq_true (by omega)
    go_enter Try.func44, Try.ntmps44
    go_wp2
    go_ret
    rw [HR.out]
    exact ⟨rfl, rfl⟩
  · have HR : Hid (Js.isH b = false) := by
      show _ = _
      unfold Js.isH Js.isD
      rw [decide_eq_false (show ¬ b ≤ 57 by omega), decide_eq_false (show ¬ b ≤ 102 by omega), decide_eq_false (show ¬ b ≤ 70 by omega), Bool.and_false, Bool.and_false, Bool.and_false]
      rfl
    have a0 : 48 ≤ b := by omega
    have a1 : ¬ b ≤ 57 := by omega
    have d57 : decide ((b : Int) ≤ 57) = false := decide_eq_false (by omega)
    have a2 : 97 ≤ b := by omega
    have a3 : ¬ b ≤ 102 := by omega
    have d102 : decide ((b : Int) ≤ 102) = false := decide_eq_false (by omega)
    have a4 : 65 ≤ b := by omega
    have a5 : ¬ b ≤ 70 := by omega
    have d70 : decide ((b : Int) ≤ 70) = false := decide_eq_false (by omega)
    clear h
    go_enter Try.func44, Try.ntmps44
    go_wp2
    go_ret
    rw [HR.out]
    exact ⟨rfl, rfl⟩
set_option maxHeartbeats 1000000 in
theorem sHexes_any (s : ByteArray) (w : World) :
    Calls Try.prog 35 #[.string s] w fun e w' => (∃ n : Nat, e = .returned (.int .i64 (n : Nat)) ∧ n ≤ s.size ∧ n ≤ 4 ∧ (n < 4 → Js.isH (Js.bt s.data.toList n) = false) ∧ ∀ j, j < n → Js.isH (Js.bt s.data.toList j) = true) ∧ w' = w := by
  go_enter Try.func35, Try.ntmps35
  go_wp2_with fail
  go_loop [3] (fun v => ∃ n : Nat, v = .int .i64 (n : Nat) ∧ n ≤ s.size ∧ n ≤ 4 ∧ ∀ j, j < n → Js.isH (Js.bt s.data.toList j) = true) (fun v => s.size - (intOf v).toNat)
  case atStart => exact ⟨0, rfl, Nat.zero_le _, Nat.zero_le _, fun j h => by omega⟩
  case round =>
    obtain ⟨n, rfl, hn, hn4, hall⟩ := hrel
    have HA := hidden hall
    clear hall
    by_cases hlt : n < s.size
    · have hb := s[n].toNat_lt
      have d0 : decide ((n : Int) < (s.size : Int)) = true := decide_eq_true (by omega)
      have d0n : decide (n < s.size) = true := decide_eq_true hlt
      by_cases h4 : n < 4
      · have d1 : decide ((n : Int) < 4) = true := decide_eq_true (by omega)
        have d1n : decide (n < 4) = true := decide_eq_true h4
        have HH := hidden (sHex_any s[n].toNat)
        have H4 := hidden h4
        cases hx : Js.isH s[n].toNat with
        | true =>
          rw [hx] at HH
          have HX : Hid (Js.isH s[n].toNat = true) := hidden hx
          clear hx h4
          go_wp2_with fail
          refine (HH.out _).mono ?_
          rintro e w1 ⟨rfl, rfl⟩
          go_wp2_with fail
          go_roundw
          case rel =>
            refine ⟨n + 1, by go_num, hlt, H4.out, fun j h3 => ?_⟩
            by_cases h5 : j < n
            · exact HA.out j h5
            · obtain rfl : j = n := by omega
              rw [bt_byte s j hlt]
              exact HX.out
          case measure => simp [intOf]; omega
        | false =>
          rw [hx] at HH
          have HX : Hid (Js.isH s[n].toNat = false) := hidden hx
          clear hx h4
          go_wp2_with fail
          refine (HH.out _).mono ?_
          rintro e w1 ⟨rfl, rfl⟩
          go_wp2_with fail
          go_ret
          exact ⟨⟨n, rfl, hn, hn4, fun _ => by rw [bt_byte s n hlt]; exact HX.out, HA.out⟩, rfl⟩
      · have d1 : decide ((n : Int) < 4) = false := decide_eq_false (by omega)
        have d1n : decide (n < 4) = false := decide_eq_false h4
        have H4 := hidden h4
        clear h4
        go_wp2_with fail
        go_ret
        exact ⟨⟨n, rfl, hn, hn4, fun h => absurd h H4.out, HA.out⟩, rfl⟩
    · have d0 : decide ((n : Int) < (s.size : Int)) = false := decide_eq_false (by omega)
      have d0n : decide (n < s.size) = false := decide_eq_false hlt
      go_wp2_with fail
      go_ret
      exact ⟨⟨n, rfl, hn, hn4, fun _ => by rw [bt_end s n (by omega)]; rfl, HA.out⟩, rfl⟩
/-- A unit's digits from a place on. -/
theorem sHexes_at (s : ByteArray) (i : Nat) (w : World) (hi : i ≤ s.size) :
    Calls Try.prog 35 #[.string (s.extract i s.size)] w fun e w' => (∃ n : Nat, e = .returned (.int .i64 (n : Nat)) ∧ i + n ≤ s.size ∧ n ≤ 4 ∧ (n < 4 → Js.isH (Js.bt s.data.toList (i + n)) = false) ∧ ∀ j, i ≤ j → j < i + n → Js.isH (Js.bt s.data.toList j) = true) ∧ w' = w := by
  have h := sHexes_any (s.extract i s.size) w
  rw [cut_tail s i, cut_size s i] at h
  refine h.mono ?_
  rintro e w' ⟨⟨n, he, h1, h4, h2, h3⟩, hw⟩
  refine ⟨⟨n, he, by omega, h4, fun h5 => ?_, fun j h4 h5 => ?_⟩, hw⟩
  · have := h2 h5
    rw [Js.bt_drop] at this
    exact this
  · have := h3 (j - i) (by omega)
    rw [Js.bt_drop, show i + (j - i) = j by omega] at this
    exact this
theorem sc_drewN {B : Nat} {a w : World} (h : Below B a w) (n : Nat) : Below B a (w.drewN n) := ⟨h.os, h.tape, h.output, h.size, h.block⟩
set_option maxHeartbeats 1000000 in
theorem sLiteral_any (s t : ByteArray) (w : World) (hs : s.size ≤ 1000000) :
    Calls Try.prog 33 #[.string s, .string t] w fun e w' => (∃ n : Nat, e = .returned (.tuple #[.int .i64 (n : Nat), .bool (n == t.size)]) ∧ n ≤ s.size ∧ n ≤ t.size ∧ (n < t.size → n < s.size → Js.bt s.data.toList n ≠ Js.bt t.data.toList n) ∧ ∀ j, j < n → Js.bt s.data.toList j = Js.bt t.data.toList j) ∧ Below w.heap.size w w' := by
  go_enter Try.func33, Try.ntmps33
  go_wp2_with fail
  go_loopw [6] (fun v wr => ∃ n m : Nat, v = .int .i64 (n : Nat) ∧ wr = w.drewN m ∧ n ≤ s.size ∧ n ≤ t.size ∧ ∀ j, j < n → Js.bt s.data.toList j = Js.bt t.data.toList j) (fun v _ => s.size - (intOf v).toNat)
  case atStart => exact ⟨0, 0, rfl, rfl, Nat.zero_le _, Nat.zero_le _, fun j h => by omega⟩
  case round =>
    obtain ⟨n, m, rfl, rfl, hn, hn4, hall⟩ := hrel
    have HB : Hid (∀ n, Below w.heap.size w (w.drewN n)) := fun n => sc_drewN (Below.refl _ _) n
    have HA := hidden hall
    clear hall
    have en : (((n : Nat) : Int) == ((t.size : Nat) : Int)) = (n == t.size) := by
      rw [Bool.eq_iff_iff, beq_iff_eq, beq_iff_eq]
      omega
    have HE := hidden en
    clear en
    by_cases hlt : n < s.size
    · have d0 : decide ((n : Int) < (s.size : Int)) = true := decide_eq_true (by omega)
      have d0n : decide (n < s.size) = true := decide_eq_true hlt
      obtain ⟨c, hc⟩ : ∃ c, c = s[n].toNat := ⟨_, rfl⟩
      have hcj : ∀ (h : n < s.size), (s[n]'h).toNat = c := fun h => hc.symm
      by_cases h4 : n < t.size
      · have d1 : decide ((n : Int) < (t.size : Int)) = true := decide_eq_true (by omega)
        have d1n : decide (n < t.size) = true := decide_eq_true h4
        have H4 := hidden h4
        obtain ⟨g, hg⟩ : ∃ g, g = t[n].toNat := ⟨_, rfl⟩
        have hvj : ∀ (h : n < t.size), (t[n]'h).toNat = g := fun h => hg.symm
        by_cases heq : c = g
        · have e1 : ((c : Int) == (g : Int)) = true := by rw [heq]; exact beq_self_eq_true _
          have e2 : (c == g) = true := by rw [heq]; exact beq_self_eq_true _
          have HX : Hid (s[n].toNat = t[n].toNat) := hidden (by rw [← hc, ← hg]; exact heq)
          clear heq hc hg
          go_wp2_with fail
          go_quiet (fail)
          go_wp2_with fail
          go_roundw
          case rel =>
            refine ⟨n + 1, m + nq, by go_num, rfl, hlt, H4.out, fun j h3 => ?_⟩
            by_cases h5 : j < n
            · exact HA.out j h5
            · obtain rfl : j = n := by omega
              rw [bt_byte s j hlt, bt_byte t j H4.out]
              exact HX.out
          case measure => simp [intOf]; omega
        · have e1 : ((c : Int) == (g : Int)) = false := by rw [beq_eq_false_iff_ne]; omega
          have e2 : (c == g) = false := by rw [beq_eq_false_iff_ne]; exact heq
          have HX : Hid (s[n].toNat ≠ t[n].toNat) := hidden (by rw [← hc, ← hg]; exact heq)
          clear heq hc hg
          go_wp2_with fail
          go_quiet (fail)
          go_wp2_with fail
          go_ret2
          refine ⟨⟨n, by rw [HE.out]; rfl, hn, hn4, fun _ _ => ?_, HA.out⟩, HB.out _⟩
          rw [bt_byte s n hlt, bt_byte t n H4.out]
          exact HX.out
      · have d1 : decide ((n : Int) < (t.size : Int)) = false := decide_eq_false (by omega)
        have d1n : decide (n < t.size) = false := decide_eq_false h4
        have H4 := hidden h4
        clear h4 hc
        go_wp2_with fail
        go_quiet (fail)
        go_wp2_with fail
        go_ret2
        exact ⟨⟨n, by rw [HE.out]; rfl, hn, hn4, fun h => absurd h H4.out, HA.out⟩, HB.out _⟩
    · have d0 : decide ((n : Int) < (s.size : Int)) = false := decide_eq_false (by omega)
      have d0n : decide (n < s.size) = false := decide_eq_false hlt
      have HL := hidden hlt
      go_wp2_with fail
      go_quiet (fail)
      go_wp2_with fail
      go_ret2
      exact ⟨⟨n, by rw [HE.out]; rfl, hn, hn4, fun _ h => absurd h HL.out, HA.out⟩, HB.out _⟩
end Go.Proofs.Ytkjkjnkpncgdnaa
