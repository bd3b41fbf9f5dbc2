/-
  The contracts of package scan's first, skip, digits, isHex, hexes and literal: for every string; nothing in memory is changed.
  The contract of package scan's number: for every string; nothing in memory is changed.
  The contracts of package scan's quoted and single: for every string that is alive as UTF-8; nothing that was there is changed.
  Package scan's stack of bits: what its words say of the brackets that are open (by mathematics alone), where it lies, and the contracts of push, pop, top and closer; all that is written lies in the stack's own blocks.
  The contract of package scan's walk: of every string that is alive as UTF-8 it tells what the machine of JSON texts tells; nothing that was there is changed.
  The contract of scan.Validate: of every string and every deep; nothing that was there is changed.
-/
import Derived.Deep.QuietTactic
import Derived.BigQuiet
import Derived.WalkLawsBesides
import Derived.WalkSpells
import Derived.WalkKit
import Derived.Deep.RegionLaw
import Derived.Deep.RegionHeld
import Derived.Lib.Builder
import Derived.Laws.Bits64b
import Derived.Test.YtoipliflphbeiaaGreatDoorC00
import Derived.Test.YtoipliflphbeiaaGreatDoorJUt
import Derived.Test.YtoipliflphbeiaaGreatDoorC10
import Derived.Test.YtoipliflphbeiaaGreatDoorJBtMem
namespace Go.Proofs.YtoipliflphbeiaaGreatDoor
open Go.RowKit
theorem cut_tail (s : ByteArray) (i : Nat) : (s.extract i s.size).data.toList = s.data.toList.drop i := by
  obtain ⟨⟨l⟩⟩ := s
  rw [ByteArray.extract_mk]
  show List.take (l.length - i) (l.drop i) = l.drop i
  exact List.take_of_length_le (by rw [List.length_drop]; exact Nat.le_refl _)
theorem cut_size (s : ByteArray) (i : Nat) : (s.extract i s.size).size = s.size - i := by
  rw [ByteArray.size_extract, Nat.min_self]
theorem bt_byte (s : ByteArray) (i : Nat) (h : i < s.size) : Js.bt s.data.toList i = s[i].toNat := Js.bt_at s.data.toList i h
theorem bt_end (s : ByteArray) (i : Nat) (h : s.size ≤ i) : Js.bt s.data.toList i = 0 := Js.bt_past s.data.toList i h
theorem bt_within (s : ByteArray) (i : Nat) (h : Js.bt s.data.toList i ≠ 0) : i < s.size := Js.bt_in s.data.toList i h
theorem sFirst_any (s : ByteArray) (w : World) :
    Calls Tryz.prog 150 #[.string s] w fun e w' => e = .returned (.int .u8 ((Js.bt s.data.toList 0 : Nat) : Int)) ∧ w' = w := by
  by_cases h : 0 < s.size
  · have hb := bt_byte s 0 h
    rw [hb]
    have hne : s.toList.isEmpty = false := by
      rw [List.isEmpty_eq_false_iff, Go.ByteArray.toList_eq]
      intro e
      rw [show s.size = s.data.toList.length from rfl, e] at h
      cases h
    clear hb
    go_enter Tryz.func150, Tryz.ntmps150
    go_wp2_with fail
    go_ret
    exact ⟨rfl, rfl⟩
  · rw [bt_end s 0 (by omega)]
    obtain rfl : s = ⟨#[]⟩ := by
      obtain ⟨⟨l⟩⟩ := s
      cases l with
      | nil => rfl
      | cons a l => exact absurd (Nat.succ_pos _) h
    clear h
    go_enter Tryz.func150, Tryz.ntmps150
    go_wp2_with fail
    go_ret
    exact ⟨rfl, rfl⟩
theorem sFirst_at (s : ByteArray) (i : Nat) (w : World) :
    Calls Tryz.prog 150 #[.string (s.extract i s.size)] w fun e w' => e = .returned (.int .u8 ((Js.bt s.data.toList i : Nat) : Int)) ∧ w' = w := by
  have h := sFirst_any (s.extract i s.size) w
  rw [cut_tail s i, Js.bt_drop] at h
  exact h
set_option maxHeartbeats 1000000 in
theorem sSkip_any (s : ByteArray) (z : Int) (i : Nat) (w : World) (hz : z = (i : Int)) (hs : s.size ≤ 1000000) (hi : i ≤ s.size) :
    Calls Tryz.prog 149 #[.string s, .int .i64 z] w fun e w' => (∃ j : Nat, e = .returned (.int .i64 (j : Nat)) ∧ i ≤ j ∧ j ≤ s.size ∧ Js.isB (Js.bt s.data.toList j) = false ∧ (∀ c, Js.Sp c → Js.T s.data.toList c i = Js.T s.data.toList c j) ∧ (Js.As s.data.toList i → Js.As s.data.toList j)) ∧ w' = w := by
  subst hz
  go_enter Tryz.func149, Tryz.ntmps149
  go_wp2_with fail
  go_loop [1] (fun v => ∃ j : Nat, v = .int .i64 (j : Nat) ∧ i ≤ j ∧ j ≤ s.size ∧ (∀ c, Js.Sp c → Js.T s.data.toList c i = Js.T s.data.toList c j) ∧ (Js.As s.data.toList i → Js.As s.data.toList j)) (fun v => s.size - (intOf v).toNat)
  case atStart => exact ⟨i, rfl, Nat.le_refl _, hi, fun _ _ => rfl, id⟩
  case round =>
    obtain ⟨j, rfl, hij, hjs, hT, hA⟩ := hrel
    have HT := hidden hT
    have HA := hidden hA
    clear hT hA
    by_cases hlt : j < s.size
    · have hb := s[j].toNat_lt
      have hlt2 : decide ((j : Int) < (s.size : Int)) = true := decide_eq_true (by omega)
      have next : Hid (Js.isB s[j].toNat = true → ∀ c, Js.Sp c → Js.T s.data.toList c i = Js.T s.data.toList c (j + 1)) := fun h c hc => (HT.out c hc).trans (Js.T_blank _ c j hc hlt h)
      have nextA : Hid (∀ {n : Nat}, s[j].toNat = n → n < 128 → (Js.As s.data.toList i → Js.As s.data.toList (j + 1))) := fun h1 h2 _ => Js.As.next _ _ (by rw [bt_byte s j hlt, h1]; exact h2)
      by_cases h1 : s[j].toNat = 32
      · skip
        go_wp2_with fail
        go_round
        case rel => exact ⟨j + 1, by go_num, by omega, hlt, next.out (Js.isB_of _ (.inl h1)), nextA.out h1 (by decide)⟩
        case measure => simp [intOf]; omega
      by_cases h2 : s[j].toNat = 9
      · clear h1
        go_wp2_with fail
        go_round
        case rel => exact ⟨j + 1, by go_num, by omega, hlt, next.out (Js.isB_of _ (.inr (.inl h2))), nextA.out h2 (by decide)⟩
        case measure => simp [intOf]; omega
      by_cases h3 : s[j].toNat = 10
      · clear h1 h2
        go_wp2_with fail
        go_round
        case rel => exact ⟨j + 1, by go_num, by omega, hlt, next.out (Js.isB_of _ (.inr (.inr (.inl h3)))), nextA.out h3 (by decide)⟩
        case measure => simp [intOf]; omega
      by_cases h4 : s[j].toNat = 13
      · clear h1 h2 h3
        go_wp2_with fail
        go_round
        case rel => exact ⟨j + 1, by go_num, by omega, hlt, next.out (Js.isB_of _ (.inr (.inr (.inr h4)))), nextA.out h4 (by decide)⟩
        case measure => simp [intOf]; omega
      · have HN := hidden (Js.isB_not _ h1 h2 h3 h4)
        have e1 : (((s[j].toNat : Nat) : Int) == 32) = false := by rw [beq_eq_false_iff_ne]; omega
        have e2 : (((s[j].toNat : Nat) : Int) == 9) = false := by rw [beq_eq_false_iff_ne]; omega
        have e3 : (((s[j].toNat : Nat) : Int) == 10) = false := by rw [beq_eq_false_iff_ne]; omega
        have e4 : (((s[j].toNat : Nat) : Int) == 13) = false := by rw [beq_eq_false_iff_ne]; omega
        clear h1 h2 h3 h4
        go_wp2_with fail
        go_ret
        exact ⟨⟨j, rfl, hij, hjs, by rw [bt_byte s j hlt]; exact HN.out, HT.out, HA.out⟩, rfl⟩
    · have hlt2 : decide ((j : Int) < (s.size : Int)) = false := decide_eq_false (by omega)
      go_wp2_with fail
      go_ret
      exact ⟨⟨j, rfl, hij, hjs, by rw [bt_end s j (by omega)]; rfl, HT.out, HA.out⟩, rfl⟩
set_option maxHeartbeats 1000000 in
theorem sDigits_any (s : ByteArray) (w : World) (hs : s.size ≤ 1000000) :
    Calls Tryz.prog 187 #[.string s] w fun e w' => (∃ n : Nat, e = .returned (.int .i64 (n : Nat)) ∧ n ≤ s.size ∧ Js.isD (Js.bt s.data.toList n) = false ∧ ∀ j, j < n → Js.isD (Js.bt s.data.toList j) = true) ∧ w' = w := by
  go_enter Tryz.func187, Tryz.ntmps187
  go_wp2_with fail
  go_loop [3] (fun v => ∃ n : Nat, v = .int .i64 (n : Nat) ∧ n ≤ s.size ∧ ∀ j, j < n → Js.isD (Js.bt s.data.toList j) = true) (fun v => s.size - (intOf v).toNat)
  case atStart => exact ⟨0, rfl, Nat.zero_le _, fun j h => by omega⟩
  case round =>
    obtain ⟨n, rfl, hn, hall⟩ := hrel
    have HA := hidden hall
    clear hall
    by_cases hlt : n < s.size
    · have hb := s[n].toNat_lt
      have d0 : decide ((n : Int) < (s.size : Int)) = true := decide_eq_true (by omega)
      have d0n : decide (n < s.size) = true := decide_eq_true hlt
      by_cases h1 : 48 ≤ s[n].toNat
      · have d1 : decide ((48 : Int) ≤ ((s[n].toNat : Nat) : Int)) = true := decide_eq_true (by omega)
        by_cases h2 : s[n].toNat ≤ 57
        · have d2 : decide (((s[n].toNat : Nat) : Int) ≤ 57) = true := decide_eq_true (by omega)
          have HD := hidden ((Js.isD_iff _).2 ⟨h1, h2⟩)
          clear h1 h2
          go_wp2_with fail
          go_round
          case rel =>
            refine ⟨n + 1, by go_num, hlt, fun j h3 => ?_⟩
            by_cases h5 : j < n
            · exact HA.out j h5
            · obtain rfl : j = n := by omega
              rw [bt_byte s j hlt]
              exact HD.out
          case measure => simp [intOf]; omega
        · have d2 : decide (((s[n].toNat : Nat) : Int) ≤ 57) = false := decide_eq_false (by omega)
          have HD : Hid (Js.isD s[n].toNat = false) := by
            show _ = _
            cases h3 : Js.isD s[n].toNat with
            | false => rfl
            | true => rw [Js.isD_iff] at h3; omega
          clear h1 h2
          go_wp2_with fail
          go_ret
          exact ⟨⟨n, rfl, hn, by rw [bt_byte s n hlt]; exact HD.out, HA.out⟩, rfl⟩
      · have d1 : decide ((48 : Int) ≤ ((s[n].toNat : Nat) : Int)) = false := decide_eq_false (by omega)
        have HD : Hid (Js.isD s[n].toNat = false) := by
          show _ = _
          cases h3 : Js.isD s[n].toNat with
          | false => rfl
          | true => rw [Js.isD_iff] at h3; omega
        clear h1
        go_wp2_with fail
        go_ret
        exact ⟨⟨n, rfl, hn, by rw [bt_byte s n hlt]; exact HD.out, HA.out⟩, rfl⟩
    · have d0 : decide ((n : Int) < (s.size : Int)) = false := decide_eq_false (by omega)
      have d0n : decide (n < s.size) = false := decide_eq_false hlt
      go_wp2_with fail
      go_ret
      exact ⟨⟨n, rfl, hn, by rw [bt_end s n (by omega)]; rfl, HA.out⟩, rfl⟩
/-- The digits from a place on. -/
theorem sDigits_at (s : ByteArray) (i : Nat) (w : World) (hs : s.size ≤ 1000000) (hi : i ≤ s.size) :
    Calls Tryz.prog 187 #[.string (s.extract i s.size)] w fun e w' => (∃ n : Nat, e = .returned (.int .i64 (n : Nat)) ∧ i + n ≤ s.size ∧ Js.isD (Js.bt s.data.toList (i + n)) = false ∧ ∀ j, i ≤ j → j < i + n → Js.isD (Js.bt s.data.toList j) = true) ∧ w' = w := by
  have h := sDigits_any (s.extract i s.size) w (by rw [cut_size]; omega)
  rw [cut_tail s i, cut_size s i] at h
  refine h.mono ?_
  rintro e w' ⟨⟨n, he, h1, h2, h3⟩, hw⟩
  rw [Js.bt_drop] at h2
  refine ⟨⟨n, he, by omega, h2, fun j h4 h5 => ?_⟩, hw⟩
  have := h3 (j - i) (by omega)
  rw [Js.bt_drop, show i + (j - i) = j by omega] at this
  exact this
set_option maxHeartbeats 1000000 in
theorem sHex_any (b : Nat) (w : World) :
    Calls Tryz.prog 188 #[.int .u8 (b : Nat)] w fun e w' => e = .returned (.bool (Js.isH b)) ∧ w' = w := by
  rcases (show b < 48 ∨ (48 ≤ b ∧ b ≤ 57) ∨ (57 < b ∧ b < 65) ∨ (65 ≤ b ∧ b ≤ 70) ∨ (70 < b ∧ b < 97) ∨ (97 ≤ b ∧ b ≤ 102) ∨ 102 < b by omega) with h | h | h | h | h | h | h
  · have HR : Hid (Js.isH b = false) := by
      show _ = _
      unfold Js.isH Js.isD
      rw [decide_eq_false (show ¬ 48 ≤ b by omega), decide_eq_false (show ¬ 97 ≤ b by omega), decide_eq_false (show ¬ 65 ≤ b by omega)]
      rfl
    have a1 : ¬ 48 ≤ b := by omega
    have a2 : ¬ 97 ≤ b := by omega
    have a3 : ¬ 65 ≤ b := by omega
    clear h
    go_enter Tryz.func188, Tryz.ntmps188
    go_wp2
    go_ret
    rw [HR.out]
    exact ⟨rfl, rfl⟩
  · have HR : Hid (Js.isH b = true) := by
      show _ = _
      unfold Js.isH Js.isD
      rw [decide_eq_true h.1, decide_eq_true h.2]
      rfl
    obtain ⟨a1, a2⟩ := h
    have d57 : decide ((b : Int) ≤ 57) = true := decide_eq_true (by omega)
    go_enter Tryz.func188, Tryz.ntmps188
    go_wp2
    go_ret
    rw [HR.out]
    exact ⟨rfl, rfl⟩
  · have HR : Hid (Js.isH b = false) := by
      show _ = _
      unfold Js.isH Js.isD
      rw [decide_eq_false (show ¬ b ≤ 57 by omega), decide_eq_false (show ¬ 97 ≤ b by omega), decide_eq_false (show ¬ 65 ≤ b by omega), Bool.and_false]
      rfl
    have a0 : 48 ≤ b := by omega
    have a1 : ¬ b ≤ 57 := by omega
    have d57 : decide ((b : Int) ≤ 57) = false := decide_eq_false (by omega)
    have a2 : ¬ 97 ≤ b := by omega
    have a3 : ¬ 65 ≤ b := by omega
    clear h
    go_enter Tryz.func188, Tryz.ntmps188
    go_wp2
    go_ret
    rw [HR.out]
    exact ⟨rfl, rfl⟩
  · have HR : Hid (Js.isH b = true) := by
      show _ = _
      unfold Js.isH
      rw [decide_eq_true h.1, decide_eq_true h.2, Bool.and_true, Bool.or_true]
    have a0 : 48 ≤ b := by omega
    have a1 : ¬ b ≤ 57 := by omega
    have d57 : decide ((b : Int) ≤ 57) = false := decide_eq_false (by omega)
    have a2 : ¬ 97 ≤ b := by omega
    obtain ⟨a3, a4⟩ := h
    have d70 : decide ((b : Int) ≤ 70) = true := decide_eq_true (by omega)
    go_enter Tryz.func188, Tryz.ntmps188
    go_wp2
    go_ret
    rw [HR.out]
    exact ⟨rfl, rfl⟩
  · have HR : Hid (Js.isH b = false) := by
      show _ = _
      unfold Js.isH Js.isD
      rw [decide_eq_false (show ¬ b ≤ 57 by omega), decide_eq_false (show ¬ 97 ≤ b by omega), decide_eq_false (show ¬ b ≤ 70 by omega), Bool.and_false, Bool.and_false]
      rfl
    have a0 : 48 ≤ b := by omega
    have a1 : ¬ b ≤ 57 := by omega
    have d57 : decide ((b : Int) ≤ 57) = false := decide_eq_false (by omega)
    have a2 : ¬ 97 ≤ b := by omega
    have a3 : 65 ≤ b := by omega
    have a4 : ¬ b ≤ 70 := by omega
    have d70 : decide ((b : Int) ≤ 70) = false := decide_eq_false (by omega)
    clear h
    go_enter Tryz.func188, Tryz.ntmps188
    go_wp2
    go_ret
    rw [HR.out]
    exact ⟨rfl, rfl⟩
  · have HR : Hid (Js.isH b = true) := by
      show _ = _
      unfold Js.isH
      rw [decide_eq_true h.1, decide_eq_true h.2, Bool.and_true, Bool.or_true, Bool.true_or]
    have a0 : 48 ≤ b := by omega
    have a1 : ¬ b ≤ 57 := by omega
    have d57 : decide ((b : Int) ≤ 57) = false := decide_eq_false (by omega)
    obtain ⟨a2, a3⟩ := h
    have d102 : decide ((b : Int) ≤ 102) = true := decide_eq_true (by omega)
    go_enter Tryz.func188, Tryz.ntmps188
    go_wp2
    go_ret
    rw [HR.out]
    exact ⟨rfl, rfl⟩
  · have HR : Hid (Js.isH b = false) := by
      show _ = _
      unfold Js.isH Js.isD
      rw [decide_eq_false (show ¬ b ≤ 57 by omega), decide_eq_false (show ¬ b ≤ 102 by omega), decide_eq_false (show ¬ b ≤ 70 by omega), Bool.and_false, Bool.and_false, Bool.and_false]
      rfl
    have a0 : 48 ≤ b := by omega
    have a1 : ¬ b ≤ 57 := by omega
    have d57 : decide ((b : Int) ≤ 57) = false := decide_eq_false (by omega)
    have a2 : 97 ≤ b := by omega
    have a3 : ¬ b ≤ 102 := by omega
    have d102 : decide ((b : Int) ≤ 102) = false := decide_eq_false (by omega)
    have a4 : 65 ≤ b := by omega
    have a5 : ¬ b ≤ 70 := by omega
    have d70 : decide ((b : Int) ≤ 70) = false := decide_eq_false (by omega)
    clear h
    go_enter Tryz.func188, Tryz.ntmps188
    go_wp2
    go_ret
    rw [HR.out]
    exact ⟨rfl, rfl⟩
set_option maxHeartbeats 1000000 in
theorem sHexes_any (s : ByteArray) (w : World) :
    Calls Tryz.prog 176 #[.string s] w fun e w' => (∃ n : Nat, e = .returned (.int .i64 (n : Nat)) ∧ n ≤ s.size ∧ n ≤ 4 ∧ (n < 4 → Js.isH (Js.bt s.data.toList n) = false) ∧ ∀ j, j < n → Js.isH (Js.bt s.data.toList j) = true) ∧ w' = w := by
  go_enter Tryz.func176, Tryz.ntmps176
  go_wp2_with fail
  go_loop [3] (fun v => ∃ n : Nat, v = .int .i64 (n : Nat) ∧ n ≤ s.size ∧ n ≤ 4 ∧ ∀ j, j < n → Js.isH (Js.bt s.data.toList j) = true) (fun v => s.size - (intOf v).toNat)
  case atStart => exact ⟨0, rfl, Nat.zero_le _, Nat.zero_le _, fun j h => by omega⟩
  case round =>
    obtain ⟨n, rfl, hn, hn4, hall⟩ := hrel
    have HA := hidden hall
    clear hall
    by_cases hlt : n < s.size
    · have hb := s[n].toNat_lt
      have d0 : decide ((n : Int) < (s.size : Int)) = true := decide_eq_true (by omega)
      have d0n : decide (n < s.size) = true := decide_eq_true hlt
      by_cases h4 : n < 4
      · have d1 : decide ((n : Int) < 4) = true := decide_eq_true (by omega)
        have d1n : decide (n < 4) = true := decide_eq_true h4
        have HH := hidden (sHex_any s[n].toNat)
        have H4 := hidden h4
        cases hx : Js.isH s[n].toNat with
        | true =>
          rw [hx] at HH
          have HX : Hid (Js.isH s[n].toNat = true) := hidden hx
          clear hx h4
          go_wp2_with fail
          refine (HH.out _).mono ?_
          rintro e w1 ⟨rfl, rfl⟩
          go_wp2_with fail
          go_roundw
          case rel =>
            refine ⟨n + 1, by go_num, hlt, H4.out, fun j h3 => ?_⟩
            by_cases h5 : j < n
            · exact HA.out j h5
            · obtain rfl : j = n := by omega
              rw [bt_byte s j hlt]
              exact HX.out
          case measure => simp [intOf]; omega
        | false =>
          rw [hx] at HH
          have HX : Hid (Js.isH s[n].toNat = false) := hidden hx
          clear hx h4
          go_wp2_with fail
          refine (HH.out _).mono ?_
          rintro e w1 ⟨rfl, rfl⟩
          go_wp2_with fail
          go_ret
          exact ⟨⟨n, rfl, hn, hn4, fun _ => by rw [bt_byte s n hlt]; exact HX.out, HA.out⟩, rfl⟩
      · have d1 : decide ((n : Int) < 4) = false := decide_eq_false (by omega)
        have d1n : decide (n < 4) = false := decide_eq_false h4
        have H4 := hidden h4
        clear h4
        go_wp2_with fail
        go_ret
        exact ⟨⟨n, rfl, hn, hn4, fun h => absurd h H4.out, HA.out⟩, rfl⟩
    · have d0 : decide ((n : Int) < (s.size : Int)) = false := decide_eq_false (by omega)
      have d0n : decide (n < s.size) = false := decide_eq_false hlt
      go_wp2_with fail
      go_ret
      exact ⟨⟨n, rfl, hn, hn4, fun _ => by rw [bt_end s n (by omega)]; rfl, HA.out⟩, rfl⟩
/-- A unit's digits from a place on. -/
theorem sHexes_at (s : ByteArray) (i : Nat) (w : World) (hi : i ≤ s.size) :
    Calls Tryz.prog 176 #[.string (s.extract i s.size)] w fun e w' => (∃ n : Nat, e = .returned (.int .i64 (n : Nat)) ∧ i + n ≤ s.size ∧ n ≤ 4 ∧ (n < 4 → Js.isH (Js.bt s.data.toList (i + n)) = false) ∧ ∀ j, i ≤ j → j < i + n → Js.isH (Js.bt s.data.toList j) = true) ∧ w' = w := by
  have h := sHexes_any (s.extract i s.size) w
  rw [cut_tail s i, cut_size s i] at h
  refine h.mono ?_
  rintro e w' ⟨⟨n, he, h1, h4, h2, h3⟩, hw⟩
  refine ⟨⟨n, he, by omega, h4, fun h5 => ?_, fun j h4 h5 => ?_⟩, hw⟩
  · have := h2 h5
    rw [Js.bt_drop] at this
    exact this
  · have := h3 (j - i) (by omega)
    rw [Js.bt_drop, show i + (j - i) = j by omega] at this
    exact this
theorem sc_drewN {B : Nat} {a w : World} (h : Below B a w) (n : Nat) : Below B a (w.drewN n) := ⟨h.os, h.tape, h.output, h.size, h.block⟩
set_option maxHeartbeats 1000000 in
theorem sLiteral_any (s t : ByteArray) (w : World) (hs : s.size ≤ 1000000) :
    Calls Tryz.prog 174 #[.string s, .string t] w fun e w' => (∃ n : Nat, e = .returned (.tuple #[.int .i64 (n : Nat), .bool (n == t.size)]) ∧ n ≤ s.size ∧ n ≤ t.size ∧ (n < t.size → n < s.size → Js.bt s.data.toList n ≠ Js.bt t.data.toList n) ∧ ∀ j, j < n → Js.bt s.data.toList j = Js.bt t.data.toList j) ∧ Below w.heap.size w w' := by
  go_enter Tryz.func174, Tryz.ntmps174
  go_wp2_with fail
  go_loopw [6] (fun v wr => ∃ n m : Nat, v = .int .i64 (n : Nat) ∧ wr = w.drewN m ∧ n ≤ s.size ∧ n ≤ t.size ∧ ∀ j, j < n → Js.bt s.data.toList j = Js.bt t.data.toList j) (fun v _ => s.size - (intOf v).toNat)
  case atStart => exact ⟨0, 0, rfl, rfl, Nat.zero_le _, Nat.zero_le _, fun j h => by omega⟩
  case round =>
    obtain ⟨n, m, rfl, rfl, hn, hn4, hall⟩ := hrel
    have HB : Hid (∀ n, Below w.heap.size w (w.drewN n)) := fun n => sc_drewN (Below.refl _ _) n
    have HA := hidden hall
    clear hall
    have en : (((n : Nat) : Int) == ((t.size : Nat) : Int)) = (n == t.size) := by
      rw [Bool.eq_iff_iff, beq_iff_eq, beq_iff_eq]
      omega
    have HE := hidden en
    clear en
    by_cases hlt : n < s.size
    · have d0 : decide ((n : Int) < (s.size : Int)) = true := decide_eq_true (by omega)
      have d0n : decide (n < s.size) = true := decide_eq_true hlt
      obtain ⟨c, hc⟩ : ∃ c, c = s[n].toNat := ⟨_, rfl⟩
      have hcj : ∀ (h : n < s.size), (s[n]'h).toNat = c := fun h => hc.symm
      by_cases h4 : n < t.size
      · have d1 : decide ((n : Int) < (t.size : Int)) = true := decide_eq_true (by omega)
        have d1n : decide (n < t.size) = true := decide_eq_true h4
        have H4 := hidden h4
        obtain ⟨g, hg⟩ : ∃ g, g = t[n].toNat := ⟨_, rfl⟩
        have hvj : ∀ (h : n < t.size), (t[n]'h).toNat = g := fun h => hg.symm
        by_cases heq : c = g
        · have e1 : ((c : Int) == (g : Int)) = true := by rw [heq]; exact beq_self_eq_true _
          have e2 : (c == g) = true := by rw [heq]; exact beq_self_eq_true _
          have HX : Hid (s[n].toNat = t[n].toNat) := hidden (by rw [← hc, ← hg]; exact heq)
          clear heq hc hg
          go_wp2_with fail
          go_quiet (fail)
          go_wp2_with fail
          go_roundw
          case rel =>
            refine ⟨n + 1, m + nq, by go_num, rfl, hlt, H4.out, fun j h3 => ?_⟩
            by_cases h5 : j < n
            · exact HA.out j h5
            · obtain rfl : j = n := by omega
              rw [bt_byte s j hlt, bt_byte t j H4.out]
              exact HX.out
          case measure => simp [intOf]; omega
        · have e1 : ((c : Int) == (g : Int)) = false := by rw [beq_eq_false_iff_ne]; omega
          have e2 : (c == g) = false := by rw [beq_eq_false_iff_ne]; exact heq
          have HX : Hid (s[n].toNat ≠ t[n].toNat) := hidden (by rw [← hc, ← hg]; exact heq)
          clear heq hc hg
          go_wp2_with fail
          go_quiet (fail)
          go_wp2_with fail
          go_ret2
          refine ⟨⟨n, by rw [HE.out]; rfl, hn, hn4, fun _ _ => ?_, HA.out⟩, HB.out _⟩
          rw [bt_byte s n hlt, bt_byte t n H4.out]
          exact HX.out
      · have d1 : decide ((n : Int) < (t.size : Int)) = false := decide_eq_false (by omega)
        have d1n : decide (n < t.size) = false := decide_eq_false h4
        have H4 := hidden h4
        clear h4 hc
        go_wp2_with fail
        go_quiet (fail)
        go_wp2_with fail
        go_ret2
        exact ⟨⟨n, by rw [HE.out]; rfl, hn, hn4, fun h => absurd h H4.out, HA.out⟩, HB.out _⟩
    · have d0 : decide ((n : Int) < (s.size : Int)) = false := decide_eq_false (by omega)
      have d0n : decide (n < s.size) = false := decide_eq_false hlt
      have HL := hidden hlt
      go_wp2_with fail
      go_quiet (fail)
      go_wp2_with fail
      go_ret2
      exact ⟨⟨n, by rw [HE.out]; rfl, hn, hn4, fun _ h => absurd h HL.out, HA.out⟩, HB.out _⟩
end Go.Proofs.YtoipliflphbeiaaGreatDoor
namespace Go.Proofs.YtoipliflphbeiaaGreatDoor
open Go.RowKit
namespace Js
theorem begun_bt (l : List UInt8) (h : plain (bt l 0)) (h45 : bt l 0 ≠ 45) : Begun l 0 0 := by
  by_cases hi : 0 < l.length
  · rw [bt_at l 0 hi] at h h45
    exact begun_plain l 0 hi h h45
  · exact ⟨fun st d h1 => absurd h1 hi, fun st d h1 => absurd h1 hi, fun st d _ => T_live l _ 0 (by omega) rfl⟩
theorem begun_bt45 (l : List UInt8) (h45 : bt l 0 = 45) : Begun l 0 1 := by
  have hi := bt_in l 0 (by omega)
  rw [bt_at l 0 hi] at h45
  exact begun_minus l 0 hi h45
theorem not_bt (l : List UInt8) (p : Nat) (h : isD (bt l p) = false) : ∀ hj : p < l.length, isD (l[p]).toNat = false := fun hj => by
  rw [bt_at l p hj] at h
  exact h
theorem all_bt (l : List UInt8) (i n : Nat) (h : ∀ j, i ≤ j → j < i + n → isD (bt l j) = true) : ∀ j, i ≤ j → j < i + n → ∃ hj : j < l.length, isD (l[j]).toNat = true := fun j h1 h2 => by
  have h3 := h j h1 h2
  have hj := bt_in l j (isD_bt _ h3).1
  rw [bt_at l j hj] at h3
  exact ⟨hj, h3⟩
theorem whole_at0 (l : List UInt8) (a : Nat) (hb : Begun l 0 a) (h : bt l a = 48) : Whole l 0 (a + 1) 21 := by
  have hi := bt_in l a (by omega)
  rw [bt_at l a hi] at h
  exact whole_zero hb (Nat.zero_le _) hi h
theorem whole_at (l : List UInt8) (a n : Nat) (hb : Begun l 0 a) (hn : 0 < n) (hl : a + n ≤ l.length) (h : ∀ j, a ≤ j → j < a + n → isD (bt l j) = true) (hr : isD (bt l (a + n)) = false) (h48 : bt l a ≠ 48) : Whole l 0 (a + n) 22 :=
  whole_digits hb (Nat.zero_le _) hn hl (all_bt l a n h) (not_bt l _ hr) fun ha => by rw [← bt_at l a ha]; exact h48
theorem frac_no_at {l : List UInt8} {p m : Nat} (hw : Whole l 0 p m) (h : bt l p = 46) (hr : isD (bt l (p + 1)) = false) (st : List Bool) (d : Nat) : T l (cV st d) 0 = (none, p + 1) := by
  have hi := bt_in l p (by omega)
  rw [bt_at l p hi] at h
  exact frac_no hw hi h (not_bt l _ hr) st d
theorem frac_at {l : List UInt8} {p m n : Nat} (hw : Whole l 0 p m) (h : bt l p = 46) (hn : 0 < n) (hl : p + 1 + n ≤ l.length) (hd : ∀ j, p + 1 ≤ j → j < p + 1 + n → isD (bt l j) = true) (hr : isD (bt l (p + 1 + n)) = false) : Frac l 0 (p + 1 + n) 24 := by
  have hi := bt_in l p (by omega)
  rw [bt_at l p hi] at h
  exact frac_some hw hi h hn hl (all_bt l _ n hd) (not_bt l _ hr)
theorem frac_un {l : List UInt8} {p m : Nat} (hw : Whole l 0 p m) (h : bt l p ≠ 46) : Frac l 0 p m := frac_none hw fun hi => by rw [← bt_at l p hi]; exact h
theorem frac_end_at {l : List UInt8} {p m : Nat} (hf : Frac l 0 p m) (h1 : bt l p ≠ 101) (h2 : bt l p ≠ 69) (st : List Bool) (d : Nat) : T l (cV st d) 0 = T l (cE st d) p :=
  (frac_end hf (fun hi => by rw [← bt_at l p hi]; exact ⟨h1, h2⟩)).2 st d
/-- Where an exponent may begin: behind a number, at its e. -/
def Xp (l : List UInt8) (p : Nat) : Prop := ∃ m, Frac l 0 p m ∧ (bt l p = 101 ∨ bt l p = 69)
theorem expo_sign_at {l : List UInt8} {p : Nat} (hx : Xp l p) (h1 : bt l (p + 1) = 43 ∨ bt l (p + 1) = 45) : ∃ m, Expo l 0 (p + 1 + 1) m := by
  obtain ⟨m, hf, h⟩ := hx
  have hi := bt_in l p (by omega)
  have hi1 := bt_in l (p + 1) (by omega)
  rw [bt_at l p hi] at h
  rw [bt_at l _ hi1] at h1
  exact ⟨_, expo_sign hf hi h hi1 h1⟩
theorem expo_none_at {l : List UInt8} {p : Nat} (hx : Xp l p) (h1 : bt l (p + 1) ≠ 43) (h2 : bt l (p + 1) ≠ 45) : ∃ m, Expo l 0 (p + 1) m := by
  obtain ⟨m, hf, h⟩ := hx
  have hi := bt_in l p (by omega)
  rw [bt_at l p hi] at h
  exact ⟨_, expo_none hf hi h fun hp => by rw [← bt_at l _ hp]; exact ⟨h1, h2⟩⟩
theorem expo_no_at {l : List UInt8} {p : Nat} (he : ∃ m, Expo l 0 p m) (hr : isD (bt l p) = false) (st : List Bool) (d : Nat) : T l (cV st d) 0 = (none, p) := by
  obtain ⟨m, he⟩ := he
  exact expo_no he (not_bt l _ hr) st d
theorem expo_end_at {l : List UInt8} {p n : Nat} (he : ∃ m, Expo l 0 p m) (hn : 0 < n) (hd : ∀ j, p ≤ j → j < p + n → isD (bt l j) = true) (hr : isD (bt l (p + n)) = false) (st : List Bool) (d : Nat) : T l (cV st d) 0 = T l (cE st d) (p + n) := by
  obtain ⟨m, he⟩ := he
  exact (expo_end he hn (all_bt l _ n hd) (not_bt l _ hr)).2 st d
end Js
/-- What a reader of one value tells: how many bytes are alive, and whether they are a value. -/
def OnePost (l : List UInt8) (e : Ending) : Prop :=
  (∃ n : Nat, e = .returned (.tuple #[.int .i64 (n : Nat), .bool true]) ∧ n ≤ l.length ∧ 0 < n ∧ Js.bt l (n - 1) < 128 ∧ ∀ st d, Js.T l (Js.cV st d) 0 = Js.T l (Js.cE st d) n)
  ∨ ∃ n : Nat, e = .returned (.tuple #[.int .i64 (n : Nat), .bool false]) ∧ n ≤ l.length ∧ ∀ st d, Js.T l (Js.cV st d) 0 = (none, n)
def frNu (s : ByteArray) (a : Nat) (u : Nat → Value) : Array Value := #[.string s, undef, .int .i64 0, .bool false, .int .i64 (a : Nat), u 5, u 6, u 7, u 8, u 9, u 10, u 11, u 12, u 13, u 14, u 15, u 16, u 17, u 18, u 19, u 20, u 21, u 22, u 23, u 24, u 25, u 26, u 27, u 28, u 29, u 30, u 31, u 32, u 33, u 34, u 35, u 36, u 37, u 38, u 39, u 40, u 41, u 42, u 43, u 44, u 45, u 46, u 47, u 48, u 49, u 50, u 51, u 52, u 53, u 54, u 55, u 56, u 57, u 58, u 59, u 60, u 61, u 62, u 63, u 64, u 65, u 66, u 67, u 68, u 69, u 70, u 71, u 72, u 73, u 74, u 75, u 76, u 77, u 78, u 79, u 80, u 81, u 82]
def frNun (s : ByteArray) (a n : Nat) (u : Nat → Value) : Array Value := #[.string s, undef, .int .i64 0, .bool false, .int .i64 (a : Nat), .int .i64 (n : Nat), u 6, u 7, u 8, u 9, u 10, u 11, u 12, u 13, u 14, u 15, u 16, u 17, u 18, u 19, u 20, u 21, u 22, u 23, u 24, u 25, u 26, u 27, u 28, u 29, u 30, u 31, u 32, u 33, u 34, u 35, u 36, u 37, u 38, u 39, u 40, u 41, u 42, u 43, u 44, u 45, u 46, u 47, u 48, u 49, u 50, u 51, u 52, u 53, u 54, u 55, u 56, u 57, u 58, u 59, u 60, u 61, u 62, u 63, u 64, u 65, u 66, u 67, u 68, u 69, u 70, u 71, u 72, u 73, u 74, u 75, u 76, u 77, u 78, u 79, u 80, u 81, u 82]
theorem frNu_is {s : ByteArray} {a : Nat} {x4 u5 u6 u7 u8 u9 u10 u11 u12 u13 u14 u15 u16 u17 u18 u19 u20 u21 u22 u23 u24 u25 u26 u27 u28 u29 u30 u31 u32 u33 u34 u35 u36 u37 u38 u39 u40 u41 u42 u43 u44 u45 u46 u47 u48 u49 u50 u51 u52 u53 u54 u55 u56 u57 u58 u59 u60 u61 u62 u63 u64 u65 u66 u67 u68 u69 u70 u71 u72 u73 u74 u75 u76 u77 u78 u79 u80 u81 u82 : Value} (h : x4 = .int .i64 (a : Nat)) : ∃ u, #[.string s, undef, .int .i64 0, .bool false, x4, u5, u6, u7, u8, u9, u10, u11, u12, u13, u14, u15, u16, u17, u18, u19, u20, u21, u22, u23, u24, u25, u26, u27, u28, u29, u30, u31, u32, u33, u34, u35, u36, u37, u38, u39, u40, u41, u42, u43, u44, u45, u46, u47, u48, u49, u50, u51, u52, u53, u54, u55, u56, u57, u58, u59, u60, u61, u62, u63, u64, u65, u66, u67, u68, u69, u70, u71, u72, u73, u74, u75, u76, u77, u78, u79, u80, u81, u82] = frNu s a u := by
  subst h
  exact ⟨fun j => [u5, u6, u7, u8, u9, u10, u11, u12, u13, u14, u15, u16, u17, u18, u19, u20, u21, u22, u23, u24, u25, u26, u27, u28, u29, u30, u31, u32, u33, u34, u35, u36, u37, u38, u39, u40, u41, u42, u43, u44, u45, u46, u47, u48, u49, u50, u51, u52, u53, u54, u55, u56, u57, u58, u59, u60, u61, u62, u63, u64, u65, u66, u67, u68, u69, u70, u71, u72, u73, u74, u75, u76, u77, u78, u79, u80, u81, u82].getD (j - 5) undef, rfl⟩
theorem frNun_is {s : ByteArray} {a n : Nat} {x4 x5 u6 u7 u8 u9 u10 u11 u12 u13 u14 u15 u16 u17 u18 u19 u20 u21 u22 u23 u24 u25 u26 u27 u28 u29 u30 u31 u32 u33 u34 u35 u36 u37 u38 u39 u40 u41 u42 u43 u44 u45 u46 u47 u48 u49 u50 u51 u52 u53 u54 u55 u56 u57 u58 u59 u60 u61 u62 u63 u64 u65 u66 u67 u68 u69 u70 u71 u72 u73 u74 u75 u76 u77 u78 u79 u80 u81 u82 : Value} (h : x4 = .int .i64 (a : Nat)) (h5 : x5 = .int .i64 (n : Nat)) : ∃ u, #[.string s, undef, .int .i64 0, .bool false, x4, x5, u6, u7, u8, u9, u10, u11, u12, u13, u14, u15, u16, u17, u18, u19, u20, u21, u22, u23, u24, u25, u26, u27, u28, u29, u30, u31, u32, u33, u34, u35, u36, u37, u38, u39, u40, u41, u42, u43, u44, u45, u46, u47, u48, u49, u50, u51, u52, u53, u54, u55, u56, u57, u58, u59, u60, u61, u62, u63, u64, u65, u66, u67, u68, u69, u70, u71, u72, u73, u74, u75, u76, u77, u78, u79, u80, u81, u82] = frNun s a n u := by
  subst h h5
  exact ⟨fun j => [u6, u7, u8, u9, u10, u11, u12, u13, u14, u15, u16, u17, u18, u19, u20, u21, u22, u23, u24, u25, u26, u27, u28, u29, u30, u31, u32, u33, u34, u35, u36, u37, u38, u39, u40, u41, u42, u43, u44, u45, u46, u47, u48, u49, u50, u51, u52, u53, u54, u55, u56, u57, u58, u59, u60, u61, u62, u63, u64, u65, u66, u67, u68, u69, u70, u71, u72, u73, u74, u75, u76, u77, u78, u79, u80, u81, u82].getD (j - 6) undef, rfl⟩
set_option maxHeartbeats 4000000 in
theorem sNumber_any (s : ByteArray) (w : World) (hs : s.size ≤ 1000000) (hp : Js.plain (Js.bt s.data.toList 0)) :
    Calls Tryz.prog 175 #[.string s] w fun e w' => OnePost s.data.toList e ∧ w' = w := by
  have HP := hidden hp
  clear hp
  have hlen : s.data.toList.length = s.size := rfl
  have HLEN := hidden hlen
  clear hlen
  go_enter Tryz.func175, Tryz.ntmps175
  go_wp2_with fail
  refine wp_scope_all (fun l a' w' => w' = w ∧ ∃ p A, a' = { tmps := A, defers := [] } ∧ (∃ u, A = frNu s p u) ∧ p < s.size ∧ ((l = 0 ∧ Js.bt s.data.toList p = 46 ∧ ∃ m, Js.Whole s.data.toList 0 p m) ∨ (l = 1 ∧ Js.Xp s.data.toList p))) (fun _ _ _ => 0) ?_ ?_
  · refine wp_seq_k fun KA hKA => ?_
    have HKA := hidden hKA
    clear hKA
    go_wp2_with fail
    refine HKA.out _ _ ?_
    refine wp_seq_k fun KJ hKJ => ?_
    have HJ : Hid (∀ (a : Nat) A, (∃ u, A = frNu s a u) → a ≤ s.size → Js.Begun s.data.toList 0 a → KJ { tmps := A, defers := [] } w) := by
      rintro a A ⟨u, rfl⟩ ha hb
      have HB := hidden hb
      clear hb
      refine hKJ _ _ ?_
      unfold frNu
      refine wp_seq_k fun K1 h1 => ?_
      have H1 := hidden h1
      clear h1 hKJ
      go_wp2_with fail
      refine (sDigits_at s a _ hs ha).mono ?_
      rintro e w1 ⟨⟨n, rfl, hn, hnd, hall⟩, hw⟩
      have hw := hw.symm
      subst hw
      have HND := hidden hnd
      have HAL := hidden hall
      clear hnd hall
      go_wp2_with fail
      refine H1.out _ _ ?_
      clear H1
      refine wp_seq_k fun K2 h2 => ?_
      have H2 := hidden h2
      clear h2
      by_cases h0 : n = 0
      · subst h0
        go_wp2_with fail
        refine jump_ret ?_
        go_ret2
        exact ⟨.inr ⟨a, rfl, ha, fun st d => HB.out.no st d (Js.not_bt _ _ HND.out)⟩, rfl⟩
      · have e0 : ((n : Int) == 0) = false := by rw [beq_eq_false_iff_ne]; omega
        have e0n : (n == 0) = false := by rw [beq_eq_false_iff_ne]; exact h0
        have halt : a < s.size := by omega
        have H0 := hidden h0
        clear h0
        go_wp2_with fail
        refine H2.out _ _ ?_
        clear H2
        refine wp_seq_k fun K3 hK3 => ?_
        have HW : Hid (∀ (n p m : Nat) A, (∃ u, A = frNun s a n u) → p = a + n → p ≤ s.size → Js.bt s.data.toList (p - 1) < 128 → Js.Whole s.data.toList 0 p m → K3 { tmps := A, defers := [] } w) := by
          rintro n p m A ⟨u, rfl⟩ hpn hps hlet hw
          have HLET := hidden hlet
          have HW := hidden hw
          have hpn2 : (a : Int) + (n : Int) = (p : Int) := by omega
          have hpos : Hid (0 < p) := hidden hw.far
          clear hpn hw hlet
          refine hK3 _ _ ?_
          unfold frNun
          clear hK3
          go_wp2_with fail
          refine (sFirst_at s p _).mono ?_
          rintro e w1 ⟨rfl, hw⟩
          have hw := hw.symm
          subst hw
          obtain ⟨b, hb⟩ : ∃ b, b = Js.bt s.data.toList p := ⟨_, rfl⟩
          rw [← hb]
          have HBT := hidden hb
          clear hb
          by_cases h46 : b = 46
          · subst h46
            go_wp2_with fail
            apply wp_goto
            refine And.intro rfl ?_
            exact ⟨p, _, rfl, frNu_is rfl, bt_within s p (by have := HBT.out; omega), .inl ⟨rfl, HBT.out.symm, m, HW.out⟩⟩
          by_cases h101 : b = 101
          · subst h101
            go_wp2_with fail
            apply wp_goto
            refine And.intro rfl ?_
            exact ⟨p, _, rfl, frNu_is rfl, bt_within s p (by have := HBT.out; omega), .inr ⟨rfl, m, Js.frac_un HW.out (by have := HBT.out; omega), .inl HBT.out.symm⟩⟩
          by_cases h69 : b = 69
          · subst h69
            go_wp2_with fail
            apply wp_goto
            refine And.intro rfl ?_
            exact ⟨p, _, rfl, frNu_is rfl, bt_within s p (by have := HBT.out; omega), .inr ⟨rfl, m, Js.frac_un HW.out (by have := HBT.out; omega), .inr HBT.out.symm⟩⟩
          · have e1 : ((b : Int) == 46) = false := by rw [beq_eq_false_iff_ne]; omega
            have e2 : ((b : Int) == 101) = false := by rw [beq_eq_false_iff_ne]; omega
            have e3 : ((b : Int) == 69) = false := by rw [beq_eq_false_iff_ne]; omega
            have hn : Hid (b ≠ 46 ∧ b ≠ 101 ∧ b ≠ 69) := hidden ⟨h46, h101, h69⟩
            clear h46 h101 h69
            go_wp2_with fail
            refine jump_ret ?_
            go_ret2
            have h1 := HBT.out
            have h2 := hn.out
            exact ⟨.inl ⟨p, rfl, hps, hpos.out, HLET.out, fun st d => Js.frac_end_at (Js.frac_un HW.out (by omega)) (by omega) (by omega) st d⟩, rfl⟩
        have HK3 := hidden hK3
        clear hK3
        have hbt := bt_byte s a halt
        by_cases h48 : s[a].toNat = 48
        · have HH : Hid (Js.bt s.data.toList a = 48) := hidden (hbt.trans h48)
          clear hbt
          go_wp2_with fail
          exact HW.out 1 (a + 1) 21 _ (frNun_is rfl rfl) rfl halt (by rw [Nat.add_sub_cancel, HH.out]; decide) (Js.whole_at0 _ a HB.out HH.out)
        · have e48 : (((s[a].toNat : Nat) : Int) == 48) = false := by rw [beq_eq_false_iff_ne]; omega
          have HH : Hid (Js.bt s.data.toList a ≠ 48) := hidden (by rw [hbt]; exact h48)
          clear hbt h48
          go_wp2_with fail
          have hn0 := H0.out
          exact HW.out n (a + n) 22 _ (frNun_is rfl rfl) rfl hn (Js.isD_bt _ (HAL.out (a + n - 1) (by omega) (by omega))).2 (Js.whole_at _ a n HB.out (by omega) hn HAL.out HND.out HH.out)
    clear hKJ
    by_cases h45 : Js.bt s.data.toList 0 = 45
    · have HBE := hidden (Js.begun_bt45 _ h45)
      have h1 : 1 ≤ s.size := bt_within s 0 (by omega)
      go_wp2_with fail
      refine (sFirst_any s _).mono ?_
      rintro e w1 ⟨rfl, hw⟩
      have hw := hw.symm
      subst hw
      rw [h45]
      clear h45
      go_wp2_with fail
      exact HJ.out 1 _ (frNu_is rfl) h1 HBE.out
    · have HBE := hidden (Js.begun_bt _ HP.out h45)
      go_wp2_with fail
      refine (sFirst_any s _).mono ?_
      rintro e w1 ⟨rfl, hw⟩
      have hw := hw.symm
      subst hw
      have e45 : (((Js.bt s.data.toList 0 : Nat) : Int) == 45) = false := by rw [beq_eq_false_iff_ne]; omega
      clear h45
      go_wp2_with fail
      exact HJ.out 0 _ (frNu_is rfl) (Nat.zero_le _) HBE.out
  · rintro l a' w' ⟨rfl, p, A, rfl, ⟨u, rfl⟩, hps, hcase⟩
    unfold frNu
    rcases hcase with ⟨rfl, hb46, m, hw⟩ | ⟨rfl, hx⟩
    · refine ⟨_, rfl, ?_⟩
      have HW := hidden hw
      have H46 := hidden hb46
      clear hw hb46
      obtain ⟨q, hq⟩ : ∃ q, q = p + 1 := ⟨_, rfl⟩
      have hq2 : (p : Int) + 1 = (q : Int) := by omega
      have hrq : q ≤ s.size := by omega
      have HQ := hidden hq
      clear hq
      go_wp2_with fail
      refine (sDigits_at s q _ hs hrq).mono ?_
      rintro e w1 ⟨⟨n, rfl, hn, hnd, hall⟩, hw⟩
      have hw := hw.symm
      subst hw
      have HND := hidden hnd
      have HAL := hidden hall
      clear hnd hall
      by_cases h0 : n = 0
      · subst h0
        go_wp2_with fail
        refine jump_ret ?_
        go_ret2
        refine ⟨.inr ⟨q, rfl, hrq, fun st d => ?_⟩, rfl⟩
        have h1 := HQ.out
        have h2 := HND.out
        subst h1
        exact Js.frac_no_at HW.out H46.out h2 st d
      · have e0 : ((n : Int) == 0) = false := by rw [beq_eq_false_iff_ne]; omega
        have e0n : (n == 0) = false := by rw [beq_eq_false_iff_ne]; exact h0
        obtain ⟨t, ht⟩ : ∃ t, t = q + n := ⟨_, rfl⟩
        have ht2 : (q : Int) + (n : Int) = (t : Int) := by omega
        have hts : t ≤ s.size := by omega
        have HT := hidden ht
        have HF : Hid (Js.Frac s.data.toList 0 t 24) := by
          have h1 := HQ.out
          have h2 := HND.out
          have h3 := HAL.out
          subst h1
          subst ht
          exact Js.frac_at HW.out H46.out (by omega) hn h3 h2
        have HL : Hid (0 < t ∧ Js.bt s.data.toList (t - 1) < 128) := by
          refine ⟨by omega, (Js.isD_bt _ (HAL.out (t - 1) (by omega) (by omega))).2⟩
        clear h0 ht HND HAL
        go_wp2_with fail
        refine (sFirst_at s t _).mono ?_
        rintro e w1 ⟨rfl, hw⟩
        have hw := hw.symm
        subst hw
        obtain ⟨b, hb⟩ : ∃ b, b = Js.bt s.data.toList t := ⟨_, rfl⟩
        rw [← hb]
        have HBB := hidden hb
        clear hb
        by_cases h101 : b = 101
        · subst h101
          have HX : Hid (Js.Xp s.data.toList t) := ⟨24, HF.out, .inl HBB.out.symm⟩
          have hP := bt_within s t (by have := HBB.out; omega)
          clear HF HBB hq2 ht2 HQ HT hrq
          go_wp2_with fail
          refine wp_label ?_
          obtain ⟨q, hq⟩ : ∃ q, q = t + 1 := ⟨_, rfl⟩
          have hq2 : (t : Int) + 1 = (q : Int) := by omega
          have hrq : q ≤ s.size := by omega
          have HQ := hidden hq
          clear hq
          go_wp2_with fail
          refine (sFirst_at s q _).mono ?_
          rintro e w1 ⟨rfl, hw⟩
          have hw := hw.symm
          subst hw
          obtain ⟨b, hb⟩ : ∃ b, b = Js.bt s.data.toList q := ⟨_, rfl⟩
          rw [← hb]
          have HBT := hidden hb
          clear hb
          by_cases h43 : b = 43
          · subst h43
            obtain ⟨t, ht⟩ : ∃ t, t = q + 1 := ⟨_, rfl⟩
            have ht2 : (q : Int) + 1 = (t : Int) := by omega
            have hqs := bt_within s q (by have := HBT.out; omega)
            have hrt : t ≤ s.size := by omega
            have HE : Hid (∃ m, Js.Expo s.data.toList 0 t m) := by
              have h1 := HQ.out
              have h2 := HBT.out
              subst h1
              subst ht
              exact Js.expo_sign_at HX.out (.inl h2.symm)
            clear ht
            go_wp2_with fail
            refine (sDigits_at s t _ hs hrt).mono ?_
            rintro e w1 ⟨⟨n, rfl, hn, hnd, hall⟩, hw⟩
            have hw := hw.symm
            subst hw
            have HND := hidden hnd
            have HAL := hidden hall
            clear hnd hall
            by_cases h0 : n = 0
            · subst h0
              go_wp2_with fail
              refine jump_ret ?_
              go_ret2
              exact ⟨.inr ⟨t, rfl, hrt, fun st d => Js.expo_no_at HE.out HND.out st d⟩, rfl⟩
            · have hpos : 0 < n := by omega
              have H0 := hidden hpos
              have e0 : decide ((0 : Int) < (n : Int)) = true := decide_eq_true (by omega)
              clear h0
              go_wp2_with fail
              refine jump_ret ?_
              go_ret2
              have hn0 := H0.out
              exact ⟨.inl ⟨t + n, rfl, hn, by omega, (Js.isD_bt _ (HAL.out (t + n - 1) (by omega) (by omega))).2, fun st d => Js.expo_end_at HE.out hn0 HAL.out HND.out st d⟩, rfl⟩
          by_cases h45 : b = 45
          · subst h45
            obtain ⟨t, ht⟩ : ∃ t, t = q + 1 := ⟨_, rfl⟩
            have ht2 : (q : Int) + 1 = (t : Int) := by omega
            have hqs := bt_within s q (by have := HBT.out; omega)
            have hrt : t ≤ s.size := by omega
            have HE : Hid (∃ m, Js.Expo s.data.toList 0 t m) := by
              have h1 := HQ.out
              have h2 := HBT.out
              subst h1
              subst ht
              exact Js.expo_sign_at HX.out (.inr h2.symm)
            clear ht
            go_wp2_with fail
            refine (sDigits_at s t _ hs hrt).mono ?_
            rintro e w1 ⟨⟨n, rfl, hn, hnd, hall⟩, hw⟩
            have hw := hw.symm
            subst hw
            have HND := hidden hnd
            have HAL := hidden hall
            clear hnd hall
            by_cases h0 : n = 0
            · subst h0
              go_wp2_with fail
              refine jump_ret ?_
              go_ret2
              exact ⟨.inr ⟨t, rfl, hrt, fun st d => Js.expo_no_at HE.out HND.out st d⟩, rfl⟩
            · have hpos : 0 < n := by omega
              have H0 := hidden hpos
              have e0 : decide ((0 : Int) < (n : Int)) = true := decide_eq_true (by omega)
              clear h0
              go_wp2_with fail
              refine jump_ret ?_
              go_ret2
              have hn0 := H0.out
              exact ⟨.inl ⟨t + n, rfl, hn, by omega, (Js.isD_bt _ (HAL.out (t + n - 1) (by omega) (by omega))).2, fun st d => Js.expo_end_at HE.out hn0 HAL.out HND.out st d⟩, rfl⟩
          · have e43 : ((b : Int) == 43) = false := by rw [beq_eq_false_iff_ne]; omega
            have e45 : ((b : Int) == 45) = false := by rw [beq_eq_false_iff_ne]; omega
            have HE : Hid (∃ m, Js.Expo s.data.toList 0 q m) := by
              have h1 := HQ.out
              have h2 := HBT.out
              subst h1
              exact Js.expo_none_at HX.out (by omega) (by omega)
            clear h43 h45
            go_wp2_with fail
            refine (sDigits_at s q _ hs hrq).mono ?_
            rintro e w1 ⟨⟨n, rfl, hn, hnd, hall⟩, hw⟩
            have hw := hw.symm
            subst hw
            have HND := hidden hnd
            have HAL := hidden hall
            clear hnd hall
            by_cases h0 : n = 0
            · subst h0
              go_wp2_with fail
              refine jump_ret ?_
              go_ret2
              exact ⟨.inr ⟨q, rfl, hrq, fun st d => Js.expo_no_at HE.out HND.out st d⟩, rfl⟩
            · have hpos : 0 < n := by omega
              have H0 := hidden hpos
              have e0 : decide ((0 : Int) < (n : Int)) = true := decide_eq_true (by omega)
              clear h0
              go_wp2_with fail
              refine jump_ret ?_
              go_ret2
              have hn0 := H0.out
              exact ⟨.inl ⟨q + n, rfl, hn, by omega, (Js.isD_bt _ (HAL.out (q + n - 1) (by omega) (by omega))).2, fun st d => Js.expo_end_at HE.out hn0 HAL.out HND.out st d⟩, rfl⟩
        by_cases h69 : b = 69
        · subst h69
          have HX : Hid (Js.Xp s.data.toList t) := ⟨24, HF.out, .inr HBB.out.symm⟩
          have hP := bt_within s t (by have := HBB.out; omega)
          clear HF HBB hq2 ht2 HQ HT hrq
          go_wp2_with fail
          refine wp_label ?_
          obtain ⟨q, hq⟩ : ∃ q, q = t + 1 := ⟨_, rfl⟩
          have hq2 : (t : Int) + 1 = (q : Int) := by omega
          have hrq : q ≤ s.size := by omega
          have HQ := hidden hq
          clear hq
          go_wp2_with fail
          refine (sFirst_at s q _).mono ?_
          rintro e w1 ⟨rfl, hw⟩
          have hw := hw.symm
          subst hw
          obtain ⟨b, hb⟩ : ∃ b, b = Js.bt s.data.toList q := ⟨_, rfl⟩
          rw [← hb]
          have HBT := hidden hb
          clear hb
          by_cases h43 : b = 43
          · subst h43
            obtain ⟨t, ht⟩ : ∃ t, t = q + 1 := ⟨_, rfl⟩
            have ht2 : (q : Int) + 1 = (t : Int) := by omega
            have hqs := bt_within s q (by have := HBT.out; omega)
            have hrt : t ≤ s.size := by omega
            have HE : Hid (∃ m, Js.Expo s.data.toList 0 t m) := by
              have h1 := HQ.out
              have h2 := HBT.out
              subst h1
              subst ht
              exact Js.expo_sign_at HX.out (.inl h2.symm)
            clear ht
            go_wp2_with fail
            refine (sDigits_at s t _ hs hrt).mono ?_
            rintro e w1 ⟨⟨n, rfl, hn, hnd, hall⟩, hw⟩
            have hw := hw.symm
            subst hw
            have HND := hidden hnd
            have HAL := hidden hall
            clear hnd hall
            by_cases h0 : n = 0
            · subst h0
              go_wp2_with fail
              refine jump_ret ?_
              go_ret2
              exact ⟨.inr ⟨t, rfl, hrt, fun st d => Js.expo_no_at HE.out HND.out st d⟩, rfl⟩
            · have hpos : 0 < n := by omega
              have H0 := hidden hpos
              have e0 : decide ((0 : Int) < (n : Int)) = true := decide_eq_true (by omega)
              clear h0
              go_wp2_with fail
              refine jump_ret ?_
              go_ret2
              have hn0 := H0.out
              exact ⟨.inl ⟨t + n, rfl, hn, by omega, (Js.isD_bt _ (HAL.out (t + n - 1) (by omega) (by omega))).2, fun st d => Js.expo_end_at HE.out hn0 HAL.out HND.out st d⟩, rfl⟩
          by_cases h45 : b = 45
          · subst h45
            obtain ⟨t, ht⟩ : ∃ t, t = q + 1 := ⟨_, rfl⟩
            have ht2 : (q : Int) + 1 = (t : Int) := by omega
            have hqs := bt_within s q (by have := HBT.out; omega)
            have hrt : t ≤ s.size := by omega
            have HE : Hid (∃ m, Js.Expo s.data.toList 0 t m) := by
              have h1 := HQ.out
              have h2 := HBT.out
              subst h1
              subst ht
              exact Js.expo_sign_at HX.out (.inr h2.symm)
            clear ht
            go_wp2_with fail
            refine (sDigits_at s t _ hs hrt).mono ?_
            rintro e w1 ⟨⟨n, rfl, hn, hnd, hall⟩, hw⟩
            have hw := hw.symm
            subst hw
            have HND := hidden hnd
            have HAL := hidden hall
            clear hnd hall
            by_cases h0 : n = 0
            · subst h0
              go_wp2_with fail
              refine jump_ret ?_
              go_ret2
              exact ⟨.inr ⟨t, rfl, hrt, fun st d => Js.expo_no_at HE.out HND.out st d⟩, rfl⟩
            · have hpos : 0 < n := by omega
              have H0 := hidden hpos
              have e0 : decide ((0 : Int) < (n : Int)) = true := decide_eq_true (by omega)
              clear h0
              go_wp2_with fail
              refine jump_ret ?_
              go_ret2
              have hn0 := H0.out
              exact ⟨.inl ⟨t + n, rfl, hn, by omega, (Js.isD_bt _ (HAL.out (t + n - 1) (by omega) (by omega))).2, fun st d => Js.expo_end_at HE.out hn0 HAL.out HND.out st d⟩, rfl⟩
          · have e43 : ((b : Int) == 43) = false := by rw [beq_eq_false_iff_ne]; omega
            have e45 : ((b : Int) == 45) = false := by rw [beq_eq_false_iff_ne]; omega
            have HE : Hid (∃ m, Js.Expo s.data.toList 0 q m) := by
              have h1 := HQ.out
              have h2 := HBT.out
              subst h1
              exact Js.expo_none_at HX.out (by omega) (by omega)
            clear h43 h45
            go_wp2_with fail
            refine (sDigits_at s q _ hs hrq).mono ?_
            rintro e w1 ⟨⟨n, rfl, hn, hnd, hall⟩, hw⟩
            have hw := hw.symm
            subst hw
            have HND := hidden hnd
            have HAL := hidden hall
            clear hnd hall
            by_cases h0 : n = 0
            · subst h0
              go_wp2_with fail
              refine jump_ret ?_
              go_ret2
              exact ⟨.inr ⟨q, rfl, hrq, fun st d => Js.expo_no_at HE.out HND.out st d⟩, rfl⟩
            · have hpos : 0 < n := by omega
              have H0 := hidden hpos
              have e0 : decide ((0 : Int) < (n : Int)) = true := decide_eq_true (by omega)
              clear h0
              go_wp2_with fail
              refine jump_ret ?_
              go_ret2
              have hn0 := H0.out
              exact ⟨.inl ⟨q + n, rfl, hn, by omega, (Js.isD_bt _ (HAL.out (q + n - 1) (by omega) (by omega))).2, fun st d => Js.expo_end_at HE.out hn0 HAL.out HND.out st d⟩, rfl⟩
        · have e101 : ((b : Int) != 101) = true := by rw [bne_iff_ne]; omega
          have e69 : ((b : Int) != 69) = true := by rw [bne_iff_ne]; omega
          have HNE : Hid (b ≠ 101 ∧ b ≠ 69) := hidden ⟨h101, h69⟩
          clear h101 h69
          go_wp2_with fail
          refine jump_ret ?_
          go_ret2
          have h1 := HBB.out
          have h2 := HNE.out
          exact ⟨.inl ⟨t, rfl, hts, HL.out.1, HL.out.2, fun st d => Js.frac_end_at HF.out (by omega) (by omega) st d⟩, rfl⟩
    · refine ⟨_, rfl, ?_⟩
      have HX := hidden hx
      clear hx
      obtain ⟨q, hq⟩ : ∃ q, q = p + 1 := ⟨_, rfl⟩
      have hq2 : (p : Int) + 1 = (q : Int) := by omega
      have hrq : q ≤ s.size := by omega
      have HQ := hidden hq
      clear hq
      go_wp2_with fail
      refine (sFirst_at s q _).mono ?_
      rintro e w1 ⟨rfl, hw⟩
      have hw := hw.symm
      subst hw
      obtain ⟨b, hb⟩ : ∃ b, b = Js.bt s.data.toList q := ⟨_, rfl⟩
      rw [← hb]
      have HBT := hidden hb
      clear hb
      by_cases h43 : b = 43
      · subst h43
        obtain ⟨t, ht⟩ : ∃ t, t = q + 1 := ⟨_, rfl⟩
        have ht2 : (q : Int) + 1 = (t : Int) := by omega
        have hqs := bt_within s q (by have := HBT.out; omega)
        have hrt : t ≤ s.size := by omega
        have HE : Hid (∃ m, Js.Expo s.data.toList 0 t m) := by
          have h1 := HQ.out
          have h2 := HBT.out
          subst h1
          subst ht
          exact Js.expo_sign_at HX.out (.inl h2.symm)
        clear ht
        go_wp2_with fail
        refine (sDigits_at s t _ hs hrt).mono ?_
        rintro e w1 ⟨⟨n, rfl, hn, hnd, hall⟩, hw⟩
        have hw := hw.symm
        subst hw
        have HND := hidden hnd
        have HAL := hidden hall
        clear hnd hall
        by_cases h0 : n = 0
        · subst h0
          go_wp2_with fail
          refine jump_ret ?_
          go_ret2
          exact ⟨.inr ⟨t, rfl, hrt, fun st d => Js.expo_no_at HE.out HND.out st d⟩, rfl⟩
        · have hpos : 0 < n := by omega
          have H0 := hidden hpos
          have e0 : decide ((0 : Int) < (n : Int)) = true := decide_eq_true (by omega)
          clear h0
          go_wp2_with fail
          refine jump_ret ?_
          go_ret2
          have hn0 := H0.out
          exact ⟨.inl ⟨t + n, rfl, hn, by omega, (Js.isD_bt _ (HAL.out (t + n - 1) (by omega) (by omega))).2, fun st d => Js.expo_end_at HE.out hn0 HAL.out HND.out st d⟩, rfl⟩
      by_cases h45 : b = 45
      · subst h45
        obtain ⟨t, ht⟩ : ∃ t, t = q + 1 := ⟨_, rfl⟩
        have ht2 : (q : Int) + 1 = (t : Int) := by omega
        have hqs := bt_within s q (by have := HBT.out; omega)
        have hrt : t ≤ s.size := by omega
        have HE : Hid (∃ m, Js.Expo s.data.toList 0 t m) := by
          have h1 := HQ.out
          have h2 := HBT.out
          subst h1
          subst ht
          exact Js.expo_sign_at HX.out (.inr h2.symm)
        clear ht
        go_wp2_with fail
        refine (sDigits_at s t _ hs hrt).mono ?_
        rintro e w1 ⟨⟨n, rfl, hn, hnd, hall⟩, hw⟩
        have hw := hw.symm
        subst hw
        have HND := hidden hnd
        have HAL := hidden hall
        clear hnd hall
        by_cases h0 : n = 0
        · subst h0
          go_wp2_with fail
          refine jump_ret ?_
          go_ret2
          exact ⟨.inr ⟨t, rfl, hrt, fun st d => Js.expo_no_at HE.out HND.out st d⟩, rfl⟩
        · have hpos : 0 < n := by omega
          have H0 := hidden hpos
          have e0 : decide ((0 : Int) < (n : Int)) = true := decide_eq_true (by omega)
          clear h0
          go_wp2_with fail
          refine jump_ret ?_
          go_ret2
          have hn0 := H0.out
          exact ⟨.inl ⟨t + n, rfl, hn, by omega, (Js.isD_bt _ (HAL.out (t + n - 1) (by omega) (by omega))).2, fun st d => Js.expo_end_at HE.out hn0 HAL.out HND.out st d⟩, rfl⟩
      · have e43 : ((b : Int) == 43) = false := by rw [beq_eq_false_iff_ne]; omega
        have e45 : ((b : Int) == 45) = false := by rw [beq_eq_false_iff_ne]; omega
        have HE : Hid (∃ m, Js.Expo s.data.toList 0 q m) := by
          have h1 := HQ.out
          have h2 := HBT.out
          subst h1
          exact Js.expo_none_at HX.out (by omega) (by omega)
        clear h43 h45
        go_wp2_with fail
        refine (sDigits_at s q _ hs hrq).mono ?_
        rintro e w1 ⟨⟨n, rfl, hn, hnd, hall⟩, hw⟩
        have hw := hw.symm
        subst hw
        have HND := hidden hnd
        have HAL := hidden hall
        clear hnd hall
        by_cases h0 : n = 0
        · subst h0
          go_wp2_with fail
          refine jump_ret ?_
          go_ret2
          exact ⟨.inr ⟨q, rfl, hrq, fun st d => Js.expo_no_at HE.out HND.out st d⟩, rfl⟩
        · have hpos : 0 < n := by omega
          have H0 := hidden hpos
          have e0 : decide ((0 : Int) < (n : Int)) = true := decide_eq_true (by omega)
          clear h0
          go_wp2_with fail
          refine jump_ret ?_
          go_ret2
          have hn0 := H0.out
          exact ⟨.inl ⟨q + n, rfl, hn, by omega, (Js.isD_bt _ (HAL.out (q + n - 1) (by omega) (by omega))).2, fun st d => Js.expo_end_at HE.out hn0 HAL.out HND.out st d⟩, rfl⟩
end Go.Proofs.YtoipliflphbeiaaGreatDoor
namespace Go.Proofs.YtoipliflphbeiaaGreatDoor
open Go.RowKit
namespace Js
/-- Where a string's reader stands. -/
def Qn (l : List UInt8) (c : Bool → List Bool → Nat → Cf) (j : Nat) : Prop := ∀ k st d, T l (cS 0 k st d) 1 = T l (c k st d) j
def Q0 (l : List UInt8) (p : Nat) : Prop := p < l.length ∧ Qn l (cS (qs l (p + 1))) (p + 1)
def Q1 (l : List UInt8) (p : Nat) : Prop := p < l.length ∧ Qn l cX (p + 1)
def Q2 (l : List UInt8) (p : Nat) : Prop := p ≤ l.length ∧ Qn l (cS (qs l p)) p
def Q3 (l : List UInt8) (p : Nat) : Prop := p < l.length ∧ Qn l (cU 0) (p + 1)
def QAt (l : List UInt8) (lb p : Nat) : Prop := (lb = 0 ∧ Q0 l p) ∨ (lb = 1 ∧ Q1 l p) ∨ (lb = 2 ∧ Q2 l p) ∨ (lb = 3 ∧ Q3 l p)
theorem q_begin (l : List UInt8) (h : Al l) (hb : bt l 0 = 34) : Q0 l 0 := by
  have hi := bt_in l 0 (by omega)
  refine ⟨hi, fun k st d => ?_⟩
  rw [(qs_letter l h 0 hi (by omega)).2]
theorem q_next (l : List UInt8) (p : Nat) (h : Q0 l p) : Q2 l (p + 1) := h
theorem q_close (l : List UInt8) (h : Al l) (p : Nat) (hq : Q2 l p) (hb : bt l p = 34) : p + 1 ≤ l.length ∧ ∀ k st d, T l (cS 0 k st d) 1 = T l (aft k st d) (p + 1) := by
  have hi := bt_in l p (by omega)
  refine ⟨hi, fun k st d => (hq.2 k st d).trans ?_⟩
  rw [(qs_letter l h p hi (by omega)).1]
  exact T_close l k st d p hi (by rw [← bt_at l p hi]; exact hb)
theorem q_back (l : List UInt8) (h : Al l) (p : Nat) (hq : Q2 l p) (hb : bt l p = 92) : Q1 l p := by
  have hi := bt_in l p (by omega)
  refine ⟨hi, fun k st d => (hq.2 k st d).trans ?_⟩
  rw [(qs_letter l h p hi (by omega)).1]
  exact T_back l k st d p hi (by rw [← bt_at l p hi]; exact hb)
theorem q_low (l : List UInt8) (h : Al l) (p : Nat) (hq : Q2 l p) (hb : bt l p < 32) : ∀ k st d, T l (cS 0 k st d) 1 = (none, p) := fun k st d => (hq.2 k st d).trans (by
  by_cases hi : p < l.length
  · rw [(qs_letter l h p hi (by omega)).1]
    exact T_low l k st d p hi (by rw [← bt_at l p hi]; exact hb)
  · have := hq.1
    exact T_live l _ p (by omega) rfl)
theorem q_through (l : List UInt8) (h : Al l) (p : Nat) (hq : Q2 l p) (h1 : 32 ≤ bt l p) (h2 : bt l p ≠ 34) (h3 : bt l p ≠ 92) : Q0 l p := by
  have hi := bt_in l p (by omega)
  exact ⟨hi, fun k st d => (hq.2 k st d).trans (T_through l h p hi h1 h2 h3 k st d)⟩
theorem isS_bt (b : Nat) : isS b = true → b ≠ 0 ∧ b < 128 := fun h => by
  unfold isS at h
  simp only [Bool.or_eq_true, beq_iff_eq] at h
  omega
theorem isH_bt (b : Nat) : isH b = true → b ≠ 0 ∧ b < 128 := fun h => by
  unfold isH isD at h
  simp only [Bool.or_eq_true, Bool.and_eq_true, decide_eq_true_eq] at h
  omega
theorem q_sign (l : List UInt8) (h : Al l) (p : Nat) (hq : Q1 l p) (hb : isS (bt l (p + 1)) = true) : Q0 l (p + 1) := by
  have hi := bt_in l (p + 1) (isS_bt _ hb).1
  refine ⟨hi, fun k st d => (hq.2 k st d).trans ?_⟩
  rw [(qs_letter l h (p + 1) hi (isS_bt _ hb).2).2]
  exact T_sign l k st d (p + 1) hi (by rw [← bt_at l (p + 1) hi]; exact hb)
theorem q_u (l : List UInt8) (p : Nat) (hq : Q1 l p) (hb : bt l (p + 1) = 117) : Q3 l (p + 1) := by
  have hi := bt_in l (p + 1) (by omega)
  exact ⟨hi, fun k st d => (hq.2 k st d).trans (T_u l k st d (p + 1) hi (by rw [← bt_at l (p + 1) hi]; exact hb))⟩
theorem q_nosign (l : List UInt8) (p : Nat) (hq : Q1 l p) (hb : isS (bt l (p + 1)) = false) (hb2 : bt l (p + 1) ≠ 117) : ∀ k st d, T l (cS 0 k st d) 1 = (none, p + 1) := fun k st d =>
  (hq.2 k st d).trans (T_nosign l k st d (p + 1) hq.1 fun hi => by rw [← bt_at l (p + 1) hi]; exact ⟨hb, hb2⟩)
theorem q_hexes (l : List UInt8) (p j : Nat) (hj : j ≤ 3) (hq : Q3 l p) (hd : ∀ i, p + 1 ≤ i → i < p + 1 + j → isH (bt l i) = true) : Qn l (cU j) (p + 1 + j) := by
  induction j with
  | zero => exact hq.2
  | succ j ih =>
    have h1 := ih (by omega) (fun i h2 h3 => hd i h2 (by omega))
    have h2 := hd (p + 1 + j) (by omega) (by omega)
    have hi := bt_in l _ (isH_bt _ h2).1
    rw [bt_at l _ hi] at h2
    exact fun k st d => (h1 k st d).trans (T_hex l k st d (p + 1 + j) j (by omega) hi h2)
theorem q_unit (l : List UInt8) (h : Al l) (p : Nat) (hq : Q3 l p) (hd : ∀ i, p + 1 ≤ i → i < p + 1 + 4 → isH (bt l i) = true) : Q2 l (p + 1 + 4) := by
  have h1 := q_hexes l p 3 (by omega) hq (fun i h2 h3 => hd i h2 (by omega))
  have h2 := hd (p + 1 + 3) (by omega) (by omega)
  have hi := bt_in l _ (isH_bt _ h2).1
  refine ⟨hi, fun k st d => (h1 k st d).trans ?_⟩
  rw [show qs l (p + 1 + 4) = 0 from (qs_letter l h (p + 1 + 3) hi (isH_bt _ h2).2).2]
  rw [bt_at l _ hi] at h2
  exact T_hex_last l k st d (p + 1 + 3) hi h2
theorem q_nounit (l : List UInt8) (p n : Nat) (hn : n < 4) (hl : p + 1 + n ≤ l.length) (hq : Q3 l p) (hd : ∀ i, p + 1 ≤ i → i < p + 1 + n → isH (bt l i) = true) (hr : isH (bt l (p + 1 + n)) = false) : ∀ k st d, T l (cS 0 k st d) 1 = (none, p + 1 + n) := fun k st d =>
  (q_hexes l p n (by omega) hq hd k st d).trans (T_nohex l k st d (p + 1 + n) n hl fun hi => by rw [← bt_at l _ hi]; exact hr)
end Js
/-- What quoted tells. -/
def QuoPost (l : List UInt8) (e : Ending) : Prop :=
  (∃ n : Nat, e = .returned (.tuple #[.int .i64 (n : Nat), .bool true]) ∧ n ≤ l.length ∧ 0 < n ∧ Js.bt l (n - 1) < 128 ∧ Js.bt l 0 = 34 ∧ ∀ k st d, Js.T l (Js.cS 0 k st d) 1 = Js.T l (Js.aft k st d) n)
  ∨ ∃ n : Nat, e = .returned (.tuple #[.int .i64 (n : Nat), .bool false]) ∧ n ≤ l.length ∧ (Js.bt l 0 ≠ 34 → n = 0) ∧ (Js.bt l 0 = 34 → ∀ k st d, Js.T l (Js.cS 0 k st d) 1 = (none, n))
def frQu (s : ByteArray) (a : Nat) (u : Nat → Value) : Array Value := #[.string s, undef, .int .i64 0, .bool false, .int .i64 (a : Nat), u 5, u 6, u 7, u 8, u 9, u 10, u 11, u 12, u 13, u 14, u 15, u 16, u 17, u 18, u 19, u 20, u 21, u 22, u 23, u 24, u 25, u 26, u 27, u 28, u 29, u 30, u 31, u 32, u 33, u 34, u 35, u 36, u 37, u 38, u 39, u 40, u 41, u 42, u 43, u 44, u 45, u 46, u 47, u 48, u 49, u 50, u 51, u 52, u 53, u 54, u 55, u 56, u 57]
theorem frQu_is {s : ByteArray} {a : Nat} {x4 u5 u6 u7 u8 u9 u10 u11 u12 u13 u14 u15 u16 u17 u18 u19 u20 u21 u22 u23 u24 u25 u26 u27 u28 u29 u30 u31 u32 u33 u34 u35 u36 u37 u38 u39 u40 u41 u42 u43 u44 u45 u46 u47 u48 u49 u50 u51 u52 u53 u54 u55 u56 u57 : Value} (h : x4 = .int .i64 (a : Nat)) : ∃ u, #[.string s, undef, .int .i64 0, .bool false, x4, u5, u6, u7, u8, u9, u10, u11, u12, u13, u14, u15, u16, u17, u18, u19, u20, u21, u22, u23, u24, u25, u26, u27, u28, u29, u30, u31, u32, u33, u34, u35, u36, u37, u38, u39, u40, u41, u42, u43, u44, u45, u46, u47, u48, u49, u50, u51, u52, u53, u54, u55, u56, u57] = frQu s a u := by
  subst h
  exact ⟨fun j => [u5, u6, u7, u8, u9, u10, u11, u12, u13, u14, u15, u16, u17, u18, u19, u20, u21, u22, u23, u24, u25, u26, u27, u28, u29, u30, u31, u32, u33, u34, u35, u36, u37, u38, u39, u40, u41, u42, u43, u44, u45, u46, u47, u48, u49, u50, u51, u52, u53, u54, u55, u56, u57].getD (j - 5) undef, rfl⟩
set_option maxHeartbeats 4000000 in
theorem sQuoted_any (s : ByteArray) (w : World) (hs : s.size ≤ 1000000) (hal : Js.Al s.data.toList) :
    Calls Tryz.prog 153 #[.string s] w fun e w' => QuoPost s.data.toList e ∧ w' = w := by
  have HAL := hidden hal
  clear hal
  have hlen : s.data.toList.length = s.size := rfl
  have HLEN := hidden hlen
  clear hlen
  go_enter Tryz.func153, Tryz.ntmps153
  go_wp2_with fail
  refine wp_scope_all (fun l a' w' => w' = w ∧ ∃ p A, a' = { tmps := A, defers := [] } ∧ (∃ u, A = frQu s p u) ∧ Js.bt s.data.toList 0 = 34 ∧ Js.QAt s.data.toList l p) (fun l a' _ => 2 * (s.size - (intOf (a'.tmps.getD 4 undef)).toNat) + (if l = 2 then 1 else 0)) ?_ ?_
  · refine wp_seq_k fun KA hKA => ?_
    have HKA := hidden hKA
    clear hKA
    go_wp2_with fail
    refine HKA.out _ _ ?_
    by_cases h0 : Js.bt s.data.toList 0 = 34
    · have H34 := hidden h0
      have hlt0 := bt_within s 0 (by omega)
      go_wp2_with fail
      refine (sFirst_any s _).mono ?_
      rintro e w1 ⟨rfl, hw⟩
      have hw := hw.symm
      subst hw
      rw [h0]
      clear h0
      go_wp2_with fail
      refine wp_label ?_
      have HQ2 : Hid (Js.Q2 s.data.toList 1) := Js.q_next _ 0 (Js.q_begin _ HAL.out H34.out)
      have hqs : 1 ≤ s.size := hlt0
      go_wp2_with fail
      refine wp_label ?_
      go_wp2_with fail
      refine (sFirst_at s 1 _).mono ?_
      rintro e w1 ⟨rfl, hw⟩
      have hw := hw.symm
      subst hw
      obtain ⟨b, hb⟩ : ∃ b, b = Js.bt s.data.toList 1 := ⟨_, rfl⟩
      rw [← hb]
      have HB := hidden hb
      clear hb
      by_cases h34 : b = 34
      · subst h34
        have HC := hidden (Js.q_close _ HAL.out 1 HQ2.out HB.out.symm)
        have hlt := bt_within s 1 (by have := HB.out; omega)
        obtain ⟨t, ht⟩ : ∃ t, t = 1 + 1 := ⟨_, rfl⟩
        have ht2 : (1 : Int) + 1 = (t : Int) := by omega
        have HT := hidden ht
        clear ht
        go_wp2_with fail
        refine jump_ret ?_
        go_ret2
        have h1 := HT.out
        subst h1
        exact ⟨.inl ⟨1 + 1, rfl, HC.out.1, by omega, by rw [Nat.add_sub_cancel, ← HB.out]; decide, H34.out, HC.out.2⟩, rfl⟩
      by_cases h92 : b = 92
      · subst h92
        have hlt := bt_within s 1 (by have := HB.out; omega)
        go_wp2_with fail
        apply wp_goto
        refine And.intro rfl ?_
        exact ⟨1, _, rfl, frQu_is rfl, H34.out, .inr (.inl ⟨rfl, Js.q_back _ HAL.out 1 HQ2.out HB.out.symm⟩)⟩
      have e34 : ((b : Int) == 34) = false := by rw [beq_eq_false_iff_ne]; omega
      have e92 : ((b : Int) == 92) = false := by rw [beq_eq_false_iff_ne]; omega
      have HN : Hid (b ≠ 34 ∧ b ≠ 92) := hidden ⟨h34, h92⟩
      clear h34 h92
      by_cases hlow : b < 32
      · have e32 : decide ((b : Int) < 32) = true := decide_eq_true (by omega)
        have HLW := hidden hlow
        clear hlow
        go_wp2_with fail
        refine jump_ret ?_
        go_ret2
        exact ⟨.inr ⟨1, rfl, hqs, fun h => absurd H34.out h, fun _ => Js.q_low _ HAL.out 1 HQ2.out (by rw [← HB.out]; exact HLW.out)⟩, rfl⟩
      · have e32 : decide ((b : Int) < 32) = false := decide_eq_false (by omega)
        have HLW := hidden hlow
        have hlt := bt_within s 1 (by have := HB.out; omega)
        clear hlow
        go_wp2_with fail
        have HTH : Hid (Js.Q0 s.data.toList 1) := Js.q_through _ HAL.out 1 HQ2.out (by rw [← HB.out]; have := HLW.out; omega) (by rw [← HB.out]; exact HN.out.1) (by rw [← HB.out]; exact HN.out.2)
        apply wp_goto
        refine And.intro rfl ?_
        exact ⟨1, _, rfl, frQu_is rfl, H34.out, .inl ⟨rfl, HTH.out⟩⟩
    · have e0 : (((Js.bt s.data.toList 0 : Nat) : Int) != 34) = true := by rw [bne_iff_ne]; omega
      have H0 := hidden h0
      clear h0
      go_wp2_with fail
      refine (sFirst_any s _).mono ?_
      rintro e w1 ⟨rfl, hw⟩
      have hw := hw.symm
      subst hw
      go_wp2_with fail
      refine jump_ret ?_
      go_ret2
      exact ⟨.inr ⟨0, rfl, Nat.zero_le _, fun _ => rfl, fun h => absurd h H0.out⟩, rfl⟩
  · rintro l a' w' ⟨rfl, p, A, rfl, ⟨u, rfl⟩, h34, hcase⟩
    have H34 := hidden h34
    clear h34
    unfold frQu
    rcases hcase with ⟨rfl, hq⟩ | ⟨rfl, hq⟩ | ⟨rfl, hq⟩ | ⟨rfl, hq⟩
    · refine ⟨_, rfl, ?_⟩
      have hps : p < s.size := hq.1
      have HQP := hidden hq
      clear hq
      obtain ⟨q, hq⟩ : ∃ q, q = p + 1 := ⟨_, rfl⟩
      have hq2 : (p : Int) + 1 = (q : Int) := by omega
      have hqs : q ≤ s.size := by omega
      have HQ2 : Hid (Js.Q2 s.data.toList q) := by
        have := Js.q_next _ p HQP.out
        rw [← hq] at this
        exact this
      have HQE := hidden hq
      clear hq
      go_wp2_with fail
      refine wp_label ?_
      go_wp2_with fail
      refine (sFirst_at s q _).mono ?_
      rintro e w1 ⟨rfl, hw⟩
      have hw := hw.symm
      subst hw
      obtain ⟨b, hb⟩ : ∃ b, b = Js.bt s.data.toList q := ⟨_, rfl⟩
      rw [← hb]
      have HB := hidden hb
      clear hb
      by_cases h34 : b = 34
      · subst h34
        have HC := hidden (Js.q_close _ HAL.out q HQ2.out HB.out.symm)
        have hlt := bt_within s q (by have := HB.out; omega)
        obtain ⟨t, ht⟩ : ∃ t, t = q + 1 := ⟨_, rfl⟩
        have ht2 : (q : Int) + 1 = (t : Int) := by omega
        have HT := hidden ht
        clear ht
        go_wp2_with fail
        refine jump_ret ?_
        go_ret2
        have h1 := HT.out
        subst h1
        exact ⟨.inl ⟨q + 1, rfl, HC.out.1, by omega, by rw [Nat.add_sub_cancel, ← HB.out]; decide, H34.out, HC.out.2⟩, rfl⟩
      by_cases h92 : b = 92
      · subst h92
        have hlt := bt_within s q (by have := HB.out; omega)
        go_wp2_with fail
        apply wp_goto
        refine And.intro (And.intro rfl ?_) ?_
        · exact ⟨q, _, rfl, frQu_is rfl, H34.out, .inr (.inl ⟨rfl, Js.q_back _ HAL.out q HQ2.out HB.out.symm⟩)⟩
        · show 2 * (s.size - (intOf (Value.int .i64 _)).toNat) + _ < 2 * (s.size - (intOf (Value.int .i64 _)).toNat) + _
          have := HQE.out
          simp [intOf]
          all_goals omega
      have e34 : ((b : Int) == 34) = false := by rw [beq_eq_false_iff_ne]; omega
      have e92 : ((b : Int) == 92) = false := by rw [beq_eq_false_iff_ne]; omega
      have HN : Hid (b ≠ 34 ∧ b ≠ 92) := hidden ⟨h34, h92⟩
      clear h34 h92
      by_cases hlow : b < 32
      · have e32 : decide ((b : Int) < 32) = true := decide_eq_true (by omega)
        have HLW := hidden hlow
        clear hlow
        go_wp2_with fail
        refine jump_ret ?_
        go_ret2
        exact ⟨.inr ⟨q, rfl, hqs, fun h => absurd H34.out h, fun _ => Js.q_low _ HAL.out q HQ2.out (by rw [← HB.out]; exact HLW.out)⟩, rfl⟩
      · have e32 : decide ((b : Int) < 32) = false := decide_eq_false (by omega)
        have HLW := hidden hlow
        have hlt := bt_within s q (by have := HB.out; omega)
        clear hlow
        go_wp2_with fail
        have HTH : Hid (Js.Q0 s.data.toList q) := Js.q_through _ HAL.out q HQ2.out (by rw [← HB.out]; have := HLW.out; omega) (by rw [← HB.out]; exact HN.out.1) (by rw [← HB.out]; exact HN.out.2)
        apply wp_goto
        refine And.intro (And.intro rfl ?_) ?_
        · exact ⟨q, _, rfl, frQu_is rfl, H34.out, .inl ⟨rfl, HTH.out⟩⟩
        · show 2 * (s.size - (intOf (Value.int .i64 _)).toNat) + _ < 2 * (s.size - (intOf (Value.int .i64 _)).toNat) + _
          have := HQE.out
          simp [intOf]
          all_goals omega
    · refine ⟨_, rfl, ?_⟩
      have hps : p < s.size := hq.1
      have HQP := hidden hq
      clear hq
      obtain ⟨q, hq⟩ : ∃ q, q = p + 1 := ⟨_, rfl⟩
      have hq2 : (p : Int) + 1 = (q : Int) := by omega
      have hqs : q ≤ s.size := by omega
      have HQ1 := HQP
      have HQE := hidden hq
      clear hq HQP
      go_wp2_with fail
      refine (sFirst_at s q _).mono ?_
      rintro e w1 ⟨rfl, hw⟩
      have hw := hw.symm
      subst hw
      obtain ⟨b, hb⟩ : ∃ b, b = Js.bt s.data.toList q := ⟨_, rfl⟩
      rw [← hb]
      have HB := hidden hb
      clear hb
      by_cases h34 : b = 34
      · subst h34
        have hlt := bt_within s q (by have := HB.out; omega)
        have HS : Hid (Js.Q0 s.data.toList q) := by
          have h1 := HQE.out
          have h2 := HB.out
          subst h1
          exact Js.q_sign _ HAL.out p HQ1.out (by rw [← h2]; decide)
        go_wp2_with fail
        apply wp_goto
        refine And.intro (And.intro rfl ?_) ?_
        · exact ⟨q, _, rfl, frQu_is rfl, H34.out, .inl ⟨rfl, HS.out⟩⟩
        · show 2 * (s.size - (intOf (Value.int .i64 _)).toNat) + _ < 2 * (s.size - (intOf (Value.int .i64 _)).toNat) + _
          have := HQE.out
          simp [intOf]
          all_goals omega
      by_cases h92 : b = 92
      · subst h92
        have hlt := bt_within s q (by have := HB.out; omega)
        have HS : Hid (Js.Q0 s.data.toList q) := by
          have h1 := HQE.out
          have h2 := HB.out
          subst h1
          exact Js.q_sign _ HAL.out p HQ1.out (by rw [← h2]; decide)
        go_wp2_with fail
        apply wp_goto
        refine And.intro (And.intro rfl ?_) ?_
        · exact ⟨q, _, rfl, frQu_is rfl, H34.out, .inl ⟨rfl, HS.out⟩⟩
        · show 2 * (s.size - (intOf (Value.int .i64 _)).toNat) + _ < 2 * (s.size - (intOf (Value.int .i64 _)).toNat) + _
          have := HQE.out
          simp [intOf]
          all_goals omega
      by_cases h47 : b = 47
      · subst h47
        have hlt := bt_within s q (by have := HB.out; omega)
        have HS : Hid (Js.Q0 s.data.toList q) := by
          have h1 := HQE.out
          have h2 := HB.out
          subst h1
          exact Js.q_sign _ HAL.out p HQ1.out (by rw [← h2]; decide)
        go_wp2_with fail
        apply wp_goto
        refine And.intro (And.intro rfl ?_) ?_
        · exact ⟨q, _, rfl, frQu_is rfl, H34.out, .inl ⟨rfl, HS.out⟩⟩
        · show 2 * (s.size - (intOf (Value.int .i64 _)).toNat) + _ < 2 * (s.size - (intOf (Value.int .i64 _)).toNat) + _
          have := HQE.out
          simp [intOf]
          all_goals omega
      by_cases h98 : b = 98
      · subst h98
        have hlt := bt_within s q (by have := HB.out; omega)
        have HS : Hid (Js.Q0 s.data.toList q) := by
          have h1 := HQE.out
          have h2 := HB.out
          subst h1
          exact Js.q_sign _ HAL.out p HQ1.out (by rw [← h2]; decide)
        go_wp2_with fail
        apply wp_goto
        refine And.intro (And.intro rfl ?_) ?_
        · exact ⟨q, _, rfl, frQu_is rfl, H34.out, .inl ⟨rfl, HS.out⟩⟩
        · show 2 * (s.size - (intOf (Value.int .i64 _)).toNat) + _ < 2 * (s.size - (intOf (Value.int .i64 _)).toNat) + _
          have := HQE.out
          simp [intOf]
          all_goals omega
      by_cases h102 : b = 102
      · subst h102
        have hlt := bt_within s q (by have := HB.out; omega)
        have HS : Hid (Js.Q0 s.data.toList q) := by
          have h1 := HQE.out
          have h2 := HB.out
          subst h1
          exact Js.q_sign _ HAL.out p HQ1.out (by rw [← h2]; decide)
        go_wp2_with fail
        apply wp_goto
        refine And.intro (And.intro rfl ?_) ?_
        · exact ⟨q, _, rfl, frQu_is rfl, H34.out, .inl ⟨rfl, HS.out⟩⟩
        · show 2 * (s.size - (intOf (Value.int .i64 _)).toNat) + _ < 2 * (s.size - (intOf (Value.int .i64 _)).toNat) + _
          have := HQE.out
          simp [intOf]
          all_goals omega
      by_cases h110 : b = 110
      · subst h110
        have hlt := bt_within s q (by have := HB.out; omega)
        have HS : Hid (Js.Q0 s.data.toList q) := by
          have h1 := HQE.out
          have h2 := HB.out
          subst h1
          exact Js.q_sign _ HAL.out p HQ1.out (by rw [← h2]; decide)
        go_wp2_with fail
        apply wp_goto
        refine And.intro (And.intro rfl ?_) ?_
        · exact ⟨q, _, rfl, frQu_is rfl, H34.out, .inl ⟨rfl, HS.out⟩⟩
        · show 2 * (s.size - (intOf (Value.int .i64 _)).toNat) + _ < 2 * (s.size - (intOf (Value.int .i64 _)).toNat) + _
          have := HQE.out
          simp [intOf]
          all_goals omega
      by_cases h114 : b = 114
      · subst h114
        have hlt := bt_within s q (by have := HB.out; omega)
        have HS : Hid (Js.Q0 s.data.toList q) := by
          have h1 := HQE.out
          have h2 := HB.out
          subst h1
          exact Js.q_sign _ HAL.out p HQ1.out (by rw [← h2]; decide)
        go_wp2_with fail
        apply wp_goto
        refine And.intro (And.intro rfl ?_) ?_
        · exact ⟨q, _, rfl, frQu_is rfl, H34.out, .inl ⟨rfl, HS.out⟩⟩
        · show 2 * (s.size - (intOf (Value.int .i64 _)).toNat) + _ < 2 * (s.size - (intOf (Value.int .i64 _)).toNat) + _
          have := HQE.out
          simp [intOf]
          all_goals omega
      by_cases h116 : b = 116
      · subst h116
        have hlt := bt_within s q (by have := HB.out; omega)
        have HS : Hid (Js.Q0 s.data.toList q) := by
          have h1 := HQE.out
          have h2 := HB.out
          subst h1
          exact Js.q_sign _ HAL.out p HQ1.out (by rw [← h2]; decide)
        go_wp2_with fail
        apply wp_goto
        refine And.intro (And.intro rfl ?_) ?_
        · exact ⟨q, _, rfl, frQu_is rfl, H34.out, .inl ⟨rfl, HS.out⟩⟩
        · show 2 * (s.size - (intOf (Value.int .i64 _)).toNat) + _ < 2 * (s.size - (intOf (Value.int .i64 _)).toNat) + _
          have := HQE.out
          simp [intOf]
          all_goals omega
      by_cases h117 : b = 117
      · subst h117
        have hlt := bt_within s q (by have := HB.out; omega)
        have HS : Hid (Js.Q3 s.data.toList q) := by
          have h1 := HQE.out
          have h2 := HB.out
          subst h1
          exact Js.q_u _ p HQ1.out h2.symm
        go_wp2_with fail
        apply wp_goto
        refine And.intro (And.intro rfl ?_) ?_
        · exact ⟨q, _, rfl, frQu_is rfl, H34.out, .inr (.inr (.inr ⟨rfl, HS.out⟩))⟩
        · show 2 * (s.size - (intOf (Value.int .i64 _)).toNat) + _ < 2 * (s.size - (intOf (Value.int .i64 _)).toNat) + _
          have := HQE.out
          simp [intOf]
          all_goals omega
      · have e34 : ((b : Int) == 34) = false := by rw [beq_eq_false_iff_ne]; omega
        have e92 : ((b : Int) == 92) = false := by rw [beq_eq_false_iff_ne]; omega
        have e47 : ((b : Int) == 47) = false := by rw [beq_eq_false_iff_ne]; omega
        have e98 : ((b : Int) == 98) = false := by rw [beq_eq_false_iff_ne]; omega
        have e102 : ((b : Int) == 102) = false := by rw [beq_eq_false_iff_ne]; omega
        have e110 : ((b : Int) == 110) = false := by rw [beq_eq_false_iff_ne]; omega
        have e114 : ((b : Int) == 114) = false := by rw [beq_eq_false_iff_ne]; omega
        have e116 : ((b : Int) == 116) = false := by rw [beq_eq_false_iff_ne]; omega
        have e117 : ((b : Int) == 117) = false := by rw [beq_eq_false_iff_ne]; omega
        have HNS : Hid (Js.isS b = false ∧ b ≠ 117) := by
          refine ⟨?_, h117⟩
          unfold Js.isS
          simp only [Bool.or_eq_false_iff, beq_eq_false_iff_ne]
          exact ⟨⟨⟨⟨⟨⟨⟨h34, h92⟩, h47⟩, h98⟩, h102⟩, h110⟩, h114⟩, h116⟩
        clear h34 h92 h47 h98 h102 h110 h114 h116 h117
        go_wp2_with fail
        refine jump_ret ?_
        go_ret2
        refine ⟨.inr ⟨q, rfl, hqs, fun h => absurd H34.out h, fun _ => ?_⟩, rfl⟩
        have h1 := HQE.out
        have h2 := HB.out
        have h3 := HNS.out
        rw [h2] at h3
        subst h1
        exact Js.q_nosign _ p HQ1.out h3.1 h3.2
    · refine ⟨_, rfl, ?_⟩
      have hps : p ≤ s.size := hq.1
      have HQ2 := hidden hq
      have hqs := hps
      clear hq
      go_wp2_with fail
      refine (sFirst_at s p _).mono ?_
      rintro e w1 ⟨rfl, hw⟩
      have hw := hw.symm
      subst hw
      obtain ⟨b, hb⟩ : ∃ b, b = Js.bt s.data.toList p := ⟨_, rfl⟩
      rw [← hb]
      have HB := hidden hb
      clear hb
      by_cases h34 : b = 34
      · subst h34
        have HC := hidden (Js.q_close _ HAL.out p HQ2.out HB.out.symm)
        have hlt := bt_within s p (by have := HB.out; omega)
        obtain ⟨t, ht⟩ : ∃ t, t = p + 1 := ⟨_, rfl⟩
        have ht2 : (p : Int) + 1 = (t : Int) := by omega
        have HT := hidden ht
        clear ht
        go_wp2_with fail
        refine jump_ret ?_
        go_ret2
        have h1 := HT.out
        subst h1
        exact ⟨.inl ⟨p + 1, rfl, HC.out.1, by omega, by rw [Nat.add_sub_cancel, ← HB.out]; decide, H34.out, HC.out.2⟩, rfl⟩
      by_cases h92 : b = 92
      · subst h92
        have hlt := bt_within s p (by have := HB.out; omega)
        go_wp2_with fail
        apply wp_goto
        refine And.intro (And.intro rfl ?_) ?_
        · exact ⟨p, _, rfl, frQu_is rfl, H34.out, .inr (.inl ⟨rfl, Js.q_back _ HAL.out p HQ2.out HB.out.symm⟩)⟩
        · show 2 * (s.size - (intOf (Value.int .i64 _)).toNat) + _ < 2 * (s.size - (intOf (Value.int .i64 _)).toNat) + _
          skip
          simp [intOf]
          all_goals omega
      have e34 : ((b : Int) == 34) = false := by rw [beq_eq_false_iff_ne]; omega
      have e92 : ((b : Int) == 92) = false := by rw [beq_eq_false_iff_ne]; omega
      have HN : Hid (b ≠ 34 ∧ b ≠ 92) := hidden ⟨h34, h92⟩
      clear h34 h92
      by_cases hlow : b < 32
      · have e32 : decide ((b : Int) < 32) = true := decide_eq_true (by omega)
        have HLW := hidden hlow
        clear hlow
        go_wp2_with fail
        refine jump_ret ?_
        go_ret2
        exact ⟨.inr ⟨p, rfl, hqs, fun h => absurd H34.out h, fun _ => Js.q_low _ HAL.out p HQ2.out (by rw [← HB.out]; exact HLW.out)⟩, rfl⟩
      · have e32 : decide ((b : Int) < 32) = false := decide_eq_false (by omega)
        have HLW := hidden hlow
        have hlt := bt_within s p (by have := HB.out; omega)
        clear hlow
        go_wp2_with fail
        have HTH : Hid (Js.Q0 s.data.toList p) := Js.q_through _ HAL.out p HQ2.out (by rw [← HB.out]; have := HLW.out; omega) (by rw [← HB.out]; exact HN.out.1) (by rw [← HB.out]; exact HN.out.2)
        apply wp_goto
        refine And.intro (And.intro rfl ?_) ?_
        · exact ⟨p, _, rfl, frQu_is rfl, H34.out, .inl ⟨rfl, HTH.out⟩⟩
        · show 2 * (s.size - (intOf (Value.int .i64 _)).toNat) + _ < 2 * (s.size - (intOf (Value.int .i64 _)).toNat) + _
          skip
          simp [intOf]
          all_goals omega
    · refine ⟨_, rfl, ?_⟩
      have hps : p < s.size := hq.1
      have HQP := hidden hq
      clear hq
      obtain ⟨q, hq⟩ : ∃ q, q = p + 1 := ⟨_, rfl⟩
      have hq2 : (p : Int) + 1 = (q : Int) := by omega
      have hqs : q ≤ s.size := by omega
      have HQ3 := HQP
      have HQE := hidden hq
      clear hq HQP
      go_wp2_with fail
      refine (sHexes_at s q _ hqs).mono ?_
      rintro e w1 ⟨⟨n, rfl, hn, hn4, hnd, hall⟩, hw⟩
      have hw := hw.symm
      subst hw
      have HND := hidden hnd
      have HALL := hidden hall
      clear hnd hall
      obtain ⟨t, ht⟩ : ∃ t, t = q + n := ⟨_, rfl⟩
      have ht2 : (q : Int) + (n : Int) = (t : Int) := by omega
      have hts : t ≤ s.size := by omega
      have HT := hidden ht
      clear ht
      by_cases h4 : n = 4
      · have e4 : ((n : Int) == 4) = true := by rw [h4]; rfl
        have e4n : (n == 4) = true := by rw [h4]; rfl
        have H4 := hidden h4
        have HS : Hid (Js.Q2 s.data.toList t) := by
          have h1 := HQE.out
          have h2 := HT.out
          have h3 := HALL.out
          rw [h4] at h2 h3
          rw [h1] at h2 h3
          rw [h2]
          exact Js.q_unit _ HAL.out p HQ3.out h3
        clear h4
        go_wp2_with fail
        apply wp_goto
        refine And.intro (And.intro rfl ?_) ?_
        · exact ⟨t, _, rfl, frQu_is rfl, H34.out, .inr (.inr (.inl ⟨rfl, HS.out⟩))⟩
        · show 2 * (s.size - (intOf (Value.int .i64 _)).toNat) + _ < 2 * (s.size - (intOf (Value.int .i64 _)).toNat) + _
          have := HQE.out; have := HT.out
          simp [intOf]
          all_goals omega
      · have e4 : ((n : Int) == 4) = false := by rw [beq_eq_false_iff_ne]; omega
        have e4n : (n == 4) = false := by rw [beq_eq_false_iff_ne]; exact h4
        have H4 := hidden h4
        clear h4
        go_wp2_with fail
        refine jump_ret ?_
        go_ret2
        refine ⟨.inr ⟨t, rfl, hts, fun h => absurd H34.out h, fun _ => ?_⟩, rfl⟩
        have h1 := HQE.out
        have h2 := HT.out
        have h3 := HALL.out
        have h4 := H4.out
        have h5 := HND.out (by omega)
        rw [h1] at h2 h3 h5
        rw [h2]
        exact Js.q_nounit _ p n (by omega) (by rw [HLEN.out]; omega) HQ3.out h3 h5
namespace Js
theorem bt_cons (a : UInt8) (ws : List UInt8) (m : Nat) : bt (a :: ws) (m + 1) = (ws.getD m 0).toNat := rfl
theorem word_one (l : List UInt8) (a : UInt8) (ws : List UInt8) (hws : 0 < ws.length) (hstep : ∀ st d, step (cV st d) a.toNat = some (cW ws st d)) (h0 : bt l 0 = a.toNat) (ha : a.toNat ≠ 0) (hall128 : ∀ j, bt (a :: ws) j < 128) (n : Nat) (hl : n ≤ l.length) (hn : n ≤ ws.length + 1) (hno : n < ws.length + 1 → n < l.length → bt l n ≠ bt (a :: ws) n) (hall : ∀ j, j < n → bt l j = bt (a :: ws) j) :
    (n = ws.length + 1 ∧ 0 < n ∧ bt l (n - 1) < 128 ∧ ∀ st d, T l (cV st d) 0 = T l (cE st d) n) ∨ (n ≠ ws.length + 1 ∧ ∀ st d, T l (cV st d) 0 = (none, n)) := by
  have hl0 : 0 < l.length := bt_in l 0 (by omega)
  have hn0 : 0 < n := by
    rcases Nat.eq_zero_or_pos n with rfl | h
    · exact absurd h0 (hno (by omega) hl0)
    · exact h
  have step : ∀ m st d, m + 1 ≤ n → m < ws.length → T l (cV st d) 0 = T l (cW (ws.drop m) st d) (m + 1) := by
    intro m st d
    induction m with
    | zero => exact fun _ _ => T_go l _ _ 0 (by rw [h0]; exact ha) (by rw [h0]; exact hstep st d)
    | succ m ih =>
      intro h1 h2
      have hi : m + 1 < l.length := by omega
      rw [ih (by omega) (by omega)]
      exact T_word l ws st d (m + 1) m h2 hi (by rw [← bt_at l (m + 1) hi, hall (m + 1) h1, bt_cons])
  by_cases h : n = ws.length + 1
  · refine .inl ⟨h, hn0, by rw [hall (n - 1) (by omega)]; exact hall128 _, fun st d => ?_⟩
    have hi : ws.length < l.length := by omega
    have h1 := step (ws.length - 1) st d (by omega) (by omega)
    rw [show ws.length - 1 + 1 = ws.length by omega] at h1
    rw [h1, h]
    exact T_word_last l ws st d ws.length (ws.length - 1) (by omega) hi (by rw [← bt_at l _ hi, hall ws.length (by omega), show ws.length = (ws.length - 1) + 1 by omega, bt_cons]; rfl)
  · refine .inr ⟨h, fun st d => ?_⟩
    obtain ⟨m, rfl⟩ : ∃ m, n = m + 1 := ⟨n - 1, by omega⟩
    have h1 := step m st d (Nat.le_refl _) (by omega)
    rw [h1]
    refine T_word_no l ws st d (m + 1) m (by omega) (fun hi => ?_) hl
    have h2 := hno (by omega) hi
    rw [bt_at l _ hi, bt_cons] at h2
    exact h2
theorem all128 (W : List UInt8) (h : ∀ x ∈ W, x.toNat < 128) (j : Nat) : bt W j < 128 := by
  rcases Nat.lt_or_ge j W.length with h1 | h1
  · rw [bt_at W j h1]
    exact h _ (List.getElem_mem h1)
  · rw [bt_past W j h1]
    decide
end Js
theorem one_word (s t : ByteArray) (a : UInt8) (ws : List UInt8) (ht : t.data.toList = a :: ws) (hws : 0 < ws.length) (hstep : ∀ st d, Js.step (Js.cV st d) a.toNat = some (Js.cW ws st d)) (h0 : Js.bt s.data.toList 0 = a.toNat) (ha : a.toNat ≠ 0) (hall128 : ∀ j, Js.bt (a :: ws) j < 128) (w : World) (hs : s.size ≤ 1000000) :
    Calls Tryz.prog 174 #[.string s, .string t] w fun e w' => OnePost s.data.toList e ∧ Below w.heap.size w w' := by
  have hts : t.size = ws.length + 1 := by rw [show t.size = t.data.toList.length from rfl, ht]; rfl
  refine (sLiteral_any s t w hs).mono ?_
  rintro e w' ⟨⟨n, rfl, h1, h2, h3, h4⟩, hb⟩
  rw [ht] at h3 h4
  rw [hts] at h2 h3
  refine ⟨?_, hb⟩
  rcases Js.word_one s.data.toList a ws hws hstep h0 ha hall128 n h1 h2 h3 h4 with ⟨h5, h6, h7, h8⟩ | ⟨h5, h6⟩
  · exact .inl ⟨n, by rw [hts, show (n == ws.length + 1) = true by rw [h5]; exact beq_self_eq_true _], h1, h6, h7, h8⟩
  · exact .inr ⟨n, by rw [hts, show (n == ws.length + 1) = false by rw [beq_eq_false_iff_ne]; exact h5], h1, h6⟩
set_option maxHeartbeats 1000000 in
theorem sSingle_any (s : ByteArray) (w : World) (hs : s.size ≤ 1000000) (hal : Js.Al s.data.toList) (hB : Js.isB (Js.bt s.data.toList 0) = false) (h91 : Js.bt s.data.toList 0 ≠ 91) (h123 : Js.bt s.data.toList 0 ≠ 123) :
    Calls Tryz.prog 151 #[.string s] w fun e w' => OnePost s.data.toList e ∧ Below w.heap.size w w' := by
  obtain ⟨b, hb⟩ : ∃ b, b = Js.bt s.data.toList 0 := ⟨_, rfl⟩
  rw [← hb] at hB h91 h123
  have HB := hidden hb
  have HAL := hidden hal
  have HF : Hid (∀ w, Calls Tryz.prog 150 #[.string s] w fun e w' => e = .returned (.int .u8 ((b : Nat) : Int)) ∧ w' = w) := fun w => by
    have := sFirst_any s w
    rw [← hb] at this
    exact this
  clear hb hal
  by_cases h110 : b = 110
  · subst h110
    have HW := hidden (fun w => one_word s ⟨#[110, 117, 108, 108]⟩ 110 [117, 108, 108] rfl (by decide) (fun st d => rfl) HB.out.symm (by decide) (Js.all128 _ (by decide)) w hs)
    clear hB h91 h123
    go_enter Tryz.func151, Tryz.ntmps151
    go_wp2_with fail
    refine (HF.out _).mono ?_
    rintro e w1 ⟨rfl, hw⟩
    have hw := hw.symm
    subst hw
    go_wp2_with fail
    refine (HW.out _).mono ?_
    rintro e w2 ⟨hp, hbel⟩
    have HP := hidden hp
    have HBL := hidden hbel
    clear hp hbel
    rcases HP.out with ⟨n, rfl, h1⟩ | ⟨n, rfl, h1⟩
    · have H1 := hidden h1
      clear h1 HP
      go_wp2_with fail
      go_ret2
      exact ⟨.inl ⟨n, rfl, H1.out⟩, HBL.out⟩
    · have H1 := hidden h1
      clear h1 HP
      go_wp2_with fail
      go_ret2
      exact ⟨.inr ⟨n, rfl, H1.out⟩, HBL.out⟩
  by_cases h116 : b = 116
  · subst h116
    have HW := hidden (fun w => one_word s ⟨#[116, 114, 117, 101]⟩ 116 [114, 117, 101] rfl (by decide) (fun st d => rfl) HB.out.symm (by decide) (Js.all128 _ (by decide)) w hs)
    clear hB h91 h123
    go_enter Tryz.func151, Tryz.ntmps151
    go_wp2_with fail
    refine (HF.out _).mono ?_
    rintro e w1 ⟨rfl, hw⟩
    have hw := hw.symm
    subst hw
    go_wp2_with fail
    refine (HW.out _).mono ?_
    rintro e w2 ⟨hp, hbel⟩
    have HP := hidden hp
    have HBL := hidden hbel
    clear hp hbel
    rcases HP.out with ⟨n, rfl, h1⟩ | ⟨n, rfl, h1⟩
    · have H1 := hidden h1
      clear h1 HP
      go_wp2_with fail
      go_ret2
      exact ⟨.inl ⟨n, rfl, H1.out⟩, HBL.out⟩
    · have H1 := hidden h1
      clear h1 HP
      go_wp2_with fail
      go_ret2
      exact ⟨.inr ⟨n, rfl, H1.out⟩, HBL.out⟩
  by_cases h102 : b = 102
  · subst h102
    have HW := hidden (fun w => one_word s ⟨#[102, 97, 108, 115, 101]⟩ 102 [97, 108, 115, 101] rfl (by decide) (fun st d => rfl) HB.out.symm (by decide) (Js.all128 _ (by decide)) w hs)
    clear hB h91 h123
    go_enter Tryz.func151, Tryz.ntmps151
    go_wp2_with fail
    refine (HF.out _).mono ?_
    rintro e w1 ⟨rfl, hw⟩
    have hw := hw.symm
    subst hw
    go_wp2_with fail
    refine (HW.out _).mono ?_
    rintro e w2 ⟨hp, hbel⟩
    have HP := hidden hp
    have HBL := hidden hbel
    clear hp hbel
    rcases HP.out with ⟨n, rfl, h1⟩ | ⟨n, rfl, h1⟩
    · have H1 := hidden h1
      clear h1 HP
      go_wp2_with fail
      go_ret2
      exact ⟨.inl ⟨n, rfl, H1.out⟩, HBL.out⟩
    · have H1 := hidden h1
      clear h1 HP
      go_wp2_with fail
      go_ret2
      exact ⟨.inr ⟨n, rfl, H1.out⟩, HBL.out⟩
  by_cases h34 : b = 34
  · subst h34
    have HQ := hidden (fun w => sQuoted_any s w hs HAL.out)
    clear hB h91 h123
    go_enter Tryz.func151, Tryz.ntmps151
    go_wp2_with fail
    refine (HF.out _).mono ?_
    rintro e w1 ⟨rfl, hw⟩
    have hw := hw.symm
    subst hw
    go_wp2_with fail
    refine (HQ.out _).mono ?_
    rintro e w2 ⟨hp, hw⟩
    have hw := hw.symm
    subst hw
    have hst : ∀ st d, Js.T s.data.toList (Js.cV st d) 0 = Js.T s.data.toList (Js.cS 0 false st d) 1 := fun st d => Js.T_go _ _ _ 0 (by rw [← HB.out]; decide) (by rw [← HB.out]; rfl)
    have HST := hidden hst
    clear hst
    rcases hp with ⟨n, rfl, h1, h2, h3, _, h5⟩ | ⟨n, rfl, h1, _, h5⟩
    · have H5 := hidden h5
      have HH := hidden (And.intro h1 (And.intro h2 h3))
      clear h1 h2 h3 h5
      go_wp2_with fail
      go_ret2
      exact ⟨.inl ⟨n, rfl, HH.out.1, HH.out.2.1, HH.out.2.2, fun st d => (HST.out st d).trans (H5.out false st d)⟩, Below.refl _ _⟩
    · have H5 := hidden (h5 HB.out.symm)
      have H1 := hidden h1
      clear h1 h5
      go_wp2_with fail
      go_ret2
      exact ⟨.inr ⟨n, rfl, H1.out, fun st d => (HST.out st d).trans (H5.out false st d)⟩, Below.refl _ _⟩
  · have hp : Js.plain b := ⟨hB, h34, h91, h123, h110, h116, h102⟩
    have HN := hidden (fun w => sNumber_any s w hs (by rw [← HB.out]; exact hp))
    have e110 : ((b : Int) == 110) = false := by rw [beq_eq_false_iff_ne]; omega
    have e116 : ((b : Int) == 116) = false := by rw [beq_eq_false_iff_ne]; omega
    have e102 : ((b : Int) == 102) = false := by rw [beq_eq_false_iff_ne]; omega
    have e34 : ((b : Int) == 34) = false := by rw [beq_eq_false_iff_ne]; omega
    clear hp hB h91 h123 h110 h116 h102 h34
    go_enter Tryz.func151, Tryz.ntmps151
    go_wp2_with fail
    refine (HF.out _).mono ?_
    rintro e w1 ⟨rfl, hw⟩
    have hw := hw.symm
    subst hw
    go_wp2_with fail
    refine (HN.out _).mono ?_
    rintro e w2 ⟨hp, hw⟩
    have hw := hw.symm
    subst hw
    rcases hp with ⟨n, rfl, h1⟩ | ⟨n, rfl, h1⟩
    · have H1 := hidden h1
      clear h1
      go_wp2_with fail
      go_ret2
      exact ⟨.inl ⟨n, rfl, H1.out⟩, Below.refl _ _⟩
    · have H1 := hidden h1
      clear h1
      go_wp2_with fail
      go_ret2
      exact ⟨.inr ⟨n, rfl, H1.out⟩, Below.refl _ _⟩
end Go.Proofs.YtoipliflphbeiaaGreatDoor
namespace Go.Proofs.YtoipliflphbeiaaGreatDoor
open Go.RowKit
namespace Js
/-- The last word x has the brackets down to the last full word; bl are the words that were laid away. -/
def St : List Bool → Nat → List Nat → Prop
  | [], _, bl => bl = []
  | c :: st, x, bl => x % 2 = c.toNat ∧ (if st.length % 64 = 0 then ∃ y l, bl = y :: l ∧ St st y l else St st (x / 2) bl)
theorem St_low (st : List Bool) : ∀ (x y : Nat) (bl : List Nat), st.length % 64 ≠ 0 → x % 2 ^ (st.length % 64) = y % 2 ^ (st.length % 64) → St st x bl → St st y bl := by
  induction st with
  | nil => intro x y bl h; exact absurd rfl h
  | cons c t ih =>
    intro x y bl h0 he hs
    have hl : (c :: t).length = t.length + 1 := rfl
    rw [hl] at h0 he
    obtain ⟨r, hr⟩ : ∃ r, (t.length + 1) % 64 = r + 1 := ⟨(t.length + 1) % 64 - 1, by omega⟩
    rw [hr, Nat.pow_succ, Nat.mul_comm] at he
    have h2 : x % 2 = y % 2 := by
      have a1 : x % (2 * 2 ^ r) % 2 = x % 2 := Nat.mod_mul_right_mod x 2 (2 ^ r)
      have a2 : y % (2 * 2 ^ r) % 2 = y % 2 := Nat.mod_mul_right_mod y 2 (2 ^ r)
      rw [← a1, ← a2, he]
    refine ⟨by rw [← h2]; exact hs.1, ?_⟩
    have hs2 := hs.2
    by_cases h64 : t.length % 64 = 0
    · rw [if_pos h64] at hs2 ⊢
      exact hs2
    · rw [if_neg h64] at hs2 ⊢
      have hr2 : t.length % 64 = r := by omega
      refine ih (x / 2) (y / 2) bl h64 ?_ hs2
      rw [hr2]
      have a1 : x % (2 * 2 ^ r) / 2 = x / 2 % 2 ^ r := Nat.mod_mul_right_div_self x 2 (2 ^ r)
      have a2 : y % (2 * 2 ^ r) / 2 = y / 2 % 2 ^ r := Nat.mod_mul_right_div_self y 2 (2 ^ r)
      rw [← a1, ← a2, he]
/-- As many words at most as brackets. -/
theorem St_few (st : List Bool) : ∀ (x : Nat) (bl : List Nat), St st x bl → bl.length ≤ st.length := by
  induction st with
  | nil => intro x bl h; rw [show bl = [] from h]; exact Nat.le_refl _
  | cons c t ih =>
    intro x bl h
    have h2 := h.2
    by_cases h64 : t.length % 64 = 0
    · rw [if_pos h64] at h2
      obtain ⟨y, l, rfl, h3⟩ := h2
      exact Nat.succ_le_succ (ih y l h3)
    · rw [if_neg h64] at h2
      exact Nat.le_succ_of_le (ih _ bl h2)
def pu (x : Nat) (c : Bool) : Nat := (2 * x + c.toNat) % 18446744073709551616
theorem pu_lt (x : Nat) (c : Bool) : pu x c < 18446744073709551616 := Nat.mod_lt _ (by decide)
theorem toNat_le (c : Bool) : c.toNat ≤ 1 := by cases c <;> decide
theorem pu_low (x : Nat) (c : Bool) : pu x c % 2 = c.toNat := by
  have := toNat_le c
  unfold pu
  omega
theorem pu_half (x : Nat) (c : Bool) : pu x c / 2 = x % 9223372036854775808 := by
  have := toNat_le c
  unfold pu
  omega
theorem St_push_full (st : List Bool) (x : Nat) (bl : List Nat) (c : Bool) (h : st.length % 64 = 0) (hs : St st x bl) : St (c :: st) (pu x c) (x :: bl) :=
  ⟨pu_low x c, by rw [if_pos h]; exact ⟨x, bl, rfl, hs⟩⟩
theorem St_push (st : List Bool) (x : Nat) (bl : List Nat) (c : Bool) (h : st.length % 64 ≠ 0) (hs : St st x bl) : St (c :: st) (pu x c) bl := by
  refine ⟨pu_low x c, ?_⟩
  rw [if_neg h, pu_half]
  refine St_low st x _ bl h ?_ hs
  have hr : st.length % 64 ≤ 63 := by omega
  have hd : 2 ^ (st.length % 64) ∣ 9223372036854775808 := by
    rw [show (9223372036854775808 : Nat) = 2 ^ 63 by decide]
    exact Nat.pow_dvd_pow 2 hr
  exact (Nat.mod_mod_of_dvd x hd).symm
theorem or_push0 (x : Nat) (_h : x < 18446744073709551616) : bits .or .u64 (IntKind.u64.wrap ((x : Int) * 2)) 0 = ((pu x false : Nat) : Int) := by
  have e : IntKind.u64.wrap ((x : Int) * 2) = ((pu x false : Nat) : Int) := by
    rw [IntKind.wrap_u64]
    unfold pu
    show _ = (((2 * x + 0) % 18446744073709551616 : Nat) : Int)
    omega
  rw [e]
  have e2 := bits_or_u64_nat (pu x false) 0 (pu_lt x false) (by decide)
  rw [Nat.or_zero] at e2
  exact e2
theorem or_push1 (x : Nat) (_h : x < 18446744073709551616) : bits .or .u64 (IntKind.u64.wrap ((x : Int) * 2)) 1 = ((pu x true : Nat) : Int) := by
  have e : IntKind.u64.wrap ((x : Int) * 2) = ((pu x false : Nat) : Int) := by
    rw [IntKind.wrap_u64]
    unfold pu
    show _ = (((2 * x + 0) % 18446744073709551616 : Nat) : Int)
    omega
  rw [e]
  have e2 := bits_or_u64_nat (pu x false) 1 (pu_lt x false) (by decide)
  rw [show pu x false ||| 1 = pu x true from ?_] at e2
  · exact e2
  · obtain ⟨y, hy⟩ : ∃ y, pu x false = 2 * y := ⟨x % 9223372036854775808, by unfold pu; show (2 * x + 0) % _ = _; omega⟩
    have hy2 : pu x true = 2 * y + 1 := by
      unfold pu at hy ⊢
      have h1 : (2 * x + 0) % 18446744073709551616 = 2 * y := hy
      show (2 * x + 1) % _ = _
      omega
    rw [hy, hy2]
    have := Nat.two_pow_add_eq_or_of_lt (i := 1) (b := 1) (by decide) y
    rw [Nat.pow_one] at this
    exact this.symm
theorem and_top (y : Nat) (h : y < 18446744073709551616) : bits .and .u64 (y : Int) 1 = ((y % 2 : Nat) : Int) := by
  have e := bits_and_u64_nat y 1 h (by omega)
  rw [Nat.and_one_is_mod] at e
  exact e
/-- The words that were laid away, the first one first. -/
def aw (bl : List Nat) : List Value := bl.reverse.map fun y => .int .u64 (y : Nat)
theorem aw_cons (y : Nat) (bl : List Nat) : aw (y :: bl) = aw bl ++ [.int .u64 (y : Nat)] := by
  unfold aw
  rw [List.reverse_cons, List.map_append]
  rfl
theorem aw_len (bl : List Nat) : (aw bl).length = bl.length := by
  unfold aw
  rw [List.length_map, List.length_reverse]
end Js
theorem Tryz.infoU64s : (Tryz.prog.info? 64).map (fun i => (i.zero, i.size, i.bytes)) = some (some (.int .u64 0), 1, 8) := by kernel_rfl
/-- The stack in block b: all its blocks from block B on. -/
structure Sk (w : World) (B b : Nat) (v : Value) (st : List Bool) (x : Nat) (bl : List Nat) (D : Nat) : Prop where
  base : B ≤ b
  lt : x < 18446744073709551616
  all : ∀ y ∈ bl, y < 18446744073709551616
  few : bl.length ≤ st.length
  said : Js.St st x bl
  cells : w.heap[b]? = some (.cells #[v, .int .u64 (x : Nat), .int .i64 (st.length : Nat), .int .i64 (D : Nat)] 192 (0, 0))
  own : w.ownsRow B 64 1 v bl.length (Js.aw bl)
/-- A stack somewhere. -/
def Stk (w : World) (B b : Nat) (st : List Bool) (D : Nat) : Prop := ∃ v x bl, Sk w B b v st x bl D
theorem sk_same {w : World} {b j : Nat} {u : Value} {cur : Array Value} {e : TypeId} {fr : Nat × Nat} (h : w.heap[b]? = some (.cells cur e fr)) : (w.setCell ⟨b, j, none⟩ u).heap[b]? = some (.cells (cur.setIfInBounds j u) e fr) := by
  simp [World.setCell, Array.getElem?_modify, h]
theorem sk_ne {w : World} {B b : Nat} {v : Value} {n : Nat} {xs : List Value} {cs : Array Value} (hown : w.ownsRow B 64 1 v n xs) (hb : w.heap[b]? = some (.cells cs 192 (0, 0))) : v.ownBlock ≠ some b := by
  rcases hown.2 with ⟨rfl, _⟩ | ⟨g, cap, cur, rfl, _, hg, _⟩
  · simp [Value.ownBlock]
  · intro h
    simp only [Value.ownBlock, Option.some.injEq] at h
    subst h
    rw [hg] at hb
    simp only [Option.some.injEq, Obj.cells.injEq] at hb
    exact absurd hb.2.1 (by decide)
theorem drew_below {B : Nat} {a w : World} (h : Below B a w) : Below B a w.drew := ⟨h.os, h.tape, h.output, h.size, h.block⟩
/-- The last word, the size and the depth are written. -/
theorem Sk.in {w : World} {B b : Nat} {v : Value} {st : List Bool} {x : Nat} {bl : List Nat} {D : Nat} (h : Sk w B b v st x bl D) (c : Bool) (h64 : st.length % 64 ≠ 0) {X n d : Int} (hX : X = ((Js.pu x c : Nat) : Int)) (hn : n = ((st.length + 1 : Nat) : Int)) (hd : d = ((max D (st.length + 1) : Nat) : Int)) :
    Stk (((w.setCell ⟨b, 1, none⟩ (.int .u64 X)).setCell ⟨b, 2, none⟩ (.int .i64 n)).setCell ⟨b, 3, none⟩ (.int .i64 d)).drew B b (c :: st) (max D (st.length + 1)) ∧ Below B w (((w.setCell ⟨b, 1, none⟩ (.int .u64 X)).setCell ⟨b, 2, none⟩ (.int .i64 n)).setCell ⟨b, 3, none⟩ (.int .i64 d)).drew := by
  subst hX hn hd
  have hne := sk_ne h.own h.cells
  refine ⟨⟨v, Js.pu x c, bl, h.base, Js.pu_lt x c, h.all, by have := h.few; show _ ≤ st.length + 1; omega, Js.St_push st x bl c h64 h.said, ?_, ?_⟩, ?_⟩
  · exact sk_same (sk_same (sk_same h.cells))
  · exact ownsRow_setCell_other (ownsRow_setCell_other (ownsRow_setCell_other h.own hne _) hne _) hne _
  · exact drew_below ((((Below.refl B w).setCell (p := ⟨b, 1, none⟩) h.base _).setCell (p := ⟨b, 2, none⟩) h.base _).setCell (p := ⟨b, 3, none⟩) h.base _)
/-- A word more was laid away ahead. -/
theorem Sk.out {w W1 : World} {B b : Nat} {v v' : Value} {st : List Bool} {x : Nat} {bl : List Nat} {D : Nat} (h : Sk w B b v st x bl D) (c : Bool) (h64 : st.length % 64 = 0) (hb : Below B w W1) {N m : Nat} {xs : List Value} (hN : N = st.length) (hm : m = bl.length) (hxs : xs = Js.aw bl) (hcb : W1.heap[b]? = some (.cells #[v, .int .u64 (x : Nat), .int .i64 (N : Nat), .int .i64 (D : Nat)] 192 (0, 0)))
    (hown : W1.ownsRow B 64 1 v' (m + 1) (xs ++ [.int .u64 (x : Nat)])) {X n d : Int} (hX : X = ((Js.pu x c : Nat) : Int)) (hn : n = ((st.length + 1 : Nat) : Int)) (hd : d = ((max D (st.length + 1) : Nat) : Int)) :
    Stk ((((W1.setCell ⟨b, 0, none⟩ v').setCell ⟨b, 1, none⟩ (.int .u64 X)).setCell ⟨b, 2, none⟩ (.int .i64 n)).setCell ⟨b, 3, none⟩ (.int .i64 d)) B b (c :: st) (max D (st.length + 1)) ∧ Below B w ((((W1.setCell ⟨b, 0, none⟩ v').setCell ⟨b, 1, none⟩ (.int .u64 X)).setCell ⟨b, 2, none⟩ (.int .i64 n)).setCell ⟨b, 3, none⟩ (.int .i64 d)) := by
  subst hX hn hd hN hm hxs
  have hne := sk_ne hown hcb
  refine ⟨⟨v', Js.pu x c, x :: bl, h.base, Js.pu_lt x c, ?_, by have := h.few; show _ + 1 ≤ st.length + 1; omega, Js.St_push_full st x bl c h64 h.said, ?_, ?_⟩, ?_⟩
  · intro y hy
    rcases List.mem_cons.1 hy with rfl | hy
    · exact h.lt
    · exact h.all y hy
  · exact sk_same (sk_same (sk_same (sk_same hcb)))
  · rw [Js.aw_cons]
    exact ownsRow_setCell_other (ownsRow_setCell_other (ownsRow_setCell_other (ownsRow_setCell_other hown hne _) hne _) hne _) hne _
  · exact ((((hb.setCell (p := ⟨b, 0, none⟩) h.base _).setCell (p := ⟨b, 1, none⟩) h.base _).setCell (p := ⟨b, 2, none⟩) h.base _).setCell (p := ⟨b, 3, none⟩) h.base _)
theorem stk_drew {w w' : World} {B b : Nat} {st : List Bool} {D : Nat} (h : Stk w' B b st D ∧ Below B w w') : Stk w'.drew B b st D ∧ Below B w w'.drew := by
  obtain ⟨⟨v, x, bl, hk⟩, hb⟩ := h
  exact ⟨⟨v, x, bl, hk.base, hk.lt, hk.all, hk.few, hk.said, hk.cells, hk.own⟩, drew_below hb⟩
theorem below_alloc_grown {w w1 : World} {B : Nat} {v : Value} {n : Nat} {xs : List Value} {o : Obj} (hB : B ≤ w.heap.size) (hown : w.ownsRow B 64 1 v n xs) (h : (w.alloc o).grownBy w1 v.ownBlock) : Below B w w1 := by
  have h1 := (Below.refl B w).alloc hB o
  refine ⟨h.os.trans h1.os, h.tape.trans h1.tape, h.output.trans h1.output, Nat.le_trans h1.size h.size, fun i hi => ?_⟩
  have h2 := h1.size
  rw [h.block i (by omega) ?_]
  · exact h1.block i hi
  · intro e
    have := hown.lt i e.symm
    omega
theorem below_alloc_grown2 {w w1 : World} {B : Nat} {v : Value} {n : Nat} {xs : List Value} {o : Obj} (hB : B ≤ w.heap.size) (hown : w.ownsRow B 64 1 v n xs) (h : (w.alloc o).drew.grownBy w1 v.ownBlock) : Below B w w1 := by
  have h1 := (Below.refl B w).alloc hB o
  refine ⟨h.os.trans h1.os, h.tape.trans h1.tape, h.output.trans h1.output, Nat.le_trans h1.size h.size, fun i hi => ?_⟩
  have h2 := h1.size
  have h3 : (w.alloc o).drew.heap.size = (w.alloc o).heap.size := rfl
  rw [h.block i (by omega) ?_]
  · exact h1.block i hi
  · intro e
    have := hown.lt i e.symm
    omega
set_option maxHeartbeats 2000000 in
theorem sPush_in (c : Bool) (z : Int) (w : World) (B b : Nat) (v : Value) (st : List Bool) (x : Nat) (bl : List Nat) (D : Nat) (h : Sk w B b v st x bl D) (h64 : st.length % 64 ≠ 0) (hst : st.length ≤ 1000000) (hor : bits .or .u64 (IntKind.u64.wrap ((x : Int) * 2)) z = ((Js.pu x c : Nat) : Int)) :
    Calls Tryz.prog 152 #[.pointer (some ⟨b, 0, none⟩), .int .u64 z] w fun e w' => e = .returned (.tuple #[]) ∧ Stk w' B b (c :: st) (max D (st.length + 1)) ∧ Below B w w' := by
  have HH := hidden h
  have HOR := hidden hor
  have H64 := hidden h64
  obtain ⟨n, hn⟩ : ∃ n, n = st.length := ⟨_, rfl⟩
  have hc := h.cells
  rw [← hn] at hc hst h64
  have HN := hidden hn
  clear hor h hn
  have c0 : w.cell? ⟨b, 0, none⟩ = some v := Lib.cell_of_heap hc 0
  have c1 : w.cell? ⟨b, 1, none⟩ = some (.int .u64 (x : Nat)) := Lib.cell_of_heap hc 1
  have c2 : w.cell? ⟨b, 2, none⟩ = some (.int .i64 (n : Nat)) := Lib.cell_of_heap hc 2
  have c3 : w.cell? ⟨b, 3, none⟩ = some (.int .i64 (D : Nat)) := Lib.cell_of_heap hc 3
  have f0 := Lib.frozen_of_heap hc 0
  have f1 := Lib.frozen_of_heap hc 1
  have f2 := Lib.frozen_of_heap hc 2
  have f3 := Lib.frozen_of_heap hc 3
  have hz : ((n : Int) % 64 == 0) = false := by rw [beq_eq_false_iff_ne]; omega
  clear h64
  go_enter Tryz.func152, Tryz.ntmps152
  go_wp2_with fail
  go_region
  go_wp2
  all_goals go_end0
  all_goals refine ⟨rfl, ?_⟩
  all_goals have h1 := HN.out
  all_goals exact HH.out.in c H64.out HOR.out (by omega) (by omega)
set_option maxHeartbeats 2000000 in
set_option maxRecDepth 100000 in
theorem sPush_out (c : Bool) (z : Int) (w : World) (B b : Nat) (v : Value) (st : List Bool) (x : Nat) (bl : List Nat) (D : Nat) (h : Sk w B b v st x bl D) (h64 : st.length % 64 = 0) (hst : st.length ≤ 1000000) (hor : bits .or .u64 (IntKind.u64.wrap ((x : Int) * 2)) z = ((Js.pu x c : Nat) : Int)) :
    Calls Tryz.prog 152 #[.pointer (some ⟨b, 0, none⟩), .int .u64 z] w fun e w' => e = .returned (.tuple #[]) ∧ Stk w' B b (c :: st) (max D (st.length + 1)) ∧ Below B w w' := by
  obtain ⟨i0, hi, hz0, hz1, hz2⟩ := info_parts Tryz.infoU64s
  have HH := hidden h
  have HOR := hidden hor
  have H64 := hidden h64
  obtain ⟨n, hn⟩ : ∃ n, n = st.length := ⟨_, rfl⟩
  have hc := h.cells
  have hfew := h.few
  rw [← hn] at hc hst h64 hfew
  have HN := hidden hn
  have hO := hidden h.own
  have hlt := lt_of_block hc
  have hB : B ≤ w.heap.size := by have := h.base; omega
  have hne := hidden (sk_ne h.own h.cells)
  have HC := hidden hc
  have HOWN : Hid (w.ownsRow B 64 1 v bl.length (Js.aw bl)) := h.own
  obtain ⟨m, hm⟩ : ∃ m, m = bl.length := ⟨_, rfl⟩
  obtain ⟨xs, hxs⟩ : ∃ xs, xs = Js.aw bl := ⟨_, rfl⟩
  rw [← hm, ← hxs] at hO
  rw [← hm] at hfew
  have HM := hidden hm
  have HXS := hidden hxs
  clear hor h hn hm hxs
  have c0 : w.cell? ⟨b, 0, none⟩ = some v := Lib.cell_of_heap hc 0
  have c1 : w.cell? ⟨b, 1, none⟩ = some (.int .u64 (x : Nat)) := Lib.cell_of_heap hc 1
  have c2 : w.cell? ⟨b, 2, none⟩ = some (.int .i64 (n : Nat)) := Lib.cell_of_heap hc 2
  have c3 : w.cell? ⟨b, 3, none⟩ = some (.int .i64 (D : Nat)) := Lib.cell_of_heap hc 3
  have f0 := Lib.frozen_of_heap hc 0
  have hz : (n : Int) % 64 = 0 := by omega
  clear h64
  go_enter Tryz.func152, Tryz.ntmps152
  go_wp2_with fail
  have hn1 := World.new_ne w ⟨b, 0, none⟩ c0
  have hn2 := World.new_ne w ⟨b, 1, none⟩ c1
  go_region_law ((refine step_append_lies _ (by rfl) (.tmp 14) (.tmp 19) 109 (by rfl) B 64 i0 (.int .u64 0) 1 8 Tryz.underlying109 hi hz0 hz1 hz2 rfl (by decide) v m xs (by rfl) (by exact hO.out.alloc _) ⟨w.heap.size, 0, none⟩ 1 1 [.int .u64 (x : Nat)] (by rfl) (by rfl) (by exact World.news_of_block (heap_alloc_new w _)) (by intro u hu; simp at hu; subst hu; rfl) (by omega) (by unfold maxLen; omega) (by omega) (by simp; omega) (w.heap.size + 1) (by simp) ?_; intro g cap w1 hown1 hgrow hat hlt2; have HO : Hid _ := hown1; have HG : Hid _ := hgrow; have hcb : Hid (w1.heap[b]? = some (.cells #[v, .int .u64 (x : Nat), .int .i64 (n : Nat), .int .i64 (D : Nat)] 192 (0, 0))) := (hgrow.block b (by simp; omega) (Ne.symm hne.out)).trans ((Below.heap_alloc w _ b hlt).trans HC.out); clear hown1 hgrow hat; have q0 : w1.cell? ⟨b, 0, none⟩ = some v := Lib.cell_of_heap hcb.out 0; have q1 : w1.cell? ⟨b, 1, none⟩ = some (.int .u64 (x : Nat)) := Lib.cell_of_heap hcb.out 1; have q2 : w1.cell? ⟨b, 2, none⟩ = some (.int .i64 (n : Nat)) := Lib.cell_of_heap hcb.out 2; have q3 : w1.cell? ⟨b, 3, none⟩ = some (.int .i64 (D : Nat)) := Lib.cell_of_heap hcb.out 3; have g0 := Lib.frozen_of_heap hcb.out 0; have g1 := Lib.frozen_of_heap hcb.out 1; have g2 := Lib.frozen_of_heap hcb.out 2; have g3 := Lib.frozen_of_heap hcb.out 3))
  all_goals go_wp2
  all_goals go_region
  all_goals go_wp2
  all_goals go_end0
  all_goals refine ⟨rfl, ?_⟩
  all_goals repeat (refine stk_drew ?_)
  all_goals have h1 := HN.out
  all_goals have hbel : Below B w w1 := by first | exact below_alloc_grown hB HOWN.out HG.out | exact below_alloc_grown2 hB HOWN.out HG.out
  all_goals exact HH.out.out c H64.out hbel h1 HM.out HXS.out hcb.out HO.out HOR.out (by omega) (by omega)
theorem sPush_any (c : Bool) (z : Int) (w : World) (B b : Nat) (st : List Bool) (D : Nat) (hz : z = (c.toNat : Nat)) (h : Stk w B b st D) (hst : st.length ≤ 1000000) :
    Calls Tryz.prog 152 #[.pointer (some ⟨b, 0, none⟩), .int .u64 z] w fun e w' => e = .returned (.tuple #[]) ∧ Stk w' B b (c :: st) (max D (st.length + 1)) ∧ Below B w w' := by
  subst hz
  obtain ⟨v, x, bl, h⟩ := h
  have hor : bits .or .u64 (IntKind.u64.wrap ((x : Int) * 2)) ((c.toNat : Nat) : Int) = ((Js.pu x c : Nat) : Int) := by
    cases c
    · exact Js.or_push0 x h.lt
    · exact Js.or_push1 x h.lt
  by_cases h64 : st.length % 64 = 0
  · exact sPush_out c _ w B b v st x bl D h h64 hst hor
  · exact sPush_in c _ w B b v st x bl D h h64 hst hor
theorem sTop_any (c : Bool) (w : World) (B b : Nat) (st : List Bool) (D : Nat) (h : Stk w B b (c :: st) D) :
    Calls Tryz.prog 155 #[.pointer (some ⟨b, 0, none⟩)] w fun e w' => e = .returned (.int .u64 (c.toNat : Nat)) ∧ w' = w := by
  obtain ⟨v, x, bl, h⟩ := h
  have c1 : w.cell? ⟨b, 1, none⟩ = some (.int .u64 (x : Nat)) := Lib.cell_of_heap h.cells 1
  have HA := hidden ((Js.and_top x h.lt).trans (by rw [h.said.1]))
  clear h
  go_enter Tryz.func155, Tryz.ntmps155
  go_wp2_with fail
  go_ret
  exact ⟨ret_int HA.out, rfl⟩
theorem sCloser_any (c : Bool) (w : World) (B b : Nat) (st : List Bool) (D : Nat) (h : Stk w B b (c :: st) D) :
    Calls Tryz.prog 156 #[.pointer (some ⟨b, 0, none⟩)] w fun e w' => e = .returned (.int .u8 (if c then 125 else 93)) ∧ w' = w := by
  have HT := hidden (fun w => sTop_any c w B b st D)
  have H := hidden h
  clear h
  cases c with
  | true =>
    have ht : ∀ w, Stk w B b (true :: st) D → Calls Tryz.prog 155 #[.pointer (some ⟨b, 0, none⟩)] w fun e w' => e = .returned (.int .u64 1) ∧ w' = w := HT.out
    have HT2 := hidden ht
    clear ht
    go_enter Tryz.func156, Tryz.ntmps156
    go_wp2_with fail
    refine (HT2.out _ H.out).mono ?_
    rintro e w1 ⟨rfl, hw⟩
    have hw := hw.symm
    subst hw
    go_wp2_with fail
    go_ret
    exact ⟨rfl, rfl⟩
  | false =>
    have ht : ∀ w, Stk w B b (false :: st) D → Calls Tryz.prog 155 #[.pointer (some ⟨b, 0, none⟩)] w fun e w' => e = .returned (.int .u64 0) ∧ w' = w := HT.out
    have HT2 := hidden ht
    clear ht
    go_enter Tryz.func156, Tryz.ntmps156
    go_wp2_with fail
    refine (HT2.out _ H.out).mono ?_
    rintro e w1 ⟨rfl, hw⟩
    have hw := hw.symm
    subst hw
    go_wp2_with fail
    go_ret
    exact ⟨rfl, rfl⟩
theorem aw_pop {B : Nat} {w : World} {g cap y : Nat} {l : List Nat} (h : w.ownsRow B 64 1 (.slice (some ⟨g, 0, none⟩) (l.length + 1) cap) (l.length + 1) (Js.aw (y :: l))) : w.ownsRow B 64 1 (.slice (some ⟨g, 0, none⟩) l.length cap) l.length (Js.aw l) := by
  rcases h.2 with ⟨h', _⟩ | ⟨g', cap', cur, h', hb, hg, hnc, hcm, hcs, htake⟩
  · simp at h'
  · simp only [Value.slice.injEq, Option.some.injEq, Addr.mk.injEq, and_true, true_and] at h'
    obtain ⟨rfl, rfl⟩ := h'
    refine ⟨by rw [Js.aw_len, Nat.mul_one], .inr ⟨g, cap, cur, rfl, hb, hg, by omega, hcm, hcs, ?_⟩⟩
    have e : cur.toList.take (l.length * 1) = (cur.toList.take ((l.length + 1) * 1)).take l.length := by
      rw [List.take_take]
      congr 1
      omega
    rw [e, htake, Js.aw_cons, List.take_left' (Js.aw_len l)]
set_option maxHeartbeats 2000000 in
theorem sPop_any (c : Bool) (w : World) (B b : Nat) (st : List Bool) (D : Nat) (h : Stk w B b (c :: st) D) (hst : st.length ≤ 1000000) :
    Calls Tryz.prog 154 #[.pointer (some ⟨b, 0, none⟩)] w fun e w' => e = .returned (.tuple #[]) ∧ Stk w' B b st D ∧ Below B w w' := by
  obtain ⟨v, x, bl, h⟩ := h
  have HH := hidden h
  obtain ⟨n, hn⟩ : ∃ n, n = st.length := ⟨_, rfl⟩
  have hc := h.cells
  rw [List.length_cons] at hc
  have hne := sk_ne h.own h.cells
  rw [← hn] at hc hst
  have HN := hidden hn
  have HBB := hidden h.base
  obtain ⟨x2, hx2⟩ : ∃ x2, x2 = x / 2 := ⟨_, rfl⟩
  have hxx : (x : Int) / 2 = (x2 : Int) := by omega
  have HX2 := hidden hx2
  clear hx2
  have c0 : w.cell? ⟨b, 0, none⟩ = some v := Lib.cell_of_heap hc 0
  have c1 : w.cell? ⟨b, 1, none⟩ = some (.int .u64 (x : Nat)) := Lib.cell_of_heap hc 1
  have c2 : w.cell? ⟨b, 2, none⟩ = some (.int .i64 ((n + 1 : Nat) : Int)) := Lib.cell_of_heap hc 2
  have c3 : w.cell? ⟨b, 3, none⟩ = some (.int .i64 (D : Nat)) := Lib.cell_of_heap hc 3
  have f0 := Lib.frozen_of_heap hc 0
  have f1 := Lib.frozen_of_heap hc 1
  have f2 := Lib.frozen_of_heap hc 2
  have hsaid := h.said.2
  rw [← hn] at hsaid
  by_cases h64 : n % 64 = 0
  · rw [if_pos h64] at hsaid
    obtain ⟨y, l, rfl, hst2⟩ := hsaid
    have hown := h.own
    obtain ⟨g, cap, rfl⟩ : ∃ g cap, v = .slice (some ⟨g, 0, none⟩) (l.length + 1) cap := by
      rcases hown.2 with ⟨_, h0⟩ | ⟨g, cap, cur, hv, _⟩
      · exact absurd h0 (Nat.succ_ne_zero _)
      · exact ⟨g, cap, hv⟩
    have hgb : g ≠ b := fun e => hne (by rw [e]; rfl)
    have hcap : l.length + 1 ≤ cap := by
      rcases hown.2 with ⟨h', _⟩ | ⟨g', cap', cur, h', _, _, hnc, _⟩
      · simp at h'
      · simp only [Value.slice.injEq, Option.some.injEq, Addr.mk.injEq, and_true] at h'
        obtain ⟨rfl, _, rfl⟩ := h'
        exact hnc
    have hcell : w.cell? ⟨g, l.length, none⟩ = some (.int .u64 (y : Nat)) := by
      rw [hown.cellAt l.length (by rw [Nat.mul_one]; exact Nat.lt_succ_self _), Js.aw_cons, List.getElem?_append_right (by rw [Js.aw_len]; exact Nat.le_refl _), Js.aw_len, Nat.sub_self]
      rfl
    have HPOP := hidden (aw_pop hown)
    have HST := hidden hst2
    have HY : Hid (y < 18446744073709551616) := h.all y (List.mem_cons_self)
    have HALL : Hid (∀ z ∈ l, z < 18446744073709551616) := fun z hz => h.all z (List.mem_cons_of_mem _ hz)
    have hfew : l.length + 1 ≤ n + 1 := by have := h.few; rw [List.length_cons, List.length_cons, ← hn] at this; exact this
    have HC := hidden hc
    have HNE := hidden hne
    obtain ⟨m, hm⟩ : ∃ m, m = l.length := ⟨_, rfl⟩
    rw [← hm] at c0 hcap hcell HPOP hfew HC
    have HM := hidden hm
    have hz : (n : Int) % 64 = 0 := by omega
    have hmw : IntKind.i64.wrap (m : Int) = (m : Int) := by rw [IntKind.wrap_i64]; omega
    clear h hn hm hne hst2 hown h64 hc
    go_enter Tryz.func154, Tryz.ntmps154
    go_wp2_with fail
    go_region
    go_wp2
    go_region
    go_wp2
    go_end0
    refine ⟨rfl, ?_⟩
    repeat (refine stk_drew ?_)
    have hm := HM.out
    subst hm
    have hne2 : (Value.slice (some ⟨g, 0, none⟩) l.length cap).ownBlock ≠ some b := HNE.out
    refine ⟨⟨.slice (some ⟨g, 0, none⟩) l.length cap, y, l, HBB.out, HY.out, HALL.out, Js.St_few st y l HST.out, HST.out, ?_, ownsRow_setCell_other (ownsRow_setCell_other (ownsRow_setCell_other (ownsRow_setCell_other HPOP.out hne2 _) hne2 _) hne2 _) hne2 _⟩, ((((Below.refl B w).setCell (p := ⟨b, 2, none⟩) HBB.out _).setCell (p := ⟨b, 1, none⟩) HBB.out _).setCell (p := ⟨b, 1, none⟩) HBB.out _).setCell (p := ⟨b, 0, none⟩) HBB.out _⟩
    rw [← HN.out]
    exact sk_same (sk_same (sk_same (sk_same HC.out)))
  · rw [if_neg h64] at hsaid
    have HST := hidden hsaid
    have hz : ((n : Int) % 64 == 0) = false := by rw [beq_eq_false_iff_ne]; omega
    have HC := hidden hc
    have HNE := hidden hne
    clear h hn hne hsaid h64 hc
    go_enter Tryz.func154, Tryz.ntmps154
    go_wp2_with fail
    go_end0
    refine ⟨rfl, ⟨v, x2, bl, HBB.out, by have h1 := HX2.out; have h2 := HH.out.lt; omega, HH.out.all, ?_, by rw [HX2.out]; exact HST.out, ?_, ownsRow_setCell_other (ownsRow_setCell_other HH.out.own HNE.out _) HNE.out _⟩, ((Below.refl B w).setCell (p := ⟨b, 2, none⟩) HBB.out _).setCell (p := ⟨b, 1, none⟩) HBB.out _⟩
    · exact Js.St_few st x2 bl (by rw [HX2.out]; exact HST.out)
    · rw [← HN.out]
      exact sk_same (sk_same HC.out)
end Go.Proofs.YtoipliflphbeiaaGreatDoor
namespace Go.Proofs.YtoipliflphbeiaaGreatDoor
open Go.RowKit
theorem sSingle_at (s : ByteArray) (p : Nat) (w : World) (hs : s.size ≤ 1000000) (hp : p ≤ s.size) (hal : Js.Al s.data.toList) (has : Js.As s.data.toList p) (hB : Js.isB (Js.bt s.data.toList p) = false) (h91 : Js.bt s.data.toList p ≠ 91) (h123 : Js.bt s.data.toList p ≠ 123) :
    Calls Tryz.prog 151 #[.string (s.extract p s.size)] w fun e w' => ((∃ n : Nat, e = .returned (.tuple #[.int .i64 (n : Nat), .bool true]) ∧ p + n ≤ s.size ∧ 0 < n ∧ Js.bt s.data.toList (p + n - 1) < 128 ∧ ∀ st d, Js.T s.data.toList (Js.cV st d) p = Js.T s.data.toList (Js.cE st d) (p + n))
      ∨ ∃ n : Nat, e = .returned (.tuple #[.int .i64 (n : Nat), .bool false]) ∧ p + n ≤ s.size ∧ ∀ st d, Js.T s.data.toList (Js.cV st d) p = (none, p + n)) ∧ Below w.heap.size w w' := by
  have hl : s.data.toList.length = s.size := rfl
  have h0 : Js.bt (s.data.toList.drop p) 0 = Js.bt s.data.toList p := Js.bt_drop _ p 0
  have h := sSingle_any (s.extract p s.size) w (by rw [cut_size]; omega) (by rw [cut_tail]; exact hal.drop _ p has hp) (by rw [cut_tail, h0]; exact hB) (by rw [cut_tail, h0]; exact h91) (by rw [cut_tail, h0]; exact h123)
  rw [cut_tail] at h
  refine h.mono ?_
  rintro e w' ⟨hq, hb⟩
  refine ⟨?_, hb⟩
  have hT : ∀ c, Js.T s.data.toList c p = ((Js.T (s.data.toList.drop p) c 0).1, (Js.T (s.data.toList.drop p) c 0).2 + p) := fun c => Js.T_drop s.data.toList c p 0
  rcases hq with ⟨n, he, h1, h2, h3, h4⟩ | ⟨n, he, h1, h4⟩
  · rw [List.length_drop, hl] at h1
    rw [Js.bt_drop] at h3
    refine .inl ⟨n, he, by omega, h2, by rw [Nat.add_sub_assoc h2]; exact h3, fun st d => ?_⟩
    rw [hT, h4 st d, ← Js.T_drop]
  · rw [List.length_drop, hl] at h1
    refine .inr ⟨n, he, by omega, fun st d => ?_⟩
    rw [hT, h4 st d]
    show (none, n + p) = (none, p + n)
    rw [Nat.add_comm]
theorem sQuoted_at (s : ByteArray) (p : Nat) (w : World) (hs : s.size ≤ 1000000) (hp : p ≤ s.size) (hal : Js.Al s.data.toList) (has : Js.As s.data.toList p) (hB : Js.isB (Js.bt s.data.toList p) = false) :
    Calls Tryz.prog 153 #[.string (s.extract p s.size)] w fun e w' => ((∃ n : Nat, e = .returned (.tuple #[.int .i64 (n : Nat), .bool true]) ∧ p + n ≤ s.size ∧ 0 < n ∧ Js.bt s.data.toList (p + n - 1) < 128 ∧ ∀ st d, Js.T s.data.toList (Js.cK st d) p = Js.T s.data.toList (Js.cC st d) (p + n))
      ∨ ∃ n : Nat, e = .returned (.tuple #[.int .i64 (n : Nat), .bool false]) ∧ p + n ≤ s.size ∧ ∀ st d, Js.T s.data.toList (Js.cK st d) p = (none, p + n)) ∧ w' = w := by
  have hl : s.data.toList.length = s.size := rfl
  have h0 : Js.bt (s.data.toList.drop p) 0 = Js.bt s.data.toList p := Js.bt_drop _ p 0
  have h := sQuoted_any (s.extract p s.size) w (by rw [cut_size]; omega) (by rw [cut_tail]; exact hal.drop _ p has hp)
  rw [cut_tail] at h
  refine h.mono ?_
  rintro e w' ⟨hq, hb⟩
  refine ⟨?_, hb⟩
  have hT : ∀ c, Js.T s.data.toList c p = ((Js.T (s.data.toList.drop p) c 0).1, (Js.T (s.data.toList.drop p) c 0).2 + p) := fun c => Js.T_drop s.data.toList c p 0
  have hK : Js.bt s.data.toList p = 34 → ∀ st d, Js.T (s.data.toList.drop p) (Js.cK st d) 0 = Js.T (s.data.toList.drop p) (Js.cS 0 true st d) 1 := fun h34 st d => Js.T_go _ _ _ 0 (by rw [h0, h34]; decide) (by rw [h0, h34]; rfl)
  rcases hq with ⟨n, he, h1, h2, h3, h5, h4⟩ | ⟨n, he, h1, h4, h5⟩
  · rw [List.length_drop, hl] at h1
    rw [Js.bt_drop] at h3
    rw [h0] at h5
    refine .inl ⟨n, he, by omega, h2, by rw [Nat.add_sub_assoc h2]; exact h3, fun st d => ?_⟩
    rw [hT, hK h5, h4 true st d, Js.T_drop]
    rfl
  · rw [List.length_drop, hl] at h1
    rw [h0] at h4 h5
    refine .inr ⟨n, he, by omega, fun st d => ?_⟩
    by_cases h34 : Js.bt s.data.toList p = 34
    · rw [hT, hK h34, h5 h34 true st d]
      show (none, n + p) = (none, p + n)
      rw [Nat.add_comm]
    · rw [h4 h34]
      exact Js.T_no _ _ p hp rfl fun _ => by rw [Js.step_K _ _ _ hB, if_neg h34]
theorem Stk.below {w' w2 : World} {B b : Nat} {st : List Bool} {D : Nat} (h : Stk w' B b st D) (hb : Below w'.heap.size w' w2) : Stk w2 B b st D := by
  obtain ⟨v, x, bl, hk⟩ := h
  refine ⟨v, x, bl, hk.base, hk.lt, hk.all, hk.few, hk.said, by rw [hb.block b (lt_of_block hk.cells)]; exact hk.cells, hk.own.1, ?_⟩
  rcases hk.own.2 with h | ⟨g, cap, cur, hv, hB, hg, r⟩
  · exact .inl h
  · exact .inr ⟨g, cap, cur, hv, hB, by rw [hb.block g (lt_of_block hg)]; exact hg, r⟩
theorem Stk.new (w : World) : Stk (w.alloc (.cells #[.slice none 0 0, .int .u64 0, .int .i64 0, .int .i64 0] 192)) w.heap.size w.heap.size [] 0 :=
  ⟨.slice none 0 0, 0, [], Nat.le_refl _, by decide, fun y hy => absurd hy List.not_mem_nil, Nat.le_refl _, rfl, heap_alloc_new w _, World.ownsRow_nil _ _ _ _⟩
theorem Stk.size {w' : World} {B b : Nat} {st : List Bool} {D : Nat} (h : Stk w' B b st D) : w'.cell? ⟨b, 2, none⟩ = some (.int .i64 (st.length : Nat)) ∧ w'.cell? ⟨b, 3, none⟩ = some (.int .i64 (D : Nat)) := by
  obtain ⟨v, x, bl, hk⟩ := h
  exact ⟨Lib.cell_of_heap hk.cells 2, Lib.cell_of_heap hk.cells 3⟩
def frWk (s : ByteArray) (b a : Nat) (u : Nat → Value) : Array Value := #[.string s, undef, .int .i64 0, .int .i64 0, .bool false, .pointer (some ⟨b, 0, none⟩), .int .i64 (a : Nat), u 7, u 8, u 9, u 10, u 11, u 12, u 13, u 14, u 15, u 16, u 17, u 18, u 19, u 20, u 21, u 22, u 23, u 24, u 25, u 26, u 27, u 28, u 29, u 30, u 31, u 32, u 33, u 34, u 35, u 36, u 37, u 38, u 39, u 40, u 41, u 42, u 43, u 44, u 45, u 46, u 47, u 48, u 49, u 50, u 51, u 52, u 53, u 54, u 55, u 56, u 57, u 58, u 59, u 60, u 61, u 62, u 63, u 64, u 65, u 66, u 67, u 68, u 69, u 70, u 71, u 72, u 73, u 74, u 75, u 76, u 77, u 78, u 79, u 80, u 81, u 82, u 83, u 84, u 85, u 86, u 87, u 88, u 89, u 90, u 91, u 92, u 93, u 94, u 95, u 96, u 97, u 98, u 99, u 100, u 101, u 102, u 103, u 104, u 105, u 106, u 107, u 108, u 109, u 110, u 111, u 112, u 113, u 114, u 115, u 116, u 117]
theorem frWk_is {s : ByteArray} {b a : Nat} {x6 u7 u8 u9 u10 u11 u12 u13 u14 u15 u16 u17 u18 u19 u20 u21 u22 u23 u24 u25 u26 u27 u28 u29 u30 u31 u32 u33 u34 u35 u36 u37 u38 u39 u40 u41 u42 u43 u44 u45 u46 u47 u48 u49 u50 u51 u52 u53 u54 u55 u56 u57 u58 u59 u60 u61 u62 u63 u64 u65 u66 u67 u68 u69 u70 u71 u72 u73 u74 u75 u76 u77 u78 u79 u80 u81 u82 u83 u84 u85 u86 u87 u88 u89 u90 u91 u92 u93 u94 u95 u96 u97 u98 u99 u100 u101 u102 u103 u104 u105 u106 u107 u108 u109 u110 u111 u112 u113 u114 u115 u116 u117 : Value} (h : x6 = .int .i64 (a : Nat)) : ∃ u, #[.string s, undef, .int .i64 0, .int .i64 0, .bool false, .pointer (some ⟨b, 0, none⟩), x6, u7, u8, u9, u10, u11, u12, u13, u14, u15, u16, u17, u18, u19, u20, u21, u22, u23, u24, u25, u26, u27, u28, u29, u30, u31, u32, u33, u34, u35, u36, u37, u38, u39, u40, u41, u42, u43, u44, u45, u46, u47, u48, u49, u50, u51, u52, u53, u54, u55, u56, u57, u58, u59, u60, u61, u62, u63, u64, u65, u66, u67, u68, u69, u70, u71, u72, u73, u74, u75, u76, u77, u78, u79, u80, u81, u82, u83, u84, u85, u86, u87, u88, u89, u90, u91, u92, u93, u94, u95, u96, u97, u98, u99, u100, u101, u102, u103, u104, u105, u106, u107, u108, u109, u110, u111, u112, u113, u114, u115, u116, u117] = frWk s b a u := by
  subst h
  exact ⟨fun j => [u7, u8, u9, u10, u11, u12, u13, u14, u15, u16, u17, u18, u19, u20, u21, u22, u23, u24, u25, u26, u27, u28, u29, u30, u31, u32, u33, u34, u35, u36, u37, u38, u39, u40, u41, u42, u43, u44, u45, u46, u47, u48, u49, u50, u51, u52, u53, u54, u55, u56, u57, u58, u59, u60, u61, u62, u63, u64, u65, u66, u67, u68, u69, u70, u71, u72, u73, u74, u75, u76, u77, u78, u79, u80, u81, u82, u83, u84, u85, u86, u87, u88, u89, u90, u91, u92, u93, u94, u95, u96, u97, u98, u99, u100, u101, u102, u103, u104, u105, u106, u107, u108, u109, u110, u111, u112, u113, u114, u115, u116, u117].getD (j - 7) undef, rfl⟩
namespace Js
/-- What holds at the labels: value, array, object, behind, wrong, end, member. -/
def W0 (l : List UInt8) (p : Nat) (st : List Bool) (D : Nat) : Prop := As l p ∧ st.length ≤ p ∧ T l c0 0 = T l (cV st D) p
def W1 (l : List UInt8) (p : Nat) (st : List Bool) (D : Nat) : Prop := bt l p = 91 ∧ st.length ≤ p ∧ T l c0 0 = T l (cV st D) p
def W2 (l : List UInt8) (p : Nat) (st : List Bool) (D : Nat) : Prop := bt l p = 123 ∧ st.length ≤ p ∧ T l c0 0 = T l (cV st D) p
def W3 (l : List UInt8) (p : Nat) (st : List Bool) (D : Nat) : Prop := As l p ∧ st.length ≤ p ∧ T l c0 0 = T l (cE st D) p
def W4 (l : List UInt8) (p : Nat) : Prop := T l c0 0 = (none, p)
def W5 (l : List UInt8) (p : Nat) (st : List Bool) (D : Nat) : Prop := bt l p ≠ 0 ∧ bt l p < 128 ∧ ∃ c t, st = c :: t ∧ t.length ≤ p ∧ T l c0 0 = T l (cE t D) (p + 1)
def W6 (l : List UInt8) (p : Nat) (st : List Bool) (D : Nat) : Prop := As l p ∧ st.length ≤ p ∧ T l c0 0 = T l (cK st D) p
def WAt (l : List UInt8) (lb p : Nat) (st : List Bool) (D : Nat) : Prop := (lb = 0 ∧ W0 l p st D) ∨ (lb = 1 ∧ W1 l p st D) ∨ (lb = 2 ∧ W2 l p st D) ∨ (lb = 3 ∧ W3 l p st D) ∨ (lb = 4 ∧ W4 l p) ∨ (lb = 5 ∧ W5 l p st D) ∨ (lb = 6 ∧ W6 l p st D)
def rk (lb : Nat) : Nat := if lb = 0 then 2 else if lb = 3 then 2 else if lb = 4 then 0 else 1
end Js
/-- What walk tells. -/
def WalkPost (l : List UInt8) (e : Ending) : Prop :=
  (∃ D n : Nat, e = .returned (.tuple #[.int .i64 (n : Nat), .int .i64 (D : Nat), .bool true]) ∧ n ≤ l.length ∧ Js.T l Js.c0 0 = (some D, n))
  ∨ ∃ D n : Nat, e = .returned (.tuple #[.int .i64 (n : Nat), .int .i64 (D : Nat), .bool false]) ∧ n ≤ l.length ∧ Js.T l Js.c0 0 = (none, n)
set_option maxHeartbeats 8000000 in
set_option maxRecDepth 100000 in
theorem sWalk_any (s : ByteArray) (w : World) (hs : s.size ≤ 1000000) (hal : Js.Al s.data.toList) :
    Calls Tryz.prog 122 #[.string s] w fun e w' => WalkPost s.data.toList e ∧ Below w.heap.size w w' := by
  have HAL := hidden hal
  clear hal
  go_enter Tryz.func122, Tryz.ntmps122
  go_wp2_with fail
  refine wp_scope_all (fun l a' w' => ∃ p A st D, a' = { tmps := A, defers := [] } ∧ (∃ u, A = frWk s w.heap.size p u) ∧ Stk w' w.heap.size w.heap.size st D ∧ Below w.heap.size w w' ∧ p ≤ s.size ∧ Js.WAt s.data.toList l p st D) (fun l a' _ => 3 * (s.size - (intOf (a'.tmps.getD 6 undef)).toNat) + Js.rk l) ?_ ?_
  · have HST := hidden (Stk.new w)
    have HB : Hid (Below w.heap.size w (w.alloc (.cells #[.slice none 0 0, .int .u64 0, .int .i64 0, .int .i64 0] 192))) := (Below.refl _ _).alloc (Nat.le_refl _) _
    have H : Hid (Js.W0 s.data.toList 0 [] 0) := ⟨.inl rfl, Nat.le_refl _, rfl⟩
    have hps : 0 ≤ s.size := Nat.zero_le _
    go_wp2_with fail
    refine wp_label ?_
    go_wp2_with fail
    refine (sSkip_any s _ 0 _ rfl hs hps).mono ?_
    rintro e w1 ⟨⟨q, rfl, hqle, hqs, hnb, hT, hA⟩, hw⟩
    have hw := hw.symm
    subst hw
    have HNBq := hidden hnb
    have HTq := hidden (hT (Js.cV [] 0) (Js.sp_V [] 0))
    have HAq := hidden hA
    clear hnb hT hA
    have HC : Hid (Js.As s.data.toList q ∧ [].length ≤ q ∧ Js.T s.data.toList Js.c0 0 = Js.T s.data.toList (Js.cV [] 0) q) := ⟨HAq.out H.out.1, Nat.le_trans H.out.2.1 hqle, H.out.2.2.trans HTq.out⟩
    clear HAq HTq
    go_wp2_with fail
    refine (sFirst_at s q _).mono ?_
    rintro e w1 ⟨rfl, hw⟩
    have hw := hw.symm
    subst hw
    obtain ⟨b, hb⟩ : ∃ b, b = Js.bt s.data.toList q := ⟨_, rfl⟩
    rw [← hb]
    have HBTq := hidden hb
    clear hb
    by_cases h91 : b = 91
    · subst h91
      go_wp2_with fail
      apply wp_goto
      exact ⟨q, _, [], 0, rfl, frWk_is rfl, HST.out, HB.out, hqs, .inr (.inl ⟨rfl, HBTq.out.symm, HC.out.2⟩)⟩
    by_cases h123 : b = 123
    · subst h123
      go_wp2_with fail
      apply wp_goto
      exact ⟨q, _, [], 0, rfl, frWk_is rfl, HST.out, HB.out, hqs, .inr (.inr (.inl ⟨rfl, HBTq.out.symm, HC.out.2⟩))⟩
    have e91 : ((b : Int) == 91) = false := by rw [beq_eq_false_iff_ne]; omega
    have e123 : ((b : Int) == 123) = false := by rw [beq_eq_false_iff_ne]; omega
    have HS := hidden (fun w => sSingle_at s q w hs hqs HAL.out HC.out.1 HNBq.out (by rw [← HBTq.out]; exact h91) (by rw [← HBTq.out]; exact h123))
    clear h91 h123
    go_wp2_with fail
    refine (HS.out _).mono ?_
    rintro e w2 ⟨hq, hbel2⟩
    have HST2 := hidden (HST.out.below hbel2)
    have HB2 := hidden (HB.out.trans (hbel2.mono HB.out.size))
    clear hbel2
    rcases hq with ⟨n, rfl, h1, h2, h3, h4⟩ | ⟨n, rfl, h1, h4⟩
    · obtain ⟨t, ht⟩ : ∃ t, t = q + n := ⟨_, rfl⟩
      have ht2 : (q : Int) + (n : Int) = (t : Int) := by omega
      have hts : t ≤ s.size := by omega
      have hqt : q < t := by omega
      have HX : Hid (Js.W3 s.data.toList t [] 0) := by
        subst ht
        exact ⟨Js.As.at _ _ (by omega) h3, by have := HC.out.2.1; omega, HC.out.2.2.trans (h4 _ _)⟩
      clear ht h1 h2 h3 h4
      go_wp2_with fail
      apply wp_goto
      exact ⟨t, _, [], 0, rfl, frWk_is rfl, HST2.out, HB2.out, hts, .inr (.inr (.inr (.inl ⟨rfl, HX.out⟩)))⟩
    · obtain ⟨t, ht⟩ : ∃ t, t = q + n := ⟨_, rfl⟩
      have ht2 : (q : Int) + (n : Int) = (t : Int) := by omega
      have hts : t ≤ s.size := by omega
      have hqt : q ≤ t := by omega
      have HX : Hid (Js.W4 s.data.toList t) := by
        subst ht
        exact HC.out.2.2.trans (h4 _ _)
      clear ht h1 h4
      go_wp2_with fail
      apply wp_goto
      exact ⟨t, _, [], 0, rfl, frWk_is rfl, HST2.out, HB2.out, hts, .inr (.inr (.inr (.inr (.inl ⟨rfl, HX.out⟩))))⟩
  · rintro l a' w' ⟨p, A, st, D, rfl, ⟨u, rfl⟩, hstk, hbel, hps, hcase⟩
    have HST := hidden hstk
    have HB := hidden hbel
    clear hstk hbel
    unfold frWk
    rcases hcase with ⟨rfl, h⟩ | ⟨rfl, h⟩ | ⟨rfl, h⟩ | ⟨rfl, h⟩ | ⟨rfl, h⟩ | ⟨rfl, h⟩ | ⟨rfl, h⟩
    · refine ⟨_, rfl, ?_⟩
      have H := hidden h
      clear h
      go_wp2_with fail
      refine (sSkip_any s _ p _ rfl hs hps).mono ?_
      rintro e w1 ⟨⟨q, rfl, hqle, hqs, hnb, hT, hA⟩, hw⟩
      have hw := hw.symm
      subst hw
      have HNBq := hidden hnb
      have HTq := hidden (hT (Js.cV st D) (Js.sp_V st D))
      have HAq := hidden hA
      clear hnb hT hA
      have HC : Hid (Js.As s.data.toList q ∧ st.length ≤ q ∧ Js.T s.data.toList Js.c0 0 = Js.T s.data.toList (Js.cV st D) q) := ⟨HAq.out H.out.1, Nat.le_trans H.out.2.1 hqle, H.out.2.2.trans HTq.out⟩
      clear HAq HTq
      go_wp2_with fail
      refine (sFirst_at s q _).mono ?_
      rintro e w1 ⟨rfl, hw⟩
      have hw := hw.symm
      subst hw
      obtain ⟨b, hb⟩ : ∃ b, b = Js.bt s.data.toList q := ⟨_, rfl⟩
      rw [← hb]
      have HBTq := hidden hb
      clear hb
      by_cases h91 : b = 91
      · subst h91
        go_wp2_with fail
        apply wp_goto
        refine And.intro ?_ ?_
        · exact ⟨q, _, st, D, rfl, frWk_is rfl, HST.out, HB.out, hqs, .inr (.inl ⟨rfl, HBTq.out.symm, HC.out.2⟩)⟩
        · show 3 * (s.size - (intOf (Value.int .i64 _)).toNat) + 1 < 3 * (s.size - (intOf (Value.int .i64 _)).toNat) + 2
          simp only [intOf, Int.toNat_natCast]
          all_goals omega
      by_cases h123 : b = 123
      · subst h123
        go_wp2_with fail
        apply wp_goto
        refine And.intro ?_ ?_
        · exact ⟨q, _, st, D, rfl, frWk_is rfl, HST.out, HB.out, hqs, .inr (.inr (.inl ⟨rfl, HBTq.out.symm, HC.out.2⟩))⟩
        · show 3 * (s.size - (intOf (Value.int .i64 _)).toNat) + 1 < 3 * (s.size - (intOf (Value.int .i64 _)).toNat) + 2
          simp only [intOf, Int.toNat_natCast]
          all_goals omega
      have e91 : ((b : Int) == 91) = false := by rw [beq_eq_false_iff_ne]; omega
      have e123 : ((b : Int) == 123) = false := by rw [beq_eq_false_iff_ne]; omega
      have HS := hidden (fun w => sSingle_at s q w hs hqs HAL.out HC.out.1 HNBq.out (by rw [← HBTq.out]; exact h91) (by rw [← HBTq.out]; exact h123))
      clear h91 h123
      go_wp2_with fail
      refine (HS.out _).mono ?_
      rintro e w2 ⟨hq, hbel2⟩
      have HST2 := hidden (HST.out.below hbel2)
      have HB2 := hidden (HB.out.trans (hbel2.mono HB.out.size))
      clear hbel2
      rcases hq with ⟨n, rfl, h1, h2, h3, h4⟩ | ⟨n, rfl, h1, h4⟩
      · obtain ⟨t, ht⟩ : ∃ t, t = q + n := ⟨_, rfl⟩
        have ht2 : (q : Int) + (n : Int) = (t : Int) := by omega
        have hts : t ≤ s.size := by omega
        have hqt : q < t := by omega
        have HX : Hid (Js.W3 s.data.toList t st D) := by
          subst ht
          exact ⟨Js.As.at _ _ (by omega) h3, by have := HC.out.2.1; omega, HC.out.2.2.trans (h4 _ _)⟩
        clear ht h1 h2 h3 h4
        go_wp2_with fail
        apply wp_goto
        refine And.intro ?_ ?_
        · exact ⟨t, _, st, D, rfl, frWk_is rfl, HST2.out, HB2.out, hts, .inr (.inr (.inr (.inl ⟨rfl, HX.out⟩)))⟩
        · show 3 * (s.size - (intOf (Value.int .i64 _)).toNat) + 2 < 3 * (s.size - (intOf (Value.int .i64 _)).toNat) + 2
          simp only [intOf, Int.toNat_natCast]
          all_goals omega
      · obtain ⟨t, ht⟩ : ∃ t, t = q + n := ⟨_, rfl⟩
        have ht2 : (q : Int) + (n : Int) = (t : Int) := by omega
        have hts : t ≤ s.size := by omega
        have hqt : q ≤ t := by omega
        have HX : Hid (Js.W4 s.data.toList t) := by
          subst ht
          exact HC.out.2.2.trans (h4 _ _)
        clear ht h1 h4
        go_wp2_with fail
        apply wp_goto
        refine And.intro ?_ ?_
        · exact ⟨t, _, st, D, rfl, frWk_is rfl, HST2.out, HB2.out, hts, .inr (.inr (.inr (.inr (.inl ⟨rfl, HX.out⟩))))⟩
        · show 3 * (s.size - (intOf (Value.int .i64 _)).toNat) + 0 < 3 * (s.size - (intOf (Value.int .i64 _)).toNat) + 2
          simp only [intOf, Int.toNat_natCast]
          all_goals omega
    · refine ⟨_, rfl, ?_⟩
      have H := hidden h
      clear h
      have hlt : p < s.size := bt_within s p (by rw [H.out.1]; decide)
      have hlen : st.length ≤ 1000000 := by have := H.out.2.1; omega
      go_wp2_with fail
      refine (sPush_any false 0 _ w.heap.size w.heap.size st D rfl HST.out hlen).mono ?_
      rintro e w2 ⟨rfl, hstk2, hbel2⟩
      have HST2 := hidden hstk2
      have HB2 := hidden (HB.out.trans hbel2)
      clear hstk2 hbel2
      obtain ⟨E, hE⟩ : ∃ E, E = max D (st.length + 1) := ⟨_, rfl⟩
      rw [← hE] at HST2
      obtain ⟨r, hr⟩ : ∃ r, r = p + 1 := ⟨_, rfl⟩
      have hr2 : (p : Int) + 1 = (r : Int) := by omega
      have hrs : r ≤ s.size := by omega
      have hpr : p < r := by omega
      have HR : Hid (Js.As s.data.toList r ∧ (false :: st).length ≤ r ∧ Js.T s.data.toList Js.c0 0 = Js.T s.data.toList (Js.cA (false :: st) E) r) := by
        subst hr
        subst hE
        refine ⟨Js.As.next _ p (by rw [H.out.1]; decide), by rw [List.length_cons]; have := H.out.2.1; omega, H.out.2.2.trans (Js.T_go _ _ _ p (by rw [H.out.1]; decide) (by rw [H.out.1]; rfl))⟩
      clear hE hr
      go_wp2_with fail
      refine (sSkip_any s _ r _ rfl hs hrs).mono ?_
      rintro e w1 ⟨⟨q, rfl, hqle, hqs, hnb, hT, hA⟩, hw⟩
      have hw := hw.symm
      subst hw
      have HNBq := hidden hnb
      have HTq := hidden (hT (Js.cA (false :: st) E) (Js.sp_A (false :: st) E))
      have HAq := hidden hA
      clear hnb hT hA
      have HC : Hid (Js.As s.data.toList q ∧ (false :: st).length ≤ q ∧ Js.T s.data.toList Js.c0 0 = Js.T s.data.toList (Js.cA (false :: st) E) q) := ⟨HAq.out HR.out.1, Nat.le_trans HR.out.2.1 hqle, HR.out.2.2.trans HTq.out⟩
      clear HAq HTq
      have HBACK := HNBq
      go_wp2_with fail
      refine (sFirst_at s q _).mono ?_
      rintro e w1 ⟨rfl, hw⟩
      have hw := hw.symm
      subst hw
      obtain ⟨b, hb⟩ : ∃ b, b = Js.bt s.data.toList q := ⟨_, rfl⟩
      rw [← hb]
      have HBTq := hidden hb
      clear hb
      by_cases hend : b = 93
      · subst hend
        have HX : Hid (Js.W5 s.data.toList q (false :: st) E) := ⟨by rw [← HBTq.out]; decide, by rw [← HBTq.out]; decide, false, st, rfl, by have := HC.out.2.1; rw [List.length_cons] at this; omega, HC.out.2.2.trans (Js.T_go _ _ _ q (by rw [← HBTq.out]; decide) (by rw [← HBTq.out]; rfl))⟩
        go_wp2_with fail
        apply wp_goto
        refine And.intro ?_ ?_
        · exact ⟨q, _, (false :: st), E, rfl, frWk_is rfl, HST2.out, HB2.out, hqs, .inr (.inr (.inr (.inr (.inr (.inl ⟨rfl, HX.out⟩)))))⟩
        · show 3 * (s.size - (intOf (Value.int .i64 _)).toNat) + 1 < 3 * (s.size - (intOf (Value.int .i64 _)).toNat) + 1
          simp only [intOf, Int.toNat_natCast]
          all_goals omega
      · have eend : ((b : Int) == 93) = false := by rw [beq_eq_false_iff_ne]; omega
        have HX : Hid (Js.W0 s.data.toList q (false :: st) E) := ⟨HC.out.1, HC.out.2.1, HC.out.2.2.trans (Js.T_first _ _ _ q fun hi => by rw [← Js.bt_at _ q hi]; exact ⟨HNBq.out, by rw [← HBTq.out]; exact hend⟩)⟩
        clear hend
        go_wp2_with fail
        apply wp_goto
        refine And.intro ?_ ?_
        · exact ⟨q, _, (false :: st), E, rfl, frWk_is rfl, HST2.out, HB2.out, hqs, .inl ⟨rfl, HX.out⟩⟩
        · show 3 * (s.size - (intOf (Value.int .i64 _)).toNat) + 2 < 3 * (s.size - (intOf (Value.int .i64 _)).toNat) + 1
          simp only [intOf, Int.toNat_natCast]
          all_goals omega
    · refine ⟨_, rfl, ?_⟩
      have H := hidden h
      clear h
      have hlt : p < s.size := bt_within s p (by rw [H.out.1]; decide)
      have hlen : st.length ≤ 1000000 := by have := H.out.2.1; omega
      go_wp2_with fail
      refine (sPush_any true 1 _ w.heap.size w.heap.size st D rfl HST.out hlen).mono ?_
      rintro e w2 ⟨rfl, hstk2, hbel2⟩
      have HST2 := hidden hstk2
      have HB2 := hidden (HB.out.trans hbel2)
      clear hstk2 hbel2
      obtain ⟨E, hE⟩ : ∃ E, E = max D (st.length + 1) := ⟨_, rfl⟩
      rw [← hE] at HST2
      obtain ⟨r, hr⟩ : ∃ r, r = p + 1 := ⟨_, rfl⟩
      have hr2 : (p : Int) + 1 = (r : Int) := by omega
      have hrs : r ≤ s.size := by omega
      have hpr : p < r := by omega
      have HR : Hid (Js.As s.data.toList r ∧ (true :: st).length ≤ r ∧ Js.T s.data.toList Js.c0 0 = Js.T s.data.toList (Js.cO (true :: st) E) r) := by
        subst hr
        subst hE
        refine ⟨Js.As.next _ p (by rw [H.out.1]; decide), by rw [List.length_cons]; have := H.out.2.1; omega, H.out.2.2.trans (Js.T_go _ _ _ p (by rw [H.out.1]; decide) (by rw [H.out.1]; rfl))⟩
      clear hE hr
      go_wp2_with fail
      refine (sSkip_any s _ r _ rfl hs hrs).mono ?_
      rintro e w1 ⟨⟨q, rfl, hqle, hqs, hnb, hT, hA⟩, hw⟩
      have hw := hw.symm
      subst hw
      have HNBq := hidden hnb
      have HTq := hidden (hT (Js.cO (true :: st) E) (Js.sp_O (true :: st) E))
      have HAq := hidden hA
      clear hnb hT hA
      have HC : Hid (Js.As s.data.toList q ∧ (true :: st).length ≤ q ∧ Js.T s.data.toList Js.c0 0 = Js.T s.data.toList (Js.cO (true :: st) E) q) := ⟨HAq.out HR.out.1, Nat.le_trans HR.out.2.1 hqle, HR.out.2.2.trans HTq.out⟩
      clear HAq HTq
      have HBACK := HNBq
      go_wp2_with fail
      refine (sFirst_at s q _).mono ?_
      rintro e w1 ⟨rfl, hw⟩
      have hw := hw.symm
      subst hw
      obtain ⟨b, hb⟩ : ∃ b, b = Js.bt s.data.toList q := ⟨_, rfl⟩
      rw [← hb]
      have HBTq := hidden hb
      clear hb
      by_cases hend : b = 125
      · subst hend
        have HX : Hid (Js.W5 s.data.toList q (true :: st) E) := ⟨by rw [← HBTq.out]; decide, by rw [← HBTq.out]; decide, true, st, rfl, by have := HC.out.2.1; rw [List.length_cons] at this; omega, HC.out.2.2.trans (Js.T_go _ _ _ q (by rw [← HBTq.out]; decide) (by rw [← HBTq.out]; rfl))⟩
        go_wp2_with fail
        apply wp_goto
        refine And.intro ?_ ?_
        · exact ⟨q, _, (true :: st), E, rfl, frWk_is rfl, HST2.out, HB2.out, hqs, .inr (.inr (.inr (.inr (.inr (.inl ⟨rfl, HX.out⟩)))))⟩
        · show 3 * (s.size - (intOf (Value.int .i64 _)).toNat) + 1 < 3 * (s.size - (intOf (Value.int .i64 _)).toNat) + 1
          simp only [intOf, Int.toNat_natCast]
          all_goals omega
      · have eend : ((b : Int) == 125) = false := by rw [beq_eq_false_iff_ne]; omega
        have HX : Hid (Js.W6 s.data.toList q (true :: st) E) := ⟨HC.out.1, HC.out.2.1, HC.out.2.2.trans (Js.T_member _ _ _ q fun hi => by rw [← Js.bt_at _ q hi]; exact ⟨HNBq.out, by rw [← HBTq.out]; exact hend⟩)⟩
        clear hend HC HBACK HNBq HBTq HR H HST HB
        have H := HX
        have HST := HST2
        have HB := HB2
        clear HX HST2 HB2
        have hps2 := hqs
        obtain ⟨k, hk⟩ : ∃ k, k = q := ⟨_, rfl⟩
        rw [← hk] at H hqs hqle
        go_wp2_with fail
        refine wp_label ?_
        rw [← hk]
        have hpk : p < k := by omega
        clear hk hps2
        go_wp2_with fail
        refine (sSkip_any s _ k _ rfl hs hqs).mono ?_
        rintro e w1 ⟨⟨r, rfl, hrle, hrs, hnb, hT, hA⟩, hw⟩
        have hw := hw.symm
        subst hw
        have HNBr := hidden hnb
        have HTr := hidden (hT (Js.cK (true :: st) E) (Js.sp_K (true :: st) E))
        have HAr := hidden hA
        clear hnb hT hA
        have HC : Hid (Js.As s.data.toList r ∧ (true :: st).length ≤ r ∧ Js.T s.data.toList Js.c0 0 = Js.T s.data.toList (Js.cK (true :: st) E) r) := ⟨HAr.out H.out.1, Nat.le_trans H.out.2.1 hrle, H.out.2.2.trans HTr.out⟩
        clear HAr HTr
        go_wp2_with fail
        refine (sQuoted_at s r _ hs hrs HAL.out HC.out.1 HNBr.out).mono ?_
        rintro e w1 ⟨hq, hw⟩
        have hw := hw.symm
        subst hw
        rcases hq with ⟨n, rfl, h1, h2, h3, h4⟩ | ⟨n, rfl, h1, h4⟩
        · obtain ⟨t, ht⟩ : ∃ t, t = r + n := ⟨_, rfl⟩
          have ht2 : (r : Int) + (n : Int) = (t : Int) := by omega
          have hts : t ≤ s.size := by omega
          have hrt : r < t := by omega
          have HX : Hid (Js.As s.data.toList t ∧ (true :: st).length ≤ t ∧ Js.T s.data.toList Js.c0 0 = Js.T s.data.toList (Js.cC (true :: st) E) t) := by
            subst ht
            exact ⟨Js.As.at _ _ (by omega) h3, by have := HC.out.2.1; omega, HC.out.2.2.trans (h4 _ _)⟩
          clear ht h1 h2 h3 h4 HC
          go_wp2_with fail
          refine (sSkip_any s _ t _ rfl hs hts).mono ?_
          rintro e w1 ⟨⟨x, rfl, hxle, hxs, hnb, hT, hA⟩, hw⟩
          have hw := hw.symm
          subst hw
          have HNBx := hidden hnb
          have HTx := hidden (hT (Js.cC (true :: st) E) (Js.sp_C (true :: st) E))
          have HAx := hidden hA
          clear hnb hT hA
          have HC : Hid ((true :: st).length ≤ x ∧ Js.T s.data.toList Js.c0 0 = Js.T s.data.toList (Js.cC (true :: st) E) x) := ⟨Nat.le_trans HX.out.2.1 hxle, HX.out.2.2.trans HTx.out⟩
          clear HAx HTx HX
          go_wp2_with fail
          refine (sFirst_at s x _).mono ?_
          rintro e w1 ⟨rfl, hw⟩
          have hw := hw.symm
          subst hw
          obtain ⟨b, hb⟩ : ∃ b, b = Js.bt s.data.toList x := ⟨_, rfl⟩
          rw [← hb]
          have HBTx := hidden hb
          clear hb
          by_cases h58 : b = 58
          · subst h58
            have hlt := bt_within s x (by have := HBTx.out; omega)
            obtain ⟨y, hy⟩ : ∃ y, y = x + 1 := ⟨_, rfl⟩
            have hy2 : (x : Int) + 1 = (y : Int) := by omega
            have hys : y ≤ s.size := by omega
            have hxy : x < y := by omega
            have HY : Hid (Js.W0 s.data.toList y (true :: st) E) := by
              subst hy
              exact ⟨Js.As.next _ x (by rw [← HBTx.out]; decide), by have := HC.out.1; omega, HC.out.2.trans (Js.T_go _ _ _ x (by rw [← HBTx.out]; decide) (by rw [← HBTx.out]; rfl))⟩
            clear hy
            go_wp2_with fail
            apply wp_goto
            refine And.intro ?_ ?_
            · exact ⟨y, _, (true :: st), E, rfl, frWk_is rfl, HST.out, HB.out, hys, .inl ⟨rfl, HY.out⟩⟩
            · show 3 * (s.size - (intOf (Value.int .i64 _)).toNat) + 2 < 3 * (s.size - (intOf (Value.int .i64 _)).toNat) + 1
              simp only [intOf, Int.toNat_natCast]
              all_goals omega
          · have e58 : ((b : Int) != 58) = true := by rw [bne_iff_ne]; omega
            have HY : Hid (Js.W4 s.data.toList x) := HC.out.2.trans (Js.T_no _ _ x hxs rfl fun _ => by rw [Js.step_C _ _ _ HNBx.out, if_neg (by rw [← HBTx.out]; exact h58)])
            clear h58
            go_wp2_with fail
            apply wp_goto
            refine And.intro ?_ ?_
            · exact ⟨x, _, (true :: st), E, rfl, frWk_is rfl, HST.out, HB.out, hxs, .inr (.inr (.inr (.inr (.inl ⟨rfl, HY.out⟩))))⟩
            · show 3 * (s.size - (intOf (Value.int .i64 _)).toNat) + 0 < 3 * (s.size - (intOf (Value.int .i64 _)).toNat) + 1
              simp only [intOf, Int.toNat_natCast]
              all_goals omega
        · obtain ⟨t, ht⟩ : ∃ t, t = r + n := ⟨_, rfl⟩
          have ht2 : (r : Int) + (n : Int) = (t : Int) := by omega
          have hts : t ≤ s.size := by omega
          have hrt : r ≤ t := by omega
          have HX : Hid (Js.W4 s.data.toList t) := by
            subst ht
            exact HC.out.2.2.trans (h4 _ _)
          clear ht h1 h4 HC
          go_wp2_with fail
          apply wp_goto
          refine And.intro ?_ ?_
          · exact ⟨t, _, (true :: st), E, rfl, frWk_is rfl, HST.out, HB.out, hts, .inr (.inr (.inr (.inr (.inl ⟨rfl, HX.out⟩))))⟩
          · show 3 * (s.size - (intOf (Value.int .i64 _)).toNat) + 0 < 3 * (s.size - (intOf (Value.int .i64 _)).toNat) + 1
            simp only [intOf, Int.toNat_natCast]
            all_goals omega
    · refine ⟨_, rfl, ?_⟩
      have H := hidden h
      clear h
      go_wp2_with fail
      refine (sSkip_any s _ p _ rfl hs hps).mono ?_
      rintro e w1 ⟨⟨r, rfl, hrle, hrs, hnb, hT, hA⟩, hw⟩
      have hw := hw.symm
      subst hw
      have HNBr := hidden hnb
      have HTr := hidden (hT (Js.cE st D) (Js.sp_E st D))
      have HAr := hidden hA
      clear hnb hT hA
      have HC : Hid (st.length ≤ r ∧ Js.T s.data.toList Js.c0 0 = Js.T s.data.toList (Js.cE st D) r) := ⟨Nat.le_trans H.out.2.1 hrle, H.out.2.2.trans HTr.out⟩
      clear HAr HTr H
      obtain ⟨c2, c3⟩ := HST.out.size
      cases st with
      | nil =>
        have hz : ((([] : List Bool).length : Nat) : Int) = 0 := rfl
        rw [hz] at c2
        clear hz
        by_cases hlt : r < s.size
        · have e1 : ((r : Int) == (s.size : Int)) = false := by rw [beq_eq_false_iff_ne]; omega
          have e1n : (r == s.size) = false := by rw [beq_eq_false_iff_ne]; omega
          have HW : Hid (Js.T s.data.toList Js.c0 0 = (none, r)) := HC.out.2.trans (Js.text_no _ D r hlt (by rw [← Js.bt_at s.data.toList r hlt]; exact HNBr.out))
          go_wp2_with fail
          go_quiet (fail)
          go_wp2_with fail
          refine jump_ret ?_
          refine bodyPost_ret (results_tmp3 rfl _ _ _) rfl ?_
          exact ⟨.inr ⟨D, r, rfl, hrs, HW.out⟩, sc_drewN HB.out _⟩
        · have hj : r = s.size := by omega
          have e1 : ((r : Int) == (s.size : Int)) = true := by rw [hj]; exact beq_self_eq_true _
          have e1n : (r == s.size) = true := by rw [hj]; exact beq_self_eq_true _
          have HW : Hid (Js.T s.data.toList Js.c0 0 = (some D, r)) := HC.out.2.trans (Js.text_end _ D r hj.symm)
          clear hj
          go_wp2_with fail
          go_quiet (fail)
          go_wp2_with fail
          refine jump_ret ?_
          refine bodyPost_ret (results_tmp3 rfl _ _ _) rfl ?_
          exact ⟨.inl ⟨D, r, rfl, hrs, HW.out⟩, sc_drewN HB.out _⟩
      | cons c t =>
        obtain ⟨m, hm⟩ : ∃ m, m = (c :: t).length := ⟨_, rfl⟩
        have hm0 : 0 < m := by rw [hm]; exact Nat.succ_pos _
        rw [← hm] at c2
        have e0 : ((m : Int) == 0) = false := by rw [beq_eq_false_iff_ne]; omega
        have e0n : (m == 0) = false := by rw [beq_eq_false_iff_ne]; omega
        clear hm
        go_wp2_with fail
        refine (sFirst_at s r _).mono ?_
        rintro e w1 ⟨rfl, hw⟩
        have hw := hw.symm
        subst hw
        obtain ⟨b, hb⟩ : ∃ b, b = Js.bt s.data.toList r := ⟨_, rfl⟩
        rw [← hb]
        have HBTr := hidden hb
        clear hb
        by_cases h44 : b = 44
        · subst h44
          have hlt := bt_within s r (by have := HBTr.out; omega)
          obtain ⟨y, hy⟩ : ∃ y, y = r + 1 := ⟨_, rfl⟩
          have hy2 : (r : Int) + 1 = (y : Int) := by omega
          have hys : y ≤ s.size := by omega
          have hry : r < y := by omega
          have HAS : Hid (Js.As s.data.toList y) := by
            subst hy
            exact Js.As.next _ r (by rw [← HBTr.out]; decide)
          have HL : Hid ((c :: t).length ≤ y) := by have := HC.out.1; show _ ≤ _; omega
          have HYE := hidden hy
          clear hy
          go_wp2_with fail
          refine (sTop_any c _ w.heap.size w.heap.size t D HST.out).mono ?_
          rintro e w1 ⟨rfl, hw⟩
          have hw := hw.symm
          subst hw
          cases c with
          | true =>
            have HY : Hid (Js.W6 s.data.toList y (true :: t) D) := by
              refine ⟨HAS.out, HL.out, HC.out.2.trans ?_⟩
              rw [HYE.out]
              exact Js.T_go _ _ _ r (by rw [← HBTr.out]; decide) (by rw [← HBTr.out]; rfl)
            have ht1 : ((true.toNat : Nat) : Int) = 1 := rfl
            rw [ht1]
            clear ht1
            go_wp2_with fail
            apply wp_goto
            refine And.intro ?_ ?_
            · exact ⟨y, _, (true :: t), D, rfl, frWk_is rfl, HST.out, HB.out, hys, .inr (.inr (.inr (.inr (.inr (.inr ⟨rfl, HY.out⟩)))))⟩
            · show 3 * (s.size - (intOf (Value.int .i64 _)).toNat) + 1 < 3 * (s.size - (intOf (Value.int .i64 _)).toNat) + 2
              simp only [intOf, Int.toNat_natCast]
              all_goals omega
          | false =>
            have HY : Hid (Js.W0 s.data.toList y (false :: t) D) := by
              refine ⟨HAS.out, HL.out, HC.out.2.trans ?_⟩
              rw [HYE.out]
              exact Js.T_go _ _ _ r (by rw [← HBTr.out]; decide) (by rw [← HBTr.out]; rfl)
            have ht1 : ((false.toNat : Nat) : Int) = 0 := rfl
            rw [ht1]
            clear ht1
            go_wp2_with fail
            apply wp_goto
            refine And.intro ?_ ?_
            · exact ⟨y, _, (false :: t), D, rfl, frWk_is rfl, HST.out, HB.out, hys, .inl ⟨rfl, HY.out⟩⟩
            · show 3 * (s.size - (intOf (Value.int .i64 _)).toNat) + 2 < 3 * (s.size - (intOf (Value.int .i64 _)).toNat) + 2
              simp only [intOf, Int.toNat_natCast]
              all_goals omega
        · have e44 : ((b : Int) == 44) = false := by rw [beq_eq_false_iff_ne]; omega
          have H44 := hidden h44
          clear h44
          go_wp2_with fail
          refine (sCloser_any c _ w.heap.size w.heap.size t D HST.out).mono ?_
          rintro e w1 ⟨rfl, hw⟩
          have hw := hw.symm
          subst hw
          obtain ⟨z, hz⟩ : ∃ z : Nat, z = if c then 125 else 93 := ⟨_, rfl⟩
          have hzi : (if c then (125 : Int) else 93) = (z : Int) := by rw [hz]; cases c <;> rfl
          rw [hzi]
          clear hzi
          by_cases hend : b = z
          · have eend : ((b : Int) == (z : Int)) = true := by rw [hend]; exact beq_self_eq_true _
            have eendn : (b == z) = true := by rw [hend]; exact beq_self_eq_true _
            have HY : Hid (Js.W5 s.data.toList r (c :: t) D) := by
              have h1 := HBTr.out
              rw [hend, hz] at h1
              have h3 := HC.out.1
              have h4 := HC.out.2
              rw [List.length_cons] at h3
              cases c with
              | true => exact ⟨by rw [← h1]; decide, by rw [← h1]; decide, true, t, rfl, by omega, h4.trans (Js.T_go _ _ _ r (by rw [← h1]; decide) (by rw [← h1]; rfl))⟩
              | false => exact ⟨by rw [← h1]; decide, by rw [← h1]; decide, false, t, rfl, by omega, h4.trans (Js.T_go _ _ _ r (by rw [← h1]; decide) (by rw [← h1]; rfl))⟩
            clear hend hz
            go_wp2_with fail
            apply wp_goto
            refine And.intro ?_ ?_
            · exact ⟨r, _, (c :: t), D, rfl, frWk_is rfl, HST.out, HB.out, hrs, .inr (.inr (.inr (.inr (.inr (.inl ⟨rfl, HY.out⟩)))))⟩
            · show 3 * (s.size - (intOf (Value.int .i64 _)).toNat) + 1 < 3 * (s.size - (intOf (Value.int .i64 _)).toNat) + 2
              simp only [intOf, Int.toNat_natCast]
              all_goals omega
          · have eend : ((b : Int) == (z : Int)) = false := by rw [beq_eq_false_iff_ne]; omega
            have eendn : (b == z) = false := by rw [beq_eq_false_iff_ne]; exact hend
            have HW : Hid (Js.W4 s.data.toList r) := by
              refine HC.out.2.trans (Js.T_no _ _ r hrs rfl fun _ => Js.step_E_none _ _ _ HNBr.out (by rw [← HBTr.out]; exact H44.out) (fun q hq h => ?_) (fun q hq h => ?_))
              · rw [← HBTr.out] at h
                cases hq
                exact hend (h.trans hz.symm)
              · rw [← HBTr.out] at h
                cases hq
                exact hend (h.trans hz.symm)
            clear hend hz
            go_wp2_with fail
            refine wp_label ?_
            go_wp2_with fail
            go_quiet (fail)
            go_wp2_with fail
            refine jump_ret ?_
            refine bodyPost_ret (results_tmp3 rfl _ _ _) rfl ?_
            exact ⟨.inr ⟨_, r, rfl, hrs, HW.out⟩, sc_drewN HB.out _⟩
    · refine ⟨_, rfl, ?_⟩
      have H := hidden h
      clear h
      obtain ⟨c2, c3⟩ := HST.out.size
      have HW := H
      go_wp2_with fail
      go_quiet (fail)
      go_wp2_with fail
      refine jump_ret ?_
      refine bodyPost_ret (results_tmp3 rfl _ _ _) rfl ?_
      exact ⟨.inr ⟨_, p, rfl, hps, HW.out⟩, sc_drewN HB.out _⟩
    · refine ⟨_, rfl, ?_⟩
      have H := hidden h
      clear h
      obtain ⟨hb0, hb128, c, t, rfl, hlen, hT⟩ := H.out
      have hlt : p < s.size := bt_within s p hb0
      obtain ⟨q, hq⟩ : ∃ q, q = p + 1 := ⟨_, rfl⟩
      have hq2 : (p : Int) + 1 = (q : Int) := by omega
      have hqs : q ≤ s.size := by omega
      have hpq : p < q := by omega
      have HX : Hid (Js.W3 s.data.toList q t D) := by
        subst hq
        exact ⟨Js.As.next _ p hb128, by omega, hT⟩
      clear hb0 hb128 hT hq H
      go_wp2_with fail
      refine (sPop_any c _ w.heap.size w.heap.size t D HST.out (by omega)).mono ?_
      rintro e w2 ⟨rfl, hstk2, hbel2⟩
      have HST2 := hidden hstk2
      have HB2 := hidden (HB.out.trans hbel2)
      clear hstk2 hbel2 HST HB hlen
      have HST := HST2
      have HB := HB2
      clear HST2 HB2
      have H := HX
      clear HX
      obtain ⟨st, hst⟩ : ∃ st, st = t := ⟨_, rfl⟩
      rw [← hst] at H HST
      clear hst t
      go_wp2_with fail
      refine wp_label ?_
      go_wp2_with fail
      refine (sSkip_any s _ q _ rfl hs hqs).mono ?_
      rintro e w1 ⟨⟨r, rfl, hrle, hrs, hnb, hT, hA⟩, hw⟩
      have hw := hw.symm
      subst hw
      have HNBr := hidden hnb
      have HTr := hidden (hT (Js.cE st D) (Js.sp_E st D))
      have HAr := hidden hA
      clear hnb hT hA
      have HC : Hid (st.length ≤ r ∧ Js.T s.data.toList Js.c0 0 = Js.T s.data.toList (Js.cE st D) r) := ⟨Nat.le_trans H.out.2.1 hrle, H.out.2.2.trans HTr.out⟩
      clear HAr HTr H
      obtain ⟨c2, c3⟩ := HST.out.size
      cases st with
      | nil =>
        have hz : ((([] : List Bool).length : Nat) : Int) = 0 := rfl
        rw [hz] at c2
        clear hz
        by_cases hlt : r < s.size
        · have e1 : ((r : Int) == (s.size : Int)) = false := by rw [beq_eq_false_iff_ne]; omega
          have e1n : (r == s.size) = false := by rw [beq_eq_false_iff_ne]; omega
          have HW : Hid (Js.T s.data.toList Js.c0 0 = (none, r)) := HC.out.2.trans (Js.text_no _ D r hlt (by rw [← Js.bt_at s.data.toList r hlt]; exact HNBr.out))
          go_wp2_with fail
          go_quiet (fail)
          go_wp2_with fail
          refine jump_ret ?_
          refine bodyPost_ret (results_tmp3 rfl _ _ _) rfl ?_
          exact ⟨.inr ⟨D, r, rfl, hrs, HW.out⟩, sc_drewN HB.out _⟩
        · have hj : r = s.size := by omega
          have e1 : ((r : Int) == (s.size : Int)) = true := by rw [hj]; exact beq_self_eq_true _
          have e1n : (r == s.size) = true := by rw [hj]; exact beq_self_eq_true _
          have HW : Hid (Js.T s.data.toList Js.c0 0 = (some D, r)) := HC.out.2.trans (Js.text_end _ D r hj.symm)
          clear hj
          go_wp2_with fail
          go_quiet (fail)
          go_wp2_with fail
          refine jump_ret ?_
          refine bodyPost_ret (results_tmp3 rfl _ _ _) rfl ?_
          exact ⟨.inl ⟨D, r, rfl, hrs, HW.out⟩, sc_drewN HB.out _⟩
      | cons c t =>
        obtain ⟨m, hm⟩ : ∃ m, m = (c :: t).length := ⟨_, rfl⟩
        have hm0 : 0 < m := by rw [hm]; exact Nat.succ_pos _
        rw [← hm] at c2
        have e0 : ((m : Int) == 0) = false := by rw [beq_eq_false_iff_ne]; omega
        have e0n : (m == 0) = false := by rw [beq_eq_false_iff_ne]; omega
        clear hm
        go_wp2_with fail
        refine (sFirst_at s r _).mono ?_
        rintro e w1 ⟨rfl, hw⟩
        have hw := hw.symm
        subst hw
        obtain ⟨b, hb⟩ : ∃ b, b = Js.bt s.data.toList r := ⟨_, rfl⟩
        rw [← hb]
        have HBTr := hidden hb
        clear hb
        by_cases h44 : b = 44
        · subst h44
          have hlt := bt_within s r (by have := HBTr.out; omega)
          obtain ⟨y, hy⟩ : ∃ y, y = r + 1 := ⟨_, rfl⟩
          have hy2 : (r : Int) + 1 = (y : Int) := by omega
          have hys : y ≤ s.size := by omega
          have hry : r < y := by omega
          have HAS : Hid (Js.As s.data.toList y) := by
            subst hy
            exact Js.As.next _ r (by rw [← HBTr.out]; decide)
          have HL : Hid ((c :: t).length ≤ y) := by have := HC.out.1; show _ ≤ _; omega
          have HYE := hidden hy
          clear hy
          go_wp2_with fail
          refine (sTop_any c _ w.heap.size w.heap.size t D HST.out).mono ?_
          rintro e w1 ⟨rfl, hw⟩
          have hw := hw.symm
          subst hw
          cases c with
          | true =>
            have HY : Hid (Js.W6 s.data.toList y (true :: t) D) := by
              refine ⟨HAS.out, HL.out, HC.out.2.trans ?_⟩
              rw [HYE.out]
              exact Js.T_go _ _ _ r (by rw [← HBTr.out]; decide) (by rw [← HBTr.out]; rfl)
            have ht1 : ((true.toNat : Nat) : Int) = 1 := rfl
            rw [ht1]
            clear ht1
            go_wp2_with fail
            apply wp_goto
            refine And.intro ?_ ?_
            · exact ⟨y, _, (true :: t), D, rfl, frWk_is rfl, HST.out, HB.out, hys, .inr (.inr (.inr (.inr (.inr (.inr ⟨rfl, HY.out⟩)))))⟩
            · show 3 * (s.size - (intOf (Value.int .i64 _)).toNat) + 1 < 3 * (s.size - (intOf (Value.int .i64 _)).toNat) + 1
              simp only [intOf, Int.toNat_natCast]
              all_goals omega
          | false =>
            have HY : Hid (Js.W0 s.data.toList y (false :: t) D) := by
              refine ⟨HAS.out, HL.out, HC.out.2.trans ?_⟩
              rw [HYE.out]
              exact Js.T_go _ _ _ r (by rw [← HBTr.out]; decide) (by rw [← HBTr.out]; rfl)
            have ht1 : ((false.toNat : Nat) : Int) = 0 := rfl
            rw [ht1]
            clear ht1
            go_wp2_with fail
            apply wp_goto
            refine And.intro ?_ ?_
            · exact ⟨y, _, (false :: t), D, rfl, frWk_is rfl, HST.out, HB.out, hys, .inl ⟨rfl, HY.out⟩⟩
            · show 3 * (s.size - (intOf (Value.int .i64 _)).toNat) + 2 < 3 * (s.size - (intOf (Value.int .i64 _)).toNat) + 1
              simp only [intOf, Int.toNat_natCast]
              all_goals omega
        · have e44 : ((b : Int) == 44) = false := by rw [beq_eq_false_iff_ne]; omega
          have H44 := hidden h44
          clear h44
          go_wp2_with fail
          refine (sCloser_any c _ w.heap.size w.heap.size t D HST.out).mono ?_
          rintro e w1 ⟨rfl, hw⟩
          have hw := hw.symm
          subst hw
          obtain ⟨z, hz⟩ : ∃ z : Nat, z = if c then 125 else 93 := ⟨_, rfl⟩
          have hzi : (if c then (125 : Int) else 93) = (z : Int) := by rw [hz]; cases c <;> rfl
          rw [hzi]
          clear hzi
          by_cases hend : b = z
          · have eend : ((b : Int) == (z : Int)) = true := by rw [hend]; exact beq_self_eq_true _
            have eendn : (b == z) = true := by rw [hend]; exact beq_self_eq_true _
            have HY : Hid (Js.W5 s.data.toList r (c :: t) D) := by
              have h1 := HBTr.out
              rw [hend, hz] at h1
              have h3 := HC.out.1
              have h4 := HC.out.2
              rw [List.length_cons] at h3
              cases c with
              | true => exact ⟨by rw [← h1]; decide, by rw [← h1]; decide, true, t, rfl, by omega, h4.trans (Js.T_go _ _ _ r (by rw [← h1]; decide) (by rw [← h1]; rfl))⟩
              | false => exact ⟨by rw [← h1]; decide, by rw [← h1]; decide, false, t, rfl, by omega, h4.trans (Js.T_go _ _ _ r (by rw [← h1]; decide) (by rw [← h1]; rfl))⟩
            clear hend hz
            go_wp2_with fail
            apply wp_goto
            refine And.intro ?_ ?_
            · exact ⟨r, _, (c :: t), D, rfl, frWk_is rfl, HST.out, HB.out, hrs, .inr (.inr (.inr (.inr (.inr (.inl ⟨rfl, HY.out⟩)))))⟩
            · show 3 * (s.size - (intOf (Value.int .i64 _)).toNat) + 1 < 3 * (s.size - (intOf (Value.int .i64 _)).toNat) + 1
              simp only [intOf, Int.toNat_natCast]
              all_goals omega
          · have eend : ((b : Int) == (z : Int)) = false := by rw [beq_eq_false_iff_ne]; omega
            have eendn : (b == z) = false := by rw [beq_eq_false_iff_ne]; exact hend
            have HW : Hid (Js.W4 s.data.toList r) := by
              refine HC.out.2.trans (Js.T_no _ _ r hrs rfl fun _ => Js.step_E_none _ _ _ HNBr.out (by rw [← HBTr.out]; exact H44.out) (fun q hq h => ?_) (fun q hq h => ?_))
              · rw [← HBTr.out] at h
                cases hq
                exact hend (h.trans hz.symm)
              · rw [← HBTr.out] at h
                cases hq
                exact hend (h.trans hz.symm)
            clear hend hz
            go_wp2_with fail
            refine wp_label ?_
            go_wp2_with fail
            go_quiet (fail)
            go_wp2_with fail
            refine jump_ret ?_
            refine bodyPost_ret (results_tmp3 rfl _ _ _) rfl ?_
            exact ⟨.inr ⟨_, r, rfl, hrs, HW.out⟩, sc_drewN HB.out _⟩
    · refine ⟨_, rfl, ?_⟩
      have H := hidden h
      clear h
      go_wp2_with fail
      refine (sSkip_any s _ p _ rfl hs hps).mono ?_
      rintro e w1 ⟨⟨r, rfl, hrle, hrs, hnb, hT, hA⟩, hw⟩
      have hw := hw.symm
      subst hw
      have HNBr := hidden hnb
      have HTr := hidden (hT (Js.cK st D) (Js.sp_K st D))
      have HAr := hidden hA
      clear hnb hT hA
      have HC : Hid (Js.As s.data.toList r ∧ st.length ≤ r ∧ Js.T s.data.toList Js.c0 0 = Js.T s.data.toList (Js.cK st D) r) := ⟨HAr.out H.out.1, Nat.le_trans H.out.2.1 hrle, H.out.2.2.trans HTr.out⟩
      clear HAr HTr
      go_wp2_with fail
      refine (sQuoted_at s r _ hs hrs HAL.out HC.out.1 HNBr.out).mono ?_
      rintro e w1 ⟨hq, hw⟩
      have hw := hw.symm
      subst hw
      rcases hq with ⟨n, rfl, h1, h2, h3, h4⟩ | ⟨n, rfl, h1, h4⟩
      · obtain ⟨t, ht⟩ : ∃ t, t = r + n := ⟨_, rfl⟩
        have ht2 : (r : Int) + (n : Int) = (t : Int) := by omega
        have hts : t ≤ s.size := by omega
        have hrt : r < t := by omega
        have HX : Hid (Js.As s.data.toList t ∧ st.length ≤ t ∧ Js.T s.data.toList Js.c0 0 = Js.T s.data.toList (Js.cC st D) t) := by
          subst ht
          exact ⟨Js.As.at _ _ (by omega) h3, by have := HC.out.2.1; omega, HC.out.2.2.trans (h4 _ _)⟩
        clear ht h1 h2 h3 h4 HC
        go_wp2_with fail
        refine (sSkip_any s _ t _ rfl hs hts).mono ?_
        rintro e w1 ⟨⟨x, rfl, hxle, hxs, hnb, hT, hA⟩, hw⟩
        have hw := hw.symm
        subst hw
        have HNBx := hidden hnb
        have HTx := hidden (hT (Js.cC st D) (Js.sp_C st D))
        have HAx := hidden hA
        clear hnb hT hA
        have HC : Hid (st.length ≤ x ∧ Js.T s.data.toList Js.c0 0 = Js.T s.data.toList (Js.cC st D) x) := ⟨Nat.le_trans HX.out.2.1 hxle, HX.out.2.2.trans HTx.out⟩
        clear HAx HTx HX
        go_wp2_with fail
        refine (sFirst_at s x _).mono ?_
        rintro e w1 ⟨rfl, hw⟩
        have hw := hw.symm
        subst hw
        obtain ⟨b, hb⟩ : ∃ b, b = Js.bt s.data.toList x := ⟨_, rfl⟩
        rw [← hb]
        have HBTx := hidden hb
        clear hb
        by_cases h58 : b = 58
        · subst h58
          have hlt := bt_within s x (by have := HBTx.out; omega)
          obtain ⟨y, hy⟩ : ∃ y, y = x + 1 := ⟨_, rfl⟩
          have hy2 : (x : Int) + 1 = (y : Int) := by omega
          have hys : y ≤ s.size := by omega
          have hxy : x < y := by omega
          have HY : Hid (Js.W0 s.data.toList y st D) := by
            subst hy
            exact ⟨Js.As.next _ x (by rw [← HBTx.out]; decide), by have := HC.out.1; omega, HC.out.2.trans (Js.T_go _ _ _ x (by rw [← HBTx.out]; decide) (by rw [← HBTx.out]; rfl))⟩
          clear hy
          go_wp2_with fail
          apply wp_goto
          refine And.intro ?_ ?_
          · exact ⟨y, _, st, D, rfl, frWk_is rfl, HST.out, HB.out, hys, .inl ⟨rfl, HY.out⟩⟩
          · show 3 * (s.size - (intOf (Value.int .i64 _)).toNat) + 2 < 3 * (s.size - (intOf (Value.int .i64 _)).toNat) + 1
            simp only [intOf, Int.toNat_natCast]
            all_goals omega
        · have e58 : ((b : Int) != 58) = true := by rw [bne_iff_ne]; omega
          have HY : Hid (Js.W4 s.data.toList x) := HC.out.2.trans (Js.T_no _ _ x hxs rfl fun _ => by rw [Js.step_C _ _ _ HNBx.out, if_neg (by rw [← HBTx.out]; exact h58)])
          clear h58
          go_wp2_with fail
          apply wp_goto
          refine And.intro ?_ ?_
          · exact ⟨x, _, st, D, rfl, frWk_is rfl, HST.out, HB.out, hxs, .inr (.inr (.inr (.inr (.inl ⟨rfl, HY.out⟩))))⟩
          · show 3 * (s.size - (intOf (Value.int .i64 _)).toNat) + 0 < 3 * (s.size - (intOf (Value.int .i64 _)).toNat) + 1
            simp only [intOf, Int.toNat_natCast]
            all_goals omega
      · obtain ⟨t, ht⟩ : ∃ t, t = r + n := ⟨_, rfl⟩
        have ht2 : (r : Int) + (n : Int) = (t : Int) := by omega
        have hts : t ≤ s.size := by omega
        have hrt : r ≤ t := by omega
        have HX : Hid (Js.W4 s.data.toList t) := by
          subst ht
          exact HC.out.2.2.trans (h4 _ _)
        clear ht h1 h4 HC
        go_wp2_with fail
        apply wp_goto
        refine And.intro ?_ ?_
        · exact ⟨t, _, st, D, rfl, frWk_is rfl, HST.out, HB.out, hts, .inr (.inr (.inr (.inr (.inl ⟨rfl, HX.out⟩))))⟩
        · show 3 * (s.size - (intOf (Value.int .i64 _)).toNat) + 0 < 3 * (s.size - (intOf (Value.int .i64 _)).toNat) + 1
          simp only [intOf, Int.toNat_natCast]
          all_goals omega
end Go.Proofs.YtoipliflphbeiaaGreatDoor
namespace Go.Proofs.YtoipliflphbeiaaGreatDoor
open Go.RowKit
namespace Js
/-- What scan.Validate answers: the verdict, the place or the depth, the error. -/
def ansV (l : List UInt8) (z : Int) : Int := if 1 ≤ z ∧ z ≤ 4096 then (val l z).1 else 0
def ansP (l : List UInt8) (z : Int) : Int := if 1 ≤ z ∧ z ≤ 4096 then (val l z).2 else 0
def ansE (z : Int) : Int := if 1 ≤ z ∧ z ≤ 4096 then 0 else 1
theorem ansV_in (l : List UInt8) (z : Int) (h : 1 ≤ z) (h2 : z ≤ 4096) : ansV l z = (val l z).1 := if_pos ⟨h, h2⟩
theorem ansP_in (l : List UInt8) (z : Int) (h : 1 ≤ z) (h2 : z ≤ 4096) : ansP l z = (val l z).2 := if_pos ⟨h, h2⟩
theorem ansE_in (z : Int) (h : 1 ≤ z) (h2 : z ≤ 4096) : ansE z = 0 := if_pos ⟨h, h2⟩
theorem ansV_out (l : List UInt8) (z : Int) (h : ¬ (1 ≤ z ∧ z ≤ 4096)) : ansV l z = 0 := if_neg h
theorem ansP_out (l : List UInt8) (z : Int) (h : ¬ (1 ≤ z ∧ z ≤ 4096)) : ansP l z = 0 := if_neg h
theorem ansE_out (z : Int) (h : ¬ (1 ≤ z ∧ z ≤ 4096)) : ansE z = 1 := if_neg h
end Js
/-- What read tells. -/
def ReadPost (l : List UInt8) (e : Ending) : Prop :=
  (∃ D n : Nat, e = .returned (.tuple #[.int .i64 (n : Nat), .int .i64 (D : Nat), .bool true]) ∧ (Js.out Js.c0 l).1 = some D)
  ∨ ∃ D n : Nat, e = .returned (.tuple #[.int .i64 (n : Nat), .int .i64 (D : Nat), .bool false]) ∧ Js.out Js.c0 l = (none, n)
set_option maxHeartbeats 1000000 in
theorem sRead_any (s : ByteArray) (w : World) (hs : s.size ≤ 1000000) :
    Calls Tryz.prog 88 #[.string s] w fun e w' => ReadPost s.data.toList e ∧ Below w.heap.size w w' := by
  have hlen : s.data.toList.length = s.size := rfl
  have HL := hidden (fun w => Live_any s w (by omega))
  have hle := Ut.alive_le 0 s.data.toList
  have hsh := Js.out_short s.data.toList
  have hal := Js.alive_al s.data.toList
  obtain ⟨k, hk⟩ : ∃ k, k = Ut.alive 0 s.data.toList := ⟨_, rfl⟩
  rw [← hk] at HL hle hsh hal
  rw [hlen] at hle hsh
  have hcut : (s.extract 0 k).data.toList = s.data.toList.take k := by
    obtain ⟨⟨l⟩⟩ := s
    rw [ByteArray.extract_mk]
    simp
  have HW := hidden (fun w => sWalk_any (s.extract 0 k) w (by rw [ByteArray.size_extract]; omega) (by rw [hcut]; exact hal))
  rw [hcut] at HW
  have HSH := hidden hsh
  have HALL : Hid (k = s.size → s.data.toList.take k = s.data.toList) := hidden fun h => by rw [h]; exact take_all s
  clear hk hsh hal hcut hlen
  go_enter Tryz.func88, Tryz.ntmps88
  go_wp2_with fail
  refine (HL.out _).mono ?_
  rintro e w1 ⟨rfl, hw⟩
  have hw := hw.symm
  subst hw
  by_cases hks : k = s.size
  · have HKS := hidden hks
    have e1 : ((k : Int) == (s.size : Int)) = true := by rw [hks]; exact beq_self_eq_true _
    have e1n : (k == s.size) = true := by rw [hks]; exact beq_self_eq_true _
    clear hks
    go_wp2_with fail
    refine (HW.out _).mono ?_
    rintro e w2 ⟨hq, hb⟩
    have HB := hidden hb
    clear hb
    rcases hq with ⟨D, n, rfl, hn, hT⟩ | ⟨D, n, rfl, hn, hT⟩
    · have HX : Hid ((Js.out Js.c0 s.data.toList).1 = some D) := by
        rw [HALL.out HKS.out] at hT
        exact congrArg Prod.fst hT
      clear hn hT
      go_wp2_with fail
      refine bodyPost_ret (results_tmp3 rfl _ _ _) rfl ?_
      exact ⟨.inl ⟨D, n, rfl, HX.out⟩, HB.out⟩
    · have HX : Hid (Js.out Js.c0 s.data.toList = (none, n)) := by
        rw [HALL.out HKS.out] at hT
        exact hT
      clear hn hT
      go_wp2_with fail
      refine bodyPost_ret (results_tmp3 rfl _ _ _) rfl ?_
      exact ⟨.inr ⟨D, n, rfl, HX.out⟩, HB.out⟩
  · have HS2 := hidden (HSH.out (by omega))
    have e1 : ((k : Int) == (s.size : Int)) = false := by rw [beq_eq_false_iff_ne]; omega
    have e1n : (k == s.size) = false := by rw [beq_eq_false_iff_ne]; exact hks
    clear hks
    go_wp2_with fail
    refine (HW.out _).mono ?_
    rintro e w2 ⟨hq, hb⟩
    have HB := hidden hb
    clear hb
    rcases hq with ⟨D, n, rfl, hn, hT⟩ | ⟨D, n, rfl, hn, hT⟩
    all_goals (
      have HX : Hid (Js.out Js.c0 s.data.toList = (none, n)) := by
        have h2 : (Js.out Js.c0 (s.data.toList.take k)).2 = n := congrArg Prod.snd hT
        have h1 := HS2.out
        rw [h2] at h1
        exact h1
      clear hn hT
      go_wp2_with fail
      refine bodyPost_ret (results_tmp3 rfl _ _ _) rfl ?_
      exact ⟨.inr ⟨D, n, rfl, HX.out⟩, HB.out⟩)
set_option maxHeartbeats 1000000 in
theorem sValidate_any (s : ByteArray) (z : Int) (w : World) (hs : s.size ≤ 9223372036854775807) :
    Calls Tryz.prog 52 #[.string s, .int .i64 z] w fun e w' => e = .returned (.tuple #[.int .i64 (Js.ansV s.data.toList z), .int .i64 (Js.ansP s.data.toList z), .int .i64 (Js.ansE z)]) ∧ Below w.heap.size w w' := by
  by_cases h1 : 1 ≤ z
  · by_cases h2 : z ≤ 4096
    · have HV := hidden (Js.ansV_in s.data.toList z h1 h2)
      have HP := hidden (Js.ansP_in s.data.toList z h1 h2)
      have HE := hidden (Js.ansE_in z h1 h2)
      have d1 : ¬ z < 1 := by omega
      have d2 : ¬ 4096 < z := by omega
      have hlen : s.data.toList.length = s.size := rfl
      have HLEN := hidden hlen
      clear h1 h2 hlen
      by_cases hl : 65536 < s.size
      · have HX := hidden (Js.val_long s.data.toList z (by rw [HLEN.out]; exact hl))
        have d3 : (65536 : Int) < (s.size : Int) := by omega
        clear hl
        go_enter Tryz.func52, Tryz.ntmps52
        go_wp2_with fail
        refine bodyPost_ret (results_tmp3 rfl _ _ _) rfl ?_
        rw [HV.out, HP.out, HE.out, HX.out]
        exact ⟨rfl, Below.refl _ _⟩
      · have d3 : ¬ (65536 : Int) < (s.size : Int) := by omega
        have HLE : Hid (¬ 65536 < s.data.toList.length) := hidden (by rw [HLEN.out]; exact hl)
        have HR := hidden (fun w => sRead_any s w (by omega))
        clear hl
        go_enter Tryz.func52, Tryz.ntmps52
        go_wp2_with fail
        refine (HR.out _).mono ?_
        rintro e w1 ⟨hq, hb⟩
        have HB := hidden hb
        clear hb
        rcases hq with ⟨D, n, rfl, ho⟩ | ⟨D, n, rfl, ho⟩
        · by_cases hz : z < (D : Int)
          · have HX := hidden (Js.val_deep s.data.toList z D HLE.out ho hz)
            have e1 : decide (z < (D : Int)) = true := decide_eq_true hz
            clear ho
            go_wp2_with fail
            refine bodyPost_ret (results_tmp3 rfl _ _ _) rfl ?_
            rw [HV.out, HP.out, HE.out, HX.out]
            exact ⟨rfl, HB.out⟩
          · have HX := hidden (Js.val_yes s.data.toList z D HLE.out ho hz)
            have e1 : decide (z < (D : Int)) = false := decide_eq_false hz
            clear ho
            go_wp2_with fail
            refine bodyPost_ret (results_tmp3 rfl _ _ _) rfl ?_
            rw [HV.out, HP.out, HE.out, HX.out]
            exact ⟨rfl, HB.out⟩
        · have HX := hidden (Js.val_no s.data.toList z n HLE.out ho)
          clear ho
          go_wp2_with fail
          refine bodyPost_ret (results_tmp3 rfl _ _ _) rfl ?_
          rw [HV.out, HP.out, HE.out, HX.out]
          exact ⟨rfl, HB.out⟩
    · have HV := hidden (Js.ansV_out s.data.toList z (fun h => h2 h.2))
      have HP := hidden (Js.ansP_out s.data.toList z (fun h => h2 h.2))
      have HE := hidden (Js.ansE_out z (fun h => h2 h.2))
      have d1 : ¬ z < 1 := by omega
      have d2 : 4096 < z := by omega
      clear h1 h2
      go_enter Tryz.func52, Tryz.ntmps52
      go_wp2_with fail
      refine bodyPost_ret (results_tmp3 rfl _ _ _) rfl ?_
      rw [HV.out, HP.out, HE.out]
      exact ⟨rfl, Below.refl _ _⟩
  · have HV := hidden (Js.ansV_out s.data.toList z (fun h => h1 h.1))
    have HP := hidden (Js.ansP_out s.data.toList z (fun h => h1 h.1))
    have HE := hidden (Js.ansE_out z (fun h => h1 h.1))
    have d1 : z < 1 := by omega
    clear h1
    go_enter Tryz.func52, Tryz.ntmps52
    go_wp2_with fail
    refine bodyPost_ret (results_tmp3 rfl _ _ _) rfl ?_
    rw [HV.out, HP.out, HE.out]
    exact ⟨rfl, Below.refl _ _⟩
end Go.Proofs.YtoipliflphbeiaaGreatDoor
