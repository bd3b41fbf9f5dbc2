/-
  The contracts of laceworkref12's bad, blanks, digits, hex and word: for every string and every place; nothing that was there is changed.
-/
import Derived.Laws.ResultCell
import Derived.Laws.Rows
import Derived.Test.YtifkemcjificcaaJsStep
import Derived.Test.YtifkemcjificcaaUtRefR
namespace Go.Proofs.Ytifkemcjificcaa
open Go.RowKit
/-- What the reference tells: a place, whether all is well ahead of it, how deep it nests. -/
def rv (i : Nat) (o : Bool) (d : Nat) : Value := .agg #[.int .i64 (i : Nat), .bool o, .int .i64 (d : Nat)]
theorem sizeR : (Try.prog.info? 32).map (·.size) = some 3 := by kernel_rfl
theorem jBad_any (z : Int) (i : Nat) (w : World) (hz : z = (i : Int)) :
    Calls Try.prog 23 #[.int .i64 z] w fun e w' => e = .returned (rv i false 0) ∧ Below w.heap.size w w' := by
  subst hz
  go_enter Try.func23, Try.ntmps23
  go_wp2_with fail
  refine bodyPost_ret (results_cell_row rfl _ _ w.heap.size 32 #[.int .i64 (i : Nat), .bool false, .int .i64 0] (0, 0) _ rfl ?_ Try.underlying32 rfl sizeR) rfl ?_
  · exact heap_alloc_new _ _
  · exact ⟨rfl, (Below.refl _ _).alloc (Nat.le_refl _) _⟩
set_option maxHeartbeats 1000000 in
theorem jBlanks_any (s : ByteArray) (i : Nat) (w : World) (hs : s.size ≤ 1000000) (hi : i ≤ s.size) :
    Calls Try.prog 22 #[.string s, .int .i64 (i : Nat)] w fun e w' => (∃ j : Nat, e = .returned (.int .i64 (j : Nat)) ∧ i ≤ j ∧ j ≤ s.size ∧ (∀ hj : j < s.size, Js.isB s[j].toNat = false) ∧ ∀ c, Js.Sp c → Js.T s.data.toList c i = Js.T s.data.toList c j) ∧ w' = w := by
  go_enter Try.func22, Try.ntmps22
  go_wp2_with fail
  go_loop [1] (fun v => ∃ j : Nat, v = .int .i64 (j : Nat) ∧ i ≤ j ∧ j ≤ s.size ∧ ∀ c, Js.Sp c → Js.T s.data.toList c i = Js.T s.data.toList c j) (fun v => s.size - (intOf v).toNat)
  case atStart => exact ⟨i, rfl, Nat.le_refl _, hi, fun _ _ => rfl⟩
  case round =>
    obtain ⟨j, rfl, hij, hjs, hT⟩ := hrel
    have HT := hidden hT
    clear hT
    by_cases hlt : j < s.size
    · have hb := s[j].toNat_lt
      have hlt2 : decide ((j : Int) < (s.size : Int)) = true := decide_eq_true (by omega)
      have next : Hid (Js.isB s[j].toNat = true → ∀ c, Js.Sp c → Js.T s.data.toList c i = Js.T s.data.toList c (j + 1)) := fun h c hc => (HT.out c hc).trans (Js.T_blank _ c j hc hlt h)
      by_cases h1 : s[j].toNat = 32
      · go_wp2_with fail
        go_round
        case rel => exact ⟨j + 1, by go_num, by omega, hlt, next.out (Js.isB_of _ (.inl h1))⟩
        case measure => simp [intOf]; omega
      by_cases h2 : s[j].toNat = 9
      · clear h1
        go_wp2_with fail
        go_round
        case rel => exact ⟨j + 1, by go_num, by omega, hlt, next.out (Js.isB_of _ (.inr (.inl h2)))⟩
        case measure => simp [intOf]; omega
      by_cases h3 : s[j].toNat = 10
      · clear h1 h2
        go_wp2_with fail
        go_round
        case rel => exact ⟨j + 1, by go_num, by omega, hlt, next.out (Js.isB_of _ (.inr (.inr (.inl h3))))⟩
        case measure => simp [intOf]; omega
      by_cases h4 : s[j].toNat = 13
      · clear h1 h2 h3
        go_wp2_with fail
        go_round
        case rel => exact ⟨j + 1, by go_num, by omega, hlt, next.out (Js.isB_of _ (.inr (.inr (.inr h4))))⟩
        case measure => simp [intOf]; omega
      · have HN := hidden (Js.isB_not _ h1 h2 h3 h4)
        have e1 : (((s[j].toNat : Nat) : Int) == 32) = false := by rw [beq_eq_false_iff_ne]; omega
        have e2 : (((s[j].toNat : Nat) : Int) == 9) = false := by rw [beq_eq_false_iff_ne]; omega
        have e3 : (((s[j].toNat : Nat) : Int) == 10) = false := by rw [beq_eq_false_iff_ne]; omega
        have e4 : (((s[j].toNat : Nat) : Int) == 13) = false := by rw [beq_eq_false_iff_ne]; omega
        clear h1 h2 h3 h4
        go_wp2_with fail
        go_ret
        exact ⟨⟨j, rfl, hij, hjs, fun _ => HN.out, HT.out⟩, rfl⟩
    · have hlt2 : decide ((j : Int) < (s.size : Int)) = false := decide_eq_false (by omega)
      go_wp2_with fail
      go_ret
      exact ⟨⟨j, rfl, hij, hjs, fun h => absurd h hlt, HT.out⟩, rfl⟩
set_option maxHeartbeats 1000000 in
theorem jDigits_any (s : ByteArray) (z : Int) (i : Nat) (w : World) (hz : z = (i : Int)) (hs : s.size ≤ 1000000) (hi : i ≤ s.size) :
    Calls Try.prog 34 #[.string s, .int .i64 z] w fun e w' => (∃ n : Nat, e = .returned (.int .i64 (n : Nat)) ∧ i + n ≤ s.size ∧ (∀ hj : i + n < s.size, Js.isD s[i + n].toNat = false) ∧ ∀ j, i ≤ j → j < i + n → ∃ hj : j < s.size, Js.isD s[j].toNat = true) ∧ w' = w := by
  subst hz
  go_enter Try.func34, Try.ntmps34
  go_wp2_with fail
  go_loop [5] (fun v => ∃ n : Nat, v = .int .i64 (n : Nat) ∧ i + n ≤ s.size ∧ ∀ j, i ≤ j → j < i + n → ∃ hj : j < s.size, Js.isD s[j].toNat = true) (fun v => s.size - (intOf v).toNat)
  case atStart => exact ⟨0, rfl, hi, fun j h1 h2 => by omega⟩
  case round =>
    obtain ⟨n, rfl, hn, hall⟩ := hrel
    have HA := hidden hall
    clear hall
    obtain ⟨p, hp⟩ : ∃ p, p = i + n := ⟨_, rfl⟩
    have hpi : (i : Int) + (n : Int) = (p : Int) := by omega
    by_cases hlt : p < s.size
    · have hb := s[p].toNat_lt
      have HP := hidden hp
      have hpw : IntKind.i64.wrap (p : Int) = (p : Int) := by rw [IntKind.wrap_i64]; omega
      have d0 : decide ((p : Int) < (s.size : Int)) = true := decide_eq_true (by omega)
      have d0n : decide (p < s.size) = true := decide_eq_true hlt
      by_cases h1 : 48 ≤ s[p].toNat
      · have d1 : decide ((48 : Int) ≤ ((s[p].toNat : Nat) : Int)) = true := decide_eq_true (by omega)
        by_cases h2 : s[p].toNat ≤ 57
        · have d2 : decide (((s[p].toNat : Nat) : Int) ≤ 57) = true := decide_eq_true (by omega)
          have HD := hidden ((Js.isD_iff _).2 ⟨h1, h2⟩)
          clear hp h1 h2
          go_wp2_with fail
          go_round
          case rel =>
            refine ⟨n + 1, by go_num, by have := HP.out; omega, fun j h3 h4 => ?_⟩
            by_cases h5 : j < i + n
            · exact HA.out j h3 h5
            · obtain rfl : j = p := by have := HP.out; omega
              exact ⟨hlt, HD.out⟩
          case measure => have := HP.out; simp [intOf]; omega
        · have d2 : decide (((s[p].toNat : Nat) : Int) ≤ 57) = false := decide_eq_false (by omega)
          have HD : Hid (Js.isD s[p].toNat = false) := by
            show _ = _
            cases h3 : Js.isD s[p].toNat with
            | false => rfl
            | true => rw [Js.isD_iff] at h3; omega
          clear hp h1 h2
          go_wp2_with fail
          go_ret
          refine ⟨⟨n, rfl, hn, fun _ => ?_, HA.out⟩, rfl⟩
          have := HD.out
          simp only [HP.out] at this
          exact this
      · have d1 : decide ((48 : Int) ≤ ((s[p].toNat : Nat) : Int)) = false := decide_eq_false (by omega)
        have HD : Hid (Js.isD s[p].toNat = false) := by
          show _ = _
          cases h3 : Js.isD s[p].toNat with
          | false => rfl
          | true => rw [Js.isD_iff] at h3; omega
        clear hp h1
        go_wp2_with fail
        go_ret
        refine ⟨⟨n, rfl, hn, fun _ => ?_, HA.out⟩, rfl⟩
        have := HD.out
        simp only [HP.out] at this
        exact this
    · have d0 : decide ((p : Int) < (s.size : Int)) = false := decide_eq_false (by omega)
      have d0n : decide (p < s.size) = false := decide_eq_false hlt
      have HP := hidden hp
      clear hp
      go_wp2_with fail
      go_ret
      exact ⟨⟨n, rfl, hn, fun h => absurd h (by have := HP.out; omega), HA.out⟩, rfl⟩
end Go.Proofs.Ytifkemcjificcaa
