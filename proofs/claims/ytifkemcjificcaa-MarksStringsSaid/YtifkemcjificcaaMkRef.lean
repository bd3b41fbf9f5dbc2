/-
  The contracts of laceworkref13's Is and Inside, and of laceworkref06's Balanced: for every byte, string and list of bits; nothing that was there is changed.
-/
import Derived.Test.YtifkemcjificcaaMkJs
import Derived.Test.YtifkemcjificcaaMkMem
namespace Go.Proofs.Ytifkemcjificcaa
open Go.RowKit
namespace Mk
def six : List Nat := [91, 93, 123, 125, 58, 44]
theorem six_at (j : Nat) (hj : j < 6) (h : j < (⟨#[91, 93, 123, 125, 58, 44]⟩ : ByteArray).size) : ((⟨#[91, 93, 123, 125, 58, 44]⟩ : ByteArray)[j]'h).toNat = six.getD j 0 := by
  match j, hj with
  | 0, _ => rfl
  | 1, _ => rfl
  | 2, _ => rfl
  | 3, _ => rfl
  | 4, _ => rfl
  | 5, _ => rfl
theorem six_yes (j b : Nat) (hj : j < 6) (h : six.getD j 0 = b) : isM b = true := by
  subst h
  match j, hj with
  | 0, _ => rfl
  | 1, _ => rfl
  | 2, _ => rfl
  | 3, _ => rfl
  | 4, _ => rfl
  | 5, _ => rfl
theorem six_no (b : Nat) (h : ∀ j, j < 6 → six.getD j 0 ≠ b) : isM b = false := by
  refine isM_no (fun h2 => ?_)
  rcases h2 with h2 | h2 | h2 | h2 | h2 | h2
  · exact h 0 (by decide) h2.symm
  · exact h 1 (by decide) h2.symm
  · exact h 2 (by decide) h2.symm
  · exact h 3 (by decide) h2.symm
  · exact h 4 (by decide) h2.symm
  · exact h 5 (by decide) h2.symm
end Mk
set_option maxHeartbeats 1000000 in
theorem mrIs_any (b : Nat) (w : World) :
    Calls Try.prog 9 #[.int .u8 (b : Nat)] w fun e w' => e = .returned (.bool (Mk.isM b)) ∧ w' = w := by
  go_enter Try.func9, Try.ntmps9
  go_wp2_with fail
  go_loop [4] (fun i => ∃ j : Nat, j ≤ 6 ∧ i = .int .i64 (j : Nat) ∧ ∀ t, t < j → Mk.six.getD t 0 ≠ b) (fun i => 6 - (intOf i).toNat)
  case atStart => exact ⟨0, Nat.zero_le _, rfl, fun t h => by omega⟩
  case round =>
    obtain ⟨j, hj, rfl, hall⟩ := hrel
    have HALL := hidden hall
    clear hall
    by_cases hlt : j < 6
    · have hlt2 : decide ((j : Int) < 6) = true := decide_eq_true (by omega)
      have hx := Mk.six_at j hlt
      obtain ⟨g, hg⟩ : ∃ g, g = Mk.six.getD j 0 := ⟨_, rfl⟩
      rw [← hg] at hx
      have HG := hidden hg
      have HLT := hidden hlt
      clear hg
      by_cases heq : g = b
      · have HEQ := hidden heq
        have e1 : ((g : Int) == (b : Int)) = true := by rw [heq]; exact beq_self_eq_true _
        have e1n : (g == b) = true := by rw [heq]; exact beq_self_eq_true _
        clear heq
        go_wp2_with fail
        go_ret
        refine ⟨?_, rfl⟩
        rw [Mk.six_yes j b HLT.out (HG.out.symm.trans HEQ.out)]
        rfl
      · have HEQ := hidden heq
        have e1 : ((g : Int) == (b : Int)) = false := by rw [beq_eq_false_iff_ne]; omega
        have e1n : (g == b) = false := by rw [beq_eq_false_iff_ne]; exact heq
        clear heq
        go_wp2_with fail
        go_round
        case rel =>
          refine ⟨j + 1, HLT.out, by go_num, fun t ht => ?_⟩
          by_cases h4 : t < j
          · exact HALL.out t h4
          · obtain rfl : t = j := by omega
            rw [← HG.out]
            exact HEQ.out
        case measure => simp [intOf]; omega
    · have hlt2 : decide ((j : Int) < 6) = false := decide_eq_false (by omega)
      have HJ := hidden (show 6 ≤ j by omega)
      clear hlt
      go_wp2_with fail
      go_ret
      refine ⟨?_, rfl⟩
      rw [Mk.six_no b (fun t ht => HALL.out t (by have := HJ.out; omega))]
      rfl
namespace Mk
/-- An excess of so many bits. -/
def ex (l : List Bool) : Nat → Int
  | 0 => 0
  | j + 1 => ex l j + (if l.getD j false then 1 else -1)
theorem bal_drop (l : List Bool) : ∀ (k j : Nat), l.length = j + k → ((∃ t, j < t ∧ t ≤ l.length ∧ ex l t < 0) → bal (ex l j) (l.drop j) = false) ∧ ((∀ t, j < t → t ≤ l.length → 0 ≤ ex l t) → bal (ex l j) (l.drop j) = (ex l l.length == 0)) := by
  intro k
  induction k with
  | zero =>
    intro j hj
    refine ⟨fun ⟨t, h1, h2, _⟩ => by omega, fun _ => ?_⟩
    rw [List.drop_of_length_le (by omega), show l.length = j by omega]
    rfl
  | succ k ih =>
    intro j hj
    have hlt : j < l.length := by omega
    have e : ex l j + (if l[j] then 1 else -1) = ex l (j + 1) := by
      show _ = ex l j + (if l.getD j false then 1 else -1)
      rw [List.getD_eq_getElem?_getD, List.getElem?_eq_getElem hlt]
      rfl
    have e2 : bal (ex l j) (l.drop j) = (if ex l (j + 1) < 0 then false else bal (ex l (j + 1)) (l.drop (j + 1))) := by
      rw [List.drop_eq_getElem_cons hlt]
      show (if ex l j + (if l[j] then 1 else -1) < 0 then false else bal (ex l j + (if l[j] then 1 else -1)) (l.drop (j + 1))) = _
      rw [e]
    obtain ⟨i1, i2⟩ := ih (j + 1) (by omega)
    rw [e2]
    refine ⟨fun ⟨t, h1, h2, h3⟩ => ?_, fun h => ?_⟩
    · by_cases h0 : ex l (j + 1) < 0
      · rw [if_pos h0]
      · rw [if_neg h0]
        refine i1 ⟨t, ?_, h2, h3⟩
        rcases Nat.lt_or_ge (j + 1) t with h4 | h4
        · exact h4
        · exfalso
          rw [show t = j + 1 by omega] at h3
          exact h0 h3
    · have h0 := h (j + 1) (by omega) (by omega)
      rw [if_neg (by omega)]
      exact i2 fun t h1 h2 => h t (by omega) h2
theorem bal_no (l : List Bool) (t : Nat) (h1 : 0 < t) (h2 : t ≤ l.length) (h3 : ex l t < 0) : bal 0 l = false :=
  (bal_drop l l.length 0 (by omega)).1 ⟨t, h1, h2, h3⟩
theorem bal_end (l : List Bool) (h : ∀ t, 0 < t → t ≤ l.length → 0 ≤ ex l t) : bal 0 l = (ex l l.length == 0) :=
  (bal_drop l l.length 0 (by omega)).2 h
theorem ex_le (l : List Bool) (j : Nat) : ex l j ≤ j ∧ -(j : Int) ≤ ex l j := by
  induction j with
  | zero => exact ⟨Int.le_refl _, Int.le_refl _⟩
  | succ j ih =>
    show ex l j + (if l.getD j false then 1 else -1) ≤ _ ∧ _ ≤ ex l j + (if l.getD j false then 1 else -1)
    split <;> omega
end Mk
set_option maxHeartbeats 2000000 in
theorem mBalanced_any (l : List Bool) (v : Value) (B : Nat) (w : World) (hv : Mk.Lb w B v l) (hl : l.length ≤ 1000000) :
    Calls Try.prog 17 #[v] w fun e w' => e = .returned (.bool (Mk.bal 0 l)) ∧ w' = w := by
  obtain ⟨ao, ca, rfl, hca, hfa⟩ := hv.at
  have HFA := hidden hfa
  clear hv hfa
  go_enter Try.func17, Try.ntmps17
  go_wp2_with fail
  go_loop [3, 4] (fun e i => ∃ j : Nat, j ≤ l.length ∧ i = .int .i64 (j : Nat) ∧ e = .int .i64 (Mk.ex l j) ∧ ∀ t, 0 < t → t < j → 0 ≤ Mk.ex l t) (fun _ i => l.length - (intOf i).toNat)
  case atStart => exact ⟨0, Nat.zero_le _, rfl, rfl, fun t h1 h2 => by omega⟩
  case round =>
    obtain ⟨j, hj, rfl, rfl, hall⟩ := hrel
    have HALL := hidden hall
    have hex := Mk.ex_le l j
    have HS : Hid (Mk.ex l (j + 1) = Mk.ex l j + (if l.getD j false then 1 else -1)) := hidden rfl
    have HNO := hidden (Mk.bal_no l j)
    have HEND := hidden (Mk.bal_end l)
    obtain ⟨E, hE⟩ : ∃ E, E = Mk.ex l j := ⟨_, rfl⟩
    rw [← hE] at hex HS HNO ⊢
    have HE := hidden hE
    clear hall hE
    by_cases hneg : E < 0
    · have e1 : decide ((0 : Int) ≤ E) = false := decide_eq_false (by omega)
      have hj0 : 0 < j := by omega
      have HB := hidden (HNO.out hj0 hj hneg)
      have e2 : (E == 0) = false := by rw [beq_eq_false_iff_ne]; omega
      by_cases hlt : j < l.length
      · have hlt2 : decide ((j : Int) < ((l.length : Nat) : Int)) = true := decide_eq_true (by omega)
        clear hneg
        go_wp2_with fail
        go_ret
        refine ⟨?_, rfl⟩
        rw [HB.out]
        rfl
      · have hlt2 : decide ((j : Int) < ((l.length : Nat) : Int)) = false := decide_eq_false (by omega)
        clear hneg
        go_wp2_with fail
        go_ret
        refine ⟨?_, rfl⟩
        rw [HB.out]
        rfl
    · have e1 : decide ((0 : Int) ≤ E) = true := decide_eq_true (by omega)
      have HALL2 : Hid (∀ t, 0 < t → t < j + 1 → 0 ≤ Mk.ex l t) := hidden (fun t h1 h2 => by
        by_cases h3 : t < j
        · exact HALL.out t h1 h3
        · obtain rfl : t = j := by omega
          rw [← HE.out]
          omega)
      by_cases hlt : j < l.length
      · have hlt2 : decide ((j : Int) < ((l.length : Nat) : Int)) = true := decide_eq_true (by omega)
        obtain ⟨g, rfl, hg, hga⟩ := HFA.out (by omega)
        have c1 := hga j hlt
        have hget : l.getD j false = l[j] := by rw [List.getD_eq_getElem?_getD, List.getElem?_eq_getElem hlt]; rfl
        obtain ⟨o, ho⟩ : ∃ o, o = l[j] := ⟨_, rfl⟩
        rw [← ho] at c1 hget
        rw [hget] at HS
        clear hga ho hget hneg
        cases o
        · go_wp2_with fail
          go_round
          case rel => exact ⟨j + 1, hlt, by go_num, by rw [HS.out]; rfl, HALL2.out⟩
          case measure => simp [intOf]; omega
        · go_wp2_with fail
          go_round
          case rel => exact ⟨j + 1, hlt, by go_num, by rw [HS.out]; rfl, HALL2.out⟩
          case measure => simp [intOf]; omega
      · obtain rfl : j = l.length := by omega
        have hlt2 : decide (((l.length : Nat) : Int) < ((l.length : Nat) : Int)) = false := decide_eq_false (by omega)
        have HB := hidden (HEND.out (fun t h1 h2 => HALL2.out t h1 (by omega)))
        clear hneg
        go_wp2_with fail
        go_ret
        refine ⟨?_, rfl⟩
        rw [HB.out, ← HE.out]
        rfl
end Go.Proofs.Ytifkemcjificcaa
