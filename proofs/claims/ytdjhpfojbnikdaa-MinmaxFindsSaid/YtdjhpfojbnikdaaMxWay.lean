/-
  How a tree over parentheses is gone through, up and down, of no program: what holds on the way up and on the way down, by each of the two ways, and where it ends.
-/
import Derived.Test.YtdjhpfojbnikdaaMxMath
namespace Go.Proofs.Ytdjhpfojbnikdaa
namespace Mx
open Wd
/-- The least place of a stretch up to and with which the excess is T; -1, if there is none. -/
def Fo (X a b : Nat) (T k : Int) : Prop := (k = -1 ∧ ∀ j, a < j → j ≤ b → exc X j ≠ T) ∨ ∃ p : Nat, k = p ∧ a ≤ p ∧ p < b ∧ exc X (p + 1) = T ∧ ∀ j, a < j → j ≤ p → exc X j ≠ T
/-- The greatest place of a stretch ahead of which the excess is T; -1, if there is none. -/
def Ba (X a b : Nat) (T k : Int) : Prop := (k = -1 ∧ ∀ j, a ≤ j → j < b → exc X j ≠ T) ∨ ∃ p : Nat, k = p ∧ a ≤ p ∧ p < b ∧ exc X p = T ∧ ∀ j, p < j → j < b → exc X j ≠ T
theorem Fo.unique {X a b : Nat} {T k l : Int} (h1 : Fo X a b T k) (h2 : Fo X a b T l) : k = l := by
  rcases h1 with ⟨rfl, h1⟩ | ⟨p, rfl, p1, p2, p3, p4⟩
  · rcases h2 with ⟨rfl, h2⟩ | ⟨q, rfl, q1, q2, q3, q4⟩
    · rfl
    · exact absurd q3 (h1 (q + 1) (by omega) (by omega))
  · rcases h2 with ⟨rfl, h2⟩ | ⟨q, rfl, q1, q2, q3, q4⟩
    · exact absurd p3 (h2 (p + 1) (by omega) (by omega))
    · rcases Nat.lt_trichotomy p q with h | h | h
      · exact absurd p3 (q4 (p + 1) (by omega) (by omega))
      · rw [h]
      · exact absurd q3 (p4 (q + 1) (by omega) (by omega))
theorem Ba.unique {X a b : Nat} {T k l : Int} (h1 : Ba X a b T k) (h2 : Ba X a b T l) : k = l := by
  rcases h1 with ⟨rfl, h1⟩ | ⟨p, rfl, p1, p2, p3, p4⟩
  · rcases h2 with ⟨rfl, h2⟩ | ⟨q, rfl, q1, q2, q3, q4⟩
    · rfl
    · exact absurd q3 (h1 q (by omega) (by omega))
  · rcases h2 with ⟨rfl, h2⟩ | ⟨q, rfl, q1, q2, q3, q4⟩
    · exact absurd p3 (h2 p (by omega) (by omega))
    · rcases Nat.lt_trichotomy p q with h | h | h
      · exact absurd q3 (p4 q (by omega) (by omega))
      · rw [h]
      · exact absurd p3 (q4 p (by omega) (by omega))
theorem forth_spec (X a b : Nat) (d : Int) (h : a ≤ b) : Fo X a b (exc X a + d) (Pn.forth X a b d) := by
  unfold Pn.forth
  have hs := find_spec (X / 2 ^ a) (b - a) d
  have hle := find_le (X / 2 ^ a) (b - a) d
  generalize find (X / 2 ^ a) (b - a) d = f at *
  rcases hs with ⟨h1, h2, h3, h4⟩ | ⟨h1, h2⟩
  · rw [if_neg (by omega)]
    refine .inr ⟨a + f - 1, by omega, by omega, by omega, ?_, fun j j1 j2 => ?_⟩
    · rw [Pn.exc_part] at h3
      rw [show a + f - 1 + 1 = a + f from by omega]
      omega
    · have := h4 (j - a) (by omega) (by omega)
      rw [Pn.exc_part, show a + (j - a) = j from by omega] at this
      omega
  · rw [if_pos h1]
    refine .inl ⟨rfl, fun j j1 j2 => ?_⟩
    have := h2 (j - a) (by omega) (by omega)
    rw [Pn.exc_part, show a + (j - a) = j from by omega] at this
    omega
theorem back_spec (X a b : Nat) (d : Int) (h : a ≤ b) : Ba X a b (exc X b - d) (Pn.back X a b d) := by
  unfold Pn.back
  have hs := find_spec (Pn.rv X b) (b - a) d
  have hle := find_le (Pn.rv X b) (b - a) d
  generalize find (Pn.rv X b) (b - a) d = f at *
  rcases hs with ⟨h1, h2, h3, h4⟩ | ⟨h1, h2⟩
  · rw [if_neg (by omega)]
    refine .inr ⟨b - f, by omega, by omega, by omega, ?_, fun j j1 j2 => ?_⟩
    · rw [Pn.exc_rv X b f (by omega)] at h3
      omega
    · have := h4 (b - j) (by omega) (by omega)
      rw [Pn.exc_rv X b (b - j) (by omega), show b - (b - j) = j from by omega] at this
      omega
  · rw [if_pos h1]
    refine .inl ⟨rfl, fun j j1 j2 => ?_⟩
    have := h2 (b - j) (by omega) (by omega)
    rw [Pn.exc_rv X b (b - j) (by omega), show b - (b - j) = j from by omega] at this
    omega
theorem en2 (n W i : Nat) : en n (2 * W) i = en n W (2 * i + 1) := by
  unfold en
  have : (i + 1) * (2 * W) = (2 * i + 1 + 1) * W := by
    rw [← Nat.mul_assoc]; congr 1; omega
  omega
theorem st2 (W i : Nat) : i * (2 * W) = 2 * i * W := by rw [← Nat.mul_assoc, Nat.mul_comm i 2]
theorem en_full (n W i : Nat) (h : (i + 1) * W ≤ n) : en n W i = (i + 1) * W := by unfold en; omega
theorem en_last (n W i : Nat) (h : n ≤ (i + 1) * W) : en n W i = n := by unfold en; omega
/-- A way through the nodes: what holds of a node and what is left of the excess on the way up (U) and on the way down (V). -/
structure Way (ln : Nat → Nat) (way : Nat) (ex : Nat → Nat → Int) (mt : Nat → Nat → Int → Bool) (U V : Nat → Nat → Int → Prop) (No : Prop) : Prop where
  smallU : ∀ k i d, U k i d → -1099511627776 ≤ d ∧ d ≤ 1099511627776
  smallV : ∀ k i d, V k i d → -1099511627776 ≤ d ∧ d ≤ 1099511627776
  inU : ∀ k i d, U k i d → i < ln k
  inV : ∀ k i d, V k i d → i < ln k
  top : ∀ k i d, U k i d → ln k ≤ 1 → No
  side : ∀ k i d, U k i d → i % 2 = way → xr i < ln k → mt k (xr i) d = true → V k (xr i) d
  past : ∀ k i d, U k i d → i % 2 = way → xr i < ln k → mt k (xr i) d = false → U (k + 1) (i / 2) (d - ex k (xr i))
  up : ∀ k i d, U k i d → ¬ (i % 2 = way ∧ xr i < ln k) → U (k + 1) (i / 2) d
  fits : ∀ k i d, V (k + 1) i d → 2 * i + way < ln k
  down : ∀ k i d, V (k + 1) i d → mt k (2 * i + way) d = true → V k (2 * i + way) d
  other : ∀ k i d, V (k + 1) i d → mt k (2 * i + way) d = false → V k (xr (2 * i + way)) (d - ex k (2 * i + way))
def mtf (X n k i : Nat) (d : Int) : Bool := decide (nl X n (wd k) i ≤ d) && decide (d ≤ nh X n (wd k) i)
def mtb (X n k i : Nat) (d : Int) : Bool := decide (ml X n (wd k) i ≤ nx X n (wd k) i - d) && decide (nx X n (wd k) i - d ≤ mh X n (wd k) i)
def Uf (X n s : Nat) (T : Int) (k i : Nat) (d : Int) : Prop := i < ln n k ∧ d = T - exc X (en n (wd k) i) ∧ s ≤ en n (wd k) i ∧ ∀ j, s < j → j ≤ en n (wd k) i → exc X j ≠ T
def Vf (X n s : Nat) (T : Int) (k i : Nat) (d : Int) : Prop := i < ln n k ∧ d = T - exc X (i * wd k) ∧ (∀ j, s < j → j ≤ i * wd k → exc X j ≠ T) ∧ s ≤ i * wd k ∧ ∃ j, i * wd k < j ∧ j ≤ en n (wd k) i ∧ exc X j = T
theorem mtf_iff (X n k i : Nat) (d : Int) (h : i < ln n k) : mtf X n k i d = true ↔ ∃ j, i * wd k < j ∧ j ≤ en n (wd k) i ∧ exc X j - exc X (i * wd k) = d := by
  rw [← begins_iff X n (wd k) i d (wd_pos k) ((ln_iff n k i).1 h)]
  unfold mtf
  simp
theorem mtb_iff (X n k i : Nat) (d : Int) (h : i < ln n k) : mtb X n k i d = true ↔ ∃ j, i * wd k ≤ j ∧ j < en n (wd k) i ∧ exc X (en n (wd k) i) - exc X j = d := by
  have hl := (ln_iff n k i).1 h
  have := ends_iff X n (wd k) i (nx X n (wd k) i - d) (wd_pos k) hl
  unfold mtb
  rw [Bool.and_eq_true, decide_eq_true_iff, decide_eq_true_iff, this, nx_eq X n (wd k) i (by omega)]
  constructor
  · rintro ⟨j, j1, j2, j3⟩
    exact ⟨j, j1, j2, by omega⟩
  · rintro ⟨j, j1, j2, j3⟩
    exact ⟨j, j1, j2, by omega⟩
theorem mtf_false {X n k i : Nat} {d : Int} (h : i < ln n k) (hm : mtf X n k i d = false) : ∀ j, i * wd k < j → j ≤ en n (wd k) i → exc X j - exc X (i * wd k) ≠ d := by
  intro j j1 j2 j3
  have := (mtf_iff X n k i d h).2 ⟨j, j1, j2, j3⟩
  rw [hm] at this
  cases this
theorem mtb_false {X n k i : Nat} {d : Int} (h : i < ln n k) (hm : mtb X n k i d = false) : ∀ j, i * wd k ≤ j → j < en n (wd k) i → exc X (en n (wd k) i) - exc X j ≠ d := by
  intro j j1 j2 j3
  have := (mtb_iff X n k i d h).2 ⟨j, j1, j2, j3⟩
  rw [hm] at this
  cases this
theorem xr_even (i : Nat) (h : i % 2 = 0) : xr i = i + 1 := if_pos h
theorem xr_odd (i : Nat) (h : i % 2 = 1) : xr i = i - 1 := if_neg (by omega)
theorem way_forth (X n s : Nat) (T : Int) (hn : n ≤ 4294967296) (hT : -(2 * n : Int) ≤ T ∧ T ≤ 2 * n) :
    Way (ln n) 0 (fun k i => nx X n (wd k) i) (mtf X n) (Uf X n s T) (Vf X n s T) (∀ j, s < j → j ≤ n → exc X j ≠ T) where
  smallU := by
    rintro k i d ⟨h1, rfl, h3⟩
    have := exc_bounds X (en n (wd k) i)
    have := en_le n (wd k) i
    omega
  smallV := by
    rintro k i d ⟨h1, rfl, h3⟩
    have := (ln_iff n k i).1 h1
    have := exc_bounds X (i * wd k)
    omega
  inU := fun k i d h => h.1
  inV := fun k i d h => h.1
  top := by
    rintro k i d ⟨h1, rfl, _, h3⟩ h j j1 j2
    have hk := ln_iff n k 1
    obtain rfl : i = 0 := by omega
    refine h3 j j1 ?_
    rw [en_last _ _ _ (by omega)]
    exact j2
  side := by
    rintro k i d ⟨h1, rfl, h2, h3⟩ hw hx hm
    have hx0 := xr_even i hw
    generalize xr i = q at *
    subst hx0
    have hl := (ln_iff n k _).1 hx
    obtain ⟨j, j1, j2, j3⟩ := (mtf_iff X n k _ _ hx).1 hm
    rw [en_full n (wd k) i (by omega)] at *
    exact ⟨hx, rfl, h3, h2, j, j1, j2, by omega⟩
  past := by
    rintro k i d ⟨h1, rfl, hse, h3⟩ hw hx hm
    have hx0 := xr_even i hw
    generalize xr i = q at *
    subst hx0
    have hl := (ln_iff n k _).1 hx
    have hf := mtf_false hx hm
    have he := en_full n (wd k) i (by omega)
    rw [he] at h3 hse hf ⊢
    have h2 : en n (wd (k + 1)) (i / 2) = en n (wd k) (i + 1) := by rw [wd_succ, en2, show 2 * (i / 2) + 1 = i + 1 from by omega]
    refine ⟨by rw [ln_succ]; omega, ?_, ?_, ?_⟩
    · rw [h2]
      show _ - nx X n (wd k) (i + 1) = _
      rw [nx_eq _ _ _ _ (by omega)]
      omega
    · rw [h2]
      have := en_lt n (wd k) (i + 1) (wd_pos k) hl
      omega
    · rw [h2]
      intro j j1 j2
      by_cases hj : j ≤ (i + 1) * wd k
      · exact h3 j j1 hj
      · have := hf j (by omega) j2
        omega
  up := by
    rintro k i d ⟨h1, rfl, hse, h3⟩ hno
    have h2 : en n (wd (k + 1)) (i / 2) = en n (wd k) i := by
      rw [wd_succ, en2]
      by_cases hw : i % 2 = 0
      · have hx0 := xr_even i hw
        have hl := (ln_iff n k (i + 1))
        have hl2 : n ≤ (i + 1) * wd k := by
          rw [hx0] at hno
          omega
        rw [en_last n (wd k) i hl2, show 2 * (i / 2) + 1 = i + 1 from by omega, en_last]
        rw [Nat.add_mul]
        omega
      · rw [show 2 * (i / 2) + 1 = i from by omega]
    refine ⟨by rw [ln_succ]; omega, ?_, ?_, ?_⟩
    · rw [h2]
    · rw [h2]
      exact hse
    · rw [h2]
      exact h3
  fits := by
    rintro k i d ⟨h1, h2⟩
    rw [ln_succ] at h1
    omega
  down := by
    rintro k i d ⟨h1, rfl, h3, h4, h5⟩ hm
    rw [ln_succ] at h1
    obtain ⟨j, j1, j2, j3⟩ := (mtf_iff X n k _ _ (by omega)).1 hm
    rw [wd_succ, st2] at *
    exact ⟨by omega, rfl, h3, h4, j, j1, j2, by rw [Nat.add_zero] at j3; omega⟩
  other := by
    rintro k i d ⟨h1, rfl, h3, h4, j, j1, j2, j3⟩ hm
    rw [ln_succ] at h1
    have hf := mtf_false (by omega) hm
    rw [Nat.add_zero] at *
    have hx0 := xr_even (2 * i) (by omega)
    rw [wd_succ, st2] at *
    rw [en2] at j2
    have hj : en n (wd k) (2 * i) < j := by
      by_cases hj : j ≤ en n (wd k) (2 * i)
      · have := hf j j1 hj
        omega
      · omega
    have hjn := en_le n (wd k) (2 * i + 1)
    have hl : (2 * i + 1) * wd k < n := by
      by_cases h : (2 * i + 1) * wd k < n
      · exact h
      · rw [en_last n (wd k) (2 * i) (by omega)] at hj
        omega
    have he := en_full n (wd k) (2 * i) (by omega)
    have hst : 2 * i * wd k ≤ n := by rw [Nat.add_mul] at hl; omega
    rw [hx0]
    refine ⟨(ln_iff n k _).2 hl, ?_, ?_, ?_, j, by omega, j2, j3⟩
    · show _ - nx X n (wd k) (2 * i) = _
      rw [nx_eq _ _ _ _ hst, he]
      omega
    · intro q q1 q2
      by_cases hq : q ≤ 2 * i * wd k
      · exact h3 q q1 hq
      · have := hf q (by omega) (by omega)
        omega
    · rw [Nat.add_mul]
      omega
def Ub (X n s : Nat) (T : Int) (k i : Nat) (d : Int) : Prop := i < ln n k ∧ d = exc X (i * wd k) - T ∧ i * wd k ≤ s ∧ ∀ j, i * wd k ≤ j → j < s → exc X j ≠ T
def Vb (X n s : Nat) (T : Int) (k i : Nat) (d : Int) : Prop := (i + 1) * wd k ≤ n ∧ d = exc X ((i + 1) * wd k) - T ∧ (∀ j, (i + 1) * wd k ≤ j → j < s → exc X j ≠ T) ∧ (i + 1) * wd k ≤ s ∧ ∃ j, i * wd k ≤ j ∧ j < (i + 1) * wd k ∧ exc X j = T
theorem vb_in {X n s k i : Nat} {T d : Int} (h : Vb X n s T k i d) : i < ln n k := by
  have h1 := h.1
  have := wd_pos k
  rw [ln_iff]
  rw [Nat.add_mul] at h1
  omega
theorem way_back (X n s : Nat) (T : Int) (hn : n ≤ 4294967296) (hT : -(2 * n : Int) ≤ T ∧ T ≤ 2 * n) :
    Way (ln n) 1 (fun k i => nx X n (wd k) i) (mtb X n) (Ub X n s T) (Vb X n s T) (∀ j, j < s → exc X j ≠ T) where
  smallU := by
    rintro k i d ⟨h1, rfl, h3⟩
    have := (ln_iff n k i).1 h1
    have := exc_bounds X (i * wd k)
    omega
  smallV := by
    rintro k i d ⟨h1, rfl, h3⟩
    have := exc_bounds X ((i + 1) * wd k)
    omega
  inU := fun k i d h => h.1
  inV := fun k i d h => vb_in h
  top := by
    rintro k i d ⟨h1, rfl, _, h3⟩ h j j1
    obtain rfl : i = 0 := by omega
    exact h3 j (by omega) j1
  side := by
    rintro k i d ⟨h1, rfl, h2, h3⟩ hw hx hm
    have hx0 := xr_odd i hw
    have hi : i - 1 + 1 = i := by omega
    generalize xr i = q at *
    subst hx0
    have hl := (ln_iff n k _).1 h1
    obtain ⟨j, j1, j2, j3⟩ := (mtb_iff X n k _ _ hx).1 hm
    rw [en_full n (wd k) (i - 1) (by rw [hi]; omega), hi] at j2 j3
    exact ⟨by rw [hi]; omega, by rw [hi], by rw [hi]; exact h3, by rw [hi]; exact h2, j, j1, by rw [hi]; exact j2, by omega⟩
  past := by
    rintro k i d ⟨h1, rfl, hse, h3⟩ hw hx hm
    have hx0 := xr_odd i hw
    have hi : i - 1 + 1 = i := by omega
    generalize xr i = q at *
    subst hx0
    have hl := (ln_iff n k _).1 h1
    have hf := mtb_false hx hm
    have he := en_full n (wd k) (i - 1) (by rw [hi]; omega)
    rw [hi] at he
    rw [he] at hf
    have h2 : i / 2 * wd (k + 1) = (i - 1) * wd k := by rw [wd_succ, st2, show 2 * (i / 2) = i - 1 from by omega]
    have hle : (i - 1) * wd k ≤ i * wd k := Nat.mul_le_mul_right _ (by omega)
    refine ⟨by rw [ln_succ]; omega, ?_, ?_, ?_⟩
    · rw [h2]
      show _ - nx X n (wd k) (i - 1) = _
      rw [nx_eq _ _ _ _ (by omega), he]
      omega
    · rw [h2]
      omega
    · rw [h2]
      intro j j1 j2
      by_cases hj : i * wd k ≤ j
      · exact h3 j hj j2
      · have := hf j j1 (by omega)
        omega
  up := by
    rintro k i d ⟨h1, rfl, hse, h3⟩ hno
    have hw : i % 2 = 0 := by
      by_cases hw : i % 2 = 1
      · have hx0 := xr_odd i hw
        exact absurd ⟨hw, by omega⟩ hno
      · omega
    have h2 : i / 2 * wd (k + 1) = i * wd k := by rw [wd_succ, st2, show 2 * (i / 2) = i from by omega]
    refine ⟨by rw [ln_succ]; omega, ?_, ?_, ?_⟩
    · rw [h2]
    · rw [h2]
      exact hse
    · rw [h2]
      exact h3
  fits := by
    intro k i d h
    have := vb_in h
    have h1 := h.1
    have hp := wd_pos k
    rw [ln_iff]
    rw [wd_succ, st2, show 2 * (i + 1) = 2 * i + 1 + 1 from by omega, Nat.add_mul] at h1
    omega
  down := by
    rintro k i d ⟨h1, rfl, h3, h4, h5⟩ hm
    have e : (i + 1) * wd (k + 1) = (2 * i + 1 + 1) * wd k := by rw [wd_succ, st2, show 2 * (i + 1) = 2 * i + 1 + 1 from by omega]
    rw [e] at h1 h3 h4 hm ⊢
    have hl : 2 * i + 1 < ln n k := by
      have hp := wd_pos k
      rw [ln_iff]
      have e3 : (2 * i + 1 + 1) * wd k = (2 * i + 1) * wd k + wd k := Nat.succ_mul _ _
      omega
    obtain ⟨j, j1, j2, j3⟩ := (mtb_iff X n k _ _ hl).1 hm
    rw [en_full n (wd k) _ h1] at j2 j3
    exact ⟨h1, rfl, h3, h4, j, j1, j2, by omega⟩
  other := by
    rintro k i d ⟨h1, rfl, h3, h4, j, j1, j2, j3⟩ hm
    have e : (i + 1) * wd (k + 1) = (2 * i + 1 + 1) * wd k := by rw [wd_succ, st2, show 2 * (i + 1) = 2 * i + 1 + 1 from by omega]
    have e2 : i * wd (k + 1) = 2 * i * wd k := by rw [wd_succ, st2]
    rw [e] at h1 h3 h4 j2 hm ⊢
    rw [e2] at j1
    have e3 : (2 * i + 1 + 1) * wd k = (2 * i + 1) * wd k + wd k := Nat.succ_mul _ _
    have hl : 2 * i + 1 < ln n k := by
      have hp := wd_pos k
      rw [ln_iff]
      omega
    have hf := mtb_false hl hm
    have he := en_full n (wd k) _ h1
    rw [he] at hf
    have hx0 := xr_odd (2 * i + 1) (by omega)
    rw [hx0, show 2 * i + 1 - 1 = 2 * i from by omega]
    refine ⟨by omega, ?_, ?_, by omega, j, j1, ?_, j3⟩
    · show _ - nx X n (wd k) (2 * i + 1) = _
      rw [nx_eq _ _ _ _ (by omega), he]
      omega
    · intro q q1 q2
      by_cases hq : (2 * i + 1 + 1) * wd k ≤ q
      · exact h3 q hq q2
      · have := hf q q1 (by omega)
        omega
    · by_cases hq : (2 * i + 1) * wd k ≤ j
      · have := hf j hq (by omega)
        omega
      · omega
end Mx
end Go.Proofs.Ytdjhpfojbnikdaa
