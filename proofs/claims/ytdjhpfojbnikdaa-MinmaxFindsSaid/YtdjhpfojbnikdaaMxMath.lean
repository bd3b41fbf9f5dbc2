/-
  Plain mathematics of a tree over parentheses, of no program: the stretches of its nodes, what is known of two of them side by side, which excess is met where, how many nodes there are.
-/
import Derived.Test.YtdjhpfojbnikdaaPnMath
namespace Go.Proofs.Ytdjhpfojbnikdaa
namespace Mx
open Wd
/-- The least, and the greatest, excess of the beginnings of k bits but the whole. -/
def al (Y k : Nat) : Int := min 0 (lo Y (k - 1))
def ah (Y k : Nat) : Int := max 0 (hi Y (k - 1))
theorem lo_pre (Y a : Nat) (ha : 1 ≤ a) : min 0 (lo Y a) = min (min 0 (lo Y (a - 1))) (exc Y a) ∧ max 0 (hi Y a) = max (max 0 (hi Y (a - 1))) (exc Y a) := by
  by_cases h1 : a = 1
  · subst h1
    show min 0 (exc Y 1) = min (min 0 0) (exc Y 1) ∧ max 0 (exc Y 1) = max (max 0 0) (exc Y 1)
    omega
  · have e1 := lo_succ Y (a - 1) (by omega)
    have e2 := hi_succ Y (a - 1) (by omega)
    rw [show a - 1 + 1 = a from by omega] at e1 e2
    omega
theorem al_join (Y a k : Nat) (ha : 1 ≤ a) (hk : 1 ≤ k) : al Y (a + k) = min (al Y a) (exc Y a + al (Y / 2 ^ a) k) ∧ ah Y (a + k) = max (ah Y a) (exc Y a + ah (Y / 2 ^ a) k) := by
  unfold al ah
  obtain ⟨p1, p2⟩ := lo_pre Y a ha
  by_cases h1 : k = 1
  · subst h1
    rw [show a + 1 - 1 = a from by omega, show (1 : Nat) - 1 = 0 from rfl, p1, p2]
    show _ = min _ (exc Y a + min 0 0) ∧ _ = max _ (exc Y a + max 0 0)
    omega
  · obtain ⟨j1, j2⟩ := Pn.lo_join Y a (k - 1) ha (by omega)
    rw [show a + (k - 1) = a + k - 1 from by omega] at j1 j2
    rw [j1, j2]
    omega
/-- Some beginning but the empty one has the excess. -/
theorem begun_iff (Y k : Nat) (d : Int) (hk : 1 ≤ k) : (lo Y k ≤ d ∧ d ≤ hi Y k) ↔ ∃ j, 1 ≤ j ∧ j ≤ k ∧ exc Y j = d := by
  constructor
  · rintro ⟨h1, h2⟩
    exact between Y k d hk h1 h2
  · rintro ⟨j, j1, j2, rfl⟩
    exact reach_exc Y k j j1 j2
/-- Some beginning but the whole has the excess. -/
theorem ahead_iff (Y k : Nat) (d : Int) (hk : 1 ≤ k) : (al Y k ≤ d ∧ d ≤ ah Y k) ↔ ∃ j, j < k ∧ exc Y j = d := by
  unfold al ah
  constructor
  · rintro ⟨h1, h2⟩
    by_cases h0 : d = 0
    · exact ⟨0, by omega, by rw [exc_zero, h0]⟩
    · by_cases hk1 : k = 1
      · subst hk1
        have e1 : lo Y (1 - 1) = 0 := rfl
        have e2 : hi Y (1 - 1) = 0 := rfl
        omega
      · have b := exc_bounds Y 1
        have r := reach_exc Y (k - 1) 1 (by omega) (by omega)
        have e1 : exc Y 1 = 1 ∨ exc Y 1 = -1 := by
          have h1 : exc Y 1 = exc Y 0 + (2 * (bt Y 0 : Int) - 1) := exc_succ Y 0
          rw [exc_zero] at h1
          have := bt_lt Y 0
          omega
        obtain ⟨j, j1, j2, j3⟩ := between Y (k - 1) d (by omega) (by omega) (by omega)
        exact ⟨j, by omega, j3⟩
  · rintro ⟨j, j2, rfl⟩
    by_cases h0 : j = 0
    · subst h0
      rw [exc_zero]
      omega
    · have r := reach_exc Y (k - 1) j (by omega) (by omega)
      omega
/-- A node's stretch: the i-th one of so many bits; it begins at i * W. -/
def en (n W i : Nat) : Nat := min ((i + 1) * W) n
def nx (X n W i : Nat) : Int := exc (X / 2 ^ (i * W)) (en n W i - i * W)
def nl (X n W i : Nat) : Int := lo (X / 2 ^ (i * W)) (en n W i - i * W)
def nh (X n W i : Nat) : Int := hi (X / 2 ^ (i * W)) (en n W i - i * W)
def ml (X n W i : Nat) : Int := al (X / 2 ^ (i * W)) (en n W i - i * W)
def mh (X n W i : Nat) : Int := ah (X / 2 ^ (i * W)) (en n W i - i * W)
theorem en_le (n W i : Nat) : en n W i ≤ n := by unfold en; omega
theorem en_lt (n W i : Nat) (hW : 0 < W) (h : i * W < n) : i * W < en n W i := by
  unfold en
  rw [Nat.add_mul]
  omega
theorem bounds (X n W i : Nat) : (-(n : Int) ≤ nx X n W i ∧ nx X n W i ≤ n) ∧ (-(n : Int) ≤ nl X n W i ∧ nl X n W i ≤ n) ∧ (-(n : Int) ≤ nh X n W i ∧ nh X n W i ≤ n) ∧ (-(n : Int) ≤ ml X n W i ∧ ml X n W i ≤ n) ∧ (-(n : Int) ≤ mh X n W i ∧ mh X n W i ≤ n) := by
  have h := en_le n W i
  unfold nx nl nh ml mh al ah
  have h1 := exc_bounds (X / 2 ^ (i * W)) (en n W i - i * W)
  have h2 := lo_bounds (X / 2 ^ (i * W)) (en n W i - i * W)
  have h3 := hi_bounds (X / 2 ^ (i * W)) (en n W i - i * W)
  have h4 := lo_bounds (X / 2 ^ (i * W)) (en n W i - i * W - 1)
  have h5 := hi_bounds (X / 2 ^ (i * W)) (en n W i - i * W - 1)
  omega
theorem nx_eq (X n W i : Nat) (h : i * W ≤ n) : nx X n W i = exc X (en n W i) - exc X (i * W) := by
  unfold nx
  have h2 : i * W ≤ en n W i := by unfold en; rw [Nat.add_mul]; omega
  rw [Pn.exc_part, show i * W + (en n W i - i * W) = en n W i from by omega]
/-- One that stands alone is the one above it. -/
theorem lone (X n W i : Nat) (h : n ≤ (2 * i + 1) * W) : nx X n (2 * W) i = nx X n W (2 * i) ∧ nl X n (2 * W) i = nl X n W (2 * i) ∧ nh X n (2 * W) i = nh X n W (2 * i) ∧ ml X n (2 * W) i = ml X n W (2 * i) ∧ mh X n (2 * W) i = mh X n W (2 * i) ∧ en n (2 * W) i = en n W (2 * i) := by
  have e1 : i * (2 * W) = 2 * i * W := by rw [← Nat.mul_assoc, Nat.mul_comm i 2]
  have e2 : en n (2 * W) i = en n W (2 * i) := by
    unfold en
    have : (i + 1) * (2 * W) = (2 * i + 1) * W + W := by
      rw [← Nat.mul_assoc, ← Nat.succ_mul]; congr 1; omega
    omega
  unfold nx nl nh ml mh
  rw [e1, e2]
  exact ⟨rfl, rfl, rfl, rfl, rfl, rfl⟩
theorem two (X n W i : Nat) (hW : 0 < W) (h : (2 * i + 1) * W < n) :
    nx X n (2 * W) i = nx X n W (2 * i) + nx X n W (2 * i + 1) ∧
    nl X n (2 * W) i = min (nl X n W (2 * i)) (nx X n W (2 * i) + nl X n W (2 * i + 1)) ∧
    nh X n (2 * W) i = max (nh X n W (2 * i)) (nx X n W (2 * i) + nh X n W (2 * i + 1)) ∧
    ml X n (2 * W) i = min (ml X n W (2 * i)) (nx X n W (2 * i) + ml X n W (2 * i + 1)) ∧
    mh X n (2 * W) i = max (mh X n W (2 * i)) (nx X n W (2 * i) + mh X n W (2 * i + 1)) := by
  have e1 : i * (2 * W) = 2 * i * W := by rw [← Nat.mul_assoc, Nat.mul_comm i 2]
  have e3 : (2 * i + 1) * W = 2 * i * W + W := Nat.succ_mul _ _
  have e2 : en n W (2 * i) - 2 * i * W = W := by unfold en; omega
  have e4 := en_lt n W (2 * i + 1) hW h
  have e5 : en n (2 * W) i = en n W (2 * i + 1) := by
    unfold en
    have : (i + 1) * (2 * W) = (2 * i + 1 + 1) * W := by
      rw [← Nat.mul_assoc]; congr 1; omega
    omega
  have e6 : en n (2 * W) i - i * (2 * W) = W + (en n W (2 * i + 1) - (2 * i + 1) * W) := by omega
  have e7 : X / 2 ^ ((2 * i + 1) * W) = X / 2 ^ (2 * i * W) / 2 ^ W := by rw [Nat.div_div_eq_div_mul, ← Nat.pow_add, e3]
  unfold nx nl nh ml mh
  rw [e6, e1, e2, e7]
  generalize X / 2 ^ (2 * i * W) = Y at *
  have hk : 1 ≤ en n W (2 * i + 1) - (2 * i + 1) * W := by omega
  generalize en n W (2 * i + 1) - (2 * i + 1) * W = k at *
  obtain ⟨l1, l2⟩ := Pn.lo_join Y W k hW hk
  obtain ⟨m1, m2⟩ := al_join Y W k hW hk
  exact ⟨exc_split Y W k, l1, l2, m1, m2⟩
/-- The node meets the excess: by a beginning. -/
theorem begins_iff (X n W i : Nat) (d : Int) (hW : 0 < W) (h : i * W < n) : (nl X n W i ≤ d ∧ d ≤ nh X n W i) ↔ ∃ j, i * W < j ∧ j ≤ en n W i ∧ exc X j - exc X (i * W) = d := by
  have hl := en_lt n W i hW h
  unfold nl nh
  rw [begun_iff _ _ _ (by omega)]
  constructor
  · rintro ⟨j, j1, j2, j3⟩
    rw [Pn.exc_part] at j3
    exact ⟨i * W + j, by omega, by omega, j3⟩
  · rintro ⟨j, j1, j2, j3⟩
    refine ⟨j - i * W, by omega, by omega, ?_⟩
    rw [Pn.exc_part, show i * W + (j - i * W) = j from by omega]
    exact j3
/-- The node meets the excess: ahead of an end. -/
theorem ends_iff (X n W i : Nat) (d : Int) (hW : 0 < W) (h : i * W < n) : (ml X n W i ≤ d ∧ d ≤ mh X n W i) ↔ ∃ j, i * W ≤ j ∧ j < en n W i ∧ exc X j - exc X (i * W) = d := by
  have hl := en_lt n W i hW h
  unfold ml mh
  rw [ahead_iff _ _ _ (by omega)]
  constructor
  · rintro ⟨j, j2, j3⟩
    rw [Pn.exc_part] at j3
    exact ⟨i * W + j, by omega, by omega, j3⟩
  · rintro ⟨j, j1, j2, j3⟩
    refine ⟨j - i * W, by omega, ?_⟩
    rw [Pn.exc_part, show i * W + (j - i * W) = j from by omega]
    exact j3
/-- The other one of two. -/
def xr (i : Nat) : Nat := if i % 2 = 0 then i + 1 else i - 1
theorem xr_eq (i : Nat) : i ^^^ 1 = xr i := by
  apply Nat.eq_of_testBit_eq
  intro j
  rw [Nat.testBit_xor]
  unfold xr
  rcases j with _ | j
  · simp only [Nat.testBit_zero]
    rcases Nat.mod_two_eq_zero_or_one i with h | h
    · have h2 : (i + 1) % 2 = 1 := by omega
      rw [if_pos h, h, h2]
      rfl
    · have h2 : (i - 1) % 2 = 0 := by omega
      rw [if_neg (by omega), h, h2]
      rfl
  · simp only [Nat.testBit_succ]
    rw [show 1 / 2 = 0 from rfl, Nat.zero_testBit, Bool.xor_false]
    congr 1
    split <;> omega
/-- How wide a node of a level is; how many nodes a level has. -/
def wd (k : Nat) : Nat := 512 * 2 ^ k
def ln (n k : Nat) : Nat := (n + wd k - 1) / wd k
theorem wd_pos (k : Nat) : 0 < wd k := by unfold wd; have := Nat.two_pow_pos k; omega
theorem wd_succ (k : Nat) : wd (k + 1) = 2 * wd k := by unfold wd; rw [Nat.pow_succ]; omega
theorem ln_iff (n k i : Nat) : i < ln n k ↔ i * wd k < n := by
  have hW := wd_pos k
  unfold ln
  generalize wd k = W at *
  rw [Nat.lt_iff_add_one_le, Nat.le_div_iff_mul_le hW, Nat.add_mul]
  omega
theorem ln_succ (n k : Nat) : ln n (k + 1) = (ln n k + 1) / 2 := by
  have h : ∀ i, i < ln n (k + 1) ↔ i < (ln n k + 1) / 2 := fun i => by
    rw [ln_iff, wd_succ, show i * (2 * wd k) = 2 * i * wd k from by rw [← Nat.mul_assoc, Nat.mul_comm i 2], ← ln_iff]
    omega
  have h1 := h (ln n (k + 1))
  have h2 := h ((ln n k + 1) / 2)
  omega
theorem ln_zero (n : Nat) : ln n 0 = (n + 511) / 512 := by
  unfold ln wd
  simp
/-- What so many levels take, by the first one's nodes. -/
def sz (n : Nat) : Nat → Nat
  | 0 => 0
  | k + 1 => sz n k + (192 + ln n k * 320)
/-- What all levels from one on take. -/
theorem sz_bound (n : Nat) : ∀ (m k j : Nat), ln n k ≤ m → (∀ i, k ≤ i → i + 1 < k + j → 1 < ln n i) → sz n (k + j) ≤ sz n k + (192 + 320 * ln n k) + 768 * (ln n k - 1) + 192 * (if ln n k ≤ 1 then 0 else ln n k) := by
  intro m
  induction m with
  | zero =>
    intro k j hm hj
    rcases j with _ | _ | j
    · rw [Nat.add_zero]; omega
    · show sz n k + (192 + ln n k * 320) ≤ _
      omega
    · have := hj k (Nat.le_refl _) (by omega)
      omega
  | succ m ih =>
    intro k j hm hj
    rcases j with _ | j
    · rw [Nat.add_zero]; omega
    · by_cases hk : ln n k ≤ 1
      · rcases j with _ | j
        · show sz n k + (192 + ln n k * 320) ≤ _
          omega
        · have := hj k (Nat.le_refl _) (by omega)
          omega
      · have hs := ln_succ n k
        have := ih (k + 1) j (by omega) (fun i i1 i2 => hj i (by omega) (by omega))
        rw [show k + (j + 1) = k + 1 + j from by omega]
        have e : sz n (k + 1) = sz n k + (192 + ln n k * 320) := rfl
        rw [e, hs] at this
        rw [if_neg hk]
        split at this <;> omega
theorem sz_le (n j : Nat) (h : ∀ i, i + 1 < j → 1 < ln n i) : sz n j ≤ 3 * n + 2048 := by
  have := sz_bound n (ln n 0) 0 j (Nat.le_refl _) (fun i _ i2 => h i (by omega))
  rw [Nat.zero_add] at this
  have h0 : sz n 0 = 0 := rfl
  have hl := ln_zero n
  split at this <;> omega
end Mx
end Go.Proofs.Ytdjhpfojbnikdaa
