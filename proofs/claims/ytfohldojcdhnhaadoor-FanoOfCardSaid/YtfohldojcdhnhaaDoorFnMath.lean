/-
  Plain mathematics of sequences: the width; the low and the high row as lists of bits; where the 1s and the 0s of the high row are; how many numbers are less. Of no program.
-/
import Derived.Test.YtfohldojcdhnhaaDoorCkMath
namespace Go.Proofs.YtfohldojcdhnhaaDoor
namespace Fn
open Wd Bt

/-- The width of n numbers below u. -/
def wdt (n u : Nat) : Nat := if n = 0 ∨ u < 2 * n then 0 else needTo (u / n) 64 - 1
theorem wdt_none {n u : Nat} (h : n = 0 ∨ u < 2 * n) : wdt n u = 0 := by unfold wdt; rw [if_pos h]
theorem wdt_some {n u : Nat} (h : ¬ (n = 0 ∨ u < 2 * n)) : wdt n u = needTo (u / n) 64 - 1 := by unfold wdt; rw [if_neg h]
/-- The width's law: 2 to it is at most u / n, twice that is more. -/
theorem wdt_spec {n u : Nat} (h : ¬ (n = 0 ∨ u < 2 * n)) (hu : u < 2 ^ 64) : 2 ^ wdt n u * n ≤ u ∧ u < 2 ^ (wdt n u + 1) * n ∧ 1 ≤ wdt n u := by
  have hn : 0 < n := by omega
  have hq : 2 ≤ u / n := (Nat.le_div_iff_mul_le hn).2 (by omega)
  have hq2 : u / n < 2 ^ 64 := Nat.lt_of_le_of_lt (Nat.div_le_self _ _) hu
  obtain ⟨h1, h2⟩ := needTo_spec (u / n) 64 hq2
  obtain ⟨h3, h4⟩ := h2 (by omega)
  have hw := wdt_some h
  have h5 : 2 ≤ needTo (u / n) 64 := by
    rcases Nat.lt_or_ge (needTo (u / n) 64) 2 with hl | hl
    · have := Nat.pow_le_pow_right (show 0 < 2 by decide) (show needTo (u / n) 64 ≤ 1 by omega)
      omega
    · exact hl
  rw [hw]
  refine ⟨(Nat.le_div_iff_mul_le hn).1 h3, ?_, by omega⟩
  rw [show needTo (u / n) 64 - 1 + 1 = needTo (u / n) 64 from by omega]
  exact (Nat.div_lt_iff_lt_mul hn).1 h1
theorem wdt_le {n u : Nat} (hu : u < 2199023255552) : wdt n u ≤ 40 := by
  by_cases h : n = 0 ∨ u < 2 * n
  · rw [wdt_none h]; omega
  · obtain ⟨h1, _, _⟩ := wdt_spec h (by omega)
    rcases Nat.lt_or_ge 40 (wdt n u) with hl | hl
    · have h2 := Nat.pow_le_pow_right (show 0 < 2 by decide) (show 41 ≤ wdt n u by omega)
      have h3 : 2 ^ wdt n u * 1 ≤ 2 ^ wdt n u * n := Nat.mul_le_mul_left _ (by omega)
      omega
    · exact hl
/-- The greatest high part. -/
def top (n u : Nat) : Nat := (u - 1) / 2 ^ wdt n u
theorem top_lt {n u : Nat} (hn : 0 < n) (hu : u < 2 ^ 64) : top n u < 2 * n := by
  unfold top
  rw [Nat.div_lt_iff_lt_mul (Nat.two_pow_pos _)]
  by_cases h : n = 0 ∨ u < 2 * n
  · rw [wdt_none h]; omega
  · obtain ⟨_, h2, _⟩ := wdt_spec h hu
    rw [Nat.pow_succ] at h2
    have : 2 ^ wdt n u * 2 * n = 2 * n * 2 ^ wdt n u := by rw [Nat.mul_assoc, Nat.mul_comm]
    omega
/-- How many bits the rows have. -/
def lows (n u : Nat) : Nat := n * wdt n u
def highs (n u : Nat) : Nat := n + top n u + 1
theorem lows_le {n u : Nat} (hn : n < 16777216) (hu : u < 2199023255552) : lows n u ≤ 671088640 := by
  unfold lows
  have := wdt_le (n := n) hu
  have h : n * wdt n u ≤ 16777216 * 40 := Nat.mul_le_mul (by omega) this
  omega
theorem highs_le {n u : Nat} (h0 : 0 < n) (hn : n < 16777216) (hu : u < 2199023255552) : highs n u ≤ 50331648 := by
  have := top_lt h0 (show u < 2 ^ 64 by omega)
  unfold highs
  omega
/-- The size's bound. -/
theorem size_le {n u W : Nat} (hn : 0 < n) (hu : u < 2 ^ 64) (hW : u ≤ n * 2 ^ W) : lows n u + highs n u ≤ 2 * n + W * n + 2 := by
  have ht := top_lt hn hu
  unfold lows highs
  by_cases h : n = 0 ∨ u < 2 * n
  · have h0 : top n u = u - 1 := by unfold top; rw [wdt_none h]; simp
    rw [wdt_none h, h0] at *
    cases W with
    | zero => omega
    | succ W =>
      have : 1 * n ≤ (W + 1) * n := Nat.mul_le_mul_right _ (by omega)
      omega
  · obtain ⟨h1, h2, h3⟩ := wdt_spec h hu
    have hle : wdt n u ≤ W := by
      rcases Nat.lt_or_ge W (wdt n u) with hl | hl
      · have h4 : 2 ^ (W + 1) ≤ 2 ^ wdt n u := Nat.pow_le_pow_right (by decide) (by omega)
        have h5 : 2 ^ (W + 1) * n ≤ 2 ^ wdt n u * n := Nat.mul_le_mul_right _ h4
        rw [Nat.pow_succ] at h5
        have h6 : 2 ^ W * 2 * n = 2 * (n * 2 ^ W) := by rw [Nat.mul_comm (2 ^ W) 2, Nat.mul_assoc, Nat.mul_comm n]
        have h7 : 0 < n * 2 ^ W := Nat.mul_pos hn (Nat.two_pow_pos _)
        omega
      · exact hl
    rcases Nat.lt_or_ge (wdt n u) W with hl | hl
    · have : (wdt n u + 1) * n ≤ W * n := Nat.mul_le_mul_right _ (by omega)
      rw [Nat.add_mul, Nat.one_mul, Nat.mul_comm (wdt n u) n] at this
      omega
    · obtain rfl : W = wdt n u := by omega
      have hu2 : u = n * 2 ^ wdt n u := by rw [Nat.mul_comm] at h1; omega
      have h8 : top n u ≤ n - 1 := by
        unfold top
        have : (u - 1) / 2 ^ wdt n u < n := by
          rw [Nat.div_lt_iff_lt_mul (Nat.two_pow_pos _)]
          have : 0 < n * 2 ^ wdt n u := Nat.mul_pos hn (Nat.two_pow_pos _)
          omega
        omega
      rw [Nat.mul_comm (wdt n u) n]
      omega

/-- Numbers that rise. -/
def Up (l : List Nat) : Prop := ∀ i, i + 1 < l.length → l.getD i 0 ≤ l.getD (i + 1) 0
theorem Up.le {l : List Nat} (h : Up l) : ∀ j i, i ≤ j → j < l.length → l.getD i 0 ≤ l.getD j 0 := by
  intro j
  induction j with
  | zero => intro i hi _; obtain rfl : i = 0 := by omega
            exact Nat.le_refl _
  | succ j ih =>
    intro i hi hj
    rcases Nat.lt_or_ge i (j + 1) with hl | hl
    · exact Nat.le_trans (ih i (by omega) (by omega)) (h j hj)
    · obtain rfl : i = j + 1 := by omega
      exact Nat.le_refl _
/-- The place of the i-th number's 1. -/
def pc (l : List Nat) (w i : Nat) : Nat := i + l.getD i 0 / 2 ^ w
theorem pc_lt {l : List Nat} (h : Up l) (w : Nat) {i j : Nat} (hi : i < j) (hj : j < l.length) : pc l w i < pc l w j := by
  have := Nat.div_le_div_right (c := 2 ^ w) (h.le j i (by omega) hj)
  unfold pc
  omega
theorem pc_le {l : List Nat} (h : Up l) (w : Nat) {i j : Nat} (hi : i ≤ j) (hj : j < l.length) : pc l w i ≤ pc l w j := by
  have := Nat.div_le_div_right (c := 2 ^ w) (h.le j i hi hj)
  unfold pc
  omega
/-- 0s behind a list till it has m bits. -/
def pad (L : List Bool) (m : Nat) : List Bool := L ++ List.replicate (m - L.length) false
theorem pad_length (L : List Bool) (m : Nat) : (pad L m).length = max L.length m := by unfold pad; simp; omega
theorem pad_of_le (L : List Bool) (m : Nat) (h : m ≤ L.length) : pad L m = L := by
  unfold pad
  rw [show m - L.length = 0 from by omega]
  simp
theorem pad_pad (L : List Bool) (a b : Nat) (h : a ≤ b) : pad (pad L a) b = pad L b := by
  unfold pad
  rw [List.append_assoc, List.replicate_append_replicate]
  congr 2
  simp
  omega
theorem pad_getD (L : List Bool) (m p : Nat) : (pad L m).getD p false = L.getD p false := by
  unfold pad
  rw [List.getD_eq_getElem?_getD, List.getD_eq_getElem?_getD]
  by_cases h : p < L.length
  · rw [List.getElem?_append_left h]
  · rw [List.getElem?_append_right (by omega), List.getElem?_eq_none (l := L) (by omega)]
    by_cases h2 : p - L.length < m - L.length
    · simp [h2]
    · rw [List.getElem?_eq_none (by simpa using h2)]
/-- The high row of the first k numbers. -/
def hiTo (l : List Nat) (w : Nat) : Nat → List Bool
  | 0 => []
  | k + 1 => pad (hiTo l w k) (pc l w k) ++ [true]
theorem hiTo_length {l : List Nat} (h : Up l) (w : Nat) : ∀ k, k ≤ l.length → (k = 0 ∧ (hiTo l w k).length = 0) ∨ (0 < k ∧ (hiTo l w k).length = pc l w (k - 1) + 1) := by
  intro k
  induction k with
  | zero => intro _; exact .inl ⟨rfl, rfl⟩
  | succ k ih =>
    intro hk
    right
    refine ⟨by omega, ?_⟩
    show (pad (hiTo l w k) (pc l w k) ++ [true]).length = _
    rw [List.length_append, pad_length]
    rcases ih (by omega) with ⟨_, e⟩ | ⟨h0, e⟩
    · rw [e]; simp
    · have := pc_lt h w (show k - 1 < k by omega) (by omega)
      rw [e]
      simp
      omega
theorem hiTo_le {l : List Nat} (h : Up l) (w k : Nat) (hk : k < l.length) : (hiTo l w k).length ≤ pc l w k := by
  rcases hiTo_length h w k (by omega) with ⟨_, e⟩ | ⟨h0, e⟩
  · omega
  · have := pc_lt h w (show k - 1 < k by omega) hk
    omega
theorem hiTo_succ_length {l : List Nat} (h : Up l) (w k : Nat) (hk : k < l.length) : (hiTo l w (k + 1)).length = pc l w k + 1 := by
  rcases hiTo_length h w (k + 1) (by omega) with ⟨h0, _⟩ | ⟨_, e⟩
  · omega
  · exact e
theorem hiTo_getD {l : List Nat} (h : Up l) (w : Nat) : ∀ k, k ≤ l.length → ∀ p, (hiTo l w k).getD p false = true ↔ ∃ i, i < k ∧ p = pc l w i := by
  intro k
  induction k with
  | zero => intro _ p; simp [hiTo]
  | succ k ih =>
    intro hk p
    have hlen : (pad (hiTo l w k) (pc l w k)).length = pc l w k := by
      rw [pad_length]
      have := hiTo_le h w k (by omega)
      omega
    show (pad (hiTo l w k) (pc l w k) ++ [true]).getD p false = true ↔ _
    rw [List.getD_eq_getElem?_getD]
    by_cases hp : p < pc l w k
    · rw [List.getElem?_append_left (by omega), ← List.getD_eq_getElem?_getD, pad_getD, ih (by omega)]
      constructor
      · rintro ⟨i, hi, e⟩; exact ⟨i, by omega, e⟩
      · rintro ⟨i, hi, e⟩
        rcases Nat.lt_or_ge i k with hl | hl
        · exact ⟨i, hl, e⟩
        · obtain rfl : i = k := by omega
          omega
    · rw [List.getElem?_append_right (by omega), hlen]
      by_cases he : p = pc l w k
      · subst he
        simp
        exact ⟨k, by omega, rfl⟩
      · rw [List.getElem?_eq_none (by simp; omega)]
        simp
        intro i hi e
        rcases Nat.lt_or_ge i k with hl | hl
        · have := pc_lt h w hl (by omega)
          omega
        · obtain rfl : i = k := by omega
          exact he e
/-- The high row. -/
def highB (l : List Nat) (u : Nat) : List Bool := pad (hiTo l (wdt l.length u) l.length) (highs l.length u)
/-- Numbers that a sequence may have. -/
structure Ok (l : List Nat) (u : Nat) : Prop where
  up : Up l
  lt : ∀ i, i < l.length → l.getD i 0 < u
  len : l.length < 16777216
  pos : 1 ≤ u
  le : u ≤ 1099511627776
theorem Ok.part_le {l : List Nat} {u : Nat} (h : Ok l u) {i : Nat} (hi : i < l.length) : l.getD i 0 / 2 ^ wdt l.length u ≤ top l.length u := by
  unfold top
  exact Nat.div_le_div_right (by have := h.lt i hi; omega)
theorem Ok.hi_le {l : List Nat} {u : Nat} (h : Ok l u) {k : Nat} (hk : k ≤ l.length) : (hiTo l (wdt l.length u) k).length ≤ highs l.length u := by
  rcases hiTo_length h.up (wdt l.length u) k hk with ⟨_, e⟩ | ⟨h0, e⟩
  · omega
  · have := h.part_le (show k - 1 < l.length by omega)
    unfold highs
    unfold pc at e
    omega
theorem Ok.high_length {l : List Nat} {u : Nat} (h : Ok l u) : (highB l u).length = highs l.length u := by
  unfold highB
  rw [pad_length]
  have := h.hi_le (Nat.le_refl _)
  omega
theorem Ok.high_getD {l : List Nat} {u : Nat} (h : Ok l u) (p : Nat) : (highB l u).getD p false = true ↔ ∃ i, i < l.length ∧ p = pc l (wdt l.length u) i := by
  unfold highB
  rw [pad_getD]
  exact hiTo_getD h.up _ _ (Nat.le_refl _) p
theorem Ok.high_bt {l : List Nat} {u : Nat} (h : Ok l u) (p : Nat) : bt (num (highB l u)) p = 1 ↔ ∃ i, i < l.length ∧ p = pc l (wdt l.length u) i := by
  rw [bt_num, ← h.high_getD]
  cases (highB l u).getD p false <;> simp
theorem Ok.high_ones {l : List Nat} {u : Nat} (h : Ok l u) : ∀ p c, c ≤ l.length → (∀ i, i < c → pc l (wdt l.length u) i < p) → (∀ i, c ≤ i → i < l.length → p ≤ pc l (wdt l.length u) i) → ones (num (highB l u)) p = c := by
  intro p
  induction p with
  | zero =>
    intro c _ h1 _
    rcases Nat.eq_zero_or_pos c with h0 | h0
    · rw [h0]; rfl
    · exact absurd (h1 0 h0) (by omega)
  | succ p ih =>
    intro c hc h1 h2
    rw [ones_succ]
    by_cases hb : bt (num (highB l u)) p = 1
    · obtain ⟨i, hi, e⟩ := (h.high_bt p).1 hb
      have hic : i < c := by
        rcases Nat.lt_or_ge i c with hl | hl
        · exact hl
        · have := h2 i hl hi; omega
      have hci : c = i + 1 := by
        rcases Nat.lt_or_ge (i + 1) c with hl | hl
        · have := h1 (i + 1) hl
          have := pc_lt h.up (wdt l.length u) (show i < i + 1 by omega) (by omega)
          omega
        · omega
      rw [hb, ih i (by omega) (fun j hj => by have := pc_lt h.up (wdt l.length u) hj hi; omega) (fun j hj hj2 => by have := pc_le h.up (wdt l.length u) hj hj2; omega), hci]
    · have hz : bt (num (highB l u)) p = 0 := by have := bt_lt (num (highB l u)) p; omega
      have hne : ∀ i, i < l.length → p ≠ pc l (wdt l.length u) i := fun i hi e => hb ((h.high_bt p).2 ⟨i, hi, e⟩)
      rw [hz, ih c hc (fun i hi => by have := h1 i hi; have := hne i (by omega); omega) (fun i hi hi2 => by have := h2 i hi hi2; omega), Nat.add_zero]
theorem Ok.one_at {l : List Nat} {u : Nat} (h : Ok l u) {i : Nat} (hi : i < l.length) : Ck.At (num (highB l u)) (highs l.length u) i (pc l (wdt l.length u) i) := by
  refine ⟨?_, (h.high_bt _).2 ⟨i, hi, rfl⟩, h.high_ones _ i (by omega) (fun j hj => pc_lt h.up _ hj hi) (fun j hj hj2 => pc_le h.up _ hj hj2)⟩
  have := h.part_le hi
  unfold highs pc
  omega
theorem Ok.ones_all {l : List Nat} {u : Nat} (h : Ok l u) : ones (num (highB l u)) (highs l.length u) = l.length :=
  h.high_ones _ _ (Nat.le_refl _) (fun i hi => (h.one_at hi).lt) (fun i hi hi2 => by omega)
theorem Ok.high_lt {l : List Nat} {u : Nat} (h : Ok l u) : num (highB l u) < 2 ^ highs l.length u := by
  have := num_lt (highB l u)
  rw [h.high_length] at this
  exact this
/-- How many numbers have a lesser high part than k + 1, and the place of the 0 behind them. -/
theorem Ok.zero_at {l : List Nat} {u : Nat} (h : Ok l u) {k c : Nat} (hk : k ≤ top l.length u) (hc : c ≤ l.length) (h1 : ∀ i, i < c → l.getD i 0 / 2 ^ wdt l.length u ≤ k) (h2 : ∀ i, c ≤ i → i < l.length → k < l.getD i 0 / 2 ^ wdt l.length u) :
    Ck.At (Ck.tn (num (highB l u)) (highs l.length u)) (highs l.length u) k (k + c) := by
  have hlt : k + c < highs l.length u := by unfold highs; omega
  have ho := h.high_ones (k + c) c hc (fun i hi => by have := h1 i hi; unfold pc; omega) (fun i hi hi2 => by have := h2 i hi hi2; unfold pc; omega)
  have hb : bt (num (highB l u)) (k + c) = 0 := by
    have hne : ¬ bt (num (highB l u)) (k + c) = 1 := by
      rw [h.high_bt]
      rintro ⟨i, hi, e⟩
      unfold pc at e
      rcases Nat.lt_or_ge i c with hl | hl
      · have := h1 i hl; omega
      · have := h2 i hl hi; omega
    have := bt_lt (num (highB l u)) (k + c)
    omega
  refine ⟨hlt, ?_, ?_⟩
  · rw [Ck.bt_tn _ _ _ h.high_lt (by omega), hb]
  · have := Ck.ones_tn _ _ (k + c) h.high_lt (by omega)
    omega

/-- The low row of the first k numbers. -/
def loTo (l : List Nat) (w : Nat) : Nat → List Bool
  | 0 => []
  | k + 1 => loTo l w k ++ bitsTo (l.getD k 0) w
theorem loTo_length (l : List Nat) (w k : Nat) : (loTo l w k).length = k * w := by
  induction k with
  | zero => simp [loTo]
  | succ k ih =>
    show (loTo l w k ++ bitsTo (l.getD k 0) w).length = _
    rw [List.length_append, ih, bitsTo_length, Nat.add_mul, Nat.one_mul]
def lowB (l : List Nat) (u : Nat) : List Bool := loTo l (wdt l.length u) l.length
theorem lowB_length (l : List Nat) (u : Nat) : (lowB l u).length = lows l.length u := loTo_length _ _ _
theorem loTo_bt (l : List Nat) (w : Nat) : ∀ k i j, i < k → j < w → bt (num (loTo l w k)) (i * w + j) = bt (l.getD i 0) j := by
  intro k
  induction k with
  | zero => intro i j hi; omega
  | succ k ih =>
    intro i j hi hj
    show bt (num (loTo l w k ++ bitsTo (l.getD k 0) w)) _ = _
    rw [num_append, bt_put _ _ _ _ (num_lt _), loTo_length]
    rcases Nat.lt_or_ge i k with hl | hl
    · have h1 : (i + 1) * w ≤ k * w := Nat.mul_le_mul_right _ (by omega)
      rw [Nat.add_mul, Nat.one_mul] at h1
      rw [if_pos (by omega), ih i j hl hj]
    · obtain rfl : i = k := by omega
      rw [if_neg (by omega), num_bitsTo, bt_mod, if_pos (by omega)]
      congr 1
      omega
theorem low_field (l : List Nat) (u i : Nat) (hi : i < l.length) : num (lowB l u) / 2 ^ (i * wdt l.length u) % 2 ^ wdt l.length u = l.getD i 0 % 2 ^ wdt l.length u := by
  apply eq_of_bt
  intro j
  rw [bt_mod, bt_mod]
  split
  · rename_i hj
    rw [bt_div]
    exact loTo_bt l _ _ i j hi hj
  · rfl

/-- r numbers are less than x. -/
structure Sp (l : List Nat) (x : Int) (r : Nat) : Prop where
  le : r ≤ l.length
  lo : ∀ i, i < r → ((l.getD i 0 : Nat) : Int) < x
  hi : ∀ i, r ≤ i → i < l.length → x ≤ ((l.getD i 0 : Nat) : Int)
theorem Sp.unique {l : List Nat} {x : Int} {r s : Nat} (h : Sp l x r) (g : Sp l x s) : r = s := by
  rcases Nat.lt_trichotomy r s with hl | hl | hl
  · have := g.lo r hl
    have := h.hi r (Nat.le_refl _) (by have := g.le; omega)
    omega
  · exact hl
  · have := h.lo s hl
    have := g.hi s (Nat.le_refl _) (by have := h.le; omega)
    omega
/-- How many are less. -/
def lessTo (l : List Nat) (x : Int) : Nat → Nat
  | 0 => 0
  | k + 1 => lessTo l x k + (if ((l.getD k 0 : Nat) : Int) < x then 1 else 0)
def less (l : List Nat) (x : Int) : Nat := lessTo l x l.length
theorem lessTo_le (l : List Nat) (x : Int) (k : Nat) : lessTo l x k ≤ k := by
  induction k with
  | zero => exact Nat.le_refl _
  | succ k ih => unfold lessTo; split <;> omega
theorem less_le (l : List Nat) (x : Int) : less l x ≤ l.length := lessTo_le _ _ _
theorem lessTo_spec {l : List Nat} (h : Up l) (x : Int) : ∀ k, k ≤ l.length → (∀ i, i < lessTo l x k → ((l.getD i 0 : Nat) : Int) < x) ∧ (∀ i, lessTo l x k ≤ i → i < k → x ≤ ((l.getD i 0 : Nat) : Int)) := by
  intro k
  induction k with
  | zero => intro _; exact ⟨fun i hi => by simp [lessTo] at hi, fun i _ hi => by omega⟩
  | succ k ih =>
    intro hk
    obtain ⟨h1, h2⟩ := ih (by omega)
    have hle := lessTo_le l x k
    unfold lessTo
    split
    · rename_i hx
      have e : lessTo l x k = k := by
        rcases Nat.lt_or_ge (lessTo l x k) k with hl | hl
        · have h3 := h2 _ (Nat.le_refl _) hl
          have h4 := h.le k (lessTo l x k) (by omega) (by omega)
          omega
        · omega
      rw [e] at h1 ⊢
      refine ⟨fun i hi => ?_, fun i hi hi2 => by omega⟩
      rcases Nat.lt_or_ge i k with hl | hl
      · exact h1 i hl
      · obtain rfl : i = k := by omega
        exact hx
    · rename_i hx
      refine ⟨fun i hi => h1 i (by omega), fun i hi hi2 => ?_⟩
      rcases Nat.lt_or_ge i k with hl | hl
      · exact h2 i (by omega) hl
      · obtain rfl : i = k := by omega
        omega
theorem less_spec {l : List Nat} (h : Up l) (x : Int) : Sp l x (less l x) :=
  ⟨less_le _ _, (lessTo_spec h x _ (Nat.le_refl _)).1, (lessTo_spec h x _ (Nat.le_refl _)).2⟩
theorem less_eq {l : List Nat} (h : Up l) {x : Int} {r : Nat} (hr : Sp l x r) : less l x = r := (less_spec h x).unique hr
/-- How many have a lesser high part than k. -/
def ah (l : List Nat) (w k : Nat) : Nat := less l ((k * 2 ^ w : Nat) : Int)
theorem ah_lo {l : List Nat} (h : Up l) (w k i : Nat) (hi : i < ah l w k) : l.getD i 0 / 2 ^ w < k := by
  have := (less_spec h ((k * 2 ^ w : Nat) : Int)).lo i hi
  rw [Nat.div_lt_iff_lt_mul (Nat.two_pow_pos _)]
  omega
theorem ah_hi {l : List Nat} (h : Up l) (w k i : Nat) (hi : ah l w k ≤ i) (hl : i < l.length) : k ≤ l.getD i 0 / 2 ^ w := by
  have := (less_spec h ((k * 2 ^ w : Nat) : Int)).hi i hi hl
  rw [Nat.le_div_iff_mul_le (Nat.two_pow_pos _)]
  omega
theorem ah_le (l : List Nat) (w k : Nat) : ah l w k ≤ l.length := less_le _ _
theorem ah_zero {l : List Nat} (h : Up l) (w : Nat) : ah l w 0 = 0 :=
  less_eq h ⟨by omega, fun i hi => by omega, fun i _ _ => by simp⟩
theorem ah_mono {l : List Nat} (h : Up l) (w : Nat) {a b : Nat} (hab : a ≤ b) : ah l w a ≤ ah l w b := by
  rcases Nat.lt_or_ge (ah l w b) (ah l w a) with hl | hl
  · have h1 := ah_lo h w a _ hl
    have h2 := ah_hi h w b _ (Nat.le_refl _) (by have := ah_le l w a; omega)
    omega
  · exact hl
theorem Ok.ahead_at {l : List Nat} {u : Nat} (h : Ok l u) {k : Nat} (hk : k ≤ top l.length u) :
    Ck.At (Ck.tn (num (highB l u)) (highs l.length u)) (highs l.length u) k (k + ah l (wdt l.length u) (k + 1)) :=
  h.zero_at hk (ah_le _ _ _) (fun i hi => by have := ah_lo h.up _ (k + 1) i hi; omega) (fun i hi hi2 => by have := ah_hi h.up _ (k + 1) i hi hi2; omega)
theorem join_eq (x w : Nat) : x / 2 ^ w * 2 ^ w + x % 2 ^ w = x := by rw [Nat.mul_comm]; exact Nat.div_add_mod x (2 ^ w)
end Fn
end Go.Proofs.YtfohldojcdhnhaaDoor
