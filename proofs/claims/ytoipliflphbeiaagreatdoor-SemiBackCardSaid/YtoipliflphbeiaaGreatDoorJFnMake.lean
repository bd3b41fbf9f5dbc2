/-
  Plain mathematics of sequences: the width; the low and the high row as lists of bits; where the 1s and the 0s of the high row are; how many numbers are less. Of no program.
  The contracts of rising, shapeOf, lows, highs, all, fits and fill of package fano.
  The contract of fill of package fano: 0s are put behind the others till there are so many bits.
  The contract of rows of package fano: the low and the high row of numbers that rise.
  The contract of Make of package fano: of numbers that rise below a bound a sequence in new memory; of others none. A sequence in memory.
  The contracts of a sequence's Len, Bound, number, Get, ahead and halve, and of lowest and join of package fano.
  The contract of a sequence's halve: those few numbers of one high part that are still to be held against x.
-/
import Derived.Test.YtoipliflphbeiaaGreatDoorJCk
import Derived.Test.YtoipliflphbeiaaGreatDoorJOpen
import Derived.Test.YtoipliflphbeiaaGreatDoorC04
import Derived.Test.YtoipliflphbeiaaGreatDoorJBtList
namespace Go.Proofs.YtoipliflphbeiaaGreatDoor
namespace Fn
open Wd Bt

/-- The width of n numbers below u. -/
def wdt (n u : Nat) : Nat := if n = 0 ∨ u < 2 * n then 0 else needTo (u / n) 64 - 1
theorem wdt_none {n u : Nat} (h : n = 0 ∨ u < 2 * n) : wdt n u = 0 := by unfold wdt; rw [if_pos h]
theorem wdt_some {n u : Nat} (h : ¬ (n = 0 ∨ u < 2 * n)) : wdt n u = needTo (u / n) 64 - 1 := by unfold wdt; rw [if_neg h]
/-- The width's law: 2 to it is at most u / n, twice that is more. -/
theorem wdt_spec {n u : Nat} (h : ¬ (n = 0 ∨ u < 2 * n)) (hu : u < 2 ^ 64) : 2 ^ wdt n u * n ≤ u ∧ u < 2 ^ (wdt n u + 1) * n ∧ 1 ≤ wdt n u := by
  have hn : 0 < n := by omega
  have hq : 2 ≤ u / n := (Nat.le_div_iff_mul_le hn).2 (by omega)
  have hq2 : u / n < 2 ^ 64 := Nat.lt_of_le_of_lt (Nat.div_le_self _ _) hu
  obtain ⟨h1, h2⟩ := needTo_spec (u / n) 64 hq2
  obtain ⟨h3, h4⟩ := h2 (by omega)
  have hw := wdt_some h
  have h5 : 2 ≤ needTo (u / n) 64 := by
    rcases Nat.lt_or_ge (needTo (u / n) 64) 2 with hl | hl
    · have := Nat.pow_le_pow_right (show 0 < 2 by decide) (show needTo (u / n) 64 ≤ 1 by omega)
      omega
    · exact hl
  rw [hw]
  refine ⟨(Nat.le_div_iff_mul_le hn).1 h3, ?_, by omega⟩
  rw [show needTo (u / n) 64 - 1 + 1 = needTo (u / n) 64 from by omega]
  exact (Nat.div_lt_iff_lt_mul hn).1 h1
theorem wdt_le {n u : Nat} (hu : u < 2199023255552) : wdt n u ≤ 40 := by
  by_cases h : n = 0 ∨ u < 2 * n
  · rw [wdt_none h]; omega
  · obtain ⟨h1, _, _⟩ := wdt_spec h (by omega)
    rcases Nat.lt_or_ge 40 (wdt n u) with hl | hl
    · have h2 := Nat.pow_le_pow_right (show 0 < 2 by decide) (show 41 ≤ wdt n u by omega)
      have h3 : 2 ^ wdt n u * 1 ≤ 2 ^ wdt n u * n := Nat.mul_le_mul_left _ (by omega)
      omega
    · exact hl
/-- The greatest high part. -/
def top (n u : Nat) : Nat := (u - 1) / 2 ^ wdt n u
theorem top_lt {n u : Nat} (hn : 0 < n) (hu : u < 2 ^ 64) : top n u < 2 * n := by
  unfold top
  rw [Nat.div_lt_iff_lt_mul (Nat.two_pow_pos _)]
  by_cases h : n = 0 ∨ u < 2 * n
  · rw [wdt_none h]; omega
  · obtain ⟨_, h2, _⟩ := wdt_spec h hu
    rw [Nat.pow_succ] at h2
    have : 2 ^ wdt n u * 2 * n = 2 * n * 2 ^ wdt n u := by rw [Nat.mul_assoc, Nat.mul_comm]
    omega
/-- How many bits the rows have. -/
def lows (n u : Nat) : Nat := n * wdt n u
def highs (n u : Nat) : Nat := n + top n u + 1
theorem lows_le {n u : Nat} (hn : n < 16777216) (hu : u < 2199023255552) : lows n u ≤ 671088640 := by
  unfold lows
  have := wdt_le (n := n) hu
  have h : n * wdt n u ≤ 16777216 * 40 := Nat.mul_le_mul (by omega) this
  omega
theorem highs_le {n u : Nat} (h0 : 0 < n) (hn : n < 16777216) (hu : u < 2199023255552) : highs n u ≤ 50331648 := by
  have := top_lt h0 (show u < 2 ^ 64 by omega)
  unfold highs
  omega
/-- The size's bound. -/
theorem size_le {n u W : Nat} (hn : 0 < n) (hu : u < 2 ^ 64) (hW : u ≤ n * 2 ^ W) : lows n u + highs n u ≤ 2 * n + W * n + 2 := by
  have ht := top_lt hn hu
  unfold lows highs
  by_cases h : n = 0 ∨ u < 2 * n
  · have h0 : top n u = u - 1 := by unfold top; rw [wdt_none h]; simp
    rw [wdt_none h, h0] at *
    cases W with
    | zero => omega
    | succ W =>
      have : 1 * n ≤ (W + 1) * n := Nat.mul_le_mul_right _ (by omega)
      omega
  · obtain ⟨h1, h2, h3⟩ := wdt_spec h hu
    have hle : wdt n u ≤ W := by
      rcases Nat.lt_or_ge W (wdt n u) with hl | hl
      · have h4 : 2 ^ (W + 1) ≤ 2 ^ wdt n u := Nat.pow_le_pow_right (by decide) (by omega)
        have h5 : 2 ^ (W + 1) * n ≤ 2 ^ wdt n u * n := Nat.mul_le_mul_right _ h4
        rw [Nat.pow_succ] at h5
        have h6 : 2 ^ W * 2 * n = 2 * (n * 2 ^ W) := by rw [Nat.mul_comm (2 ^ W) 2, Nat.mul_assoc, Nat.mul_comm n]
        have h7 : 0 < n * 2 ^ W := Nat.mul_pos hn (Nat.two_pow_pos _)
        omega
      · exact hl
    rcases Nat.lt_or_ge (wdt n u) W with hl | hl
    · have : (wdt n u + 1) * n ≤ W * n := Nat.mul_le_mul_right _ (by omega)
      rw [Nat.add_mul, Nat.one_mul, Nat.mul_comm (wdt n u) n] at this
      omega
    · obtain rfl : W = wdt n u := by omega
      have hu2 : u = n * 2 ^ wdt n u := by rw [Nat.mul_comm] at h1; omega
      have h8 : top n u ≤ n - 1 := by
        unfold top
        have : (u - 1) / 2 ^ wdt n u < n := by
          rw [Nat.div_lt_iff_lt_mul (Nat.two_pow_pos _)]
          have : 0 < n * 2 ^ wdt n u := Nat.mul_pos hn (Nat.two_pow_pos _)
          omega
        omega
      rw [Nat.mul_comm (wdt n u) n]
      omega

/-- Numbers that rise. -/
def Up (l : List Nat) : Prop := ∀ i, i + 1 < l.length → l.getD i 0 ≤ l.getD (i + 1) 0
theorem Up.le {l : List Nat} (h : Up l) : ∀ j i, i ≤ j → j < l.length → l.getD i 0 ≤ l.getD j 0 := by
  intro j
  induction j with
  | zero => intro i hi _; obtain rfl : i = 0 := by omega
            exact Nat.le_refl _
  | succ j ih =>
    intro i hi hj
    rcases Nat.lt_or_ge i (j + 1) with hl | hl
    · exact Nat.le_trans (ih i (by omega) (by omega)) (h j hj)
    · obtain rfl : i = j + 1 := by omega
      exact Nat.le_refl _
/-- The place of the i-th number's 1. -/
def pc (l : List Nat) (w i : Nat) : Nat := i + l.getD i 0 / 2 ^ w
theorem pc_lt {l : List Nat} (h : Up l) (w : Nat) {i j : Nat} (hi : i < j) (hj : j < l.length) : pc l w i < pc l w j := by
  have := Nat.div_le_div_right (c := 2 ^ w) (h.le j i (by omega) hj)
  unfold pc
  omega
theorem pc_le {l : List Nat} (h : Up l) (w : Nat) {i j : Nat} (hi : i ≤ j) (hj : j < l.length) : pc l w i ≤ pc l w j := by
  have := Nat.div_le_div_right (c := 2 ^ w) (h.le j i hi hj)
  unfold pc
  omega
/-- 0s behind a list till it has m bits. -/
def pad (L : List Bool) (m : Nat) : List Bool := L ++ List.replicate (m - L.length) false
theorem pad_length (L : List Bool) (m : Nat) : (pad L m).length = max L.length m := by unfold pad; simp; omega
theorem pad_of_le (L : List Bool) (m : Nat) (h : m ≤ L.length) : pad L m = L := by
  unfold pad
  rw [show m - L.length = 0 from by omega]
  simp
theorem pad_pad (L : List Bool) (a b : Nat) (h : a ≤ b) : pad (pad L a) b = pad L b := by
  unfold pad
  rw [List.append_assoc, List.replicate_append_replicate]
  congr 2
  simp
  omega
theorem pad_getD (L : List Bool) (m p : Nat) : (pad L m).getD p false = L.getD p false := by
  unfold pad
  rw [List.getD_eq_getElem?_getD, List.getD_eq_getElem?_getD]
  by_cases h : p < L.length
  · rw [List.getElem?_append_left h]
  · rw [List.getElem?_append_right (by omega), List.getElem?_eq_none (l := L) (by omega)]
    by_cases h2 : p - L.length < m - L.length
    · simp [h2]
    · rw [List.getElem?_eq_none (by simpa using h2)]
/-- The high row of the first k numbers. -/
def hiTo (l : List Nat) (w : Nat) : Nat → List Bool
  | 0 => []
  | k + 1 => pad (hiTo l w k) (pc l w k) ++ [true]
theorem hiTo_length {l : List Nat} (h : Up l) (w : Nat) : ∀ k, k ≤ l.length → (k = 0 ∧ (hiTo l w k).length = 0) ∨ (0 < k ∧ (hiTo l w k).length = pc l w (k - 1) + 1) := by
  intro k
  induction k with
  | zero => intro _; exact .inl ⟨rfl, rfl⟩
  | succ k ih =>
    intro hk
    right
    refine ⟨by omega, ?_⟩
    show (pad (hiTo l w k) (pc l w k) ++ [true]).length = _
    rw [List.length_append, pad_length]
    rcases ih (by omega) with ⟨_, e⟩ | ⟨h0, e⟩
    · rw [e]; simp
    · have := pc_lt h w (show k - 1 < k by omega) (by omega)
      rw [e]
      simp
      omega
theorem hiTo_le {l : List Nat} (h : Up l) (w k : Nat) (hk : k < l.length) : (hiTo l w k).length ≤ pc l w k := by
  rcases hiTo_length h w k (by omega) with ⟨_, e⟩ | ⟨h0, e⟩
  · omega
  · have := pc_lt h w (show k - 1 < k by omega) hk
    omega
theorem hiTo_succ_length {l : List Nat} (h : Up l) (w k : Nat) (hk : k < l.length) : (hiTo l w (k + 1)).length = pc l w k + 1 := by
  rcases hiTo_length h w (k + 1) (by omega) with ⟨h0, _⟩ | ⟨_, e⟩
  · omega
  · exact e
theorem hiTo_getD {l : List Nat} (h : Up l) (w : Nat) : ∀ k, k ≤ l.length → ∀ p, (hiTo l w k).getD p false = true ↔ ∃ i, i < k ∧ p = pc l w i := by
  intro k
  induction k with
  | zero => intro _ p; simp [hiTo]
  | succ k ih =>
    intro hk p
    have hlen : (pad (hiTo l w k) (pc l w k)).length = pc l w k := by
      rw [pad_length]
      have := hiTo_le h w k (by omega)
      omega
    show (pad (hiTo l w k) (pc l w k) ++ [true]).getD p false = true ↔ _
    rw [List.getD_eq_getElem?_getD]
    by_cases hp : p < pc l w k
    · rw [List.getElem?_append_left (by omega), ← List.getD_eq_getElem?_getD, pad_getD, ih (by omega)]
      constructor
      · rintro ⟨i, hi, e⟩; exact ⟨i, by omega, e⟩
      · rintro ⟨i, hi, e⟩
        rcases Nat.lt_or_ge i k with hl | hl
        · exact ⟨i, hl, e⟩
        · obtain rfl : i = k := by omega
          omega
    · rw [List.getElem?_append_right (by omega), hlen]
      by_cases he : p = pc l w k
      · subst he
        simp
        exact ⟨k, by omega, rfl⟩
      · rw [List.getElem?_eq_none (by simp; omega)]
        simp
        intro i hi e
        rcases Nat.lt_or_ge i k with hl | hl
        · have := pc_lt h w hl (by omega)
          omega
        · obtain rfl : i = k := by omega
          exact he e
/-- The high row. -/
def highB (l : List Nat) (u : Nat) : List Bool := pad (hiTo l (wdt l.length u) l.length) (highs l.length u)
/-- Numbers that a sequence may have. -/
structure Ok (l : List Nat) (u : Nat) : Prop where
  up : Up l
  lt : ∀ i, i < l.length → l.getD i 0 < u
  len : l.length < 16777216
  pos : 1 ≤ u
  le : u ≤ 1099511627776
theorem Ok.part_le {l : List Nat} {u : Nat} (h : Ok l u) {i : Nat} (hi : i < l.length) : l.getD i 0 / 2 ^ wdt l.length u ≤ top l.length u := by
  unfold top
  exact Nat.div_le_div_right (by have := h.lt i hi; omega)
theorem Ok.hi_le {l : List Nat} {u : Nat} (h : Ok l u) {k : Nat} (hk : k ≤ l.length) : (hiTo l (wdt l.length u) k).length ≤ highs l.length u := by
  rcases hiTo_length h.up (wdt l.length u) k hk with ⟨_, e⟩ | ⟨h0, e⟩
  · omega
  · have := h.part_le (show k - 1 < l.length by omega)
    unfold highs
    unfold pc at e
    omega
theorem Ok.high_length {l : List Nat} {u : Nat} (h : Ok l u) : (highB l u).length = highs l.length u := by
  unfold highB
  rw [pad_length]
  have := h.hi_le (Nat.le_refl _)
  omega
theorem Ok.high_getD {l : List Nat} {u : Nat} (h : Ok l u) (p : Nat) : (highB l u).getD p false = true ↔ ∃ i, i < l.length ∧ p = pc l (wdt l.length u) i := by
  unfold highB
  rw [pad_getD]
  exact hiTo_getD h.up _ _ (Nat.le_refl _) p
theorem Ok.high_bt {l : List Nat} {u : Nat} (h : Ok l u) (p : Nat) : bt (num (highB l u)) p = 1 ↔ ∃ i, i < l.length ∧ p = pc l (wdt l.length u) i := by
  rw [bt_num, ← h.high_getD]
  cases (highB l u).getD p false <;> simp
theorem Ok.high_ones {l : List Nat} {u : Nat} (h : Ok l u) : ∀ p c, c ≤ l.length → (∀ i, i < c → pc l (wdt l.length u) i < p) → (∀ i, c ≤ i → i < l.length → p ≤ pc l (wdt l.length u) i) → ones (num (highB l u)) p = c := by
  intro p
  induction p with
  | zero =>
    intro c _ h1 _
    rcases Nat.eq_zero_or_pos c with h0 | h0
    · rw [h0]; rfl
    · exact absurd (h1 0 h0) (by omega)
  | succ p ih =>
    intro c hc h1 h2
    rw [ones_succ]
    by_cases hb : bt (num (highB l u)) p = 1
    · obtain ⟨i, hi, e⟩ := (h.high_bt p).1 hb
      have hic : i < c := by
        rcases Nat.lt_or_ge i c with hl | hl
        · exact hl
        · have := h2 i hl hi; omega
      have hci : c = i + 1 := by
        rcases Nat.lt_or_ge (i + 1) c with hl | hl
        · have := h1 (i + 1) hl
          have := pc_lt h.up (wdt l.length u) (show i < i + 1 by omega) (by omega)
          omega
        · omega
      rw [hb, ih i (by omega) (fun j hj => by have := pc_lt h.up (wdt l.length u) hj hi; omega) (fun j hj hj2 => by have := pc_le h.up (wdt l.length u) hj hj2; omega), hci]
    · have hz : bt (num (highB l u)) p = 0 := by have := bt_lt (num (highB l u)) p; omega
      have hne : ∀ i, i < l.length → p ≠ pc l (wdt l.length u) i := fun i hi e => hb ((h.high_bt p).2 ⟨i, hi, e⟩)
      rw [hz, ih c hc (fun i hi => by have := h1 i hi; have := hne i (by omega); omega) (fun i hi hi2 => by have := h2 i hi hi2; omega), Nat.add_zero]
theorem Ok.one_at {l : List Nat} {u : Nat} (h : Ok l u) {i : Nat} (hi : i < l.length) : Ck.At (num (highB l u)) (highs l.length u) i (pc l (wdt l.length u) i) := by
  refine ⟨?_, (h.high_bt _).2 ⟨i, hi, rfl⟩, h.high_ones _ i (by omega) (fun j hj => pc_lt h.up _ hj hi) (fun j hj hj2 => pc_le h.up _ hj hj2)⟩
  have := h.part_le hi
  unfold highs pc
  omega
theorem Ok.ones_all {l : List Nat} {u : Nat} (h : Ok l u) : ones (num (highB l u)) (highs l.length u) = l.length :=
  h.high_ones _ _ (Nat.le_refl _) (fun i hi => (h.one_at hi).lt) (fun i hi hi2 => by omega)
theorem Ok.high_lt {l : List Nat} {u : Nat} (h : Ok l u) : num (highB l u) < 2 ^ highs l.length u := by
  have := num_lt (highB l u)
  rw [h.high_length] at this
  exact this
/-- How many numbers have a lesser high part than k + 1, and the place of the 0 behind them. -/
theorem Ok.zero_at {l : List Nat} {u : Nat} (h : Ok l u) {k c : Nat} (hk : k ≤ top l.length u) (hc : c ≤ l.length) (h1 : ∀ i, i < c → l.getD i 0 / 2 ^ wdt l.length u ≤ k) (h2 : ∀ i, c ≤ i → i < l.length → k < l.getD i 0 / 2 ^ wdt l.length u) :
    Ck.At (Ck.tn (num (highB l u)) (highs l.length u)) (highs l.length u) k (k + c) := by
  have hlt : k + c < highs l.length u := by unfold highs; omega
  have ho := h.high_ones (k + c) c hc (fun i hi => by have := h1 i hi; unfold pc; omega) (fun i hi hi2 => by have := h2 i hi hi2; unfold pc; omega)
  have hb : bt (num (highB l u)) (k + c) = 0 := by
    have hne : ¬ bt (num (highB l u)) (k + c) = 1 := by
      rw [h.high_bt]
      rintro ⟨i, hi, e⟩
      unfold pc at e
      rcases Nat.lt_or_ge i c with hl | hl
      · have := h1 i hl; omega
      · have := h2 i hl hi; omega
    have := bt_lt (num (highB l u)) (k + c)
    omega
  refine ⟨hlt, ?_, ?_⟩
  · rw [Ck.bt_tn _ _ _ h.high_lt (by omega), hb]
  · have := Ck.ones_tn _ _ (k + c) h.high_lt (by omega)
    omega

/-- The low row of the first k numbers. -/
def loTo (l : List Nat) (w : Nat) : Nat → List Bool
  | 0 => []
  | k + 1 => loTo l w k ++ bitsTo (l.getD k 0) w
theorem loTo_length (l : List Nat) (w k : Nat) : (loTo l w k).length = k * w := by
  induction k with
  | zero => simp [loTo]
  | succ k ih =>
    show (loTo l w k ++ bitsTo (l.getD k 0) w).length = _
    rw [List.length_append, ih, bitsTo_length, Nat.add_mul, Nat.one_mul]
def lowB (l : List Nat) (u : Nat) : List Bool := loTo l (wdt l.length u) l.length
theorem lowB_length (l : List Nat) (u : Nat) : (lowB l u).length = lows l.length u := loTo_length _ _ _
theorem loTo_bt (l : List Nat) (w : Nat) : ∀ k i j, i < k → j < w → bt (num (loTo l w k)) (i * w + j) = bt (l.getD i 0) j := by
  intro k
  induction k with
  | zero => intro i j hi; omega
  | succ k ih =>
    intro i j hi hj
    show bt (num (loTo l w k ++ bitsTo (l.getD k 0) w)) _ = _
    rw [num_append, bt_put _ _ _ _ (num_lt _), loTo_length]
    rcases Nat.lt_or_ge i k with hl | hl
    · have h1 : (i + 1) * w ≤ k * w := Nat.mul_le_mul_right _ (by omega)
      rw [Nat.add_mul, Nat.one_mul] at h1
      rw [if_pos (by omega), ih i j hl hj]
    · obtain rfl : i = k := by omega
      rw [if_neg (by omega), num_bitsTo, bt_mod, if_pos (by omega)]
      congr 1
      omega
theorem low_field (l : List Nat) (u i : Nat) (hi : i < l.length) : num (lowB l u) / 2 ^ (i * wdt l.length u) % 2 ^ wdt l.length u = l.getD i 0 % 2 ^ wdt l.length u := by
  apply eq_of_bt
  intro j
  rw [bt_mod, bt_mod]
  split
  · rename_i hj
    rw [bt_div]
    exact loTo_bt l _ _ i j hi hj
  · rfl

/-- r numbers are less than x. -/
structure Sp (l : List Nat) (x : Int) (r : Nat) : Prop where
  le : r ≤ l.length
  lo : ∀ i, i < r → ((l.getD i 0 : Nat) : Int) < x
  hi : ∀ i, r ≤ i → i < l.length → x ≤ ((l.getD i 0 : Nat) : Int)
theorem Sp.unique {l : List Nat} {x : Int} {r s : Nat} (h : Sp l x r) (g : Sp l x s) : r = s := by
  rcases Nat.lt_trichotomy r s with hl | hl | hl
  · have := g.lo r hl
    have := h.hi r (Nat.le_refl _) (by have := g.le; omega)
    omega
  · exact hl
  · have := h.lo s hl
    have := g.hi s (Nat.le_refl _) (by have := h.le; omega)
    omega
/-- How many are less. -/
def lessTo (l : List Nat) (x : Int) : Nat → Nat
  | 0 => 0
  | k + 1 => lessTo l x k + (if ((l.getD k 0 : Nat) : Int) < x then 1 else 0)
def less (l : List Nat) (x : Int) : Nat := lessTo l x l.length
theorem lessTo_le (l : List Nat) (x : Int) (k : Nat) : lessTo l x k ≤ k := by
  induction k with
  | zero => exact Nat.le_refl _
  | succ k ih => unfold lessTo; split <;> omega
theorem less_le (l : List Nat) (x : Int) : less l x ≤ l.length := lessTo_le _ _ _
theorem lessTo_spec {l : List Nat} (h : Up l) (x : Int) : ∀ k, k ≤ l.length → (∀ i, i < lessTo l x k → ((l.getD i 0 : Nat) : Int) < x) ∧ (∀ i, lessTo l x k ≤ i → i < k → x ≤ ((l.getD i 0 : Nat) : Int)) := by
  intro k
  induction k with
  | zero => intro _; exact ⟨fun i hi => by simp [lessTo] at hi, fun i _ hi => by omega⟩
  | succ k ih =>
    intro hk
    obtain ⟨h1, h2⟩ := ih (by omega)
    have hle := lessTo_le l x k
    unfold lessTo
    split
    · rename_i hx
      have e : lessTo l x k = k := by
        rcases Nat.lt_or_ge (lessTo l x k) k with hl | hl
        · have h3 := h2 _ (Nat.le_refl _) hl
          have h4 := h.le k (lessTo l x k) (by omega) (by omega)
          omega
        · omega
      rw [e] at h1 ⊢
      refine ⟨fun i hi => ?_, fun i hi hi2 => by omega⟩
      rcases Nat.lt_or_ge i k with hl | hl
      · exact h1 i hl
      · obtain rfl : i = k := by omega
        exact hx
    · rename_i hx
      refine ⟨fun i hi => h1 i (by omega), fun i hi hi2 => ?_⟩
      rcases Nat.lt_or_ge i k with hl | hl
      · exact h2 i (by omega) hl
      · obtain rfl : i = k := by omega
        omega
theorem less_spec {l : List Nat} (h : Up l) (x : Int) : Sp l x (less l x) :=
  ⟨less_le _ _, (lessTo_spec h x _ (Nat.le_refl _)).1, (lessTo_spec h x _ (Nat.le_refl _)).2⟩
theorem less_eq {l : List Nat} (h : Up l) {x : Int} {r : Nat} (hr : Sp l x r) : less l x = r := (less_spec h x).unique hr
/-- How many have a lesser high part than k. -/
def ah (l : List Nat) (w k : Nat) : Nat := less l ((k * 2 ^ w : Nat) : Int)
theorem ah_lo {l : List Nat} (h : Up l) (w k i : Nat) (hi : i < ah l w k) : l.getD i 0 / 2 ^ w < k := by
  have := (less_spec h ((k * 2 ^ w : Nat) : Int)).lo i hi
  rw [Nat.div_lt_iff_lt_mul (Nat.two_pow_pos _)]
  omega
theorem ah_hi {l : List Nat} (h : Up l) (w k i : Nat) (hi : ah l w k ≤ i) (hl : i < l.length) : k ≤ l.getD i 0 / 2 ^ w := by
  have := (less_spec h ((k * 2 ^ w : Nat) : Int)).hi i hi hl
  rw [Nat.le_div_iff_mul_le (Nat.two_pow_pos _)]
  omega
theorem ah_le (l : List Nat) (w k : Nat) : ah l w k ≤ l.length := less_le _ _
theorem ah_zero {l : List Nat} (h : Up l) (w : Nat) : ah l w 0 = 0 :=
  less_eq h ⟨by omega, fun i hi => by omega, fun i _ _ => by simp⟩
theorem Ok.ahead_at {l : List Nat} {u : Nat} (h : Ok l u) {k : Nat} (hk : k ≤ top l.length u) :
    Ck.At (Ck.tn (num (highB l u)) (highs l.length u)) (highs l.length u) k (k + ah l (wdt l.length u) (k + 1)) :=
  h.zero_at hk (ah_le _ _ _) (fun i hi => by have := ah_lo h.up _ (k + 1) i hi; omega) (fun i hi hi2 => by have := ah_hi h.up _ (k + 1) i hi hi2; omega)
theorem join_eq (x w : Nat) : x / 2 ^ w * 2 ^ w + x % 2 ^ w = x := by rw [Nat.mul_comm]; exact Nat.div_add_mod x (2 ^ w)
end Fn
end Go.Proofs.YtoipliflphbeiaaGreatDoor
namespace Go.Proofs.YtoipliflphbeiaaGreatDoor
open Go.RowKit
theorem cell_after {w w' : World} {p : Addr} {v : Value} (hb : Below w.heap.size w w') (h : w.cell? p = some v) : w'.cell? p = some v :=
  (hb.cell (World.block_lt_of_cell? w p h)).trans h
theorem below_after {B : Nat} {w w' w'' : World} (h : Below B w w') (hb : Below w'.heap.size w' w'') (hB : B ≤ w.heap.size := by exact Nat.le_refl _) : Below B w w'' := h.trans (hb.mono (Nat.le_trans hB h.size))
namespace Fn
/-- The last of the first k numbers, 0 of none. -/
def lastI (li : List Int) (k : Nat) : Int := if k = 0 then 0 else li.getD (k - 1) 0
/-- The first k numbers are from 0 on, below b, and rise. -/
def Ris (li : List Int) (b : Int) (k : Nat) : Prop := ∀ i, i < k → lastI li i ≤ li.getD i 0 ∧ li.getD i 0 < b
theorem Ris.next {li : List Int} {b : Int} {k : Nat} (h : Ris li b k) (h1 : lastI li k ≤ li.getD k 0) (h2 : li.getD k 0 < b) : Ris li b (k + 1) := by
  intro i hi
  rcases Nat.lt_or_ge i k with hl | hl
  · exact h i hl
  · obtain rfl : i = k := by omega
    exact ⟨h1, h2⟩
theorem lastI_succ (li : List Int) (k : Nat) : lastI li (k + 1) = li.getD k 0 := by unfold lastI; simp
def RisPost (li : List Int) (b : Int) (e : Ending) : Prop := ∃ r, e = .returned (.bool r) ∧ (r = true ↔ Ris li b li.length)
theorem RisPost.yes {li : List Int} {b : Int} {e : Ending} (h : Ris li b li.length) (he : e = .returned (.bool true)) : RisPost li b e := ⟨true, he, ⟨fun _ => h, fun _ => rfl⟩⟩
theorem RisPost.no {li : List Int} {b : Int} {e : Ending} (h : ¬ Ris li b li.length) (he : e = .returned (.bool false)) : RisPost li b e := ⟨false, he, ⟨(fun h => by cases h), fun g => absurd g h⟩⟩
end Fn
theorem Ints.at {w : World} {u : Value} {l : List Int} (h : Ints w u l) {k : Nat} (hk : k < l.length) : ∃ b off cap, u = .slice (some ⟨b, off, none⟩) l.length cap ∧ l.length ≤ cap ∧ b < w.heap.size ∧ w.cell? ⟨b, off + k, none⟩ = some (.int .i64 (l.getD k 0)) := by
  obtain ⟨ao, cap, hu, hc, hf⟩ := h.cells
  obtain ⟨b, off, ha, hlt, hcell⟩ := hf (by omega)
  exact ⟨b, off, cap, by rw [hu, ha], hc, hlt, hcell k hk⟩
set_option maxHeartbeats 1000000 in
theorem rising_any (li : List Int) (b : Int) (u : Value) (w : World) (h : Ints w u li) (hl : li.length ≤ 9223372036854775807) :
    Calls Tryz.prog 90 #[u, .int .i64 b] w fun e w' => Fn.RisPost li b e ∧ w' = w := by
  obtain ⟨ao, cap, rfl, hcap, hc⟩ := h.cells
  have HC := hidden hc
  clear hc h
  go_enter Tryz.func90, Tryz.ntmps90
  go_wp2
  go_loopw [5, 10] (fun v i wr => ∃ k : Nat, k ≤ li.length ∧ i = .int .i64 k ∧ v = .int .i64 (Fn.lastI li k) ∧ Fn.Ris li b k ∧ wr = w) (fun _ i _ => li.length - (intOf i).toNat)
  case atStart => exact ⟨0, by omega, rfl, rfl, fun i hi => by omega, rfl⟩
  case round =>
    obtain ⟨k, hk, rfl, rfl, hr, rfl⟩ := hrel
    have HR := hidden hr
    clear hr
    by_cases hlt : k < li.length
    · obtain ⟨g, off, rfl, hg, hcell⟩ := HC.out (by omega)
      have c0 := hcell k hlt
      obtain ⟨x, hx⟩ : ∃ x, x = li.getD k 0 := ⟨_, rfl⟩
      obtain ⟨y, hy⟩ : ∃ y, y = Fn.lastI li k := ⟨_, rfl⟩
      rw [← hx] at c0
      rw [← hy]
      have HX := hidden hx
      have HY := hidden hy
      clear hcell hx hy
      by_cases h1 : x < y
      · have d1 : decide (x < y) = true := by simpa using h1
        go_wp2
        go_ret
        refine ⟨Fn.RisPost.no (fun g => ?_) rfl, rfl⟩
        have := (g k hlt).1
        rw [← HX.out, ← HY.out] at this
        omega
      · have d1 : decide (x < y) = false := by simpa using h1
        by_cases h2 : b ≤ x
        · have d2 : decide (b ≤ x) = true := by simpa using h2
          go_wp2
          go_ret
          refine ⟨Fn.RisPost.no (fun g => ?_) rfl, rfl⟩
          have := (g k hlt).2
          rw [← HX.out] at this
          omega
        · have d2 : decide (b ≤ x) = false := by simpa using h2
          go_wp2
          go_roundw
          case rel => exact ⟨k + 1, by omega, by go_num, by rw [Fn.lastI_succ, ← HX.out], HR.out.next (by rw [← HX.out, ← HY.out]; omega) (by rw [← HX.out]; omega), trivial⟩
          case measure => simp [intOf]; omega
    · obtain rfl : k = li.length := by omega
      go_wp2
      go_ret
      exact ⟨Fn.RisPost.yes HR.out rfl, rfl⟩
theorem Tryz.sizeShape : (Tryz.prog.info? 106).map (·.size) = some 3 := by kernel_rfl
/-- A shape, as a value. -/
def Fn.sh (n u : Nat) : Value := .agg #[.int .i64 (n : Nat), .int .i64 (u : Nat), .int .i64 ((Fn.wdt n u : Nat) : Int)]
theorem ret_shape {n u : Nat} {a b c : Int} (h1 : a = (n : Int)) (h2 : b = (u : Int)) (h3 : c = ((Fn.wdt n u : Nat) : Int)) : Ending.returned (.agg #[.int .i64 a, .int .i64 b, .int .i64 c]) = .returned (Fn.sh n u) := by rw [h1, h2, h3]; rfl
set_option maxHeartbeats 1000000 in
set_option maxRecDepth 100000 in
theorem shapeOf_any (n u : Nat) (w : World) (hn : n < 16777216) (hu : u < 2199023255552) :
    Calls Tryz.prog 91 #[.int .i64 (n : Nat), .int .i64 (u : Nat)] w fun e w' => e = .returned (Fn.sh n u) ∧ Below w.heap.size w w' := by
  by_cases h0 : n = 0
  · subst h0
    go_enter Tryz.func91, Tryz.ntmps91
    go_wp2
    refine bodyPost_ret (results_cell_row rfl _ _ w.heap.size 106 #[.int .i64 0, .int .i64 (u : Nat), .int .i64 0] (0, 0) _ rfl ?_ Tryz.underlying106 rfl Tryz.sizeShape) rfl ?_
    · exact heap_alloc_new _ _
    · exact ⟨ret_shape rfl rfl (by rw [Fn.wdt_none (.inl rfl)]; rfl), (Below.refl _ _).alloc (Nat.le_refl _) _⟩
  · by_cases h : u < 2 * n
    · have hw := hidden (Fn.wdt_none (.inr h))
      go_enter Tryz.func91, Tryz.ntmps91
      go_wp2
      refine bodyPost_ret (results_cell_row rfl _ _ w.heap.size 106 #[.int .i64 (n : Nat), .int .i64 (u : Nat), .int .i64 0] (0, 0) _ rfl ?_ Tryz.underlying106 rfl Tryz.sizeShape) rfl ?_
      · exact heap_alloc_new _ _
      · exact ⟨ret_shape rfl rfl (by rw [hw.out]; rfl), (Below.refl _ _).alloc (Nat.le_refl _) _⟩
    · have hw := hidden (Fn.wdt_some (show ¬ (n = 0 ∨ u < 2 * n) by omega))
      have h1 := (Fn.wdt_spec (show ¬ (n = 0 ∨ u < 2 * n) by omega) (by omega)).2.2
      obtain ⟨q, hq⟩ : ∃ q, q = u / n := ⟨_, rfl⟩
      have hq2 : (u : Int) / (n : Int) = (q : Int) := by rw [hq]; rfl
      have hq3 : q < 2199023255552 := by have := Nat.div_le_self u n; omega
      have hq4 : IntKind.u64.wrap (q : Int) = (q : Int) := by rw [IntKind.wrap_u64]; omega
      obtain ⟨W, hW⟩ : ∃ W, W = Wd.needTo q 64 := ⟨_, rfl⟩
      have hNeed := Need_any q
      rw [← hW] at hNeed
      have hwW : Fn.wdt n u = W - 1 := by rw [hw.out, ← hq, hW]
      have HWW := hidden hwW
      have hW1 : 2 ≤ W := by omega
      have hW2 : W ≤ 64 := by rw [hW]; exact Wd.needTo_le _ _
      have HN := hidden hNeed
      clear hq hW hwW h1 hNeed
      have hn0 : ((n : Int) == 0) = false := by simp; omega
      have hn1 : decide ((u : Int) < 2 * (n : Int)) = false := by simp; omega
      go_enter Tryz.func91, Tryz.ntmps91
      go_wp2_with (go_at_call 103; refine (HN.out _ (by omega)).mono ?_; rintro e w' ⟨rfl, rfl⟩)
      refine bodyPost_ret (results_cell_row rfl _ _ w.heap.size 106 #[.int .i64 (n : Nat), .int .i64 (u : Nat), .int .i64 ((W : Int) - 1)] (0, 0) _ rfl ?_ Tryz.underlying106 rfl Tryz.sizeShape) rfl ?_
      · exact heap_alloc_new _ _
      · exact ⟨ret_shape rfl rfl (by rw [HWW.out]; omega), (Below.refl _ _).alloc (Nat.le_refl _) _⟩
namespace Fn
/-- How many bits the high row has, as the program tells it. -/
def highsI (n u : Nat) : Int := (n : Int) + ((u : Int) - 1) / 2 ^ wdt n u + 1
theorem highsI_eq {n u : Nat} (h : 1 ≤ u) : highsI n u = ((highs n u : Nat) : Int) := by
  unfold highsI highs top
  rw [show (u : Int) - 1 = ((u - 1 : Nat) : Int) from by omega, Wd.div_pow]
  omega
theorem highsI_zero {n : Nat} : highsI n 0 = (n : Int) := by
  unfold highsI
  rw [wdt_none (by omega)]
  simp
  omega
theorem highsI_bounds {n u : Nat} (hn : n < 16777216) (hu : u < 2199023255552) : 0 ≤ highsI n u ∧ highsI n u < 2199040032769 := by
  rcases Nat.eq_zero_or_pos u with h | h
  · subst h
    rw [highsI_zero]
    omega
  · rw [highsI_eq h]
    have : top n u ≤ u - 1 := Nat.div_le_self _ _
    unfold highs
    omega
end Fn
set_option maxHeartbeats 1000000 in
theorem lows_any (n u : Nat) (w : World) (hn : n < 16777216) (hu : u < 2199023255552) :
    Calls Tryz.prog 106 #[Fn.sh n u] w fun e w' => e = .returned (.int .i64 ((Fn.lows n u : Nat) : Int)) ∧ Below w.heap.size w w' := by
  have h1 := Fn.lows_le hn hu
  have h2 := Fn.wdt_le (n := n) hu
  have h3 : (n : Int) * ((Fn.wdt n u : Nat) : Int) = ((Fn.lows n u : Nat) : Int) := by unfold Fn.lows; exact (Int.natCast_mul _ _).symm
  unfold Fn.sh
  generalize Fn.lows n u = P at *
  generalize Fn.wdt n u = W at *
  go_enter Tryz.func106, Tryz.ntmps106
  go_wp2
  go_ret
  exact ⟨rfl, (Below.refl _ _).alloc (Nat.le_refl _) _⟩
set_option maxHeartbeats 1000000 in
theorem highs_any (n u : Nat) (w : World) (hn : n < 16777216) (hu : u < 2199023255552) :
    Calls Tryz.prog 107 #[Fn.sh n u] w fun e w' => e = .returned (.int .i64 (Fn.highsI n u)) ∧ Below w.heap.size w w' := by
  have h1 := Fn.highsI_bounds hn hu
  have h2 := Fn.wdt_le (n := n) hu
  have hT : ∃ T : Int, ((u : Int) - 1) / 2 ^ Fn.wdt n u = T := ⟨_, rfl⟩
  obtain ⟨T, hT⟩ := hT
  have h3 : Fn.highsI n u = (n : Int) + T + 1 := by rw [← hT]; rfl
  rw [h3] at h1 ⊢
  unfold Fn.sh
  generalize Fn.wdt n u = W at *
  clear h3
  go_enter Tryz.func107, Tryz.ntmps107
  go_wp2
  go_region
  go_wp2
  go_ret
  exact ⟨rfl, ((Below.refl _ _).alloc (Nat.le_refl _) _).drew⟩
set_option maxHeartbeats 1000000 in
theorem all_any (n u : Nat) (w : World) (hn : n < 16777216) (hu : u < 2199023255552) :
    Calls Tryz.prog 72 #[Fn.sh n u] w fun e w' => e = .returned (.int .i64 (65 + ((Fn.lows n u : Nat) : Int) + Fn.highsI n u)) ∧ Below w.heap.size w w' := by
  have HL := hidden fun w => lows_any n u w hn hu
  have HH := hidden fun w => highs_any n u w hn hu
  have h1 := Fn.lows_le hn hu
  have h2 := Fn.highsI_bounds hn hu
  unfold Fn.sh at *
  generalize Fn.lows n u = P at *
  generalize Fn.highsI n u = Q at *
  generalize Fn.wdt n u = W at *
  go_enter Tryz.func72, Tryz.ntmps72
  go_wp2
  have hB : Below w.heap.size w (w.alloc (.cells #[.int .i64 (n : Nat), .int .i64 (u : Nat), .int .i64 (W : Nat)] 106)) := (Below.refl _ _).alloc (Nat.le_refl _) _
  generalize hW0 : w.alloc (.cells #[.int .i64 (n : Nat), .int .i64 (u : Nat), .int .i64 (W : Nat)] 106) = w0
  rw [hW0] at hB
  have c0 : w0.cell? ⟨w.heap.size, 0, none⟩ = some (.int .i64 (n : Nat)) := by rw [← hW0]; simp
  have c1 : w0.cell? ⟨w.heap.size, 1, none⟩ = some (.int .i64 (u : Nat)) := by rw [← hW0]; simp
  have c2 : w0.cell? ⟨w.heap.size, 2, none⟩ = some (.int .i64 (W : Nat)) := by rw [← hW0]; simp
  have hB' : Below w.heap.size w w0.drew := hB.drew
  have hw1 : IntKind.i64.wrap (65 + (P : Int)) = 65 + (P : Int) := by rw [IntKind.wrap_i64]; omega
  have hw2 : IntKind.i64.wrap (65 + (P : Int) + Q) = 65 + (P : Int) + Q := by rw [IntKind.wrap_i64]; omega
  clear hW0
  go_region_held (fun w' => w'.cell? ⟨w.heap.size, 0, none⟩ = some (.int .i64 (n : Nat)) ∧ w'.cell? ⟨w.heap.size, 1, none⟩ = some (.int .i64 (u : Nat)) ∧ w'.cell? ⟨w.heap.size, 2, none⟩ = some (.int .i64 (W : Nat)) ∧ Below w.heap.size w w') (first | (exact ⟨by assumption, by assumption, by assumption, by assumption⟩) | go_keep)
    (first
      | (go_at_call 106; refine (HL.out _).mono ?_; rintro e w1 ⟨rfl, hq1⟩; have e0 : w1.cell? ⟨w.heap.size, 0, none⟩ = some (.int .i64 (n : Nat)) := cell_after hq1 (by first | assumption | exact c0); have e1 : w1.cell? ⟨w.heap.size, 1, none⟩ = some (.int .i64 (u : Nat)) := cell_after hq1 (by first | assumption | exact c1); have e2 : w1.cell? ⟨w.heap.size, 2, none⟩ = some (.int .i64 (W : Nat)) := cell_after hq1 (by first | assumption | exact c2); have e3 : Below w.heap.size w w1 := below_after (by assumption) hq1)
      | (go_at_call 107; refine (HH.out _).mono ?_; rintro e w1 ⟨rfl, hq1⟩; have e0 : w1.cell? ⟨w.heap.size, 0, none⟩ = some (.int .i64 (n : Nat)) := cell_after hq1 (by first | assumption | exact c0); have e1 : w1.cell? ⟨w.heap.size, 1, none⟩ = some (.int .i64 (u : Nat)) := cell_after hq1 (by first | assumption | exact c1); have e2 : w1.cell? ⟨w.heap.size, 2, none⟩ = some (.int .i64 (W : Nat)) := cell_after hq1 (by first | assumption | exact c2); have e3 : Below w.heap.size w w1 := below_after (by assumption) hq1))
  go_wp2
  go_ret
  exact ⟨rfl, by assumption⟩
set_option maxHeartbeats 1000000 in
theorem fits_any (n u : Nat) (w : World) (hn : n < 16777216) (hu : u < 2199023255552) :
    Calls Tryz.prog 68 #[Fn.sh n u] w fun e w' => e = .returned (.bool (decide (65 + ((Fn.lows n u : Nat) : Int) + Fn.highsI n u ≤ 4294967296))) ∧ Below w.heap.size w w' := by
  have HA := hidden fun w => all_any n u w hn hu
  unfold Fn.sh at *
  generalize 65 + ((Fn.lows n u : Nat) : Int) + Fn.highsI n u = P at *
  generalize Fn.wdt n u = W at *
  go_enter Tryz.func68, Tryz.ntmps68
  go_wp2_with (go_at_call 72; refine (HA.out _).mono ?_; rintro e w1 ⟨rfl, hq⟩; have HQ := hidden hq; clear hq)
  go_ret
  exact ⟨rfl, below_after ((Below.refl _ _).alloc (Nat.le_refl _) _) HQ.out⟩
end Go.Proofs.YtoipliflphbeiaaGreatDoor
namespace Go.Proofs.YtoipliflphbeiaaGreatDoor
open Go.RowKit
theorem Kp.trans {w w1 w2 : World} {b : Nat} {v v1 v2 : Value} (h : Kp w w1 b v v1) (g : Kp w1 w2 b v1 v2) : Kp w w2 b v v2 := by
  refine ⟨g.os.trans h.os, g.tape.trans h.tape, g.output.trans h.output, Nat.le_trans h.size g.size, fun k hk h1 h2 => ?_, ?_⟩
  · rw [g.block k (Nat.lt_of_lt_of_le hk h.size) h1 ?_, h.block k hk h1 h2]
    intro e
    rcases h.own with e2 | ⟨j, e2, hj⟩
    · exact h2 (e2 ▸ e)
    · rw [e2] at e
      simp at e
      omega
  · rcases g.own with e | ⟨j, e, hj⟩
    · rcases h.own with e2 | ⟨j, e2, hj⟩
      · exact .inl (e.trans e2)
      · exact .inr ⟨j, e.trans e2, hj⟩
    · exact .inr ⟨j, e, Nat.le_trans h.size hj⟩
theorem Fn.pad_zero (L : List Bool) (k : Nat) : L ++ Bt.bitsTo 0 k = Fn.pad L (L.length + k) := by
  unfold Fn.pad
  congr 1
  rw [show L.length + k - L.length = k from by omega]
  apply List.ext_getElem?
  intro i
  by_cases h : i < k
  · rw [Bt.bitsTo_get 0 k i h]
    simp [h]
  · rw [List.getElem?_eq_none (by rw [Bt.bitsTo_length]; omega), List.getElem?_eq_none (by simp; omega)]
theorem Put_zero (b B k : Nat) (L : List Bool) (v : Value) (w : World) (h : Bd w B b L.length (Bt.num L) v) (hk : k ≤ 64) (hn : L.length + k ≤ 4294967296) :
    Calls Tryz.prog 69 #[.pointer (some ⟨b, 0, none⟩), .int .u64 0, .int .i64 (k : Nat)] w fun e w' => e = .returned (.int .i64 0) ∧ ∃ v', Bd w' B b (Fn.pad L (L.length + k)).length (Bt.num (Fn.pad L (L.length + k))) v' ∧ Kp w w' b v v' := by
  rw [← Fn.pad_zero, List.length_append, Bt.bitsTo_length, Bt.num_put L 0 k (Nat.two_pow_pos _)]
  exact Put_ok b _ _ 0 k B v w h (Nat.two_pow_pos _) hk hn
set_option maxHeartbeats 1000000 in
theorem fill_any (b B m : Nat) (z : Int) (L : List Bool) (v : Value) (w : World) (h : Bd w B b L.length (Bt.num L) v) (hm : m ≤ 4294967296) (hz : z = (m : Int)) :
    Calls Tryz.prog 71 #[.pointer (some ⟨b, 0, none⟩), .int .i64 z] w fun e w' => e = .returned (.tuple #[]) ∧ ∃ v', Bd w' B b (Fn.pad L m).length (Bt.num (Fn.pad L m)) v' ∧ Kp w w' b v v' := by
  subst hz
  have HB := hidden h
  have hL := h.len
  clear h
  go_enter Tryz.func71, Tryz.ntmps71
  go_wp2
  go_loopw [] (fun wr => ∃ (j : Nat) (vb : Value), j ≤ max L.length m ∧ L.length ≤ j ∧ Bd wr B b (Fn.pad L j).length (Bt.num (Fn.pad L j)) vb ∧ Kp w wr b v vb) (fun wr => m - (intOf ((wr.cell? ⟨b, 0, none⟩).getD undef)).toNat)
  case atStart => exact ⟨L.length, v, by omega, by omega, by rw [Fn.pad_of_le _ _ (Nat.le_refl _)]; exact HB.out, Kp.refl _ _ _⟩
  case round =>
    obtain ⟨j, vb, hj, hj2, hb, hk⟩ := hrel
    have hlen : (Fn.pad L j).length = j := by rw [Fn.pad_length]; omega
    have HBj := hidden hb
    have HK := hidden hk
    have c0 := hidden hb.cell0
    rw [hlen] at hb
    have HLen := hidden (BLen_any b j (Bt.num (Fn.pad L j)) B vb wr hb)
    have HLN := hidden hlen
    clear hb hk hlen
    by_cases hlt : j < m
    · obtain ⟨k, hk⟩ : ∃ k : Nat, k = min 64 (m - j) := ⟨_, rfl⟩
      have hk2 : min (64 : Int) ((m : Int) - (j : Int)) = (k : Int) := by omega
      have hk3 : k ≤ 64 := by omega
      have hk4 : 1 ≤ k := by omega
      have hk5 : j + k ≤ m := by omega
      clear hk
      have HP := hidden (Put_zero b B k (Fn.pad L j) vb wr HBj.out hk3 (by rw [HLN.out]; omega))
      go_wp2_with (first
        | (go_at_call 105; refine (HLen.out).mono ?_; rintro e w1 ⟨rfl, rfl⟩)
        | (go_at_call 69; refine (HP.out).mono ?_; rintro e w1 ⟨rfl, v1, hq1, hq2⟩; have HQ1 := hidden hq1; have HQ2 := hidden hq2; clear hq1 hq2))
      go_roundw
      case rel =>
        have e := HQ1.out
        rw [HLN.out, Fn.pad_pad _ _ _ (by omega)] at e
        exact ⟨j + k, v1, by omega, by omega, e, HK.out.trans HQ2.out⟩
      case measure =>
        have e := HQ1.out.cell0
        have e2 := c0.out
        rw [HLN.out, Fn.pad_pad _ _ _ (by omega), Fn.pad_length] at e
        rw [HLN.out] at e2
        rw [e, e2]
        simp [intOf]
        omega
    · go_wp2_with (go_at_call 105; refine (HLen.out).mono ?_; rintro e w1 ⟨rfl, rfl⟩)
      go_end0
      have e := HBj.out
      rw [show Fn.pad L j = Fn.pad L m from by rcases Nat.lt_or_ge m L.length with h | h; rw [Fn.pad_of_le _ _ (by omega), Fn.pad_of_le _ _ (by omega)]; rw [show j = m from by omega]] at e
      exact ⟨rfl, vb, e, HK.out⟩
end Go.Proofs.YtoipliflphbeiaaGreatDoor
namespace Go.Proofs.YtoipliflphbeiaaGreatDoor
open Go.RowKit
namespace Fn
/-- The numbers, as ints. -/
def ints (l : List Nat) : List Int := l.map fun x : Nat => (x : Int)
theorem ints_length (l : List Nat) : (ints l).length = l.length := by simp [ints]
theorem ints_getD (l : List Nat) (k : Nat) : (ints l).getD k 0 = ((l.getD k 0 : Nat) : Int) := by
  unfold ints
  rw [List.getD_eq_getElem?_getD, List.getD_eq_getElem?_getD, List.getElem?_map]
  cases l[k]? <;> rfl
/-- The high row, as it is kept: of no numbers no bits. -/
def HB (l : List Nat) (u : Nat) : List Bool := if l.length = 0 then [] else highB l u
theorem HB_none {l : List Nat} {u : Nat} (h : l.length = 0) : HB l u = [] := by unfold HB; rw [if_pos h]
theorem HB_some {l : List Nat} {u : Nat} (h : 0 < l.length) : HB l u = highB l u := by unfold HB; rw [if_neg (by omega)]
theorem bitsTo_mod (x n : Nat) : Bt.bitsTo (x % 2 ^ n) n = Bt.bitsTo x n := by
  apply List.ext_getElem?
  intro i
  by_cases h : i < n
  · rw [Bt.bitsTo_get _ n i h, Bt.bitsTo_get _ n i h, Nat.testBit_mod_two_pow]
    simp [h]
  · rw [List.getElem?_eq_none (by rw [Bt.bitsTo_length]; omega), List.getElem?_eq_none (by rw [Bt.bitsTo_length]; omega)]
end Fn
theorem Put_low (a B k W r : Nat) (l : List Nat) (v : Value) (w : World) (h : Bd w B a (Fn.loTo l W k).length (Bt.num (Fn.loTo l W k)) v) (hW : W ≤ 40) (hk : k ≤ 16777216) (hr : r = l.getD k 0 % 2 ^ W) :
    Calls Tryz.prog 69 #[.pointer (some ⟨a, 0, none⟩), .int .u64 (r : Nat), .int .i64 (W : Nat)] w fun e w' => e = .returned (.int .i64 0) ∧ ∃ v', Bd w' B a (Fn.loTo l W (k + 1)).length (Bt.num (Fn.loTo l W (k + 1))) v' ∧ Kp w w' a v v' := by
  have hlt : r < 2 ^ W := by rw [hr]; exact Nat.mod_lt _ (Nat.two_pow_pos _)
  have e : Fn.loTo l W (k + 1) = Fn.loTo l W k ++ Bt.bitsTo r W := by rw [hr, Fn.bitsTo_mod]; rfl
  rw [e, List.length_append, Bt.bitsTo_length, Bt.num_put _ _ _ hlt]
  refine Put_ok a _ _ r W B v w h hlt (by omega) ?_
  rw [Fn.loTo_length]
  have : k * W ≤ 16777216 * 40 := Nat.mul_le_mul hk hW
  omega
theorem cell_made {w : World} {o : Obj} {p : Addr} {v : Value} (h : w.cell? p = some v) : (w.alloc o).cell? p = some v := cell_after ((Below.refl _ _).alloc (Nat.le_refl _) _) h
/-- Behind the loop: the rest of rows, of the two builders. -/
def RowsPost (w : World) (l : List Nat) (u : Nat) (e : Ending) (w' : World) : Prop :=
  ∃ r0 r1 u0 u1, e = .returned (.tuple #[.pointer (some ⟨r0, 0, none⟩), .pointer (some ⟨r1, 0, none⟩)]) ∧ Rw w' r0 (Fn.lowB l u).length (Bt.num (Fn.lowB l u)) u0 ∧ Rw w' r1 (Fn.HB l u).length (Bt.num (Fn.HB l u)) u1 ∧ Below w.heap.size w w'
set_option maxHeartbeats 4000000 in
set_option maxRecDepth 100000 in
theorem rows_any (l : List Nat) (u : Nat) (v : Value) (w : World) (h : Ints w v (Fn.ints l)) (ok : Fn.Ok l u) :
    Calls Tryz.prog 92 #[v, Fn.sh l.length u] w fun e w' => RowsPost w l u e w' := by
  obtain ⟨ao, cap, hv, hcap, hc⟩ := h.cells
  rw [Fn.ints_length] at hv hcap hc
  subst hv
  have HC := hidden hc
  have hn := ok.len
  have hu1 := ok.pos
  have hu2 := ok.le
  have OK := hidden ok
  have hW40 := Fn.wdt_le (n := l.length) (show u < 2199023255552 by omega)
  have HHI := hidden fun w => highs_any l.length u w hn (by omega)
  have HHE := hidden (Fn.highsI_eq (n := l.length) hu1)
  clear hc h ok
  unfold Fn.sh at *
  obtain ⟨W, hW⟩ : ∃ W, W = Fn.wdt l.length u := ⟨_, rfl⟩
  rw [← hW] at hW40 HHI ⊢
  have HW := hidden hW
  clear hW
  go_enter Tryz.func92, Tryz.ntmps92
  go_wp2_with fail
  have HB0 : Hid (Below w.heap.size w (w.alloc (.cells #[.int .i64 (l.length : Nat), .int .i64 (u : Nat), .int .i64 (W : Nat)] 106))) := (Below.refl _ _).alloc (Nat.le_refl _) _
  have HTW := hidden (Two.new HB0.out)
  generalize hw0 : ((w.alloc (.cells #[.int .i64 (l.length : Nat), .int .i64 (u : Nat), .int .i64 (W : Nat)] 106)).alloc (.cells #[.int .i64 0, .slice none 0 0, .int .u64 0] 111)).alloc (.cells #[.int .i64 0, .slice none 0 0, .int .u64 0] 111) = w0 at HTW
  have d0 : w0.cell? ⟨w.heap.size, 0, none⟩ = some (.int .i64 (l.length : Nat)) := by rw [← hw0]; exact cell_made (cell_made (by simp))
  have d1 : w0.cell? ⟨w.heap.size, 1, none⟩ = some (.int .i64 (u : Nat)) := by rw [← hw0]; exact cell_made (cell_made (by simp))
  have d2 : w0.cell? ⟨w.heap.size, 2, none⟩ = some (.int .i64 (W : Nat)) := by rw [← hw0]; exact cell_made (cell_made (by simp))
  rw [World.size_alloc] at HTW
  have HD0 := hidden d0
  have HD1 := hidden d1
  have HD2 := hidden d2
  have HCe : Hid (Below w.heap.size w w0) := HTW.out.bel
  clear d0 d1 d2
  clear hw0
  go_loopw [13] (fun i wr => ∃ (k : Nat) (va vb : Value), k ≤ l.length ∧ i = .int .i64 k ∧ Two w wr (w.heap.size + 1) (w.heap.size + 1) (w.heap.size + 1 + 1) (Fn.loTo l W k) (Fn.hiTo l W k) va vb ∧ Below (w.heap.size + 1) w0 wr) (fun i _ => l.length - (intOf i).toNat)
  case atStart => exact ⟨0, _, _, by omega, rfl, HTW.out, Below.refl _ _⟩
  case round =>
    obtain ⟨k, va, vb, hk, rfl, ht, hbel⟩ := hrel
    have HTr := hidden ht
    have HBr := hidden hbel
    have c0 := (hbel.cell (p := ⟨w.heap.size, 0, none⟩) (Nat.lt_succ_self _)).trans HD0.out
    have c1 := (hbel.cell (p := ⟨w.heap.size, 1, none⟩) (Nat.lt_succ_self _)).trans HD1.out
    have c2 := (hbel.cell (p := ⟨w.heap.size, 2, none⟩) (Nat.lt_succ_self _)).trans HD2.out
    clear ht hbel
    by_cases hlt : k < l.length
    · obtain ⟨g, off, rfl, hg, hcell⟩ := HC.out (by omega)
      have ck := hcell k hlt
      rw [Fn.ints_getD] at ck
      have cx := (HTr.out.bel.cell (p := ⟨g, off + k, none⟩) hg).trans ck
      obtain ⟨x, hx⟩ : ∃ x, x = l.getD k 0 := ⟨_, rfl⟩
      rw [← hx] at cx
      obtain ⟨p, hp⟩ : ∃ p, p = x / 2 ^ W := ⟨_, rfl⟩
      obtain ⟨q, hq⟩ : ∃ q, q = p * 2 ^ W := ⟨_, rfl⟩
      obtain ⟨r, hr⟩ : ∃ r, r = x % 2 ^ W := ⟨_, rfl⟩
      have hxu : x < u := by rw [hx]; exact OK.out.lt k hlt
      have hsum : q + r = x := by rw [hq, hp, hr]; exact Fn.join_eq x W
      have hp2 : (x : Int) / 2 ^ W = (p : Int) := by rw [Wd.div_pow, hp]
      have hq2 : (p : Int) * 2 ^ W = (q : Int) := by rw [hq]; push_cast; rfl
      have hr2 : (x : Int) - (q : Int) = (r : Int) := by omega
      have hr3 : IntKind.u64.wrap (r : Int) = (r : Int) := by rw [IntKind.wrap_u64]; omega
      have hq3 : IntKind.i64.wrap (q : Int) = (q : Int) := by rw [IntKind.wrap_i64]; omega
      have hr4 : IntKind.i64.wrap (r : Int) = (r : Int) := by rw [IntKind.wrap_i64]; omega
      have hpx : p ≤ x := by rw [hp]; exact Nat.div_le_self _ _
      have HP := hidden (Put_low (w.heap.size + 1) (w.heap.size + 1) k W r l va wr.drew HTr.out.drew.fa (by omega) (by omega) (by rw [hr, hx]))
      have hpc : Fn.pc l W k = k + p := by unfold Fn.pc; rw [← hx, hp]
      have HPC := hidden hpc
      have hpt : p ≤ Fn.top l.length u := by rw [hp, hx, HW.out]; exact OK.out.part_le hlt
      have htop := Fn.top_lt (n := l.length) (u := u) (by omega) (by omega)
      clear hcell ck hx hp hq hr hsum hpc
      have hpb : p < 33554432 := by omega
      clear hpt htop
      go_wp2_with fail
      go_region_held (fun w' => w'.cell? ⟨w.heap.size, 2, none⟩ = some (.int .i64 (W : Nat))) (go_keep)
        (first
          | (go_at_call 69; refine (HP.out).mono ?_; rintro e' w1 ⟨rfl, v1, hq1, hq2⟩; have HT1 := hidden (HTr.out.drew.putA hq1 hq2); have HB1 : Hid (Below (w.heap.size + 1) w0 w1) := (Below.drew HBr.out).trans (hq2.below HTr.out.drew.fa); clear hq1 hq2; have c2' := (HB1.out.cell (p := ⟨w.heap.size, 2, none⟩) (Nat.lt_succ_self _)).trans HD2.out))
      go_wp2_with fail
      refine (fill_any (w.heap.size + 1 + 1) (w.heap.size + 1) (k + p) _ (Fn.hiTo l W k) vb w1 HT1.out.fb (by omega) (by omega)).mono ?_
      rintro e' w2 ⟨rfl, v2, hq1, hq2⟩
      have HT2 := hidden (HT1.out.putB hq1 hq2)
      have HB2 : Hid (Below (w.heap.size + 1) w0 w2) := HB1.out.trans (hq2.below HT1.out.fb)
      clear hq1 hq2
      have hle : (Fn.pad (Fn.hiTo l W k) (k + p)).length ≤ 4294967295 := by
        have := HT1.out.fb.len
        have := Fn.hiTo_le OK.out.up W k hlt
        rw [HPC.out] at this
        rw [Fn.pad_length]
        omega
      have HLE := hidden hle
      clear hle
      go_wp2_with fail
      refine (Bit_list (w.heap.size + 1 + 1) (w.heap.size + 1) _ v2 true w2 HT2.out.fb (by have := HLE.out; omega)).mono ?_
      rintro e' w3 ⟨rfl, v3, hq1, hq2⟩
      have HT3 := hidden (HT2.out.putB hq1 hq2)
      have HB3 : Hid (Below (w.heap.size + 1) w0 w3) := HB2.out.trans (hq2.below HT2.out.fb)
      clear hq1 hq2
      go_wp2_with fail
      go_roundw
      case rel =>
        refine ⟨k + 1, v1, v3, by omega, by go_num, ?_, HB3.out⟩
        have e := HT3.out
        rw [← HPC.out] at e
        exact e
      case measure => simp [intOf]; omega
    · obtain rfl : k = l.length := by omega
      obtain ⟨N, hN⟩ : ∃ N, N = l.length := ⟨_, rfl⟩
      have HN := hidden hN
      rw [← hN] at HTr c0 hn HHI hcap ⊢
      have hle := Fn.highs_le (n := l.length) (u := u)
      rw [← hN] at hle
      have HHL : Hid (0 < N → Fn.highs N u ≤ 50331648) := fun h => hle h hn (by omega)
      rw [← hN] at HHE
      clear hN hle
      by_cases h0 : 0 < N
      · have d0 : decide ((0 : Int) < (N : Int)) = true := by simpa using h0
        go_wp2_with fail
        refine (HHI.out _).mono ?_
        rintro e' w1 ⟨rfl, hq⟩
        have HT1 := hidden (HTr.out.below hq)
        clear hq
        go_wp2_with fail
        refine (fill_any (w.heap.size + 1 + 1) (w.heap.size + 1) (Fn.highs N u) _ (Fn.hiTo l W N) vb w1 HT1.out.fb (by have := HHL.out h0; omega) HHE.out).mono ?_
        rintro e' w2 ⟨rfl, v2, hq1, hq2⟩
        have HT2 := hidden (HT1.out.putB hq1 hq2)
        clear hq1 hq2
        go_wp2_with fail
        refine (BRow_any _ _ _ _ _ _ HT2.out.fa).mono ?_
        rintro e' w3 ⟨r0, u0, rfl, hr0, hb3, _, _⟩
        have HR0 := hidden hr0
        have HT3 := hidden (HT2.out.below hb3)
        clear hr0 hb3
        go_wp2_with fail
        refine (BRow_any _ _ _ _ _ _ HT3.out.fb).mono ?_
        rintro e' w4 ⟨r1, u1, rfl, hr1, hb4, _, _⟩
        have HR1 := hidden hr1
        have HR0' := hidden (HR0.out.below hb4 (Nat.le_refl _))
        have HT4 := hidden (HT3.out.below hb4)
        clear hr1 hb4
        go_wp2_with fail
        go_ret2
        have e0 := HR0'.out
        have e1 := HR1.out
        rw [HW.out, HN.out] at e0 e1
        refine ⟨r0, r1, u0, u1, rfl, e0, ?_, HT4.out.bel⟩
        rw [Fn.HB_some (by rw [← HN.out]; exact h0)]
        exact e1
      · have d0 : decide ((0 : Int) < (N : Int)) = false := by simpa using h0
        go_wp2_with fail
        refine (BRow_any _ _ _ _ _ _ HTr.out.fa).mono ?_
        rintro e' w3 ⟨r0, u0, rfl, hr0, hb3, _, _⟩
        have HR0 := hidden hr0
        have HT3 := hidden (HTr.out.below hb3)
        clear hr0 hb3
        go_wp2_with fail
        refine (BRow_any _ _ _ _ _ _ HT3.out.fb).mono ?_
        rintro e' w4 ⟨r1, u1, rfl, hr1, hb4, _, _⟩
        have HR1 := hidden hr1
        have HR0' := hidden (HR0.out.below hb4 (Nat.le_refl _))
        have HT4 := hidden (HT3.out.below hb4)
        clear hr1 hb4
        go_wp2_with fail
        go_ret2
        have e0 := HR0'.out
        have e1 := HR1.out
        rw [HW.out, HN.out] at e0
        obtain rfl : N = 0 := by omega
        refine ⟨r0, r1, u0, u1, rfl, e0, ?_, HT4.out.bel⟩
        rw [Fn.HB_none HN.out.symm]
        exact e1
end Go.Proofs.YtoipliflphbeiaaGreatDoor
namespace Go.Proofs.YtoipliflphbeiaaGreatDoor
open Go.RowKit
/-- Where a sequence's parts lie. -/
structure Fn.Q where
  low : Nat
  high : Nat
  c : Nat
  d : Nat
  g : Nat
  b0 : Nat
  b1 : Nat
  u0 : Value
  u1 : Value
/-- The sequence in block s, of the numbers l below u. -/
structure Sq (w : World) (s : Nat) (l : List Nat) (u : Nat) (q : Fn.Q) : Prop where
  ok : Fn.Ok l u
  cells : w.heap[s]? = some (.cells #[.int .i64 (l.length : Nat), .int .i64 (u : Nat), .int .i64 ((Fn.wdt l.length u : Nat) : Int), .pointer (some ⟨q.low, 0, none⟩), .pointer (some ⟨q.high, 0, none⟩), .pointer (some ⟨q.c, 0, none⟩)] 108 (0, 0))
  low : Rw w q.low (Fn.lowB l u).length (Bt.num (Fn.lowB l u)) q.u0
  high : Rw w q.high (Fn.HB l u).length (Bt.num (Fn.HB l u)) q.u1
  ch : Cz w q.c q.d q.g q.high (Fn.HB l u).length (Bt.num (Fn.HB l u)) q.b0 q.b1 q.u1
theorem Sq.below {w w' : World} {s u C : Nat} {l : List Nat} {q : Fn.Q} (h : Sq w s l u q) (hb : Below C w w') (hC : w.heap.size ≤ C) : Sq w' s l u q :=
  ⟨h.ok, by rw [hb.block s (Nat.lt_of_lt_of_le (lt_of_block h.cells) hC)]; exact h.cells, h.low.below hb hC, h.high.below hb hC, h.ch.below hb hC⟩
theorem Sq.drewN {w : World} {s u : Nat} {l : List Nat} {q : Fn.Q} (h : Sq w s l u q) (m : Nat) : Sq (w.drewN m) s l u q := h.below (below_drewN (Below.refl _ _) m) (Nat.le_refl _)
theorem Sq.cell0 {w : World} {s u : Nat} {l : List Nat} {q : Fn.Q} (h : Sq w s l u q) : w.cell? ⟨s, 0, none⟩ = some (.int .i64 (l.length : Nat)) := by simp [World.cell?, h.cells]
theorem Sq.cell1 {w : World} {s u : Nat} {l : List Nat} {q : Fn.Q} (h : Sq w s l u q) : w.cell? ⟨s, 1, none⟩ = some (.int .i64 (u : Nat)) := by simp [World.cell?, h.cells]
theorem Sq.cell2 {w : World} {s u : Nat} {l : List Nat} {q : Fn.Q} (h : Sq w s l u q) : w.cell? ⟨s, 2, none⟩ = some (.int .i64 ((Fn.wdt l.length u : Nat) : Int)) := by simp [World.cell?, h.cells]
theorem Sq.cell3 {w : World} {s u : Nat} {l : List Nat} {q : Fn.Q} (h : Sq w s l u q) : w.cell? ⟨s, 3, none⟩ = some (.pointer (some ⟨q.low, 0, none⟩)) := by simp [World.cell?, h.cells]
theorem Sq.cell4 {w : World} {s u : Nat} {l : List Nat} {q : Fn.Q} (h : Sq w s l u q) : w.cell? ⟨s, 4, none⟩ = some (.pointer (some ⟨q.high, 0, none⟩)) := by simp [World.cell?, h.cells]
theorem Sq.cell5 {w : World} {s u : Nat} {l : List Nat} {q : Fn.Q} (h : Sq w s l u q) : w.cell? ⟨s, 5, none⟩ = some (.pointer (some ⟨q.c, 0, none⟩)) := by simp [World.cell?, h.cells]
namespace Fn
theorem ris_iff (l : List Nat) (u : Nat) : Ris (ints l) (u : Int) l.length ↔ Up l ∧ ∀ i, i < l.length → l.getD i 0 < u := by
  constructor
  · intro h
    refine ⟨fun i hi => ?_, fun i hi => ?_⟩
    · have := (h (i + 1) hi).1
      rw [lastI_succ, ints_getD, ints_getD] at this
      omega
    · have := (h i hi).2
      rw [ints_getD] at this
      omega
  · rintro ⟨h1, h2⟩ i hi
    rw [ints_getD]
    refine ⟨?_, by have := h2 i hi; omega⟩
    cases i with
    | zero => simp [lastI]
    | succ i =>
      rw [lastI_succ, ints_getD]
      have := h1 i hi
      omega
/-- Numbers that rise, from 0 on, are naturals. -/
theorem ris_nat {li : List Int} {b : Int} (h : Ris li b li.length) : ∃ l, li = ints l := by
  refine ⟨li.map Int.toNat, ?_⟩
  have hz : ∀ i, i < li.length → 0 ≤ li.getD i 0 := by
    intro i
    induction i with
    | zero => intro hi; have := (h 0 hi).1; simpa [lastI] using this
    | succ i ih =>
      intro hi
      have h1 := (h (i + 1) hi).1
      rw [lastI_succ] at h1
      have := ih (by omega)
      omega
  unfold ints
  rw [List.map_map]
  apply List.ext_getElem?
  intro i
  rw [List.getElem?_map]
  by_cases hi : i < li.length
  · have := hz i hi
    rw [List.getD_eq_getElem?_getD] at this
    rw [List.getElem?_eq_getElem hi] at this ⊢
    simp at this ⊢
    omega
  · rw [List.getElem?_eq_none (by omega)]
    rfl
/-- The numbers may be a sequence's. -/
def OkI (li : List Int) (b : Int) : Prop := 1 ≤ b ∧ b ≤ 1099511627776 ∧ li.length ≤ 16777215 ∧ Ris li b li.length
theorem OkI.nat {li : List Int} {b : Int} (h : OkI li b) : ∃ l u, li = ints l ∧ b = ((u : Nat) : Int) ∧ Ok l u := by
  obtain ⟨h1, h2, h3, h4⟩ := h
  obtain ⟨l, rfl⟩ := ris_nat h4
  obtain ⟨u, rfl⟩ := Int.eq_ofNat_of_zero_le (show 0 ≤ b by omega)
  rw [ints_length] at h3 h4
  obtain ⟨h5, h6⟩ := (ris_iff l u).1 h4
  exact ⟨l, u, rfl, rfl, h5, h6, by omega, by omega, by omega⟩
theorem Ok.int {l : List Nat} {u : Nat} (h : Ok l u) : OkI (ints l) (u : Int) := by
  have := h.pos
  have := h.le
  have := h.len
  refine ⟨by omega, by omega, by rw [ints_length]; omega, ?_⟩
  rw [ints_length]
  exact (ris_iff l u).2 ⟨h.up, h.lt⟩
end Fn
set_option maxHeartbeats 1000000 in
theorem Make_no (li : List Int) (b : Int) (v : Value) (w : World) (h : Ints w v li) (hl : li.length ≤ 9223372036854775807) (hno : ¬ Fn.OkI li b) :
    Calls Tryz.prog 54 #[v, .int .i64 b] w fun e w' => e = .returned (.tuple #[.pointer none, .int .i64 1]) ∧ w' = w := by
  have HR := hidden (rising_any li b v w h hl)
  have HN := hidden hno
  obtain ⟨ao, cap, rfl, hcap, _⟩ := h.cells
  clear h hno
  by_cases h1 : b < 1
  · have d1 : decide (b < 1) = true := by simpa using h1
    go_enter Tryz.func54, Tryz.ntmps54
    go_wp2_with fail
    go_ret2
    exact ⟨rfl, rfl⟩
  · have d1 : decide (b < 1) = false := by simpa using h1
    by_cases h2 : 1099511627776 < b
    · have d2 : decide (1099511627776 < b) = true := by simpa using h2
      go_enter Tryz.func54, Tryz.ntmps54
      go_wp2_with fail
      go_ret2
      exact ⟨rfl, rfl⟩
    · have d2 : decide (1099511627776 < b) = false := by simpa using h2
      by_cases h3 : 16777215 < li.length
      · have d3 : decide ((16777215 : Int) < (li.length : Int)) = true := by simp; omega
        go_enter Tryz.func54, Tryz.ntmps54
        go_wp2_with fail
        go_ret2
        exact ⟨rfl, rfl⟩
      · have d3 : decide ((16777215 : Int) < (li.length : Int)) = false := by simp; omega
        go_enter Tryz.func54, Tryz.ntmps54
        go_wp2_with fail
        refine (HR.out).mono ?_
        rintro e' w1 ⟨⟨r, rfl, hr⟩, rfl⟩
        have : r = false := by
          cases r
          · rfl
          · exact absurd ⟨by omega, by omega, by omega, hr.1 rfl⟩ HN.out
        subst this
        clear hr
        go_wp2_with fail
        go_ret2
        exact ⟨rfl, rfl⟩
set_option maxHeartbeats 1000000 in
theorem Make_ok (l : List Nat) (u : Nat) (v : Value) (w : World) (h : Ints w v (Fn.ints l)) (ok : Fn.Ok l u) (hT : Tab w) :
    Calls Tryz.prog 54 #[v, .int .i64 (u : Nat)] w fun e w' => ∃ s q, e = .returned (.tuple #[.pointer (some ⟨s, 0, none⟩), .int .i64 0]) ∧ Sq w' s l u q ∧ Below w.heap.size w w' := by
  have hn := ok.len
  have hu1 := ok.pos
  have hu2 := ok.le
  have HR := hidden (rising_any (Fn.ints l) u v w h (by rw [Fn.ints_length]; omega))
  have HI := hidden h
  have OK := hidden ok
  have HT := hidden hT
  have hint := ok.int
  have HInt := hidden hint
  obtain ⟨ao, cap, rfl, hcap, _⟩ := h.cells
  rw [Fn.ints_length] at hcap HR HI
  obtain ⟨N, hN⟩ : ∃ N, N = l.length := ⟨_, rfl⟩
  have HN := hidden hN
  rw [← hN] at hn hcap HR HI
  have HSO := hidden (fun w => shapeOf_any N u w hn (by omega))
  clear h ok hT hint
  rw [Fn.ints_length, ← hN]
  clear hN
  go_enter Tryz.func54, Tryz.ntmps54
  go_wp2_with fail
  refine (HR.out).mono ?_
  rintro e' w1 ⟨⟨r, rfl, hr⟩, rfl⟩
  obtain rfl : r = true := hr.2 (by rw [Fn.ints_length]; have := HInt.out.2.2.2; rw [Fn.ints_length] at this; exact this)
  clear hr
  go_wp2_with fail
  refine (HSO.out _).mono ?_
  rintro e' w2 ⟨rfl, hq2⟩
  unfold Fn.sh at *
  obtain ⟨W, hW⟩ : ∃ W, W = Fn.wdt N u := ⟨_, rfl⟩
  rw [← hW]
  have HW := hidden hW
  have HB2 := hidden hq2
  clear hW hq2
  have HRW : Hid (∀ w', Below w1.heap.size w1 w' → Calls Tryz.prog 92 #[.slice ao N cap, .agg #[.int .i64 (N : Nat), .int .i64 (u : Nat), .int .i64 (W : Nat)]] w' fun e w'' => RowsPost w' l u e w'') := fun w' hb => by
    have := rows_any l u _ w' (HI.out.below hb (Nat.le_refl _)) OK.out
    unfold Fn.sh at this
    rw [← HN.out, ← HW.out] at this
    exact this
  go_wp2_with fail
  obtain ⟨w3, hw3⟩ : ∃ w3, w3 = w2.alloc (.cells #[.int .i64 (N : Nat), .int .i64 (u : Nat), .int .i64 (W : Nat)] 106) := ⟨_, rfl⟩
  rw [← hw3]
  have hb3 : Below w1.heap.size w1 w3 := by rw [hw3]; exact HB2.out.alloc HB2.out.size _
  have HB3 := hidden hb3
  have c0 : w3.cell? ⟨w2.heap.size, 0, none⟩ = some (.int .i64 (N : Nat)) := by rw [hw3]; simp
  have c1 : w3.cell? ⟨w2.heap.size, 1, none⟩ = some (.int .i64 (u : Nat)) := by rw [hw3]; simp
  have c2 : w3.cell? ⟨w2.heap.size, 2, none⟩ = some (.int .i64 (W : Nat)) := by rw [hw3]; simp
  clear hw3
  refine (HRW.out w3 hb3).mono ?_
  rintro e' w4 ⟨r0, r1, u0, u1, rfl, hr0, hr1, hb4⟩
  have HR0 := hidden hr0
  have HR1 := hidden hr1
  have d0 := cell_after hb4 c0
  have d1 := cell_after hb4 c1
  have d2 := cell_after hb4 c2
  have HB4 := hidden (below_after hb3 hb4 (by exact Nat.le_refl _))
  have HT4 := hidden (HT.out.below HB4.out (Nat.le_refl _))
  clear hb3 hr0 hr1 c0 c1 c2 hb4
  have HC := hidden (CNew_any r1 _ _ u1 (w4.drewN 1) (HR1.out.drewN 1) (HT4.out.drewN 1))
  go_wp2_with fail
  go_region_held (fun w' => w'.cell? ⟨w2.heap.size, 0, none⟩ = some (.int .i64 (N : Nat)) ∧ w'.cell? ⟨w2.heap.size, 1, none⟩ = some (.int .i64 (u : Nat)) ∧ w'.cell? ⟨w2.heap.size, 2, none⟩ = some (.int .i64 (W : Nat))) (first | (exact ⟨by assumption, by assumption, by assumption⟩) | go_keep)
    (first
      | (go_at_call 93; refine (HC.out).mono ?_; rintro e' w5 ⟨c, d, g, b0, b1, rfl, hc5, hb5⟩; have HC5 := hidden hc5; have HB5 := hidden (below_undrewN hb5); clear hc5 hb5; have e0 := cell_after HB5.out d0; have e1 := cell_after HB5.out d1; have e2 := cell_after HB5.out d2))
  go_wp2_with fail
  go_ret2
  have hb5 := HB5.out
  have hx := (Below.refl w5.heap.size w5).alloc (Nat.le_refl _) (.cells #[.int .i64 (N : Nat), .int .i64 (u : Nat), .int .i64 (W : Nat), .pointer (some ⟨r0, 0, none⟩), .pointer (some ⟨r1, 0, none⟩), .pointer (some ⟨c, 0, none⟩)] 108)
  have hR0 := (HR0.out.below hb5 (Nat.le_refl _)).below hx (Nat.le_refl _)
  have hR1 := (HR1.out.below hb5 (Nat.le_refl _)).below hx (Nat.le_refl _)
  refine ⟨w5.heap.size, ⟨r0, r1, c, d, g, b0, b1, u0, u1⟩, rfl, ⟨OK.out, ?_, hR0, hR1, HC5.out.below hx (Nat.le_refl _)⟩, below_after (below_after HB4.out hb5) hx⟩
  rw [← HN.out, ← HW.out]
  exact heap_alloc_new _ _
end Go.Proofs.YtoipliflphbeiaaGreatDoor
namespace Go.Proofs.YtoipliflphbeiaaGreatDoor
open Go.RowKit
theorem bits_or_i64_nat (a b : Nat) (ha : a < 9223372036854775808) (hb : b < 9223372036854775808) :
    bits .or .i64 (a : Int) (b : Int) = ((a ||| b : Nat) : Int) := by
  have hx : a ||| b < 2 ^ 63 := Nat.or_lt_two_pow (by omega) (by omega)
  have h1 : (BitVec.ofInt 64 (a : Int)).toNat = a := by
    rw [BitVec.ofInt_natCast, BitVec.toNat_ofNat]; exact Nat.mod_eq_of_lt (by omega)
  have h2 : (BitVec.ofInt 64 (b : Int)).toNat = b := by
    rw [BitVec.ofInt_natCast, BitVec.toNat_ofNat]; exact Nat.mod_eq_of_lt (by omega)
  show IntKind.i64.wrap ((BitVec.ofInt 64 (a : Int) ||| BitVec.ofInt 64 (b : Int)).toNat : Int) = _
  rw [BitVec.toNat_or, h1, h2, IntKind.wrap_i64]
  omega
theorem Fn.or_join (H L W : Nat) (hL : L < 2 ^ W) : H * 2 ^ W ||| L = H * 2 ^ W + L := by
  have := Nat.two_pow_add_eq_or_of_lt hL H
  rw [Nat.mul_comm H]
  exact this.symm
set_option maxHeartbeats 400000 in
theorem SLen_any (s u : Nat) (l : List Nat) (q : Fn.Q) (w : World) (h : Sq w s l u q) :
    Calls Tryz.prog 47 #[.pointer (some ⟨s, 0, none⟩)] w fun e w' => e = .returned (.int .i64 (l.length : Nat)) ∧ w' = w := by
  have c0 := h.cell0
  go_enter Tryz.func47, Tryz.ntmps47
  go_wp2
  go_ret
  exact ⟨rfl, rfl⟩
set_option maxHeartbeats 400000 in
theorem lowest_any (r m X i W : Nat) (u : Value) (w : World) (h : Rw w r m X u) (hW : W ≤ 40) (hle : i * W + W ≤ m) :
    Calls Tryz.prog 113 #[.pointer (some ⟨r, 0, none⟩), .int .i64 (i : Nat), .int .i64 (W : Nat)] w fun e w' => e = .returned (.int .i64 ((Bt.fd X (i * W) W : Nat) : Int)) ∧ w' = w := by
  obtain ⟨P, hP⟩ : ∃ P, P = i * W := ⟨_, rfl⟩
  have hP2 : (i : Int) * (W : Int) = (P : Int) := by rw [hP]; exact (Int.natCast_mul _ _).symm
  rw [← hP] at hle ⊢
  have hm := h.len
  have HR := hidden (RField_in r m X P W u w h (by omega) (by omega))
  have hf : Bt.fd X P W < 1099511627777 := Nat.lt_of_lt_of_le (Bt.fd_lt X P W) (Nat.le_trans (Nat.pow_le_pow_right (by decide) hW) (by decide))
  generalize Bt.fd X P W = F at *
  clear hP h
  have hf2 : IntKind.i64.wrap (F : Int) = (F : Int) := by rw [IntKind.wrap_i64]; omega
  go_enter Tryz.func113, Tryz.ntmps113
  go_wp2_with fail
  refine (HR.out).mono ?_
  rintro e' w1 ⟨rfl, rfl⟩
  go_wp2_with fail
  go_ret
  exact ⟨rfl, rfl⟩
set_option maxHeartbeats 400000 in
theorem join_any (H L W : Nat) (w : World) (hL : L < 2 ^ W) (hW : W ≤ 40) (hH : H * 2 ^ W + L < 4611686018427387904) :
    Calls Tryz.prog 112 #[.int .i64 (H : Nat), .int .i64 (L : Nat), .int .i64 (W : Nat)] w fun e w' => e = .returned (.int .i64 ((H * 2 ^ W + L : Nat) : Int)) ∧ w' = w := by
  obtain ⟨P, hP⟩ : ∃ P, P = H * 2 ^ W := ⟨_, rfl⟩
  have hP2 : (H : Int) * 2 ^ W = (P : Int) := by rw [hP]; push_cast; rfl
  have ho := bits_or_i64_nat P L (by omega) (by omega)
  have hor : P ||| L = P + L := by rw [hP]; exact Fn.or_join H L W hL
  rw [hor] at ho
  rw [← hP] at hH ⊢
  have hP3 : IntKind.i64.wrap (P : Int) = (P : Int) := by rw [IntKind.wrap_i64]; omega
  clear hP hor hL
  go_enter Tryz.func112, Tryz.ntmps112
  go_wp2_with fail
  go_ret
  exact ⟨ret_int (by omega), rfl⟩
/-- The i-th number, as it is put together from its high part. -/
theorem Fn.low_fd {l : List Nat} {u i : Nat} (hi : i < l.length) : Bt.fd (Bt.num (Fn.lowB l u)) (i * Fn.wdt l.length u) (Fn.wdt l.length u) = l.getD i 0 % 2 ^ Fn.wdt l.length u := Fn.low_field l u i hi
set_option maxHeartbeats 1000000 in
theorem number_any (s u i H : Nat) (z : Int) (l : List Nat) (q : Fn.Q) (w : World) (h : Sq w s l u q) (hi : i < l.length) (hz : z = (H : Int)) (hH : H = l.getD i 0 / 2 ^ Fn.wdt l.length u) :
    Calls Tryz.prog 79 #[.pointer (some ⟨s, 0, none⟩), .int .i64 z, .int .i64 (i : Nat)] w fun e w' => e = .returned (.int .i64 ((l.getD i 0 : Nat) : Int)) ∧ ∃ m, w' = w.drewN m := by
  subst hz
  have c2 := h.cell2
  have c3 := h.cell3
  have hn := h.ok.len
  have hW := Fn.wdt_le (n := l.length) (u := u) (by have := h.ok.le; omega)
  have hx := h.ok.lt i hi
  have hu := h.ok.le
  have hlow : i * Fn.wdt l.length u + Fn.wdt l.length u ≤ (Fn.lowB l u).length := by
    rw [Fn.lowB_length]
    unfold Fn.lows
    have : (i + 1) * Fn.wdt l.length u ≤ l.length * Fn.wdt l.length u := Nat.mul_le_mul_right _ hi
    rw [Nat.add_mul, Nat.one_mul] at this
    exact this
  have HL := hidden (fun m => lowest_any q.low _ _ i (Fn.wdt l.length u) q.u0 (w.drewN m) (h.low.drewN m) hW hlow)
  rw [Fn.low_fd hi] at HL
  have he := Fn.join_eq (l.getD i 0) (Fn.wdt l.length u)
  have HJ := hidden (fun w => join_any H (l.getD i 0 % 2 ^ Fn.wdt l.length u) (Fn.wdt l.length u) w (Nat.mod_lt _ (Nat.two_pow_pos _)) hW (by rw [hH]; omega))
  rw [hH, he, ← hH] at HJ
  generalize Fn.wdt l.length u = W at *
  generalize l.getD i 0 % 2 ^ W = R at *
  generalize l.getD i 0 = x at *
  clear h hlow he hH
  go_enter Tryz.func79, Tryz.ntmps79
  go_wp2_with fail
  go_quiet (first
    | (go_at_call 113; exact Calls.quiet_of_same (HL.out _))
    | (go_at_call 112; exact Calls.quiet_of_same (HJ.out _)))
  go_wp2_with fail
  go_ret
  exact ⟨rfl, nq, rfl⟩
theorem Sq.one {w : World} {s u : Nat} {l : List Nat} {q : Fn.Q} (h : Sq w s l u q) {i : Nat} (hi : i < l.length) : Ck.At (Bt.num (Fn.HB l u)) (Fn.HB l u).length i (Fn.pc l (Fn.wdt l.length u) i) := by
  rw [Fn.HB_some (by omega), h.ok.high_length]
  exact h.ok.one_at hi
theorem Sq.ones {w : World} {s u : Nat} {l : List Nat} {q : Fn.Q} (h : Sq w s l u q) : Wd.ones (Bt.num (Fn.HB l u)) (Fn.HB l u).length = l.length := by
  rcases Nat.eq_zero_or_pos l.length with h0 | h0
  · rw [Fn.HB_none h0, h0]
    rfl
  · rw [Fn.HB_some h0, h.ok.high_length]
    exact h.ok.ones_all
set_option maxHeartbeats 1000000 in
theorem SGet_in (s u i : Nat) (z : Int) (l : List Nat) (q : Fn.Q) (w : World) (h : Sq w s l u q) (hT : Tab w) (hi : i < l.length) (hz : z = (i : Int)) :
    Calls Tryz.prog 48 #[.pointer (some ⟨s, 0, none⟩), .int .i64 z] w fun e w' => e = .returned (.tuple #[.int .i64 ((l.getD i 0 : Nat) : Int), .int .i64 0]) ∧ Below w.heap.size w w' := by
  subst hz
  have c5 := h.cell5
  have HS := hidden h
  have hn := h.ok.len
  have hu := h.ok.le
  have HC := hidden (COne_at _ _ _ _ _ _ _ _ i _ _ w h.ch hT (h.one hi))
  have hx := h.ok.lt i hi
  have hpx : l.getD i 0 / 2 ^ Fn.wdt l.length u ≤ l.getD i 0 := Nat.div_le_self _ _
  have hpc : Fn.pc l (Fn.wdt l.length u) i = i + l.getD i 0 / 2 ^ Fn.wdt l.length u := rfl
  have HH : Hid (∃ H, H = l.getD i 0 / 2 ^ Fn.wdt l.length u) := ⟨_, rfl⟩
  obtain ⟨H, hH⟩ := HH.out
  rw [← hH] at hpc hpx
  have HHH := hidden hH
  generalize Fn.pc l (Fn.wdt l.length u) i = p at *
  obtain ⟨x, hx0⟩ : ∃ x, x = l.getD i 0 := ⟨_, rfl⟩
  rw [← hx0] at hx hpx ⊢
  have HX0 := hidden hx0
  clear hH h hT hx0
  go_enter Tryz.func48, Tryz.ntmps48
  go_wp2_with fail
  refine (HC.out).mono ?_
  rintro e' w1 ⟨rfl, hb1⟩
  have HB1 := hidden hb1
  have HS1 := hidden (HS.out.below hb1 (Nat.le_refl _))
  clear hb1
  go_wp2_with fail
  refine (number_any s u i H _ l q w1 HS1.out hi (by omega) HHH.out).mono ?_
  rintro e' w2 ⟨rfl, m, rfl⟩
  rw [← HX0.out]
  go_wp2_with fail
  go_ret2
  exact ⟨rfl, below_drewN HB1.out m⟩
set_option maxHeartbeats 1000000 in
theorem SGet_out (s u : Nat) (i : Int) (l : List Nat) (q : Fn.Q) (w : World) (h : Sq w s l u q) (hi : i < 0 ∨ (l.length : Int) ≤ i) :
    Calls Tryz.prog 48 #[.pointer (some ⟨s, 0, none⟩), .int .i64 i] w fun e w' => e = .returned (.tuple #[.int .i64 0, .int .i64 2]) ∧ Below w.heap.size w w' := by
  have c5 := h.cell5
  have HC := hidden (COne_none _ _ _ _ _ _ _ _ i _ w h.ch (by rw [h.ones]; exact hi))
  clear h hi
  go_enter Tryz.func48, Tryz.ntmps48
  go_wp2_with fail
  refine (HC.out).mono ?_
  rintro e' w1 ⟨rfl, hb1⟩
  have HB1 := hidden hb1
  clear hb1
  go_wp2_with fail
  go_ret2
  exact ⟨rfl, HB1.out⟩
set_option maxHeartbeats 1000000 in
theorem ahead_seq (s u k : Nat) (z : Int) (l : List Nat) (q : Fn.Q) (w : World) (h : Sq w s l u q) (hT : Tab w) (h0 : 0 < l.length) (hk : k ≤ Fn.top l.length u + 1) (hz : z = (k : Int)) :
    Calls Tryz.prog 114 #[.pointer (some ⟨s, 0, none⟩), .int .i64 z] w fun e w' => e = .returned (.int .i64 ((Fn.ah l (Fn.wdt l.length u) k : Nat) : Int)) ∧ Below w.heap.size w w' := by
  subst hz
  have c5 := h.cell5
  have hn := h.ok.len
  have hu := h.ok.le
  cases k with
  | zero =>
    rw [Fn.ah_zero h.ok.up]
    clear h
    go_enter Tryz.func114, Tryz.ntmps114
    go_wp2_with fail
    go_ret
    exact ⟨rfl, Below.refl _ _⟩
  | succ k =>
    have hA := h.ok.ahead_at (k := k) (by omega)
    rw [← h.ok.high_length, ← Fn.HB_some (u := u) h0] at hA
    have HC := hidden (CZero_at _ _ _ _ _ _ _ _ k _ _ w h.ch hT hA)
    have ht := Fn.top_lt h0 (show u < 2 ^ 64 by omega)
    have hah := Fn.ah_le l (Fn.wdt l.length u) (k + 1)
    generalize Fn.ah l (Fn.wdt l.length u) (k + 1) = c at *
    have hk2 : k < 33554432 := by omega
    clear h hA ht
    have hne : (((k + 1 : Nat) : Int) == 0) = false := by simp; omega
    have hk3 : ((k + 1 : Nat) : Int) - 1 = (k : Int) := by omega
    go_enter Tryz.func114, Tryz.ntmps114
    go_wp2_with fail
    refine (HC.out).mono ?_
    rintro e' w1 ⟨rfl, hb1⟩
    have HB1 := hidden hb1
    clear hb1
    go_wp2_with fail
    go_ret
    exact ⟨ret_int (by omega), HB1.out⟩
end Go.Proofs.YtoipliflphbeiaaGreatDoor
namespace Go.Proofs.YtoipliflphbeiaaGreatDoor
open Go.RowKit
namespace Fn
theorem less_mono {l : List Nat} (h : Up l) {x y : Int} (hxy : x ≤ y) : less l x ≤ less l y := by
  rcases Nat.lt_or_ge (less l y) (less l x) with hl | hl
  · have h1 := (less_spec h x).lo _ hl
    have h2 := (less_spec h y).hi _ (Nat.le_refl _) (by have := less_le l x; omega)
    omega
  · exact hl
theorem ah_less {l : List Nat} (h : Up l) (w x H : Nat) (hH : H = x / 2 ^ w) : ah l w H ≤ less l (x : Int) ∧ less l (x : Int) ≤ ah l w (H + 1) := by
  have h1 : H * 2 ^ w ≤ x := by rw [hH]; exact Nat.div_mul_le_self _ _
  have h2 : x < (H + 1) * 2 ^ w := by
    rw [← Nat.div_lt_iff_lt_mul (Nat.two_pow_pos _)]
    omega
  exact ⟨less_mono h (by omega), less_mono h (by omega)⟩
theorem ah_part {l : List Nat} (h : Up l) {w H i : Nat} (h1 : ah l w H ≤ i) (h2 : i < ah l w (H + 1)) : i < l.length ∧ H = l.getD i 0 / 2 ^ w := by
  have h3 := ah_le l w (H + 1)
  have h4 := ah_hi h w H i h1 (by omega)
  have h5 := ah_lo h w (H + 1) i h2
  exact ⟨by omega, by omega⟩
/-- What halve tells. -/
def HalvePost (l : List Nat) (w x H : Nat) (e : Ending) : Prop := ∃ f t : Nat, e = .returned (.tuple #[.int .i64 (f : Nat), .int .i64 (t : Nat)]) ∧ ah l w H ≤ f ∧ f ≤ less l (x : Int) ∧ less l (x : Int) ≤ t ∧ t ≤ ah l w (H + 1)
theorem lo_of {l : List Nat} (h : Up l) {x i : Nat} (h1 : ((l.getD i 0 : Nat) : Int) < (x : Int)) (hi : i < l.length) : i + 1 ≤ less l (x : Int) := by
  rcases Nat.lt_or_ge i (less l (x : Int)) with hl | hl
  · exact hl
  · have := (less_spec h (x : Int)).hi i hl hi
    omega
theorem hi_of {l : List Nat} (h : Up l) {x i : Nat} (h1 : ¬ ((l.getD i 0 : Nat) : Int) < (x : Int)) : less l (x : Int) ≤ i := by
  rcases Nat.lt_or_ge i (less l (x : Int)) with hl | hl
  · exact absurd ((less_spec h (x : Int)).lo i hl) h1
  · exact hl
end Fn
set_option maxHeartbeats 1000000 in
theorem halve_any (s u x H : Nat) (l : List Nat) (q : Fn.Q) (w : World) (h : Sq w s l u q) (hT : Tab w) (h0 : 0 < l.length) (hx : x < u) (hH : H = x / 2 ^ Fn.wdt l.length u) :
    Calls Tryz.prog 80 #[.pointer (some ⟨s, 0, none⟩), .int .i64 (x : Nat), .int .i64 (H : Nat)] w fun e w' => Fn.HalvePost l (Fn.wdt l.length u) x H e ∧ Below w.heap.size w w' := by
  have HS := hidden h
  have HT := hidden hT
  have hn := h.ok.len
  have hu := h.ok.le
  have hup := h.ok.up
  have HUP := hidden hup
  have ht : H ≤ Fn.top l.length u := by rw [hH]; exact Nat.div_le_div_right (by omega)
  have htl := Fn.top_lt h0 (show u < 2 ^ 64 by omega)
  have HA := hidden (Fn.ah_less hup (Fn.wdt l.length u) x H hH)
  have HA0 := hidden (fun w' (hb : Below w.heap.size w w') => ahead_seq s u H H l q w' (h.below hb (Nat.le_refl _)) (hT.below hb (Nat.le_refl _)) h0 (by omega) rfl)
  have HA1 := hidden (fun w' (hb : Below w.heap.size w w') => ahead_seq s u (H + 1) ((H : Int) + 1) l q w' (h.below hb (Nat.le_refl _)) (hT.below hb (Nat.le_refl _)) h0 (by omega) (by omega))
  have HP := hidden (fun i => Fn.ah_part (i := i) hup (w := Fn.wdt l.length u) (H := H))
  have hH2 : H < 33554432 := by omega
  have ha1 := Fn.ah_le l (Fn.wdt l.length u) H
  have ha2 := Fn.ah_le l (Fn.wdt l.length u) (H + 1)
  have hl1 := Fn.less_le l (x : Int)
  have hle2 : l.length < 16777216 := hn
  obtain ⟨N, hN⟩ : ∃ N, N = l.length := ⟨_, rfl⟩
  obtain ⟨W, hW⟩ : ∃ W, W = Fn.wdt l.length u := ⟨_, rfl⟩
  rw [← hW] at HA HA0 HA1 HP ha1 ha2 ⊢
  have HW := hidden hW
  rw [← hN] at ha1 ha2 hl1 hle2
  have HN := hidden hN
  clear hup hH ht htl h hT h0 hn hN hW
  go_enter Tryz.func80, Tryz.ntmps80
  go_wp2_with fail
  refine (HA0.out w (Below.refl _ _)).mono ?_
  rintro e' w1 ⟨rfl, hb1⟩
  have HB1 := hidden hb1
  clear hb1
  go_wp2_with fail
  refine (HA1.out w1 HB1.out).mono ?_
  rintro e' w2 ⟨rfl, hb2⟩
  have HB2 := hidden (below_after HB1.out hb2)
  clear hb2
  obtain ⟨A, hA⟩ : ∃ A, A = Fn.ah l W H := ⟨_, rfl⟩
  obtain ⟨C, hC⟩ : ∃ C, C = Fn.ah l W (H + 1) := ⟨_, rfl⟩
  obtain ⟨R, hR⟩ : ∃ R, R = Fn.less l (x : Int) := ⟨_, rfl⟩
  rw [← hA, ← hC, ← hR] at HA
  rw [← hA] at HP ha1 ⊢
  rw [← hC] at HP ha2 ⊢
  rw [← hR] at hl1
  have HHA := hidden hA
  have HHC := hidden hC
  have HHR := hidden hR
  clear hA hC hR
  obtain ⟨hA1, hA2⟩ := HA.out
  go_wp2_with fail
  go_loopw [8, 9, 10] (fun a b _ wr => ∃ f t : Nat, a = .int .i64 (f : Nat) ∧ b = .int .i64 (t : Nat) ∧ A ≤ f ∧ f ≤ R ∧ R ≤ t ∧ t ≤ C ∧ Below w.heap.size w wr) (fun a b _ _ => (intOf b).toNat - (intOf a).toNat)
  case atStart => exact ⟨A, C, rfl, rfl, by omega, by omega, by omega, by omega, HB2.out⟩
  case round =>
    obtain ⟨f, t, rfl, rfl, h1, h2, h3, h4, hb⟩ := hrel
    have HBr := hidden hb
    clear hb
    by_cases hlt : 16 < t - f
    · obtain ⟨m, hm⟩ : ∃ m : Nat, m = f + (t - f) / 2 := ⟨_, rfl⟩
      obtain ⟨D, hD⟩ : ∃ D : Nat, (t : Int) - (f : Int) = (D : Int) := ⟨t - f, by omega⟩
      obtain ⟨E, hE⟩ : ∃ E : Nat, (D : Int) / 2 = (E : Int) := ⟨D / 2, by omega⟩
      have hm1 : (f : Int) + (E : Int) = (m : Int) := by omega
      have hD2 : D < 16777216 := by omega
      have hE2 : E < 16777216 := by omega
      have d0 : decide ((16 : Int) < (D : Int)) = true := by simp; omega
      have hm2 : f ≤ m := by omega
      have hm3 : m < t := by omega
      have HM := hidden hm
      clear hm
      obtain ⟨hp1, hp2⟩ := HP.out m (by omega) (by omega)
      have HNU := hidden (number_any s u m H H l q wr (HS.out.below HBr.out (Nat.le_refl _)) hp1 rfl (by rw [← HW.out]; exact hp2))
      have hlo := Fn.lo_of (x := x) HUP.out (i := m)
      have hhi := Fn.hi_of (x := x) HUP.out (i := m)
      rw [← HHR.out] at hlo hhi
      obtain ⟨y, hy⟩ : ∃ y, y = l.getD m 0 := ⟨_, rfl⟩
      rw [← hy] at HNU hlo hhi
      have HLO := hidden hlo
      have HHI := hidden hhi
      have HP1 := hidden hp1
      clear hlo hhi hp1 hp2 hy
      go_wp2_with fail
      refine (HNU.out).mono ?_
      rintro e' w3 ⟨rfl, k, rfl⟩
      by_cases hd : (y : Int) < (x : Int)
      · have d1 : decide ((y : Int) < (x : Int)) = true := by simpa using hd
        go_wp2_with fail
        go_roundw
        case rel => exact ⟨m + 1, t, by go_num, rfl, by omega, HLO.out hd HP1.out, h3, h4, below_drewN HBr.out _⟩
        case measure => simp [intOf]; omega
      · have d1 : decide ((y : Int) < (x : Int)) = false := by simpa using hd
        go_wp2_with fail
        go_roundw
        case rel => exact ⟨f, m, rfl, by go_num, h1, h2, HHI.out hd, by omega, below_drewN HBr.out _⟩
        case measure => simp [intOf]; omega
    · have d0 : decide ((16 : Int) < (t : Int) - (f : Int)) = false := by simp; omega
      go_wp2_with fail
      go_ret2
      refine ⟨⟨f, t, rfl, ?_⟩, HBr.out⟩
      rw [← HHA.out, ← HHC.out, ← HHR.out]
      exact ⟨h1, h2, h3, h4⟩
end Go.Proofs.YtoipliflphbeiaaGreatDoor
