/-
  Mathematics of a row's bytes: the number that bytes make, the least first; a row's bytes, and which bytes are a row's. Of no program.
-/
import Derived.Test.YtfohldojcdhnhaaDoorBtBytes
namespace Go.Proofs.YtfohldojcdhnhaaDoor
namespace Bt
/-- The number that bytes make, the least first. -/
def numB : List UInt8 → Nat
  | [] => 0
  | b :: l => b.toNat + 256 * numB l
theorem numB_append (l m : List UInt8) : numB (l ++ m) = numB l + 2 ^ (8 * l.length) * numB m := by
  induction l with
  | nil => simp [numB]
  | cons b l ih =>
    rw [List.cons_append, numB, ih, numB, List.length_cons, show 8 * (l.length + 1) = 8 + 8 * l.length from by omega, Nat.pow_add, Nat.mul_add, show (2 : Nat) ^ 8 = 256 from rfl, Nat.mul_assoc]
    omega
theorem numB_lt (l : List UInt8) : numB l < 2 ^ (8 * l.length) := by
  induction l with
  | nil => simp [numB]
  | cons b l ih =>
    have hb := b.toNat_lt
    rw [numB, List.length_cons, show 8 * (l.length + 1) = 8 + 8 * l.length from by omega, Nat.pow_add, show (2 : Nat) ^ 8 = 256 from rfl]
    omega
theorem numB_inj : ∀ (l m : List UInt8), l.length = m.length → numB l = numB m → l = m
  | [], [], _, _ => rfl
  | [], _ :: _, h, _ => by simp at h
  | _ :: _, [], h, _ => by simp at h
  | a :: l, b :: m, h, e => by
    simp only [numB] at e
    have ha := a.toNat_lt
    have hb := b.toNat_lt
    have e1 : a.toNat = b.toNat := by omega
    have e2 : numB l = numB m := by omega
    rw [UInt8.toNat_inj.1 e1, numB_inj l m (by simpa using h) e2]
theorem numB_eightTo (v k : Nat) (hk : k ≤ 8) : numB ((eightB v).take k) = v % 2 ^ (8 * k) := by
  induction k with
  | zero => simp [numB, Nat.mod_one]
  | succ k ih =>
    have hl : ((eightB v).take k).length = k := by rw [List.length_take, eightB_length]; omega
    rw [eightB_next v k (by omega), numB_append, ih (by omega), hl, show 8 * (k + 1) = 8 * k + 8 from by omega, Nat.pow_add, Nat.mod_mul]
    simp only [numB, show (2 : Nat) ^ 8 = 256 from rfl]
    have : (UInt8.ofNat (v / 2 ^ (8 * k) % 256)).toNat = v / 2 ^ (8 * k) % 256 := by
      simp [UInt8.toNat_ofNat']
    rw [this, Nat.mul_zero, Nat.add_zero]
theorem numB_eight (v : Nat) (h : v < 2 ^ 64) : numB (eightB v) = v := by
  have := numB_eightTo v 8 (Nat.le_refl _)
  rw [List.take_of_length_le (by rw [eightB_length]; omega), Nat.mod_eq_of_lt h] at this
  exact this
/-- The bytes of the first c words. -/
def wordsB (X c : Nat) : List UInt8 := (List.range c).flatMap fun j => eightB (wd X j)
theorem wordsB_succ (X c : Nat) : wordsB X (c + 1) = wordsB X c ++ eightB (wd X c) := by
  unfold wordsB
  rw [List.range_succ, List.flatMap_append]
  simp
theorem wordsB_length (X c : Nat) : (wordsB X c).length = 8 * c := by
  induction c with
  | zero => simp [wordsB]
  | succ c ih => rw [wordsB_succ, List.length_append, ih, eightB_length]; omega
theorem numB_words (X c : Nat) : numB (wordsB X c) = X % 2 ^ (64 * c) := by
  induction c with
  | zero => simp [wordsB, numB, Nat.mod_one]
  | succ c ih =>
    rw [wordsB_succ, numB_append, ih, wordsB_length, numB_eight _ (wd_lt' X c), show 8 * (8 * c) = 64 * c from by omega, show 64 * (c + 1) = 64 * c + 64 from by omega, Nat.pow_add, Nat.mod_mul]
    rfl
theorem words_numB (l : List UInt8) (c : Nat) (h : l.length = 8 * c) : wordsB (numB l) c = l := by
  apply numB_inj
  · rw [wordsB_length, h]
  · rw [numB_words, Nat.mod_eq_of_lt]
    have := numB_lt l
    rw [h, show 8 * (8 * c) = 64 * c from by omega] at this
    exact this
theorem rowB_eq (n X : Nat) : rowB n X = eightB n ++ wordsB X ((n + 63) / 64) := rfl
/-- Which bytes are a row's. -/
def ofB (l : List UInt8) : Option (Nat × Nat) :=
  if l.length < 8 ∨ l.length % 8 ≠ 0 then none
  else if numB (l.take 8) ≤ 4294967296 ∧ (numB (l.take 8) + 63) / 64 = l.length / 8 - 1 ∧ numB (l.drop 8) < 2 ^ numB (l.take 8) then some (numB (l.take 8), numB (l.drop 8)) else none
theorem ofB_row (n X : Nat) (hn : n ≤ 4294967296) (hX : X < 2 ^ n) : ofB (rowB n X) = some (n, X) := by
  have hlen : (rowB n X).length = 8 + 8 * ((n + 63) / 64) := rowTo_length n X _
  have h1 : (rowB n X).take 8 = eightB n := by rw [rowB_eq, List.take_append_of_le_length (by rw [eightB_length]; omega), List.take_of_length_le (by rw [eightB_length]; omega)]
  have h2 : (rowB n X).drop 8 = wordsB X ((n + 63) / 64) := by
    rw [rowB_eq, List.drop_append, List.drop_of_length_le (by rw [eightB_length]; omega), eightB_length]
    simp
  have e1 : numB ((rowB n X).take 8) = n := by rw [h1, numB_eight n (Nat.lt_of_le_of_lt hn (by decide))]
  have e2 : numB ((rowB n X).drop 8) = X := by
    rw [h2, numB_words, Nat.mod_eq_of_lt]
    exact Nat.lt_of_lt_of_le hX (Nat.pow_le_pow_right (by decide) (by omega))
  unfold ofB
  rw [if_neg (by rw [hlen]; omega), e1, e2, if_pos ⟨hn, by rw [hlen]; omega, hX⟩]
theorem ofB_some {l : List UInt8} {n X : Nat} (h : ofB l = some (n, X)) : n ≤ 4294967296 ∧ X < 2 ^ n ∧ l = rowB n X := by
  unfold ofB at h
  split at h
  · cases h
  · rename_i h0
    split at h
    · rename_i hc
      simp only [Option.some.injEq, Prod.mk.injEq] at h
      obtain ⟨rfl, rfl⟩ := h
      obtain ⟨h1, h2, h3⟩ := hc
      refine ⟨h1, h3, ?_⟩
      have hl8 : (l.take 8).length = 8 := by rw [List.length_take]; omega
      have hd8 : (l.drop 8).length = 8 * (l.length / 8 - 1) := by rw [List.length_drop]; omega
      have e1 : eightB (numB (l.take 8)) = l.take 8 := by
        apply numB_inj
        · rw [eightB_length, hl8]
        · apply numB_eight
          have := numB_lt (l.take 8)
          rw [hl8] at this
          exact this
      rw [rowB_eq, e1, h2, words_numB _ _ hd8, List.take_append_drop]
    · cases h
end Bt
end Go.Proofs.YtfohldojcdhnhaaDoor
