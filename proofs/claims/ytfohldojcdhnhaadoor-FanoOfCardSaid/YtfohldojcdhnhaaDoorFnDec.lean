/-
  Plain mathematics of a sequence's bits, read again: the parts of a row; the numbers that its 1s make; a sequence comes again from its bits, and bits that make one are its own.
-/
import Derived.Test.YtfohldojcdhnhaaDoorFnNumbers
import Derived.Test.YtfohldojcdhnhaaDoorFnLess
namespace Go.Proofs.YtfohldojcdhnhaaDoor
open Go.RowKit
namespace Fn
open Wd Bt
theorem bt_mod_lt (x m i : Nat) (h : i < m) : bt (x % 2 ^ m) i = bt x i := by rw [bt_mod, if_pos h]
theorem cut_mid (A B C : List Bool) : cut (num (A ++ B ++ C)) A.length B.length = num B := by
  unfold cut
  rw [List.append_assoc, num_append, num_append]
  have h1 := num_lt A
  have h2 := num_lt B
  have hA := Nat.two_pow_pos A.length
  rw [Nat.add_mul_div_right _ _ hA, Nat.div_eq_of_lt h1, Nat.zero_add, Nat.add_mul_mod_self_right, Nat.mod_eq_of_lt h2]
theorem bitsTo_add (X a b : Nat) : bitsTo X (a + b) = bitsTo X a ++ bitsTo (X / 2 ^ a) b := by
  apply List.ext_getElem?
  intro i
  by_cases h1 : i < a
  · rw [List.getElem?_append_left (by rw [bitsTo_length]; exact h1), bitsTo_get _ _ _ (by omega), bitsTo_get _ _ _ h1]
  · rw [List.getElem?_append_right (by rw [bitsTo_length]; omega), bitsTo_length]
    by_cases h2 : i < a + b
    · rw [bitsTo_get _ _ _ h2, bitsTo_get _ _ _ (by omega), Nat.testBit_div_two_pow, show i - a + a = i from by omega]
    · rw [List.getElem?_eq_none (by rw [bitsTo_length]; omega), List.getElem?_eq_none (by rw [bitsTo_length]; omega)]
/-- A row's bits, in four parts. -/
theorem bitsTo_four (X P H : Nat) : bitsTo X (65 + P + H) = ((bitsTo (fd X 0 24) 24 ++ bitsTo (fd X 24 41) 41) ++ bitsTo (cut X 65 P) P) ++ bitsTo (cut X (65 + P) H) H := by
  rw [bitsTo_add X (65 + P) H, bitsTo_add X 65 P, show (65 : Nat) = 24 + 41 from rfl, bitsTo_add X 24 41]
  unfold fd cut
  rw [bitsTo_mod, bitsTo_mod, bitsTo_mod, bitsTo_mod, Nat.pow_zero, Nat.div_one]
theorem jn_nat {Z W x i : Nat} (hi : i ≤ x) (hb : (x - i) * 2 ^ W + 2 ^ W ≤ 4611686018427387904) : jnAt Z W x i = (((x - i) * 2 ^ W + fd Z (i * W) W : Nat) : Int) := by
  have hf := fd_lt Z (i * W) W
  have hp := Nat.two_pow_pos W
  have hx : x - i ≤ (x - i) * 2 ^ W := Nat.le_mul_of_pos_right _ hp
  unfold jnAt jn
  have e1 : IntKind.i64.wrap ((x : Int) - (i : Int)) = ((x - i : Nat) : Int) := by rw [IntKind.wrap_i64]; omega
  have e2 : ((x - i : Nat) : Int) * 2 ^ W = (((x - i) * 2 ^ W : Nat) : Int) := by push_cast; rfl
  have e3 : IntKind.i64.wrap (((x - i) * 2 ^ W : Nat) : Int) = (((x - i) * 2 ^ W : Nat) : Int) := by rw [IntKind.wrap_i64]; omega
  rw [e1, e2, e3, bits_or_i64_nat _ _ (by omega) (by omega), or_join _ _ _ hf]
theorem ones_le_place {Y H i p : Nat} (h : Ck.At Y H i p) : i ≤ p := by
  have := h.cnt
  have := ones_le Y p
  omega
/-- The high parts are small. -/
theorem high_small {n u x : Nat} (hn0 : 0 < n) (hn : n < 16777216) (hu : u < 2199023255552) (hx : x < highs n u) : x * 2 ^ wdt n u + 2 ^ wdt n u ≤ 4611686018427387904 := by
  have ht := top_lt hn0 (show u < 2 ^ 64 by omega)
  have h1 : (x + 1) * 2 ^ wdt n u ≤ (3 * n) * 2 ^ wdt n u := Nat.mul_le_mul_right _ (by unfold highs at hx; omega)
  rw [Nat.add_mul, Nat.one_mul] at h1
  by_cases h : n = 0 ∨ u < 2 * n
  · rw [wdt_none h] at *
    omega
  · obtain ⟨h2, _, _⟩ := wdt_spec h (show u < 2 ^ 64 by omega)
    have h3 : 3 * n * 2 ^ wdt n u = 3 * (2 ^ wdt n u * n) := by rw [Nat.mul_assoc, Nat.mul_comm n]
    omega
/-- A sequence's numbers come again. -/
theorem Ok.dec {l : List Nat} {u : Nat} (h : Ok l u) : decI (num (lowB l u)) (wdt l.length u) (plc (num (highB l u)) (highs l.length u) l.length) = ints l := by
  unfold decI ints
  rw [plc_length]
  apply List.ext_getElem?
  intro i
  rw [List.getElem?_map, List.getElem?_map]
  by_cases hi : i < l.length
  · rw [List.getElem?_range hi, getD_some hi]
    simp only [Option.map_some]
    congr 1
    have hA := h.one_at hi
    have hp : (plc (num (highB l u)) (highs l.length u) l.length).getD i 0 = pc l (wdt l.length u) i := by
      unfold plc
      rw [List.getD_eq_getElem?_getD, List.getElem?_map, List.getElem?_range hi]
      simp only [Option.map_some, Option.getD_some]
      exact Ck.pl_eq hA
    have hle := ones_le_place hA
    have hlt := hA.lt
    have e : pc l (wdt l.length u) i - i = l.getD i 0 / 2 ^ wdt l.length u := Nat.add_sub_cancel_left _ _
    rw [hp, jn_nat hle (high_small (by omega) h.len (by have := h.le; omega) (by omega)), e, low_fd hi, join_eq]
  · rw [List.getElem?_eq_none (by simp; omega), List.getElem?_eq_none (by omega)]
    rfl
/-- Bits that make a sequence's numbers are its own. -/
theorem Ok.enc {l : List Nat} {u Y Z : Nat} (h : Ok l u) (hY : Y < 2 ^ highs l.length u) (hZ : Z < 2 ^ lows l.length u) (hK : ones Y (highs l.length u) = l.length) (hd : decI Z (wdt l.length u) (plc Y (highs l.length u) l.length) = ints l) : num (highB l u) = Y ∧ num (lowB l u) = Z := by
  have hat : ∀ i, i < l.length → Ck.At Y (highs l.length u) i (Ck.pl Y i (highs l.length u)) := fun i hi => Ck.pl_at (by omega)
  have hv : ∀ i, i < l.length → l.getD i 0 = (Ck.pl Y i (highs l.length u) - i) * 2 ^ wdt l.length u + fd Z (i * wdt l.length u) (wdt l.length u) := by
    intro i hi
    have hA := hat i hi
    have hle := ones_le_place hA
    have hlt := hA.lt
    have e : (decI Z (wdt l.length u) (plc Y (highs l.length u) l.length))[i]? = (ints l)[i]? := by rw [hd]
    unfold decI ints at e
    rw [plc_length, List.getElem?_map, List.getElem?_map, List.getElem?_range hi, getD_some hi] at e
    simp only [Option.map_some, Option.some.injEq] at e
    have hp : (plc Y (highs l.length u) l.length).getD i 0 = Ck.pl Y i (highs l.length u) := by
      unfold plc
      rw [List.getD_eq_getElem?_getD, List.getElem?_map, List.getElem?_range hi]
      rfl
    rw [hp, jn_nat hle (high_small (by omega) h.len (by have := h.le; omega) (by omega))] at e
    omega
  have hpc : ∀ i, i < l.length → pc l (wdt l.length u) i = Ck.pl Y i (highs l.length u) := by
    intro i hi
    have hle := ones_le_place (hat i hi)
    unfold pc
    rw [hv i hi, Nat.add_comm ((Ck.pl Y i (highs l.length u) - i) * 2 ^ wdt l.length u), Nat.add_mul_div_right _ _ (Nat.two_pow_pos _), Nat.div_eq_of_lt (fd_lt _ _ _)]
    omega
  constructor
  · apply eq_of_bt
    intro p
    have h1 := h.high_bt p
    have h2 : bt Y p = 1 ↔ ∃ i, i < l.length ∧ p = pc l (wdt l.length u) i := by
      constructor
      · intro hb
        have hp : p < highs l.length u := by
          rcases Nat.lt_or_ge p (highs l.length u) with hl | hl
          · exact hl
          · rw [bt_big Y _ p hY hl] at hb
            cases hb
        have hlt := ones_lt Y p _ hb hp
        refine ⟨ones Y p, by omega, ?_⟩
        rw [hpc _ (by omega)]
        exact (Ck.pl_eq ⟨hp, hb, rfl⟩).symm
      · rintro ⟨i, hi, rfl⟩
        rw [hpc i hi]
        exact (hat i hi).one
    have h3 := bt_lt Y p
    have h4 := bt_lt (num (highB l u)) p
    by_cases hb : bt Y p = 1
    · rw [hb, h1.2 (h2.1 hb)]
    · have : ¬ bt (num (highB l u)) p = 1 := fun e => hb (h2.2 (h1.1 e))
      omega
  · apply eq_of_bt
    intro q
    have hn := num_lt (lowB l u)
    rw [lowB_length] at hn
    rcases Nat.lt_or_ge q (lows l.length u) with hl | hl
    · have hW : 0 < wdt l.length u := by
        rcases Nat.eq_zero_or_pos (wdt l.length u) with e | e
        · unfold lows at hl
          rw [e] at hl
          omega
        · exact e
      have hi : q / wdt l.length u < l.length := by
        rw [Nat.div_lt_iff_lt_mul hW]
        exact hl
      have e1 := loTo_bt l (wdt l.length u) l.length (q / wdt l.length u) (q % wdt l.length u) hi (Nat.mod_lt _ hW)
      have eq : q / wdt l.length u * wdt l.length u + q % wdt l.length u = q := by rw [Nat.mul_comm]; exact Nat.div_add_mod _ _
      rw [eq] at e1
      show bt (num (loTo l (wdt l.length u) l.length)) q = _
      rw [e1, hv _ hi, ← bt_mod_lt _ (wdt l.length u) _ (Nat.mod_lt _ hW), Nat.mul_comm (Ck.pl Y _ _ - _), Nat.mul_add_mod, bt_mod_lt _ _ _ (Nat.mod_lt _ hW)]
      unfold fd
      rw [bt_mod, if_pos (Nat.mod_lt _ hW), bt_div, eq]
    · rw [bt_big _ _ q hn hl, bt_big _ _ q hZ hl]
end Fn
end Go.Proofs.YtfohldojcdhnhaaDoor
