/-
  Numbers by their digits, as the reference holds them: a row of digits (0 behind the last), where the first one stands, what the digits down to a place make; and how that stands to the key that package num compares. Of no program.
-/
import Derived.Test.YthimbaflodphmaaDoorNuCol
namespace Go.Proofs.YthimbaflodphmaaDoor
namespace Nu
/-- The number that the first so many digits make. -/
def dn (f : Nat → Nat) : Nat → Nat
  | 0 => 0
  | i + 1 => 10 * dn f i + f i
/-- How many digits stand ahead of the place k, of a number whose first digit stands at pos; the number that they make; the digit at k. -/
def ic (pos k : Int) : Nat := (pos + 1 - k).toNat
def fl (f : Nat → Nat) (pos k : Int) : Nat := dn f (ic pos k)
def dt (f : Nat → Nat) (pos k : Int) : Nat := if k ≤ pos then f (pos - k).toNat else 0
theorem fl_step (f : Nat → Nat) (pos k : Int) : fl f pos k = 10 * fl f pos (k + 1) + dt f pos k := by
  unfold fl dt ic
  by_cases h : k ≤ pos
  · rw [if_pos h, show (pos + 1 - k).toNat = (pos - k).toNat + 1 by omega, dn, show (pos + 1 - (k + 1)).toNat = (pos - k).toNat by omega]
  · rw [if_neg h, show (pos + 1 - k).toNat = 0 by omega, show (pos + 1 - (k + 1)).toNat = 0 by omega]
    rfl
theorem dn_add (f : Nat → Nat) (h9 : ∀ j, f j ≤ 9) (i s : Nat) : dn f i * 10 ^ s ≤ dn f (i + s) ∧ dn f (i + s) < (dn f i + 1) * 10 ^ s := by
  induction s with
  | zero => simp
  | succ s ih =>
    have h1 := h9 (i + s)
    rw [show i + (s + 1) = i + s + 1 by omega, dn, Nat.pow_succ]
    obtain ⟨a, b⟩ := ih
    have e1 : dn f i * (10 ^ s * 10) = 10 * (dn f i * 10 ^ s) := by rw [← Nat.mul_assoc, Nat.mul_comm]
    have e2 : (dn f i + 1) * (10 ^ s * 10) = 10 * ((dn f i + 1) * 10 ^ s) := by rw [← Nat.mul_assoc, Nat.mul_comm]
    rw [e1, e2]
    omega
theorem dn_zero (f : Nat → Nat) (i s : Nat) (hz : ∀ j, i ≤ j → f j = 0) : dn f (i + s) = dn f i * 10 ^ s := by
  induction s with
  | zero => simp
  | succ s ih =>
    rw [show i + (s + 1) = i + s + 1 by omega, dn, ih, hz _ (by omega), Nat.pow_succ, Nat.mul_comm (10 ^ s) 10, Nat.mul_left_comm]
    rfl
theorem dn_div (f : Nat → Nat) (h9 : ∀ j, f j ≤ 9) (i s : Nat) : dn f (i + s) / 10 ^ s = dn f i := by
  obtain ⟨a, b⟩ := dn_add f h9 i s
  have hp : 0 < 10 ^ s := Nat.pow_pos (by omega)
  apply Nat.le_antisymm
  · exact Nat.le_of_lt_succ ((Nat.div_lt_iff_lt_mul hp).2 b)
  · exact (Nat.le_div_iff_mul_le hp).2 a
theorem dn_lt (f : Nat → Nat) (h9 : ∀ j, f j ≤ 9) (i : Nat) : dn f i < 10 ^ i := by
  have h := (dn_add f h9 0 i).2
  rw [Nat.zero_add] at h
  simpa [dn] using h
theorem dn_noughts (f : Nat → Nat) (i : Nat) (h : ∀ j, j < i → f j = 0) : dn f i = 0 := by
  induction i with
  | zero => rfl
  | succ i ih => rw [dn, ih (fun j hj => h j (by omega)), h i (by omega)]
/-- The digits of a text, of a number. -/
def df (l : List UInt8) (j : Nat) : Nat := (l[j]?.map fun c => c.toNat - 48).getD 0
def uf (u L : Nat) (j : Nat) : Nat := if j < L then u / 10 ^ (L - 1 - j) % 10 else 0
theorem df_le (l : List UInt8) (h : ∀ c ∈ l, dig c = true) (j : Nat) : df l j ≤ 9 := by
  unfold df
  by_cases hj : j < l.length
  · rw [List.getElem?_eq_getElem hj]
    have := dig_le (h _ (List.getElem_mem hj))
    simp
    omega
  · rw [List.getElem?_eq_none (by omega)]
    simp
theorem df_past (l : List UInt8) (j : Nat) (h : l.length ≤ j) : df l j = 0 := by
  unfold df
  rw [List.getElem?_eq_none h]
  rfl
theorem df_at (l : List UInt8) (j : Nat) (h : j < l.length) : df l j = (l[j]).toNat - 48 := by
  unfold df
  rw [List.getElem?_eq_getElem h]
  rfl
theorem dn_df (l : List UInt8) : ∀ i, i ≤ l.length → dn (df l) i = num (l.take i) := by
  intro i
  induction i with
  | zero => intro _; simp [dn, num_nil]
  | succ i ih =>
    intro hi
    rw [dn, ih (by omega), List.take_add_one, List.getElem?_eq_getElem (by omega : i < l.length), Option.toList_some, num_snoc, df_at _ _ (by omega)]
theorem dn_df_all (l : List UInt8) : dn (df l) l.length = num l := by
  rw [dn_df l _ (Nat.le_refl _), List.take_length]
theorem uf_le (u L j : Nat) : uf u L j ≤ 9 := by
  unfold uf
  split
  · omega
  · omega
theorem uf_past (u L j : Nat) (h : L ≤ j) : uf u L j = 0 := by
  unfold uf
  rw [if_neg (by omega)]
theorem dn_uf (u L : Nat) (h : u < 10 ^ L) : ∀ i, i ≤ L → dn (uf u L) i = u / 10 ^ (L - i) := by
  intro i
  induction i with
  | zero =>
    intro _
    rw [Nat.sub_zero, Nat.div_eq_of_lt h]
    rfl
  | succ i ih =>
    intro hi
    rw [dn, ih (by omega), uf, if_pos (by omega), show L - i = (L - (i + 1)) + 1 by omega, Nat.pow_succ, ← Nat.div_div_eq_div_mul, show L - 1 - i = L - (i + 1) by omega]
    omega
theorem dn_uf_all (u L : Nat) (h : u < 10 ^ L) : dn (uf u L) L = u := by
  rw [dn_uf u L h L (Nat.le_refl _)]
  simp
/-- Ten to t times the value, where no digit stands so far behind the point. -/
def sc (f : Nat → Nat) (pos : Int) (t : Nat) : Nat := dn f (ic pos (-(t : Int)))
theorem sc_eq (f : Nat → Nat) (pos : Int) (t L : Nat) (hz : ∀ j, L ≤ j → f j = 0) (ht : 0 ≤ pos + 1 - L + t) : sc f pos t = dn f L * 10 ^ (pos + 1 - L + t).toNat := by
  unfold sc ic
  rw [show (pos + 1 - -(t : Int)).toNat = L + (pos + 1 - L + t).toNat by omega]
  exact dn_zero f L _ hz
/-- Of two numbers that part at k, one has the greater value. -/
theorem sc_lt {f g : Nat → Nat} {pf pg k : Int} {t : Nat} (hf : ∀ j, f j ≤ 9) (hg : ∀ j, g j ≤ 9) (hk : 0 ≤ k + t) (h : fl f pf k < fl g pg k) : sc f pf t < sc g pg t := by
  have aux : ∀ (f : Nat → Nat) (pf : Int), (∀ j, f j ≤ 9) → fl f pf k * 10 ^ (k + t).toNat ≤ sc f pf t ∧ sc f pf t < (fl f pf k + 1) * 10 ^ (k + t).toNat := by
    intro f pf hf
    unfold fl sc
    by_cases h1 : k ≤ pf + 1
    · have e : ic pf (-(t : Int)) = ic pf k + (k + t).toNat := by unfold ic; omega
      rw [e]
      exact dn_add f hf _ _
    · have e : ic pf k = 0 := by unfold ic; omega
      rw [e]
      refine ⟨by simp [dn], ?_⟩
      refine Nat.lt_of_lt_of_le (dn_lt f hf _) ?_
      have : 10 ^ ic pf (-(t : Int)) ≤ 10 ^ (k + t).toNat := pow_le (by unfold ic; omega)
      simpa [dn] using this
  obtain ⟨a1, a2⟩ := aux f pf hf
  obtain ⟨b1, b2⟩ := aux g pg hg
  have : (fl f pf k + 1) * 10 ^ (k + t).toNat ≤ fl g pg k * 10 ^ (k + t).toNat := Nat.mul_le_mul_right _ h
  omega
/-- And two that are one down to k, and have nothing behind it, have one value. -/
theorem sc_same {f g : Nat → Nat} {pf pg k : Int} {t : Nat} (hk : 0 ≤ k + t) (hf : ∀ j : Nat, pf - j < k → f j = 0) (hg : ∀ j : Nat, pg - j < k → g j = 0) (h : fl f pf k = fl g pg k) : sc f pf t = sc g pg t := by
  have aux : ∀ (f : Nat → Nat) (pf : Int), (∀ j : Nat, pf - j < k → f j = 0) → sc f pf t = fl f pf k * 10 ^ (k + t).toNat := by
    intro f pf hf
    unfold fl sc
    by_cases h1 : k ≤ pf + 1
    · have e : ic pf (-(t : Int)) = ic pf k + (k + t).toNat := by unfold ic; omega
      rw [e]
      exact dn_zero f _ _ (fun j hj => hf j (by unfold ic at hj; omega))
    · have e : ic pf k = 0 := by unfold ic; omega
      rw [e, dn_noughts f _ (fun j _ => hf j (by omega))]
      simp [dn]
  rw [aux f pf hf, aux g pg hg, h]
theorem cmp3_mul (a b c : Nat) (h : 0 < c) : cmp3 ((a * c : Nat) : Int) ((b * c : Nat) : Int) = cmp3 a b := by
  have h1 : ∀ x y : Nat, x * c < y * c ↔ x < y := fun x y => Nat.mul_lt_mul_right h
  have h2 := h1 a b
  have h3 := h1 b a
  generalize a * c = x at h2 h3 ⊢
  generalize b * c = y at h2 h3 ⊢
  unfold cmp3
  split <;> split <;> (try split) <;> (try split) <;> omega
/-- A key stands to a whole number as the value does. -/
theorem key_cmp (n u t : Nat) (e : Int) (hu : u < 10 ^ 19) (ht : 0 ≤ e + t) : cmp3 (key n e : Int) ((10 * u : Nat) : Int) = cmp3 ((n * 10 ^ (e + t).toNat : Nat) : Int) ((u * 10 ^ t : Nat) : Int) := by
  unfold key
  by_cases he : 0 ≤ e
  · rw [if_pos he, show (e + t).toNat = e.toNat + t by omega, Nat.pow_add, ← Nat.mul_assoc, cmp3_mul _ _ _ (Nat.pow_pos (by omega))]
    generalize n * 10 ^ e.toNat = q
    unfold cap
    split
    · rw [cmp3, if_neg (by omega), if_pos (by omega), cmp3, if_neg (by omega), if_pos (by omega)]
    · simp only [Bool.toNat_false]
      unfold cmp3
      split <;> split <;> (try split) <;> (try split) <;> omega
  · rw [if_neg he]
    obtain ⟨d, hd⟩ : ∃ d : Nat, d = (-e).toNat := ⟨_, rfl⟩
    rw [← hd, show (e + t).toNat = t - d by omega]
    have e2 : u * 10 ^ t = u * 10 ^ d * 10 ^ (t - d) := by
      rw [Nat.mul_assoc, ← Nat.pow_add, show d + (t - d) = t by omega]
    rw [e2, cmp3_mul _ _ _ (Nat.pow_pos (by omega))]
    have hp : 0 < 10 ^ d := Nat.pow_pos (by omega)
    generalize 10 ^ d = D at hp ⊢
    have hdm := Nat.div_add_mod n D
    have hml := Nat.mod_lt n hp
    obtain ⟨q, hq⟩ : ∃ q, q = n / D := ⟨_, rfl⟩
    obtain ⟨r, hr⟩ : ∃ r, r = n % D := ⟨_, rfl⟩
    rw [← hq, ← hr] at hdm ⊢
    rw [← hr] at hml
    rw [Nat.mul_comm] at hdm
    have hlt : n < u * D ↔ q < u := by rw [hq]; exact (Nat.div_lt_iff_lt_mul hp).symm
    have hgt : u * D < n ↔ u < q ∨ u = q ∧ r ≠ 0 := by
      constructor
      · intro h
        rcases Nat.lt_trichotomy u q with h1 | h1 | h1
        · exact .inl h1
        · exact .inr ⟨h1, fun h2 => by subst h1; omega⟩
        · exfalso
          have := hlt.2 h1
          omega
      · rintro (h | ⟨rfl, h⟩)
        · have : (u + 1) * D ≤ q * D := Nat.mul_le_mul_right _ h
          rw [Nat.add_mul, Nat.one_mul] at this
          omega
        · omega
    have hrb : (decide (r ≠ 0)).toNat = if r = 0 then 0 else 1 := by by_cases h : r = 0 <;> simp [h]
    unfold cap
    rw [hrb]
    by_cases h1 : 10 ^ 19 ≤ q
    · rw [if_pos h1, cmp3, if_neg (by omega), if_pos (by omega), cmp3, if_neg (by have := mt hlt.1 (by omega); omega), if_pos (by have := hgt.2 (.inl (by omega)); omega)]
    · rw [if_neg h1]
      rcases Nat.lt_trichotomy q u with h2 | h2 | h2
      · rw [cmp3, if_pos (by split <;> omega), cmp3, if_pos (by have := hlt.2 h2; omega)]
      · by_cases h3 : r = 0
        · rw [if_pos h3, cmp3, if_neg (by omega), if_neg (by omega), cmp3, if_neg (by have := mt hlt.1 (by omega); omega), if_neg (by have := mt hgt.1 (by omega); omega)]
        · rw [if_neg h3, cmp3, if_neg (by omega), if_pos (by omega), cmp3, if_neg (by have := mt hlt.1 (by omega); omega), if_pos (by have := hgt.2 (.inr ⟨h2.symm, h3⟩); omega)]
      · rw [cmp3, if_neg (by split <;> omega), if_pos (by split <;> omega), cmp3, if_neg (by have := mt hlt.1 (by omega); omega), if_pos (by have := hgt.2 (.inl h2); omega)]
/-- The key by digits: what stands ahead of the point, and whether anything stands behind it. -/
theorem key_digits (f : Nat → Nat) (L : Nat) (pos : Int) (hf : ∀ j, f j ≤ 9) (hz : ∀ j, L ≤ j → f j = 0) (i : Nat) (hi : i < L) (hi0 : f i ≠ 0) (hl : ∀ j, i < j → f j = 0) :
    key (dn f L) (pos + 1 - L) = cap (fl f pos 0) (decide (pos - i < 0)) := by
  unfold key fl ic
  by_cases he : 0 ≤ pos + 1 - L
  · rw [if_pos he, show (pos + 1 - 0).toNat = L + (pos + 1 - L).toNat by omega, dn_zero f L _ hz, show decide (pos - (i : Int) < 0) = false from decide_eq_false (by omega)]
  · rw [if_neg he]
    obtain ⟨d, hd⟩ : ∃ d : Nat, d = (-(pos + 1 - L)).toNat := ⟨_, rfl⟩
    rw [← hd]
    have h1 : dn f L / 10 ^ d = dn f (pos + 1 - 0).toNat := by
      by_cases hp : 0 ≤ pos + 1
      · have := dn_div f hf (pos + 1 - 0).toNat d
        rwa [show (pos + 1 - 0).toNat + d = L by omega] at this
      · rw [Nat.div_eq_of_lt (Nat.lt_of_lt_of_le (dn_lt f hf L) (pow_le (by omega))), show (pos + 1 - 0).toNat = 0 by omega]
        rfl
    have h2 : dn f L % 10 ^ d ≠ 0 ↔ pos - i < 0 := by
      have hL := dn_zero f (i + 1) (L - (i + 1)) (fun j hj => hl j (by omega))
      rw [show i + 1 + (L - (i + 1)) = L by omega] at hL
      constructor
      · intro h
        refine Int.not_le.1 fun hn => h ?_
        rw [hL]
        exact Nat.mod_eq_zero_of_dvd (Nat.dvd_trans (Nat.pow_dvd_pow 10 (by omega)) (Nat.dvd_mul_left _ _))
      · intro h hm
        have hdv : 10 ^ (L - i) ∣ dn f L := Nat.dvd_trans (Nat.pow_dvd_pow 10 (by omega)) (Nat.dvd_of_mod_eq_zero hm)
        rw [hL, show L - i = 1 + (L - (i + 1)) by omega, Nat.pow_add] at hdv
        have h3 := Nat.dvd_of_mul_dvd_mul_right (Nat.pow_pos (by omega)) hdv
        rw [dn] at h3
        have := hf i
        omega
    rw [h1]
    congr 1
    exact decide_eq_decide.2 h2
end Nu
end Go.Proofs.YthimbaflodphmaaDoor
