/-
  Numbers as JSON writes them, by mathematics: what a text's parts are, the number that digits make, and a number of at most 21 digits ('key') that stands for a value as far as whole numbers of 64 bits are held against it: ten times the whole part, and one more where something stands behind the point. Of no program.
-/
import Derived.Test.YthimbaflodphmaaDoorRows
namespace Go.Proofs.YthimbaflodphmaaDoor
namespace Nu
def dig (c : UInt8) : Bool := decide (48 ≤ c.toNat) && decide (c.toNat ≤ 57)
/-- How many digits a text begins with. -/
def dc : List UInt8 → Nat
  | [] => 0
  | c :: l => if dig c then dc l + 1 else 0
def has (c : UInt8) : List UInt8 → Bool
  | [] => false
  | x :: _ => x == c
def off (c : UInt8) : List UInt8 → List UInt8
  | [] => []
  | x :: l => if x == c then l else x :: l
/-- The number that digits make. -/
def num (l : List UInt8) : Nat := l.foldl (fun n c => 10 * n + (c.toNat - 48)) 0
structure Pt where
  neg : Bool
  wh : List UInt8
  fr : List UInt8
  eneg : Bool
  ex : List UInt8
/-- What stands behind the whole part and the point's digits. -/
def tail (neg : Bool) (wh fr l : List UInt8) : Option Pt :=
  if l = [] then some ⟨neg, wh, fr, false, []⟩
  else if l.head? = some 101 ∨ l.head? = some 69 then
    if dc (if has 45 (l.drop 1) then off 45 (l.drop 1) else off 43 (l.drop 1)) = 0 then none
    else if (if has 45 (l.drop 1) then off 45 (l.drop 1) else off 43 (l.drop 1)).drop (dc (if has 45 (l.drop 1) then off 45 (l.drop 1) else off 43 (l.drop 1))) = [] then
      some ⟨neg, wh, fr, has 45 (l.drop 1), if has 45 (l.drop 1) then off 45 (l.drop 1) else off 43 (l.drop 1)⟩
    else none
  else none
/-- The parts of an unsigned text's number. -/
def body (neg : Bool) (l : List UInt8) : Option Pt :=
  if dc l = 0 then none
  else if 1 < dc l ∧ l.head? = some 48 then none
  else if (l.drop (dc l)).head? = some 46 then
    if dc ((l.drop (dc l)).drop 1) = 0 then none
    else tail neg (l.take (dc l)) (((l.drop (dc l)).drop 1).take (dc ((l.drop (dc l)).drop 1))) (((l.drop (dc l)).drop 1).drop (dc ((l.drop (dc l)).drop 1)))
  else tail neg (l.take (dc l)) [] (l.drop (dc l))
def read (l : List UInt8) : Option Pt := body (has 45 l) (off 45 l)

theorem dc_le (l : List UInt8) : dc l ≤ l.length := by
  induction l with
  | nil => exact Nat.le_refl 0
  | cons c l ih => rw [dc]; split <;> simp <;> omega
theorem off_le (c : UInt8) (l : List UInt8) : (off c l).length ≤ l.length := by
  cases l with
  | nil => exact Nat.le_refl _
  | cons x l => rw [off]; split <;> simp
theorem dc_digs (l : List UInt8) : ∀ c ∈ l.take (dc l), dig c = true := by
  induction l with
  | nil => simp [dc]
  | cons c l ih =>
    rw [dc]
    split
    · rename_i h
      intro x hx
      rw [List.take_succ_cons] at hx
      rcases List.mem_cons.1 hx with rfl | hx
      · exact h
      · exact ih x hx
    · simp
theorem dc_stop (l : List UInt8) (h : dc l < l.length) : dig (l[dc l]) = false := by
  induction l with
  | nil => simp at h
  | cons c l ih =>
    by_cases hc : dig c = true
    · have e : dc (c :: l) = dc l + 1 := by rw [dc, if_pos hc]
      rw [List.length_cons] at h
      have h2 := ih (by omega)
      simp only [e, List.getElem_cons_succ]
      exact h2
    · have e : dc (c :: l) = 0 := by rw [dc, if_neg hc]
      simp only [e, List.getElem_cons_zero]
      simpa using hc
theorem dc_go (l : List UInt8) (i : Nat) (h : i < dc l) : ∃ h2 : i < l.length, dig (l[i]) = true := by
  have h2 : i < l.length := Nat.lt_of_lt_of_le h (dc_le l)
  refine ⟨h2, dc_digs l _ ?_⟩
  rw [List.mem_iff_getElem]
  exact ⟨i, by simp; omega, by simp⟩
theorem dc_digits (l m : List UInt8) (h : ∀ c ∈ l, dig c = true) : dc (l ++ m) = l.length + dc m := by
  induction l with
  | nil => simp
  | cons c l ih =>
    rw [List.cons_append, dc, if_pos (h c (by simp)), ih (fun x hx => h x (by simp [hx]))]
    simp
    omega
theorem dc_all (l : List UInt8) (h : ∀ c ∈ l, dig c = true) : dc l = l.length := by
  have := dc_digits l [] h
  simpa [dc] using this
theorem dig_le {c : UInt8} (h : dig c = true) : 48 ≤ c.toNat ∧ c.toNat ≤ 57 := by simpa [dig] using h
theorem digs_of_dc (l : List UInt8) (h : l.drop (dc l) = []) : ∀ c ∈ l, dig c = true := by
  have h1 := dc_digs l
  have h2 : l.take (dc l) = l := by
    have := List.take_append_drop (dc l) l
    rw [h, List.append_nil] at this
    exact this
  rwa [h2] at h1

theorem foldl_num (m : List UInt8) : ∀ a : Nat, m.foldl (fun n c => 10 * n + (c.toNat - 48)) a = a * 10 ^ m.length + num m := by
  induction m with
  | nil => intro a; simp [num]
  | cons c m ih =>
    intro a
    rw [List.foldl_cons, ih]
    have e : num (c :: m) = (c.toNat - 48) * 10 ^ m.length + num m := by
      rw [num, List.foldl_cons, ih]
      simp
    rw [e, List.length_cons, Nat.pow_succ, Nat.add_mul]
    rw [Nat.mul_comm 10 a, Nat.mul_assoc, Nat.mul_comm 10 (10 ^ m.length)]
    omega
theorem num_nil : num [] = 0 := rfl
theorem num_cons (c : UInt8) (m : List UInt8) : num (c :: m) = (c.toNat - 48) * 10 ^ m.length + num m := by
  rw [num, List.foldl_cons, foldl_num]
  simp
theorem num_append (a b : List UInt8) : num (a ++ b) = num a * 10 ^ b.length + num b := by
  rw [num, List.foldl_append, foldl_num]
  rfl
theorem num_snoc (a : List UInt8) (c : UInt8) : num (a ++ [c]) = 10 * num a + (c.toNat - 48) := by
  rw [num_append, num_cons]
  simp [num_nil]
  omega
theorem num_lt (l : List UInt8) (h : ∀ c ∈ l, dig c = true) : num l < 10 ^ l.length := by
  induction l with
  | nil => simp [num_nil]
  | cons c m ih =>
    have h1 := dig_le (h c (by simp))
    have h2 := ih (fun x hx => h x (by simp [hx]))
    rw [num_cons, List.length_cons, Nat.pow_succ]
    have h3 : (c.toNat - 48) * 10 ^ m.length ≤ 9 * 10 ^ m.length := Nat.mul_le_mul_right _ (by omega)
    omega
theorem num_ge (c : UInt8) (m : List UInt8) (hc : 49 ≤ c.toNat) : 10 ^ m.length ≤ num (c :: m) := by
  rw [num_cons]
  have h3 : 1 * 10 ^ m.length ≤ (c.toNat - 48) * 10 ^ m.length := Nat.mul_le_mul_right _ (by omega)
  omega
theorem num_nought (m : List UInt8) : num (48 :: m) = num m := by
  rw [num_cons]
  simp
/-- Noughts ahead of the other digits go. -/
def unled : List UInt8 → List UInt8
  | [] => []
  | c :: l => if c == 48 then unled l else c :: l
theorem num_unled (l : List UInt8) : num (unled l) = num l := by
  induction l with
  | nil => rfl
  | cons c l ih =>
    rw [unled]
    split
    · rename_i h
      obtain rfl : c = 48 := by simpa using h
      rw [ih, num_nought]
    · rfl
theorem unled_digs (l : List UInt8) (h : ∀ c ∈ l, dig c = true) : ∀ c ∈ unled l, dig c = true := by
  induction l with
  | nil => simp [unled]
  | cons c l ih =>
    rw [unled]
    split
    · exact ih (fun x hx => h x (by simp [hx]))
    · exact h
theorem unled_le (l : List UInt8) : (unled l).length ≤ l.length := by
  induction l with
  | nil => simp [unled]
  | cons c l ih => rw [unled]; split <;> simp <;> omega
theorem unled_head (l : List UInt8) (h : ∀ c ∈ l, dig c = true) : unled l = [] ∨ ∃ c m, unled l = c :: m ∧ 49 ≤ c.toNat := by
  induction l with
  | nil => exact .inl rfl
  | cons c l ih =>
    rw [unled]
    split
    · exact ih (fun x hx => h x (by simp [hx]))
    · rename_i hc
      refine .inr ⟨c, l, rfl, ?_⟩
      have h1 := dig_le (h c (by simp))
      have h2 : c.toNat ≠ 48 := by
        intro e
        apply hc
        have : c = 48 := UInt8.toNat_inj.1 (by simpa using e)
        simp [this]
      omega
theorem unled_nil (l : List UInt8) (h : ∀ c ∈ l, dig c = true) : unled l = [] ↔ num l = 0 := by
  constructor
  · intro e
    rw [← num_unled, e]
    rfl
  · intro e
    rcases unled_head l h with h1 | ⟨c, m, h1, h2⟩
    · exact h1
    · have h3 := num_ge c m h2
      rw [← h1, num_unled, e] at h3
      have : 0 < 10 ^ m.length := Nat.pow_pos (by omega)
      omega
theorem num_zeros (k : Nat) : num (List.replicate k 48) = 0 := by
  induction k with
  | zero => rfl
  | succ k ih => rw [List.replicate_succ, num_nought, ih]
theorem num_pad (l : List UInt8) (k : Nat) : num (l ++ List.replicate k 48) = num l * 10 ^ k := by
  rw [num_append, num_zeros]
  simp
theorem unled_split (l : List UInt8) (h : ∀ c ∈ l, dig c = true) (e : unled l = []) : l = List.replicate l.length 48 := by
  induction l with
  | nil => rfl
  | cons c l ih =>
    rw [unled] at e
    split at e
    · rename_i hc
      obtain rfl : c = 48 := by simpa using hc
      rw [List.length_cons, List.replicate_succ, ← ih (fun x hx => h x (by simp [hx])) e]
    · cases e

/-- A value as it is held against whole numbers: from 10 ^ 19 on all are one. -/
def cap (q : Nat) (r : Bool) : Nat := if 10 ^ 19 ≤ q then 10 ^ 20 else 10 * q + r.toNat
def key (n : Nat) (e : Int) : Nat :=
  if 0 ≤ e then cap (n * 10 ^ e.toNat) false else cap (n / 10 ^ (-e).toNat) (decide (n % 10 ^ (-e).toNat ≠ 0))
def Pt.e (p : Pt) : Int := (if p.eneg then -(num p.ex : Int) else (num p.ex : Int)) - p.fr.length
def Pt.n (p : Pt) : Nat := num (p.wh ++ p.fr)
def Pt.key (p : Pt) : Nat := Nu.key p.n p.e
def Pt.val (p : Pt) : Int := if p.neg then -(p.key : Int) else (p.key : Int)
structure Pt.Ok (p : Pt) (m : Nat) : Prop where
  wh : ∀ c ∈ p.wh, dig c = true
  fr : ∀ c ∈ p.fr, dig c = true
  ex : ∀ c ∈ p.ex, dig c = true
  le : p.wh.length + p.fr.length + p.ex.length ≤ m
theorem cap_le (q : Nat) (r : Bool) : cap q r ≤ 10 ^ 20 := by
  unfold cap
  split
  · exact Nat.le_refl _
  · cases r <;> simp <;> omega
theorem key_le (n : Nat) (e : Int) : key n e ≤ 10 ^ 20 := by
  unfold key
  split <;> exact cap_le _ _
theorem key_nat (u : Nat) (h : u < 10 ^ 19) : key u 0 = 10 * u := by
  rw [key, if_pos (Int.le_refl 0), cap, if_neg (by simp; omega)]
  simp
theorem key_zero (e : Int) : key 0 e = 0 := by
  unfold key
  split <;> simp [cap]
theorem key_pos (n : Nat) (e : Int) (h : n ≠ 0) : key n e ≠ 0 := by
  unfold key
  split
  · have : 0 < n * 10 ^ e.toNat := Nat.mul_pos (by omega) (Nat.pow_pos (by omega))
    unfold cap
    split <;> omega
  · unfold cap
    split
    · omega
    · intro h2
      have h3 : n / 10 ^ (-e).toNat = 0 := by omega
      have h4 : (decide (n % 10 ^ (-e).toNat ≠ 0)).toNat = 0 := by omega
      have h5 := Nat.div_add_mod n (10 ^ (-e).toNat)
      rw [h3] at h5
      have h6 : n % 10 ^ (-e).toNat ≠ 0 := by omega
      rw [decide_eq_true h6] at h4
      cases h4
/-- Noughts at the end, and an exponent that takes them back. -/
theorem key_shift (n k : Nat) (e : Int) (h2 : 0 ≤ e) : key (n * 10 ^ k) (e - k) = key n e := by
  unfold key
  by_cases h3 : 0 ≤ e - (k : Int)
  · rw [if_pos h3, if_pos h2, Nat.mul_assoc, ← Nat.pow_add]
    congr 2
    congr 1
    omega
  · rw [if_neg h3, if_pos h2]
    have e1 : k = e.toNat + (-(e - (k : Int))).toNat := by omega
    have e2 : n * 10 ^ k = n * 10 ^ e.toNat * 10 ^ (-(e - (k : Int))).toNat := by
      rw [Nat.mul_assoc, ← Nat.pow_add, ← e1]
    have hp : 0 < 10 ^ (-(e - (k : Int))).toNat := Nat.pow_pos (by omega)
    rw [e2, Nat.mul_div_cancel _ hp, Nat.mul_mod_left]
    rfl
theorem pow_le {a b : Nat} (h : a ≤ b) : 10 ^ a ≤ 10 ^ b := Nat.pow_le_pow_right (by omega) h
/-- Of a first digit that isn't 0: as it stands so far ahead of the point, the value is beyond all. -/
theorem key_big (n L : Nat) (e : Int) (h1 : 10 ^ (L - 1) ≤ n) (hL : 1 ≤ L) (h : 19 < (L : Int) + e) : key n e = 10 ^ 20 := by
  unfold key
  split
  · rename_i h2
    unfold cap
    rw [if_pos]
    have h3 : 10 ^ (L - 1) * 10 ^ e.toNat ≤ n * 10 ^ e.toNat := Nat.mul_le_mul_right _ h1
    rw [← Nat.pow_add] at h3
    exact Nat.le_trans (pow_le (by omega)) h3
  · rename_i h2
    unfold cap
    rw [if_pos]
    have hp : 0 < 10 ^ (-e).toNat := Nat.pow_pos (by omega)
    rw [Nat.le_div_iff_mul_le hp, ← Nat.pow_add]
    exact Nat.le_trans (pow_le (by omega)) h1
theorem key_small (n L : Nat) (e : Int) (h1 : n < 10 ^ L) (h : (L : Int) + e ≤ 0) : key n e = if n = 0 then 0 else 1 := by
  by_cases hn : n = 0
  · rw [if_pos hn, hn, key_zero]
  · rw [if_neg hn]
    unfold key
    by_cases h2 : 0 ≤ e
    · have h3 : L = 0 := by omega
      rw [h3] at h1
      omega
    · rw [if_neg h2]
      have h3 : n < 10 ^ (-e).toNat := Nat.lt_of_lt_of_le h1 (pow_le (by omega))
      rw [Nat.div_eq_of_lt h3, Nat.mod_eq_of_lt h3, decide_eq_true hn]
      rfl
/-- An exponent that is beyond all digits counts as another one that is. -/
theorem key_far (n L : Nat) (a b : Int) (_h1 : n < 10 ^ L) (ha : (L : Int) + 20 < a) (hb : (L : Int) + 20 < b) : key n a = key n b := by
  by_cases hn : n = 0
  · rw [hn, key_zero, key_zero]
  · rw [key_big n 1 a (by simp; omega) (by omega) (by omega), key_big n 1 b (by simp; omega) (by omega) (by omega)]
theorem key_near (n L : Nat) (a b : Int) (h1 : n < 10 ^ L) (ha : (L : Int) + a ≤ 0) (hb : (L : Int) + b ≤ 0) : key n a = key n b := by
  rw [key_small n L a h1 ha, key_small n L b h1 hb]
/-- The exponent as it is told, cut at C. -/
def clip (C : Nat) (p : Pt) : Int := if p.eneg then -(min (num p.ex) C : Nat) else ((min (num p.ex) C : Nat) : Int)
theorem key_clip (C : Nat) (p : Pt) (m : Nat) (hp : p.Ok m) (hC : 2 * m + 100 < C) : Nu.key p.n (clip C p - p.fr.length) = p.key := by
  unfold Pt.key Pt.e clip
  have h1 : p.n < 10 ^ (p.wh ++ p.fr).length := num_lt _ (fun c hc => (List.mem_append.1 hc).elim (hp.wh c) (hp.fr c))
  rw [List.length_append] at h1
  have h2 := hp.le
  by_cases h : num p.ex ≤ C
  · rw [Nat.min_eq_left h]
  · rw [Nat.min_eq_right (by omega)]
    cases p.eneg
    · simp only [Bool.false_eq_true, if_false]
      exact key_far _ _ _ _ h1 (by omega) (by omega)
    · simp only [if_true]
      exact key_near _ _ _ _ h1 (by omega) (by omega)
/-- Digits one by one, cut at C on the way. -/
theorem clip_step (n d C : Nat) : min (10 * min n C + d) C = min (10 * n + d) C := by omega
theorem clip_snoc (l : List UInt8) (c : UInt8) (C : Nat) : min (10 * min (num l) C + (c.toNat - 48)) C = min (num (l ++ [c])) C := by
  rw [num_snoc]
  exact clip_step _ _ _
/-- A key's columns: its 21 digits. -/
def col (K : Nat) : List Nat := (List.range 21).map fun i => 48 + K / 10 ^ (20 - i) % 10
theorem col_length (K : Nat) : (col K).length = 21 := by simp [col]
theorem col_at (K i : Nat) (h : i < 21) : (col K)[i]? = some (48 + K / 10 ^ (20 - i) % 10) := by
  rw [col, List.getElem?_map, List.getElem?_range h]
  rfl
/-- The columns of a number that digits make are those digits. -/
theorem num_at (l : List UInt8) (h : ∀ c ∈ l, dig c = true) (i : Nat) (hi : i < l.length) : num l / 10 ^ (l.length - 1 - i) % 10 = (l[i]).toNat - 48 := by
  have e := List.take_append_drop (i + 1) l
  have e2 : l.take (i + 1) = l.take i ++ [l[i]] := by rw [List.take_add_one, List.getElem?_eq_getElem hi]; rfl
  have hd := dig_le (h l[i] (List.getElem_mem hi))
  have h1 : num (l.drop (i + 1)) < 10 ^ (l.length - 1 - i) := by
    have := num_lt (l.drop (i + 1)) (fun c hc => h c (List.mem_of_mem_drop hc))
    rw [List.length_drop] at this
    rwa [show l.length - 1 - i = l.length - (i + 1) by omega]
  have h2 : num l = (10 * num (l.take i) + ((l[i]).toNat - 48)) * 10 ^ (l.length - 1 - i) + num (l.drop (i + 1)) := by
    conv => lhs; rw [← e, num_append, e2, num_snoc, List.length_drop]
    rw [show l.length - 1 - i = l.length - (i + 1) by omega]
  have hp : 0 < 10 ^ (l.length - 1 - i) := Nat.pow_pos (by omega)
  rw [h2, Nat.add_comm, Nat.add_mul_div_right _ _ hp, Nat.div_eq_of_lt h1]
  omega
theorem col_num (l : List UInt8) (h : ∀ c ∈ l, dig c = true) (hl : l.length = 21) : col (num l) = l.map (·.toNat) := by
  apply List.ext_getElem
  · rw [col_length, List.length_map, hl]
  · intro i h1 h2
    have hi : i < l.length := by rw [hl]; rwa [col_length] at h1
    have h3 := num_at l h i hi
    have hd := dig_le (h l[i] (List.getElem_mem hi))
    rw [List.getElem_map]
    have h4 := col_at (num l) i (by omega)
    rw [List.getElem?_eq_getElem h1] at h4
    rw [Option.some.inj h4]
    rw [hl] at h3
    rw [show 20 - i = 21 - 1 - i by omega, h3]
    omega
end Nu
end Go.Proofs.YthimbaflodphmaaDoor
