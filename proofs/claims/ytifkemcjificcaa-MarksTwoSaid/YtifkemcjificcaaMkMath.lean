/-
  The marks of a record, by mathematics alone: where they stand, their bits; texts put together, and cut off.
-/
import Derived.Test.YtifkemcjificcaaJsStep
namespace Go.Proofs.Ytifkemcjificcaa
namespace Mk
/-- One of the six. -/
def isM (b : Nat) : Bool := b == 91 || b == 93 || b == 123 || b == 125 || b == 58 || b == 44
/-- The state behind a byte: 0 outside of strings, 1 within one, 2 behind 5c. -/
def st (q b : Nat) : Nat := if q = 0 then (if b = 34 then 1 else 0) else if q = 1 then (if b = 34 then 0 else if b = 92 then 2 else 1) else 1
def run : Nat → List UInt8 → Nat
  | q, [] => q
  | q, b :: l => run (st q b.toNat) l
/-- The marks' places, the first byte's being i. -/
def pl : Nat → Nat → List UInt8 → List Nat
  | _, _, [] => []
  | q, i, b :: l => if q = 0 ∧ isM b.toNat = true then i :: pl 0 (i + 1) l else pl (st q b.toNat) (i + 1) l
/-- A mark's two bits. -/
def two (b : Nat) : List Bool := [b == 91 || b == 123, !(b == 93 || b == 125)]
def bs : Nat → List UInt8 → List Bool
  | _, [] => []
  | q, b :: l => if q = 0 ∧ isM b.toNat = true then two b.toNat ++ bs 0 l else bs (st q b.toNat) l
/-- With blanks about each mark. -/
def sp : Nat → List UInt8 → List UInt8
  | _, [] => []
  | q, b :: l => if q = 0 ∧ isM b.toNat = true then 32 :: b :: 10 :: sp 0 l else b :: sp (st q b.toNat) l
theorem isM_iff (b : Nat) : isM b = true ↔ b = 91 ∨ b = 93 ∨ b = 123 ∨ b = 125 ∨ b = 58 ∨ b = 44 := by
  unfold isM
  simp only [Bool.or_eq_true, beq_iff_eq]
  omega
theorem st_mark (b : Nat) (h : isM b = true) : st 0 b = 0 := by
  have := (isM_iff b).1 h
  unfold st
  rw [if_pos rfl, if_neg (by omega)]
theorem st_le (q b : Nat) : st q b ≤ 2 := by
  unfold st
  repeat' split
  all_goals omega
theorem pl_mark (i : Nat) (b : UInt8) (l : List UInt8) (h : isM b.toNat = true) : pl 0 i (b :: l) = i :: pl 0 (i + 1) l := if_pos ⟨rfl, h⟩
theorem pl_other (q i : Nat) (b : UInt8) (l : List UInt8) (h : ¬ (q = 0 ∧ isM b.toNat = true)) : pl q i (b :: l) = pl (st q b.toNat) (i + 1) l := if_neg h
theorem bs_mark (b : UInt8) (l : List UInt8) (h : isM b.toNat = true) : bs 0 (b :: l) = two b.toNat ++ bs 0 l := if_pos ⟨rfl, h⟩
theorem bs_other (q : Nat) (b : UInt8) (l : List UInt8) (h : ¬ (q = 0 ∧ isM b.toNat = true)) : bs q (b :: l) = bs (st q b.toNat) l := if_neg h
theorem sp_mark (b : UInt8) (l : List UInt8) (h : isM b.toNat = true) : sp 0 (b :: l) = 32 :: b :: 10 :: sp 0 l := if_pos ⟨rfl, h⟩
theorem sp_other (q : Nat) (b : UInt8) (l : List UInt8) (h : ¬ (q = 0 ∧ isM b.toNat = true)) : sp q (b :: l) = b :: sp (st q b.toNat) l := if_neg h
theorem run_app (q : Nat) (l m : List UInt8) : run q (l ++ m) = run (run q l) m := by
  induction l generalizing q with
  | nil => rfl
  | cons b l ih => exact ih _
theorem run_mark (b : UInt8) (l : List UInt8) (h : isM b.toNat = true) : run 0 (b :: l) = run 0 l := by
  show run (st 0 b.toNat) l = _
  rw [st_mark _ h]
theorem pl_app (l : List UInt8) : ∀ (q i : Nat) (m : List UInt8), pl q i (l ++ m) = pl q i l ++ pl (run q l) (i + l.length) m := by
  induction l with
  | nil => intro q i m; rfl
  | cons b l ih =>
    intro q i m
    rw [List.cons_append]
    by_cases h : q = 0 ∧ isM b.toNat = true
    · obtain ⟨rfl, h⟩ := h
      rw [pl_mark i b _ h, pl_mark i b _ h, ih, run_mark b l h, List.length_cons, List.cons_append, show i + 1 + l.length = i + (l.length + 1) by omega]
    · rw [pl_other q i b _ h, pl_other q i b _ h, ih, List.length_cons, show i + 1 + l.length = i + (l.length + 1) by omega]
      rfl
theorem pl_shift (l : List UInt8) : ∀ (q i k : Nat), pl q (i + k) l = (pl q i l).map (· + k) := by
  induction l with
  | nil => intro q i k; rfl
  | cons b l ih =>
    intro q i k
    by_cases h : q = 0 ∧ isM b.toNat = true
    · obtain ⟨rfl, h⟩ := h
      rw [pl_mark _ b _ h, pl_mark _ b _ h, List.map_cons, ← ih 0 (i + 1) k, show i + 1 + k = i + k + 1 by omega]
    · rw [pl_other q _ b _ h, pl_other q _ b _ h, ← ih _ (i + 1) k, show i + 1 + k = i + k + 1 by omega]
theorem bs_app (l : List UInt8) : ∀ (q : Nat) (m : List UInt8), bs q (l ++ m) = bs q l ++ bs (run q l) m := by
  induction l with
  | nil => intro q m; rfl
  | cons b l ih =>
    intro q m
    rw [List.cons_append]
    by_cases h : q = 0 ∧ isM b.toNat = true
    · obtain ⟨rfl, h⟩ := h
      rw [bs_mark b _ h, bs_mark b _ h, ih, run_mark b l h, List.append_assoc]
    · rw [bs_other q b _ h, bs_other q b _ h, ih]
      rfl
theorem sp_app (l : List UInt8) : ∀ (q : Nat) (m : List UInt8), sp q (l ++ m) = sp q l ++ sp (run q l) m := by
  induction l with
  | nil => intro q m; rfl
  | cons b l ih =>
    intro q m
    rw [List.cons_append]
    by_cases h : q = 0 ∧ isM b.toNat = true
    · obtain ⟨rfl, h⟩ := h
      rw [sp_mark b _ h, sp_mark b _ h, ih, run_mark b l h]
      rfl
    · rw [sp_other q b _ h, sp_other q b _ h, ih]
      rfl
/-- Where there is no mark. -/
theorem sp_none (l : List UInt8) : ∀ (q i : Nat), pl q i l = [] → sp q l = l ∧ bs q l = [] := by
  induction l with
  | nil => intro q i _; exact ⟨rfl, rfl⟩
  | cons b l ih =>
    intro q i h
    by_cases hm : q = 0 ∧ isM b.toNat = true
    · obtain ⟨rfl, hm⟩ := hm
      rw [pl_mark i b l hm] at h
      cases h
    · rw [pl_other q i b l hm] at h
      have := ih _ _ h
      rw [sp_other q b l hm, bs_other q b l hm, this.1, this.2]
      exact ⟨rfl, rfl⟩
/-- The first mark. -/
theorem pl_cons (l : List UInt8) : ∀ (q i p : Nat) (ps : List Nat), pl q i l = p :: ps → ∃ (a : List UInt8) (b : UInt8) (r : List UInt8), l = a ++ b :: r ∧ p = i + a.length ∧ pl q i a = [] ∧ run q a = 0 ∧ isM b.toNat = true ∧ ps = pl 0 (p + 1) r := by
  induction l with
  | nil => intro q i p ps h; cases h
  | cons b l ih =>
    intro q i p ps h
    by_cases hm : q = 0 ∧ isM b.toNat = true
    · obtain ⟨rfl, hm⟩ := hm
      rw [pl_mark i b l hm] at h
      obtain ⟨rfl, rfl⟩ := List.cons.inj h
      exact ⟨[], b, l, rfl, rfl, rfl, rfl, hm, rfl⟩
    · rw [pl_other q i b l hm] at h
      obtain ⟨a, b2, r, h1, h2, h3, h4, h5, h6⟩ := ih _ _ p ps h
      refine ⟨b :: a, b2, r, by rw [h1]; rfl, by rw [h2, List.length_cons]; omega, ?_, h4, h5, h6⟩
      rw [pl_other q i b a hm]
      exact h3
theorem two_len (b : Nat) : (two b).length = 2 := rfl
theorem bs_len (l : List UInt8) : ∀ (q i : Nat), (bs q l).length = 2 * (pl q i l).length := by
  induction l with
  | nil => intro q i; rfl
  | cons b l ih =>
    intro q i
    by_cases hm : q = 0 ∧ isM b.toNat = true
    · obtain ⟨rfl, hm⟩ := hm
      rw [bs_mark b l hm, pl_mark i b l hm, List.length_append, two_len, List.length_cons, ih 0 (i + 1)]
      omega
    · rw [bs_other q b l hm, pl_other q i b l hm, ih _ (i + 1)]
theorem pl_lt (l : List UInt8) : ∀ (q i p : Nat), p ∈ pl q i l → i ≤ p ∧ p < i + l.length := by
  induction l with
  | nil => intro q i p h; exact absurd h List.not_mem_nil
  | cons b l ih =>
    intro q i p h
    rw [List.length_cons]
    by_cases hm : q = 0 ∧ isM b.toNat = true
    · obtain ⟨rfl, hm⟩ := hm
      rw [pl_mark i b l hm] at h
      rcases List.mem_cons.1 h with rfl | h
      · omega
      · have := ih _ _ p h
        omega
    · rw [pl_other q i b l hm] at h
      have := ih _ _ p h
      omega
/-- Blanks about the marks change their bits not. -/
theorem bs_sp (l : List UInt8) : ∀ q, bs q (sp q l) = bs q l := by
  induction l with
  | nil => intro q; rfl
  | cons b l ih =>
    intro q
    by_cases hm : q = 0 ∧ isM b.toNat = true
    · obtain ⟨rfl, hm⟩ := hm
      rw [sp_mark b l hm, bs_mark b l hm, bs_other 0 32 _ (by decide)]
      show bs 0 (b :: 10 :: sp 0 l) = _
      rw [bs_mark b _ hm, bs_other 0 10 _ (by decide)]
      show two b.toNat ++ bs 0 (sp 0 l) = _
      rw [ih]
    · rw [sp_other q b l hm, bs_other q b l hm, bs_other q b _ hm, ih]
/-- The bits by the places. -/
theorem bs_by (l : List UInt8) : ∀ (q i : Nat) (m : List UInt8), i = m.length → bs q l = (pl q i l).flatMap fun p => two ((m ++ l).getD p 0).toNat := by
  induction l with
  | nil => intro q i m _; rfl
  | cons b l ih =>
    intro q i m hi
    have hb : (m ++ b :: l).getD i 0 = b := by
      rw [hi, List.getD_eq_getElem?_getD, List.getElem?_append_right (Nat.le_refl _), Nat.sub_self]
      rfl
    have hm2 : m ++ b :: l = (m ++ [b]) ++ l := by rw [List.append_assoc]; rfl
    have hl : i + 1 = (m ++ [b]).length := by rw [List.length_append, hi]; rfl
    by_cases hm : q = 0 ∧ isM b.toNat = true
    · obtain ⟨rfl, hm⟩ := hm
      rw [bs_mark b l hm, pl_mark i b l hm, List.flatMap_cons, hb, ih 0 (i + 1) (m ++ [b]) hl, hm2]
    · rw [bs_other q b l hm, pl_other q i b l hm, ih _ (i + 1) (m ++ [b]) hl, hm2]
end Mk
end Go.Proofs.Ytifkemcjificcaa
