/-
  UTF-8, by mathematics alone: which bytes are the beginning of a scalar's, and how some bytes tell it.
-/
import Derived.Test.YtifkemcjificcaaUtSc
namespace Go.Proofs.Ytifkemcjificcaa
namespace Ut
/-- Bytes that go on, x behind one alone. -/
def ext (x : UInt8) (p : List UInt8) : Nat → List UInt8
  | 0 => p
  | j + 1 => ext x p j ++ [if (ext x p j).length = 1 then x else 128]
theorem ext_length (x : UInt8) (p : List UInt8) (j : Nat) : (ext x p j).length = p.length + j := by
  induction j with
  | zero => rfl
  | succ j ih =>
    unfold ext
    rw [List.length_append, ih]
    rfl
theorem ext_app (x : UInt8) (p : List UInt8) (j : Nat) : ∃ e : List UInt8, ext x p j = p ++ e ∧ e.length = j := by
  induction j with
  | zero => exact ⟨[], by rw [List.append_nil]; rfl, rfl⟩
  | succ j ih =>
    obtain ⟨e, h1, h2⟩ := ih
    refine ⟨e ++ [if (ext x p j).length = 1 then x else 128], ?_, ?_⟩
    · rw [← List.append_assoc, ← h1]
      rfl
    · rw [List.length_append, h2]
      rfl
/-- Some scalar's bytes begin so, and go on. -/
def Par (p : List UInt8) : Prop := run 0 p ≠ 8 ∧ ld 0 p = 0
/-- The same, as it is told. -/
def parB (p : List UInt8) : Bool := decide (run 0 p ≠ 8 ∧ ld 0 p = 0)
theorem parB_yes (p : List UInt8) (h : Par p) : parB p = true := decide_eq_true h
theorem parB_no (p : List UInt8) (h : ¬ Par p) : parB p = false := decide_eq_false h
theorem parB_iff (p : List UInt8) (q : Prop) [Decidable q] (h : Par p ↔ q) : parB p = decide q := by
  by_cases hq : q
  · rw [decide_eq_true hq, parB_yes p (h.2 hq)]
  · rw [decide_eq_false hq, parB_no p (fun hp => hq (h.1 hp))]
/-- What is tried as the second byte. -/
def plo (i : Nat) : UInt8 := if i = 0 then 128 else if i = 1 then 160 else 144
def phi (i : Nat) : UInt8 := if i = 0 then 191 else if i = 1 then 159 else 143
def px (i k : Nat) : UInt8 := if k % 2 = 0 then plo i else phi i
/-- It isn't hit. -/
def Ms (p : List UInt8) (i k j : Nat) : Prop := ld 0 (ext (px i k) p j) ≠ p.length + j
theorem ld_app (q : Nat) (p e : List UInt8) (h : ld q p = 0) (h8 : run q p ≠ 8) : ld q (p ++ e) = if ld (run q p) e = 0 then 0 else p.length + ld (run q p) e := by
  induction p generalizing q with
  | nil =>
    show ld q e = if ld q e = 0 then 0 else 0 + ld q e
    split
    · assumption
    · rw [Nat.zero_add]
  | cons b p ih =>
    rw [ld_cons] at h
    have hb8 : st q b.toNat ≠ 8 := by
      intro e
      apply h8
      show run (st q b.toNat) p = 8
      rw [e, run_dead]
    by_cases h0 : st q b.toNat = 0
    · rw [if_pos h0] at h
      cases h
    · rw [if_neg h0, if_neg hb8] at h
      have hl : ld (st q b.toNat) p = 0 := by
        by_cases hl : ld (st q b.toNat) p = 0
        · exact hl
        · rw [if_neg hl] at h
          cases h
      rw [List.cons_append, ld_cons, if_neg h0, if_neg hb8, ih _ hl h8]
      show _ = if ld (run (st q b.toNat) p) e = 0 then 0 else (b :: p).length + ld (run (st q b.toNat) p) e
      split
      · rfl
      · rename_i h1
        rw [if_neg (by omega), List.length_cons]
        omega
theorem par_of_hit (x : UInt8) (p : List UInt8) (j : Nat) (h0 : 0 < p.length) (hj : 0 < j) (h : ld 0 (ext x p j) = p.length + j) : Par p := by
  obtain ⟨e, he, hl⟩ := ext_app x p j
  rw [he] at h
  have hs := (ld_some 0 (p ++ e) (by omega)).2
  constructor
  · have := (hs p.length h0 (by omega)).2
    rw [List.take_left'  rfl] at this
    exact this
  · refine ld_zero_of 0 p (fun i h1 h2 => ?_)
    have := (hs i h1 (by omega)).1
    rw [List.take_append_of_le_length h2] at this
    exact this
theorem hit_app (i k j : Nat) (p : List UInt8) (h : Par p) (e : List UInt8) (he : ext (px i k) p j = p ++ e) (hl : ld (run 0 p) e = j) (hj : 0 < j) : ¬ Ms p i k j := by
  intro hm
  apply hm
  rw [he, ld_app 0 p e h.2 h.1, hl, if_neg (by omega)]
theorem hit_of_par (p : List UInt8) (h0 : 0 < p.length) (h3 : p.length ≤ 3) (h : Par p) : ∃ i k j, i < 3 ∧ k < 3 ∧ 0 < j ∧ p.length + j ≤ 4 ∧ ¬ Ms p i k j := by
  match p, h0, h3, h with
  | [a], _, _, h =>
    have e : run 0 [a] = st 0 a.toNat := rfl
    have h1 := h.1
    have h2 := h.2
    rw [e] at h1
    rcases st0 a.toNat with ⟨h3, e2⟩ | ⟨_, _, e2⟩ | ⟨_, _, e2⟩ | ⟨h3, e2⟩ | ⟨h3, e2⟩ | ⟨h3, _, _, e2⟩ | ⟨h3, e2⟩ | ⟨h3, _, e2⟩ | ⟨h3, e2⟩ | ⟨h3, e2⟩
    · rw [ld_byte a [] h3] at h2
      cases h2
    · exact absurd e2 h1
    · exact ⟨0, 0, 1, by decide, by decide, by decide, by simp, hit_app 0 0 1 [a] h [128] rfl (by rw [e, e2]; decide) (by decide)⟩
    · exact ⟨1, 0, 2, by decide, by decide, by decide, by simp, hit_app 1 0 2 [a] h [160, 128] rfl (by rw [e, e2]; decide) (by decide)⟩
    · exact ⟨0, 0, 2, by decide, by decide, by decide, by simp, hit_app 0 0 2 [a] h [128, 128] rfl (by rw [e, e2]; decide) (by decide)⟩
    · exact ⟨0, 0, 2, by decide, by decide, by decide, by simp, hit_app 0 0 2 [a] h [128, 128] rfl (by rw [e, e2]; decide) (by decide)⟩
    · exact ⟨2, 0, 3, by decide, by decide, by decide, by simp, hit_app 2 0 3 [a] h [144, 128, 128] rfl (by rw [e, e2]; decide) (by decide)⟩
    · exact ⟨0, 0, 3, by decide, by decide, by decide, by simp, hit_app 0 0 3 [a] h [128, 128, 128] rfl (by rw [e, e2]; decide) (by decide)⟩
    · exact ⟨0, 0, 3, by decide, by decide, by decide, by simp, hit_app 0 0 3 [a] h [128, 128, 128] rfl (by rw [e, e2]; decide) (by decide)⟩
    · exact absurd e2 h1
  | [a, b], _, _, h =>
    have hq : run 0 [a, b] = 1 ∨ run 0 [a, b] = 2 := by
      have e : run 0 [a, b] = st (st 0 a.toNat) b.toNat := rfl
      have h1 := h.1
      have h2 := h.2
      have h4 := ld_none 0 [a, b] h2 2 (by decide) (by simp)
      rw [show run 0 ([a, b].take 2) = st (st 0 a.toNat) b.toNat from rfl] at h4
      have h5 := ld_none 0 [a, b] h2 1 (by decide) (by simp)
      rw [show run 0 ([a, b].take 1) = st 0 a.toNat from rfl] at h5
      rw [e] at h1 ⊢
      obtain ⟨q, hq⟩ : ∃ q, q = st 0 a.toNat := ⟨_, rfl⟩
      have hle := st_le 0 a.toNat
      rw [← hq] at h1 h4 h5 hle ⊢
      obtain rfl | rfl | rfl | rfl | rfl | rfl | rfl | rfl | rfl : q = 0 ∨ q = 1 ∨ q = 2 ∨ q = 3 ∨ q = 4 ∨ q = 5 ∨ q = 6 ∨ q = 7 ∨ q = 8 := by omega
      · exact absurd rfl h5
      all_goals simp only [st] at h1 h4 ⊢
      all_goals first | exact absurd rfl h1 | (split at h1 <;> simp_all)
    rcases hq with e | e
    · exact ⟨0, 0, 1, by decide, by decide, by decide, by simp, hit_app 0 0 1 [a, b] h [128] rfl (by rw [e]; decide) (by decide)⟩
    · exact ⟨0, 0, 2, by decide, by decide, by decide, by simp, hit_app 0 0 2 [a, b] h [128, 128] rfl (by rw [e]; decide) (by decide)⟩
  | [a, b, c], _, _, h =>
    have hq : run 0 [a, b, c] = 1 := by
      have e : run 0 [a, b, c] = st (st (st 0 a.toNat) b.toNat) c.toNat := rfl
      have h1 := h.1
      have h2 := h.2
      have h4 := ld_none 0 [a, b, c] h2 2 (by decide) (by simp)
      rw [show run 0 ([a, b, c].take 2) = st (st 0 a.toNat) b.toNat from rfl] at h4
      have h5 := ld_none 0 [a, b, c] h2 1 (by decide) (by simp)
      rw [show run 0 ([a, b, c].take 1) = st 0 a.toNat from rfl] at h5
      have h6 := ld_none 0 [a, b, c] h2 3 (by decide) (by simp)
      rw [show run 0 ([a, b, c].take 3) = st (st (st 0 a.toNat) b.toNat) c.toNat from rfl] at h6
      rw [e] at h1 ⊢
      obtain ⟨q, hq⟩ : ∃ q, q = st 0 a.toNat := ⟨_, rfl⟩
      have hle := st_le 0 a.toNat
      rw [← hq] at h1 h4 h5 h6 hle ⊢
      obtain ⟨r, hr⟩ : ∃ r, r = st q b.toNat := ⟨_, rfl⟩
      have hrle : r = 0 ∨ r = 1 ∨ r = 2 ∨ r = 8 := by
        rw [hr]
        obtain rfl | rfl | rfl | rfl | rfl | rfl | rfl | rfl | rfl : q = 0 ∨ q = 1 ∨ q = 2 ∨ q = 3 ∨ q = 4 ∨ q = 5 ∨ q = 6 ∨ q = 7 ∨ q = 8 := by omega
        · exact absurd rfl h5
        all_goals simp only [st]
        all_goals first | (split <;> simp) | simp
      rw [← hr] at h1 h4 h6 ⊢
      obtain rfl | rfl | rfl | rfl := hrle
      · exact absurd rfl h4
      · simp only [st] at h1 h6 ⊢
        split at h1 <;> simp_all
      · simp only [st] at h1 h6 ⊢
        split at h1 <;> simp_all
      · exact absurd rfl h1
    exact ⟨0, 0, 1, by decide, by decide, by decide, by simp, hit_app 0 0 1 [a, b, c] h [128] rfl (by rw [hq]; decide) (by decide)⟩
theorem alive_run (q : Nat) (l : List UInt8) (i : Nat) (hi : i ≤ l.length) (hq : q ≠ 8) : run q (l.take i) ≠ 8 ↔ i ≤ alive q l := by
  induction l generalizing q i with
  | nil =>
    obtain rfl : i = 0 := by simpa using hi
    exact ⟨fun _ => Nat.zero_le _, fun _ => hq⟩
  | cons b l ih =>
    cases i with
    | zero => exact ⟨fun _ => Nat.zero_le _, fun _ => hq⟩
    | succ i =>
      rw [List.take_succ_cons]
      show run (st q b.toNat) (l.take i) ≠ 8 ↔ i + 1 ≤ if st q b.toNat = 8 then 0 else alive (st q b.toNat) l + 1
      by_cases h8 : st q b.toNat = 8
      · rw [if_pos h8, h8, run_dead]
        exact ⟨fun h => absurd rfl h, fun h => by omega⟩
      · rw [if_neg h8, ih _ i (by simpa using hi) h8]
        omega
/-- How many bytes may be wanted. -/
def rk (q : Nat) : Nat := if q = 0 ∨ q = 8 then 0 else if q = 1 then 1 else if q = 2 ∨ q = 4 ∨ q = 5 then 2 else 3
theorem rk_st (q b : Nat) (h0 : 0 < q) (h8 : q < 8) (h1 : st q b ≠ 0) (h2 : st q b ≠ 8) : rk (st q b) + 1 = rk q := by
  obtain rfl | rfl | rfl | rfl | rfl | rfl | rfl : q = 1 ∨ q = 2 ∨ q = 3 ∨ q = 4 ∨ q = 5 ∨ q = 6 ∨ q = 7 := by omega
  all_goals simp only [st] at h1 h2 ⊢
  all_goals split at h1 <;> simp_all [rk]
theorem alive_rk (q : Nat) (l : List UInt8) (h0 : 0 < q) (h8 : q < 8) (h : ld q l = 0) : alive q l + 1 ≤ rk q := by
  induction l generalizing q with
  | nil =>
    show 0 + 1 ≤ rk q
    unfold rk
    rw [if_neg (by omega)]
    split
    · omega
    · split <;> omega
  | cons b l ih =>
    have hk : 1 ≤ rk q := by
      unfold rk
      rw [if_neg (by omega)]
      split
      · omega
      · split <;> omega
    rw [ld_cons] at h
    by_cases hz : st q b.toNat = 0
    · rw [if_pos hz] at h
      cases h
    · rw [if_neg hz] at h
      show (if st q b.toNat = 8 then 0 else alive (st q b.toNat) l + 1) + 1 ≤ rk q
      by_cases he : st q b.toNat = 8
      · rw [if_pos he]
        omega
      · rw [if_neg he] at h ⊢
        have hl : ld (st q b.toNat) l = 0 := by
          by_cases hl : ld (st q b.toNat) l = 0
          · exact hl
          · rw [if_neg hl] at h
            cases h
        have h3 := st_le q b.toNat
        have := ih _ (by omega) (by omega) hl
        have := rk_st q b.toNat h0 h8 hz he
        omega
theorem rk_le (q : Nat) : rk q ≤ 3 := by
  unfold rk
  repeat' split
  all_goals omega
/-- Where no scalar begins, at most three bytes are alive. -/
theorem alive_three (l : List UInt8) (h : ld 0 l = 0) : alive 0 l ≤ 3 := by
  cases l with
  | nil => exact Nat.zero_le _
  | cons b l =>
    rw [ld_cons] at h
    show (if st 0 b.toNat = 8 then 0 else alive (st 0 b.toNat) l + 1) ≤ 3
    by_cases he : st 0 b.toNat = 8
    · rw [if_pos he]
      omega
    · rw [if_neg he] at h ⊢
      by_cases hz : st 0 b.toNat = 0
      · rw [if_pos hz] at h
        cases h
      · rw [if_neg hz] at h
        have hl : ld (st 0 b.toNat) l = 0 := by
          by_cases hl : ld (st 0 b.toNat) l = 0
          · exact hl
          · rw [if_neg hl] at h
            cases h
        have h3 := st_le 0 b.toNat
        have := alive_rk _ l (by omega) (by omega) hl
        have := rk_le (st 0 b.toNat)
        omega
theorem par_take (m : List UInt8) (k : Nat) (h : ld 0 m = 0) (hk : k < m.length) : Par (m.take (k + 1)) ↔ k + 1 ≤ alive 0 m := by
  have h1 : ld 0 (m.take (k + 1)) = 0 := by
    refine ld_zero_of 0 _ (fun i h1 h2 => ?_)
    rw [List.length_take, Nat.min_eq_left (by omega)] at h2
    rw [List.take_take, Nat.min_eq_left h2]
    exact ld_none 0 m h i h1 (by omega)
  unfold Par
  rw [← alive_run 0 m (k + 1) (by omega) (by decide)]
  exact ⟨fun h => h.1, fun h2 => ⟨h2, h1⟩⟩
end Ut
end Go.Proofs.Ytifkemcjificcaa
