/-
  JSON texts, by mathematics alone: a text's byte at a place (0 behind its end), and the machine's steps by it; a text's part behind a place; UTF-8's state behind a byte that is a letter.
-/
import Derived.Test.YtifkemcjificcaaJsNum
import Derived.Test.YtifkemcjificcaaJsVal
namespace Go.Proofs.Ytifkemcjificcaa
namespace Js
def bt (l : List UInt8) (i : Nat) : Nat := (l.getD i 0).toNat
theorem bt_at (l : List UInt8) (i : Nat) (h : i < l.length) : bt l i = (l[i]).toNat := by
  unfold bt
  rw [List.getD_eq_getElem?_getD, List.getElem?_eq_getElem h]
  rfl
theorem bt_past (l : List UInt8) (i : Nat) (h : l.length ≤ i) : bt l i = 0 := by
  unfold bt
  rw [List.getD_eq_getElem?_getD, List.getElem?_eq_none h]
  rfl
theorem bt_in (l : List UInt8) (i : Nat) (h : bt l i ≠ 0) : i < l.length := by
  rcases Nat.lt_or_ge i l.length with h1 | h1
  · exact h1
  · exact absurd (bt_past l i h1) h
theorem bt_lt (l : List UInt8) (i : Nat) : bt l i < 256 := (l.getD i 0).toNat_lt
theorem bt_drop (l : List UInt8) (a i : Nat) : bt (l.drop a) i = bt l (a + i) := by
  unfold bt
  rw [List.getD_eq_getElem?_getD, List.getD_eq_getElem?_getD, List.getElem?_drop]
theorem T_drop (l : List UInt8) (c : Cf) (a i : Nat) : T l c (a + i) = ((T (l.drop a) c i).1, (T (l.drop a) c i).2 + a) := by
  unfold T
  rw [List.drop_drop]
  exact Prod.ext rfl (by show _ + (a + i) = _ + i + a; omega)
theorem T_go (l : List UInt8) (c c' : Cf) (i : Nat) (h0 : bt l i ≠ 0) (h : step c (bt l i) = some c') : T l c i = T l c' (i + 1) := by
  have hi := bt_in l i h0
  rw [bt_at l i hi] at h
  exact T_next l c c' i hi h
theorem T_no (l : List UInt8) (c : Cf) (i : Nat) (hi : i ≤ l.length) (ha : acc c = false) (h : i < l.length → step c (bt l i) = none) : T l c i = (none, i) := by
  by_cases h1 : i < l.length
  · have := h h1
    rw [bt_at l i h1] at this
    exact T_dead l c i h1 this
  · exact T_live l c i (by omega) ha
theorem isB_bt (b : Nat) : isB b = true → b ≠ 0 ∧ b < 128 := fun h => by
  have := (isB_iff b).1 h
  omega
theorem isD_bt (b : Nat) : isD b = true → b ≠ 0 ∧ b < 128 := fun h => by
  have := (isD_iff b).1 h
  omega
/-- A place behind a letter, or the beginning. -/
def As (l : List UInt8) (i : Nat) : Prop := i = 0 ∨ (0 < i ∧ bt l (i - 1) < 128)
theorem As.next (l : List UInt8) (i : Nat) (h : bt l i < 128) : As l (i + 1) := .inr ⟨Nat.succ_pos i, h⟩
theorem As.at (l : List UInt8) (i : Nat) (h0 : 0 < i) (h : bt l (i - 1) < 128) : As l i := .inr ⟨h0, h⟩
/-- UTF-8's state behind a letter. -/
theorem st_letter (q b : Nat) (hb : b < 128) (h : Ut.st q b ≠ 8) : q = 0 ∧ Ut.st q b = 0 := by
  unfold Ut.st at h ⊢
  split at h
  all_goals (first | (refine ⟨rfl, ?_⟩; rw [if_pos hb]) | (exfalso; split at h <;> omega) | exact absurd rfl h)
/-- All of it is alive. -/
def Al (l : List UInt8) : Prop := Ut.run 0 l ≠ 8
theorem Al.take (l : List UInt8) (h : Al l) (k : Nat) : Ut.run 0 (l.take k) ≠ 8 := fun h1 => by
  have e := Ut.run_append 0 (l.take k) (l.drop k)
  rw [List.take_append_drop, h1, Ut.run_dead] at e
  exact h e
theorem Al.at (l : List UInt8) (h : Al l) (i : Nat) (hi : As l i) (hl : i ≤ l.length) : Ut.run 0 (l.take i) = 0 := by
  rcases hi with rfl | ⟨h0, h1⟩
  · rfl
  · obtain ⟨j, rfl⟩ : ∃ j, i = j + 1 := ⟨i - 1, by omega⟩
    have hj : j < l.length := by omega
    have e := Ut.run_take_succ 0 l j hj
    rw [Nat.add_sub_cancel, bt_at l j hj] at h1
    have h2 := h.take l (j + 1)
    rw [e] at h2
    rw [e]
    exact (st_letter _ _ h1 h2).2
theorem Al.drop (l : List UInt8) (h : Al l) (i : Nat) (hi : As l i) (hl : i ≤ l.length) : Al (l.drop i) := fun h1 => by
  have e := Ut.run_append 0 (l.take i) (l.drop i)
  rw [List.take_append_drop, h.at l i hi hl] at e
  exact h (e.trans h1)
/-- The state on the way, and the machine within a string. -/
def qs (l : List UInt8) (i : Nat) : Nat := Ut.run 0 (l.take i)
theorem qs_letter (l : List UInt8) (h : Al l) (i : Nat) (hi : i < l.length) (hb : bt l i < 128) : qs l i = 0 ∧ qs l (i + 1) = 0 := by
  have e := Ut.run_take_succ 0 l i hi
  have h2 := h.take l (i + 1)
  rw [e] at h2
  rw [bt_at l i hi] at hb
  have := st_letter _ _ hb h2
  exact ⟨this.1, e.trans this.2⟩
theorem T_through (l : List UInt8) (h : Al l) (i : Nat) (hi : i < l.length) (h1 : 32 ≤ bt l i) (h2 : bt l i ≠ 34) (h3 : bt l i ≠ 92) (k : Bool) (st : List Bool) (d : Nat) : T l (cS (qs l i) k st d) i = T l (cS (qs l (i + 1)) k st d) (i + 1) := by
  have e : qs l (i + 1) = Ut.st (qs l i) (l[i]).toNat := Ut.run_take_succ 0 l i hi
  have h8 : qs l (i + 1) ≠ 8 := h.take l (i + 1)
  rw [bt_at l i hi] at h1 h2 h3
  refine T_next l _ _ i hi ?_
  show stS (qs l i) k st d _ = _
  unfold stS
  rw [if_neg (fun h => h2 h.2), if_neg (fun h => by omega), if_neg (fun h => h3 h.2), ← e, if_neg h8]
end Js
end Go.Proofs.Ytifkemcjificcaa
