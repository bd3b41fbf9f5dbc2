/-
  JSON texts, by mathematics alone: what the machine does at brackets, commas, colons, and what a value begins with.
-/
import Derived.Test.YtifkemcjificcaaJsNum
namespace Go.Proofs.Ytifkemcjificcaa
namespace Js
/-- What stands in an array (false) or an object (true): an item wanted; the bracket just opened; the bracket that closes it. -/
def cI (b : Bool) (st : List Bool) (d : Nat) : Cf := if b then cK st d else cV st d
def cB (b : Bool) (st : List Bool) (d : Nat) : Cf := if b then cO st d else cA st d
def gE (b : Bool) : Nat := if b then 125 else 93
def gO (b : Bool) : Nat := if b then 123 else 91
theorem sp_B (b : Bool) (st : List Bool) (d : Nat) : Sp (cB b st d) := by
  cases b
  · exact sp_A st d
  · exact sp_O st d
theorem sp_I (b : Bool) (st : List Bool) (d : Nat) : Sp (cI b st d) := by
  cases b
  · exact sp_V st d
  · exact sp_K st d
theorem T_B_end (l : List UInt8) (b : Bool) (st : List Bool) (d i : Nat) (hi : i < l.length) (h : (l[i]).toNat = gE b) : T l (cB b (b :: st) d) i = T l (cE st d) (i + 1) := by
  refine T_next l _ _ i hi ?_
  rw [h]
  cases b <;> rfl
theorem T_B_item (l : List UInt8) (b : Bool) (st : List Bool) (d i : Nat) (h : ∀ hi : i < l.length, isB (l[i]).toNat = false ∧ (l[i]).toNat ≠ gE b) : T l (cB b st d) i = T l (cI b st d) i := by
  cases b
  · exact T_first l st d i h
  · exact T_member l st d i h
theorem T_E_end (l : List UInt8) (b : Bool) (st : List Bool) (d i : Nat) (hi : i < l.length) (h : (l[i]).toNat = gE b) : T l (cE (b :: st) d) i = T l (cE st d) (i + 1) := by
  refine T_next l _ _ i hi ?_
  rw [h]
  cases b <;> rfl
theorem T_E_next (l : List UInt8) (b : Bool) (st : List Bool) (d i : Nat) (hi : i < l.length) (h : (l[i]).toNat = 44) : T l (cE (b :: st) d) i = T l (cI b (b :: st) d) (i + 1) := by
  refine T_next l _ _ i hi ?_
  rw [h]
  cases b <;> rfl
theorem T_E_no (l : List UInt8) (b : Bool) (st : List Bool) (d i : Nat) (hl : i ≤ l.length) (h : ∀ hi : i < l.length, isB (l[i]).toNat = false ∧ (l[i]).toNat ≠ gE b ∧ (l[i]).toNat ≠ 44) : T l (cE (b :: st) d) i = (none, i) := by
  by_cases hi : i < l.length
  · obtain ⟨h1, h2, h3⟩ := h hi
    refine T_dead l _ i hi (step_E_none _ _ _ h1 h3 (fun r e => ?_) (fun r e => ?_))
    · injection e with e1 e2
      subst e1
      exact h2
    · injection e with e1 e2
      subst e1
      exact h2
  · exact T_live l _ i (by omega) rfl
theorem T_K_str (l : List UInt8) (st : List Bool) (d i : Nat) (hi : i < l.length) (h : (l[i]).toNat = 34) : T l (cK st d) i = T l (cS 0 true st d) (i + 1) := by
  refine T_next l _ _ i hi ?_
  rw [h]
  rfl
theorem T_K_no (l : List UInt8) (st : List Bool) (d i : Nat) (hl : i ≤ l.length) (h : ∀ hi : i < l.length, isB (l[i]).toNat = false ∧ (l[i]).toNat ≠ 34) : T l (cK st d) i = (none, i) := by
  by_cases hi : i < l.length
  · obtain ⟨h1, h2⟩ := h hi
    refine T_dead l _ i hi ?_
    rw [step_K st d _ h1, if_neg h2]
  · exact T_live l _ i (by omega) rfl
theorem T_C_colon (l : List UInt8) (st : List Bool) (d i : Nat) (hi : i < l.length) (h : (l[i]).toNat = 58) : T l (cC st d) i = T l (cV st d) (i + 1) := by
  refine T_next l _ _ i hi ?_
  rw [h]
  rfl
theorem T_C_no (l : List UInt8) (st : List Bool) (d i : Nat) (hl : i ≤ l.length) (h : ∀ hi : i < l.length, isB (l[i]).toNat = false ∧ (l[i]).toNat ≠ 58) : T l (cC st d) i = (none, i) := by
  by_cases hi : i < l.length
  · obtain ⟨h1, h2⟩ := h hi
    refine T_dead l _ i hi ?_
    rw [step_C st d _ h1, if_neg h2]
  · exact T_live l _ i (by omega) rfl
theorem T_V_open (l : List UInt8) (b : Bool) (st : List Bool) (d i : Nat) (hi : i < l.length) (h : (l[i]).toNat = gO b) : T l (cV st d) i = T l (cB b (b :: st) (max d (st.length + 1))) (i + 1) := by
  refine T_next l _ _ i hi ?_
  rw [h]
  cases b <;> rfl
theorem T_V_str (l : List UInt8) (st : List Bool) (d i : Nat) (hi : i < l.length) (h : (l[i]).toNat = 34) : T l (cV st d) i = T l (cS 0 false st d) (i + 1) := by
  refine T_next l _ _ i hi ?_
  rw [h]
  rfl
/-- The three words. -/
def isW (w : List UInt8) : Prop := w = [110, 117, 108, 108] ∨ w = [116, 114, 117, 101] ∨ w = [102, 97, 108, 115, 101]
theorem T_V_word (l w : List UInt8) (st : List Bool) (d i : Nat) (hw : isW w) (hi : i < l.length) (h : (l[i]).toNat = (w.getD 0 0).toNat) : T l (cV st d) i = T l (cW (w.drop 1) st d) (i + 1) := by
  refine T_next l _ _ i hi ?_
  rw [h]
  rcases hw with rfl | rfl | rfl <;> rfl
theorem T_W_some (l w : List UInt8) (st : List Bool) (d i j : Nat) (hj : j + 1 < w.length) (h : ∀ k, k < j + 1 → ∃ h : i + k < l.length, (l[i + k]).toNat = (w.getD k 0).toNat) : T l (cW (w.drop 1) st d) (i + 1) = T l (cW (w.drop (j + 1)) st d) (i + (j + 1)) := by
  induction j with
  | zero => rfl
  | succ j ih =>
    obtain ⟨h1, h2⟩ := h (j + 1) (by omega)
    rw [ih (by omega) (fun k hk => h k (by omega)), T_word l w st d (i + (j + 1)) (j + 1) hj h1 h2]
    rfl
theorem T_W_all (l w : List UInt8) (st : List Bool) (d i : Nat) (hw : isW w) (h : ∀ k, k < w.length → ∃ h : i + k < l.length, (l[i + k]).toNat = (w.getD k 0).toNat) : T l (cV st d) i = T l (cE st d) (i + w.length) := by
  have hl : 3 ≤ w.length := by
    rcases hw with rfl | rfl | rfl <;> decide
  obtain ⟨h1, h2⟩ := h 0 (by omega)
  obtain ⟨n, hn⟩ : ∃ n, w.length = n + 2 := ⟨w.length - 2, by omega⟩
  obtain ⟨h3, h4⟩ := h (n + 1) (by omega)
  rw [T_V_word l w st d i hw h1 h2, T_W_some l w st d i n (by omega) (fun k hk => h k (by omega)), T_word_last l w st d (i + (n + 1)) (n + 1) (by omega) h3 h4, hn]
  rfl
theorem T_W_no (l w : List UInt8) (st : List Bool) (d i j : Nat) (hw : isW w) (hj : j < w.length) (hl : i + j ≤ l.length) (h0 : 0 < j) (h : ∀ k, k < j → ∃ h : i + k < l.length, (l[i + k]).toNat = (w.getD k 0).toNat) (hn : ∀ h : i + j < l.length, (l[i + j]).toNat ≠ (w.getD j 0).toNat) : T l (cV st d) i = (none, i + j) := by
  obtain ⟨h1, h2⟩ := h 0 h0
  obtain ⟨n, rfl⟩ : ∃ n, j = n + 1 := ⟨j - 1, by omega⟩
  rw [T_V_word l w st d i hw h1 h2, T_W_some l w st d i n hj h]
  exact T_word_no l w st d (i + (n + 1)) (n + 1) hj hn hl
end Js
end Go.Proofs.Ytifkemcjificcaa
