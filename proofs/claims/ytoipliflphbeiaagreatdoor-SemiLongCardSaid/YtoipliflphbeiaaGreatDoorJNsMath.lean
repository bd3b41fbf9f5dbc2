/-
  The mathematics of nests: which ) closes a node, its parent, its children in order.
-/
import Derived.Test.YtoipliflphbeiaaGreatDoorJMath
import Derived.Test.YtoipliflphbeiaaGreatDoorJCk
namespace Go.Proofs.YtoipliflphbeiaaGreatDoor
namespace Ns
open Wd
/-- A balanced row. -/
structure Ok (X n : Nat) : Prop where
  lt : X < 2 ^ n
  all : exc X n = 0
  low : ∀ j, j ≤ n → 0 ≤ exc X j
theorem Ok.of {X n : Nat} (h : X < 2 ^ n) (hb : Pn.bal X n = true) : Ok X n := by
  obtain ⟨h1, h2⟩ := (Pn.bal_iff X n).1 hb
  refine ⟨h, h1, fun j hj => ?_⟩
  by_cases e : j = 0
  · subst e; exact Int.le_refl _
  · exact h2 j (by omega) hj
/-- A node: a place of a (. -/
def Nd (X n i : Nat) : Prop := i < n ∧ bt X i = 1
theorem bt_or (X i : Nat) : bt X i = 0 ∨ bt X i = 1 := by have := bt_lt X i; omega
theorem Ok.nd {X n i : Nat} (h : Ok X n) (hi : bt X i = 1) : Nd X n i := by
  refine ⟨?_, hi⟩
  rcases Nat.lt_or_ge i n with hl | hl
  · exact hl
  · have := bt_big X n i h.lt hl
    omega
theorem Nd.up {X n i : Nat} (h : Nd X n i) : exc X (i + 1) = exc X i + 1 := by rw [exc_succ, h.2]; omega
theorem above {X a b : Nat} {T : Int} (h0 : T < exc X a) (h : ∀ j, a ≤ j → j ≤ b → exc X j ≠ T) : ∀ j, a ≤ j → j ≤ b → T < exc X j := by
  intro j
  induction j with
  | zero => intro h1 _; obtain rfl : a = 0 := by omega
            exact h0
  | succ j ih =>
    intro h1 h2
    by_cases e : a = j + 1
    · rw [← e]; exact h0
    · have h3 := ih (by omega) (by omega)
      have h4 := h (j + 1) h1 h2
      have h5 := exc_succ X j
      have h6 := bt_lt X j
      omega
theorem under {X a b : Nat} {T : Int} (h0 : exc X a < T) (h : ∀ j, a ≤ j → j ≤ b → exc X j ≠ T) : ∀ j, a ≤ j → j ≤ b → exc X j < T := by
  intro j
  induction j with
  | zero => intro h1 _; obtain rfl : a = 0 := by omega
            exact h0
  | succ j ih =>
    intro h1 h2
    by_cases e : a = j + 1
    · rw [← e]; exact h0
    · have h3 := ih (by omega) (by omega)
      have h4 := h (j + 1) h1 h2
      have h5 := exc_succ X j
      have h6 := bt_lt X j
      omega
/-- c is the place of the ) that closes i. -/
structure Cl (X n i c : Nat) : Prop where
  gt : i < c
  lt : c < n
  eq : exc X (c + 1) = exc X i
  zero : bt X c = 0
  over : ∀ j, i < j → j ≤ c → exc X i < exc X j
theorem Cl.unique {X n i c d : Nat} (h1 : Cl X n i c) (h2 : Cl X n i d) : c = d := by
  rcases Nat.lt_trichotomy c d with h | h | h
  · have := h2.over (c + 1) (by have := h1.gt; omega) h
    have := h1.eq
    omega
  · exact h
  · have := h1.over (d + 1) (by have := h2.gt; omega) h
    have := h2.eq
    omega
def cl (X n i : Nat) : Nat := (Pn.forth X i n 0).toNat
theorem forth_cl {X n i : Nat} (h : Ok X n) (hi : Nd X n i) : Pn.forth X i n 0 = (cl X n i : Int) ∧ Cl X n i (cl X n i) := by
  have hs := Mx.forth_spec X i n 0 (Nat.le_of_lt hi.1)
  rw [Int.add_zero] at hs
  have hup := hi.up
  rcases hs with ⟨_, h2⟩ | ⟨p, h1, h2, h3, h4, h5⟩
  · have h3 := above (X := X) (a := i + 1) (b := n) (T := exc X i) (by omega) (fun j j1 j2 => h2 j (by omega) j2) n hi.1 (Nat.le_refl _)
    have h4 := h.low i (Nat.le_of_lt hi.1)
    have h5 := h.all
    omega
  · have e : cl X n i = p := by unfold cl; rw [h1]; rfl
    rw [e]
    refine ⟨h1, ?_⟩
    have hip : i < p := by
      by_cases e : p = i
      · rw [e] at h4; omega
      · omega
    have h6 := above (X := X) (a := i + 1) (b := p) (T := exc X i) (by omega) (fun j j1 j2 => h5 j (by omega) j2)
    refine ⟨hip, h3, h4, ?_, fun j j1 j2 => h6 j (by omega) j2⟩
    have h7 := h6 p (by omega) (Nat.le_refl _)
    rcases bt_or X p with hz | hz
    · exact hz
    · have := exc_succ X p
      rw [hz] at this
      omega
theorem cl_spec {X n i : Nat} (h : Ok X n) (hi : Nd X n i) : Cl X n i (cl X n i) := (forth_cl h hi).2
/-- p is the parent of i. -/
structure Par (X i p : Nat) : Prop where
  lt : p < i
  eq : exc X p = exc X i - 1
  one : bt X p = 1
  over : ∀ j, p < j → j ≤ i → exc X i ≤ exc X j
theorem Par.unique {X i p q : Nat} (h1 : Par X i p) (h2 : Par X i q) : p = q := by
  rcases Nat.lt_trichotomy p q with h | h | h
  · have := h1.over q h (Nat.le_of_lt h2.lt)
    have := h2.eq
    omega
  · exact h
  · have := h2.over p h (Nat.le_of_lt h1.lt)
    have := h1.eq
    omega
/-- The children of i from the place a on. -/
def ks (X n i a : Nat) : List Nat := (List.range' a (cl X n i - a)).filter fun j => X.testBit j && (exc X j == exc X i + 1)
/-- A place where a child begins, or all have ended. -/
structure AtC (X n i a : Nat) : Prop where
  gt : i < a
  le : a ≤ cl X n i
  eq : exc X a = exc X i + 1
theorem AtC.some {X n i a : Nat} (h : Ok X n) (hi : Nd X n i) (ha : AtC X n i a) (ho : bt X a = 1) :
    Nd X n a ∧ a < cl X n i ∧ cl X n a < cl X n i ∧ AtC X n i (cl X n a + 1) ∧ ks X n i a = a :: ks X n i (cl X n a + 1) := by
  have hc := cl_spec h hi
  have hn : Nd X n a := h.nd ho
  have ca := cl_spec h hn
  have h1 := ha.eq
  have h2 := ca.eq
  have hlt : a < cl X n i := by
    rcases Nat.lt_or_ge a (cl X n i) with hl | hl
    · exact hl
    · obtain e : a = cl X n i := by have := ha.le; omega
      have := hc.zero
      rw [e] at ho
      omega
  have hcc : cl X n a < cl X n i := by
    rcases Nat.lt_or_ge (cl X n a) (cl X n i) with hl | hl
    · exact hl
    · have h3 := hc.eq
      rcases Nat.lt_or_ge (cl X n i) (cl X n a) with hl2 | hl2
      · have := ca.over (cl X n i + 1) (by omega) hl2
        omega
      · obtain e : cl X n a = cl X n i := by omega
        rw [e] at h2
        omega
  refine ⟨hn, hlt, hcc, ⟨by have := ha.gt; have := ca.gt; omega, hcc, by omega⟩, ?_⟩
  have e1 : cl X n i - a = 1 + ((cl X n a - a) + (cl X n i - (cl X n a + 1))) := by have := ca.gt; omega
  have e2 : List.range' a (cl X n i - a) = a :: (List.range' (a + 1) (cl X n a - a) ++ List.range' (cl X n a + 1) (cl X n i - (cl X n a + 1))) := by
    rw [e1, Nat.add_comm 1, List.range'_succ, ← List.range'_append_1, show a + 1 + (cl X n a - a) = cl X n a + 1 from by have := ca.gt; omega]
  unfold ks
  rw [e2, List.filter_cons, if_pos, List.filter_append]
  · rw [show (List.range' (a + 1) (cl X n a - a)).filter (fun j => X.testBit j && (exc X j == exc X i + 1)) = [] from ?_]
    · rfl
    · rw [List.filter_eq_nil_iff]
      intro j hj
      rw [List.mem_range'_1] at hj
      have := ca.over j (by omega) (by omega)
      have e3 : ¬ (exc X j = exc X i + 1) := by omega
      simp [e3]
  · rw [testBit_bt, ho]
    simp [h1]
end Ns
end Go.Proofs.YtoipliflphbeiaaGreatDoor
