/-
  The mathematics of nests: which ) closes a node, its parent, its children in order.
  All nodes' children, and the roots, are all nodes: counted by places.
  Which nodes a node is in: by the excesses between them; the way up by parents.
-/
import Derived.Test.YtmeclkmmgbndkaaDoorJMath
import Derived.Test.YtmeclkmmgbndkaaDoorJCk
namespace Go.Proofs.YtmeclkmmgbndkaaDoor
namespace Ns
open Wd
/-- A balanced row. -/
structure Ok (X n : Nat) : Prop where
  lt : X < 2 ^ n
  all : exc X n = 0
  low : ∀ j, j ≤ n → 0 ≤ exc X j
theorem Ok.of {X n : Nat} (h : X < 2 ^ n) (hb : Pn.bal X n = true) : Ok X n := by
  obtain ⟨h1, h2⟩ := (Pn.bal_iff X n).1 hb
  refine ⟨h, h1, fun j hj => ?_⟩
  by_cases e : j = 0
  · subst e; exact Int.le_refl _
  · exact h2 j (by omega) hj
/-- A node: a place of a (. -/
def Nd (X n i : Nat) : Prop := i < n ∧ bt X i = 1
theorem bt_or (X i : Nat) : bt X i = 0 ∨ bt X i = 1 := by have := bt_lt X i; omega
theorem Ok.nd {X n i : Nat} (h : Ok X n) (hi : bt X i = 1) : Nd X n i := by
  refine ⟨?_, hi⟩
  rcases Nat.lt_or_ge i n with hl | hl
  · exact hl
  · have := bt_big X n i h.lt hl
    omega
theorem Nd.up {X n i : Nat} (h : Nd X n i) : exc X (i + 1) = exc X i + 1 := by rw [exc_succ, h.2]; omega
theorem down {X i : Nat} (h : bt X i = 0) : exc X (i + 1) = exc X i - 1 := by rw [exc_succ, h]; omega
theorem above {X a b : Nat} {T : Int} (h0 : T < exc X a) (h : ∀ j, a ≤ j → j ≤ b → exc X j ≠ T) : ∀ j, a ≤ j → j ≤ b → T < exc X j := by
  intro j
  induction j with
  | zero => intro h1 _; obtain rfl : a = 0 := by omega
            exact h0
  | succ j ih =>
    intro h1 h2
    by_cases e : a = j + 1
    · rw [← e]; exact h0
    · have h3 := ih (by omega) (by omega)
      have h4 := h (j + 1) h1 h2
      have h5 := exc_succ X j
      have h6 := bt_lt X j
      omega
theorem under {X a b : Nat} {T : Int} (h0 : exc X a < T) (h : ∀ j, a ≤ j → j ≤ b → exc X j ≠ T) : ∀ j, a ≤ j → j ≤ b → exc X j < T := by
  intro j
  induction j with
  | zero => intro h1 _; obtain rfl : a = 0 := by omega
            exact h0
  | succ j ih =>
    intro h1 h2
    by_cases e : a = j + 1
    · rw [← e]; exact h0
    · have h3 := ih (by omega) (by omega)
      have h4 := h (j + 1) h1 h2
      have h5 := exc_succ X j
      have h6 := bt_lt X j
      omega
/-- c is the place of the ) that closes i. -/
structure Cl (X n i c : Nat) : Prop where
  gt : i < c
  lt : c < n
  eq : exc X (c + 1) = exc X i
  zero : bt X c = 0
  over : ∀ j, i < j → j ≤ c → exc X i < exc X j
theorem Cl.unique {X n i c d : Nat} (h1 : Cl X n i c) (h2 : Cl X n i d) : c = d := by
  rcases Nat.lt_trichotomy c d with h | h | h
  · have := h2.over (c + 1) (by have := h1.gt; omega) h
    have := h1.eq
    omega
  · exact h
  · have := h1.over (d + 1) (by have := h2.gt; omega) h
    have := h2.eq
    omega
def cl (X n i : Nat) : Nat := (Pn.forth X i n 0).toNat
theorem forth_cl {X n i : Nat} (h : Ok X n) (hi : Nd X n i) : Pn.forth X i n 0 = (cl X n i : Int) ∧ Cl X n i (cl X n i) := by
  have hs := Mx.forth_spec X i n 0 (Nat.le_of_lt hi.1)
  rw [Int.add_zero] at hs
  have hup := hi.up
  rcases hs with ⟨_, h2⟩ | ⟨p, h1, h2, h3, h4, h5⟩
  · have h3 := above (X := X) (a := i + 1) (b := n) (T := exc X i) (by omega) (fun j j1 j2 => h2 j (by omega) j2) n hi.1 (Nat.le_refl _)
    have h4 := h.low i (Nat.le_of_lt hi.1)
    have h5 := h.all
    omega
  · have e : cl X n i = p := by unfold cl; rw [h1]; rfl
    rw [e]
    refine ⟨h1, ?_⟩
    have hip : i < p := by
      by_cases e : p = i
      · rw [e] at h4; omega
      · omega
    have h6 := above (X := X) (a := i + 1) (b := p) (T := exc X i) (by omega) (fun j j1 j2 => h5 j (by omega) j2)
    refine ⟨hip, h3, h4, ?_, fun j j1 j2 => h6 j (by omega) j2⟩
    have h7 := h6 p (by omega) (Nat.le_refl _)
    rcases bt_or X p with hz | hz
    · exact hz
    · have := exc_succ X p
      rw [hz] at this
      omega
theorem cl_spec {X n i : Nat} (h : Ok X n) (hi : Nd X n i) : Cl X n i (cl X n i) := (forth_cl h hi).2
/-- What closes a node is opened by it. -/
theorem back_open {X n i c : Nat} (h : Cl X n i c) : Pn.back X 0 (c + 1) 0 = (i : Int) := by
  refine (Mx.back_spec X 0 (c + 1) 0 (Nat.zero_le _)).unique (.inr ⟨i, rfl, Nat.zero_le _, by have := h.gt; omega, by have := h.eq; omega, fun j j1 j2 => ?_⟩)
  have := h.over j j1 (by omega)
  have := h.eq
  omega
/-- Each ) closes a node. -/
theorem opened {X n c : Nat} (h : Ok X n) (hc : c < n) (hz : bt X c = 0) : ∃ i, Nd X n i ∧ Cl X n i c ∧ Pn.back X 0 (c + 1) 0 = (i : Int) := by
  have hs := Mx.back_spec X 0 (c + 1) 0 (Nat.zero_le _)
  have hd := down hz
  have hl := h.low (c + 1) hc
  rcases hs with ⟨_, h2⟩ | ⟨p, h1, h2, h3, h4, h5⟩
  · have h0 : exc X 0 ≠ exc X (c + 1) := by have := h2 0 (Nat.le_refl _) (by omega); omega
    have := exc_zero X
    have h3 := under (X := X) (a := 0) (b := c) (T := exc X (c + 1)) (by omega) (fun j j1 j2 => by have := h2 j j1 (by omega); omega) c (Nat.zero_le _) (Nat.le_refl _)
    omega
  · have hpc : p ≠ c := by intro e; rw [e] at h4; omega
    have h6 : ∀ j, p + 1 ≤ j → j ≤ c → exc X j ≠ exc X (c + 1) := fun j j1 j2 => by have := h5 j (by omega) (by omega); omega
    have hb : bt X p = 1 := by
      rcases bt_or X p with hz | hz
      · have h7 := down hz
        have h8 := under (X := X) (a := p + 1) (b := c) (T := exc X (c + 1)) (by omega) h6 c (by omega) (Nat.le_refl _)
        omega
      · exact hz
    have hn : Nd X n p := ⟨by omega, hb⟩
    have hup := hn.up
    refine ⟨p, hn, ⟨by omega, hc, by omega, hz, fun j j1 j2 => ?_⟩, h1⟩
    have := above (X := X) (a := p + 1) (b := c) (T := exc X (c + 1)) (by omega) h6 j (by omega) j2
    omega
/-- p is the parent of i. -/
structure Par (X i p : Nat) : Prop where
  lt : p < i
  eq : exc X p = exc X i - 1
  one : bt X p = 1
  over : ∀ j, p < j → j ≤ i → exc X i ≤ exc X j
theorem Par.unique {X i p q : Nat} (h1 : Par X i p) (h2 : Par X i q) : p = q := by
  rcases Nat.lt_trichotomy p q with h | h | h
  · have := h1.over q h (Nat.le_of_lt h2.lt)
    have := h2.eq
    omega
  · exact h
  · have := h2.over p h (Nat.le_of_lt h1.lt)
    have := h1.eq
    omega
theorem back_par {X i : Nat} (h0 : 0 < exc X i) : ∃ p : Nat, Pn.back X 0 i 1 = (p : Int) ∧ Par X i p := by
  have hs := Mx.back_spec X 0 i 1 (Nat.zero_le _)
  have hi0 : 0 < i := by
    rcases Nat.eq_zero_or_pos i with e | e
    · rw [e, exc_zero] at h0; omega
    · exact e
  obtain ⟨k, rfl⟩ : ∃ k, i = k + 1 := ⟨i - 1, by omega⟩
  have hk := exc_succ X k
  have hkb := bt_lt X k
  rcases hs with ⟨_, h2⟩ | ⟨p, h1, h2, h3, h4, h5⟩
  · have h0 : exc X 0 ≠ exc X (k + 1) - 1 := h2 0 (Nat.le_refl _) (by omega)
    have := exc_zero X
    have h3 := under (X := X) (a := 0) (b := k) (T := exc X (k + 1) - 1) (by omega) (fun j j1 j2 => h2 j j1 (by omega)) k (Nat.zero_le _) (Nat.le_refl _)
    omega
  · have h6 : ∀ j, p + 1 ≤ j → j ≤ k + 1 → exc X j ≠ exc X (k + 1) - 1 := fun j j1 j2 => by
      by_cases e : j = k + 1
      · rw [e]; omega
      · exact h5 j (by omega) (by omega)
    have hb : bt X p = 1 := by
      rcases bt_or X p with hz | hz
      · have h7 := down hz
        have h8 := under (X := X) (a := p + 1) (b := k + 1) (T := exc X (k + 1) - 1) (by omega) h6 (k + 1) (by omega) (Nat.le_refl _)
        omega
      · exact hz
    have hup := exc_succ X p
    rw [hb] at hup
    refine ⟨p, h1, h3, h4, hb, fun j j1 j2 => ?_⟩
    have := above (X := X) (a := p + 1) (b := k + 1) (T := exc X (k + 1) - 1) (by omega) h6 j (by omega) j2
    omega
theorem back_root {X n i : Nat} (h : Ok X n) (hi : i ≤ n) (h0 : exc X i = 0) : Pn.back X 0 i 1 = -1 := by
  refine (Mx.back_spec X 0 i 1 (Nat.zero_le _)).unique (.inl ⟨rfl, fun j _ j2 => ?_⟩)
  have := h.low j (by omega)
  omega
/-- Whose parent i is: those one deeper that stand in it. -/
theorem par_iff {X n i c j : Nat} (hi : Nd X n i) (hc : Cl X n i c) (hj : bt X j = 1) : Par X j i ↔ i < j ∧ j < c ∧ exc X j = exc X i + 1 := by
  constructor
  · intro h
    have h1 := h.eq
    refine ⟨h.lt, ?_, by omega⟩
    rcases Nat.lt_or_ge j c with hl | hl
    · exact hl
    · rcases Nat.lt_or_ge c j with hl2 | hl2
      · have := h.over (c + 1) (by have := hc.gt; omega) hl2
        have := hc.eq
        omega
      · obtain rfl : j = c := by omega
        have := hc.zero
        omega
  · rintro ⟨h1, h2, h3⟩
    exact ⟨h1, by omega, hi.2, fun k k1 k2 => by have := hc.over k k1 (by omega); omega⟩
/-- The children of i from the place a on. -/
def ks (X n i a : Nat) : List Nat := (List.range' a (cl X n i - a)).filter fun j => X.testBit j && (exc X j == exc X i + 1)
/-- A place where a child begins, or all have ended. -/
structure AtC (X n i a : Nat) : Prop where
  gt : i < a
  le : a ≤ cl X n i
  eq : exc X a = exc X i + 1
theorem AtC.first {X n i : Nat} (h : Ok X n) (hi : Nd X n i) : AtC X n i (i + 1) :=
  ⟨by omega, (cl_spec h hi).gt, hi.up⟩
theorem AtC.none {X n i a : Nat} (h : Ok X n) (hi : Nd X n i) (ha : AtC X n i a) (hz : bt X a = 0) : a = cl X n i ∧ ks X n i a = [] := by
  have hc := cl_spec h hi
  have hd := down hz
  have h1 := ha.eq
  have e : a = cl X n i := by
    rcases Nat.lt_or_ge a (cl X n i) with hl | hl
    · have := hc.over (a + 1) (by have := ha.gt; omega) hl
      omega
    · have := ha.le
      omega
  refine ⟨e, ?_⟩
  unfold ks
  rw [← e, Nat.sub_self]
  rfl
theorem AtC.some {X n i a : Nat} (h : Ok X n) (hi : Nd X n i) (ha : AtC X n i a) (ho : bt X a = 1) :
    Nd X n a ∧ a < cl X n i ∧ cl X n a < cl X n i ∧ AtC X n i (cl X n a + 1) ∧ ks X n i a = a :: ks X n i (cl X n a + 1) := by
  have hc := cl_spec h hi
  have hn : Nd X n a := h.nd ho
  have ca := cl_spec h hn
  have h1 := ha.eq
  have h2 := ca.eq
  have hlt : a < cl X n i := by
    rcases Nat.lt_or_ge a (cl X n i) with hl | hl
    · exact hl
    · obtain e : a = cl X n i := by have := ha.le; omega
      have := hc.zero
      rw [e] at ho
      omega
  have hcc : cl X n a < cl X n i := by
    rcases Nat.lt_or_ge (cl X n a) (cl X n i) with hl | hl
    · exact hl
    · have h3 := hc.eq
      rcases Nat.lt_or_ge (cl X n i) (cl X n a) with hl2 | hl2
      · have := ca.over (cl X n i + 1) (by omega) hl2
        omega
      · obtain e : cl X n a = cl X n i := by omega
        rw [e] at h2
        omega
  refine ⟨hn, hlt, hcc, ⟨by have := ha.gt; have := ca.gt; omega, hcc, by omega⟩, ?_⟩
  have e1 : cl X n i - a = 1 + ((cl X n a - a) + (cl X n i - (cl X n a + 1))) := by have := ca.gt; omega
  have e2 : List.range' a (cl X n i - a) = a :: (List.range' (a + 1) (cl X n a - a) ++ List.range' (cl X n a + 1) (cl X n i - (cl X n a + 1))) := by
    rw [e1, Nat.add_comm 1, List.range'_succ, ← List.range'_append_1, show a + 1 + (cl X n a - a) = cl X n a + 1 from by have := ca.gt; omega]
  unfold ks
  rw [e2, List.filter_cons, if_pos, List.filter_append]
  · rw [show (List.range' (a + 1) (cl X n a - a)).filter (fun j => X.testBit j && (exc X j == exc X i + 1)) = [] from ?_]
    · rfl
    · rw [List.filter_eq_nil_iff]
      intro j hj
      rw [List.mem_range'_1] at hj
      have := ca.over j (by omega) (by omega)
      have e3 : ¬ (exc X j = exc X i + 1) := by omega
      simp [e3]
  · rw [testBit_bt, ho]
    simp [h1]
theorem ks_mem {X n i a j : Nat} : j ∈ ks X n i a ↔ (a ≤ j ∧ j < cl X n i) ∧ bt X j = 1 ∧ exc X j = exc X i + 1 := by
  unfold ks
  rw [List.mem_filter, List.mem_range'_1, testBit_bt]
  simp only [Bool.and_eq_true, beq_iff_eq]
  constructor
  · rintro ⟨⟨h1, h2⟩, h3, h4⟩
    exact ⟨⟨h1, by omega⟩, h3, h4⟩
  · rintro ⟨⟨h1, h2⟩, h3, h4⟩
    exact ⟨⟨h1, by omega⟩, h3, h4⟩
/-- The children of i, in order. -/
def kids (X n i : Nat) : List Nat := ks X n i (i + 1)
theorem kids_len (X n i a : Nat) : (ks X n i a).length ≤ cl X n i - a := by
  unfold ks
  exact Nat.le_trans (List.length_filter_le _ _) (by rw [List.length_range']; exact Nat.le_refl _)
end Ns
end Go.Proofs.YtmeclkmmgbndkaaDoor
namespace Go.Proofs.YtmeclkmmgbndkaaDoor
namespace Ns
open Wd
/-- The sum of the first n numbers. -/
def sumTo (f : Nat → Nat) : Nat → Nat
  | 0 => 0
  | n + 1 => sumTo f n + f n
theorem sumTo_congr {f g : Nat → Nat} {n : Nat} (h : ∀ i, i < n → f i = g i) : sumTo f n = sumTo g n := by
  induction n with
  | zero => rfl
  | succ n ih => unfold sumTo; rw [ih (fun i hi => h i (by omega)), h n (by omega)]
theorem sumTo_add (f g : Nat → Nat) (n : Nat) : sumTo (fun i => f i + g i) n = sumTo f n + sumTo g n := by
  induction n with
  | zero => rfl
  | succ n ih => unfold sumTo; rw [ih]; omega
theorem sumTo_zero (n : Nat) : sumTo (fun _ => 0) n = 0 := by
  induction n with
  | zero => rfl
  | succ n ih => unfold sumTo; rw [ih]
theorem sumTo_none {f : Nat → Nat} {n : Nat} (h : ∀ i, i < n → f i = 0) : sumTo f n = 0 := by
  rw [sumTo_congr (g := fun _ => 0) h, sumTo_zero]
theorem sumTo_swap (f : Nat → Nat → Nat) (n m : Nat) : sumTo (fun i => sumTo (fun j => f i j) m) n = sumTo (fun j => sumTo (fun i => f i j) n) m := by
  induction n with
  | zero => exact (sumTo_zero m).symm
  | succ n ih =>
    show sumTo (fun i => sumTo (fun j => f i j) m) n + sumTo (fun j => f n j) m = sumTo (fun j => sumTo (fun i => f i j) n + f n j) m
    rw [ih, sumTo_add]
theorem sumTo_one {p n : Nat} (h : p < n) : sumTo (fun i => if i = p then 1 else 0) n = 1 := by
  induction n with
  | zero => omega
  | succ n ih =>
    show sumTo (fun i => if i = p then 1 else 0) n + (if n = p then 1 else 0) = 1
    by_cases e : n = p
    · rw [if_pos e, sumTo_none (fun i hi => if_neg (by omega))]
    · rw [if_neg e, ih (by omega)]
theorem sumTo_split (f : Nat → Nat) (a m : Nat) : sumTo f (a + m) = sumTo f a + sumTo (fun t => f (a + t)) m := by
  induction m with
  | zero => rfl
  | succ m ih =>
    show sumTo f (a + m) + f (a + m) = sumTo f a + (sumTo (fun t => f (a + t)) m + f (a + m))
    rw [ih]; omega
theorem filter_len (p : Nat → Bool) (a m : Nat) : ((List.range' a m).filter p).length = sumTo (fun t => if p (a + t) then 1 else 0) m := by
  induction m with
  | zero => rfl
  | succ m ih =>
    rw [List.range'_concat, List.filter_append, List.length_append, ih]
    show _ = sumTo (fun t => if p (a + t) then 1 else 0) m + (if p (a + m) then 1 else 0)
    rw [Nat.one_mul]
    by_cases h : p (a + m) = true
    · simp [h]
    · simp [h]
/-- Whether j is a child of i, as a number. -/
def isKid (X n i j : Nat) : Nat := if bt X i = 1 ∧ (i + 1 ≤ j ∧ j < cl X n i) ∧ bt X j = 1 ∧ exc X j = exc X i + 1 then 1 else 0
theorem kids_sum {X n i : Nat} (h : Ok X n) (hi : Nd X n i) : (kids X n i).length = sumTo (isKid X n i) n := by
  have hc := cl_spec h hi
  have h1 := hc.gt
  have h2 := hc.lt
  unfold kids ks
  rw [filter_len]
  rw [show n = (i + 1 + (cl X n i - (i + 1))) + (n - cl X n i) from by omega, sumTo_split (isKid X _ i), sumTo_split (isKid X _ i)]
  rw [show (i + 1 + (cl X n i - (i + 1))) + (n - cl X n i) = n from by omega]
  rw [sumTo_none (f := isKid X n i) (n := i + 1) (fun j hj => if_neg (by omega))]
  rw [sumTo_none (f := fun t => isKid X n i (i + 1 + (cl X n i - (i + 1)) + t)) (n := n - cl X n i) (fun j hj => if_neg (by omega)), Nat.zero_add, Nat.add_zero]
  refine sumTo_congr fun t ht => ?_
  unfold isKid
  have e : (X.testBit (i + 1 + t) && (exc X (i + 1 + t) == exc X i + 1)) = true ↔ bt X i = 1 ∧ (i + 1 ≤ i + 1 + t ∧ i + 1 + t < cl X n i) ∧ bt X (i + 1 + t) = 1 ∧ exc X (i + 1 + t) = exc X i + 1 := by
    rw [testBit_bt]
    simp only [Bool.and_eq_true, beq_iff_eq]
    constructor
    · rintro ⟨a, b⟩
      exact ⟨hi.2, ⟨by omega, by omega⟩, a, b⟩
    · rintro ⟨_, _, a, b⟩
      exact ⟨a, b⟩
  by_cases hp : bt X i = 1 ∧ (i + 1 ≤ i + 1 + t ∧ i + 1 + t < cl X n i) ∧ bt X (i + 1 + t) = 1 ∧ exc X (i + 1 + t) = exc X i + 1
  · rw [if_pos (e.2 hp), if_pos hp]
  · rw [if_neg (fun x => hp (e.1 x)), if_neg hp]
/-- Of each node: it is a root, or some one node's child. -/
theorem kid_once {X n j : Nat} (h : Ok X n) (hj : Nd X n j) : sumTo (fun i => isKid X n i j) n + (if exc X j = 0 then 1 else 0) = 1 := by
  by_cases h0 : exc X j = 0
  · rw [if_pos h0, sumTo_none]
    intro i hi
    refine if_neg ?_
    rintro ⟨_, _, _, h1⟩
    have := h.low i (by omega)
    omega
  · rw [if_neg h0]
    obtain ⟨p, _, hp⟩ := back_par (X := X) (i := j) (by have := h.low j (Nat.le_of_lt hj.1); omega)
    rw [sumTo_congr (g := fun i => if i = p then 1 else 0), sumTo_one (by have := hp.lt; have := hj.1; omega)]
    intro i hi
    unfold isKid
    have e : (bt X i = 1 ∧ (i + 1 ≤ j ∧ j < cl X n i) ∧ bt X j = 1 ∧ exc X j = exc X i + 1) ↔ i = p := by
      constructor
      · rintro ⟨h1, h2, h3, h4⟩
        have hi' : Nd X n i := h.nd h1
        exact ((par_iff hi' (cl_spec h hi') hj.2).2 ⟨h2.1, h2.2, h4⟩).unique hp
      · rintro rfl
        have hi' : Nd X n i := h.nd hp.one
        have := (par_iff hi' (cl_spec h hi') hj.2).1 hp
        exact ⟨hp.one, ⟨this.1, this.2.1⟩, hj.2, this.2.2⟩
    by_cases hq : i = p
    · rw [if_pos hq, if_pos (e.2 hq)]
    · rw [if_neg hq, if_neg (fun x => hq (e.1 x))]
/-- What a place adds to the sum: its children, and itself, if it is a root. -/
def share (X n i : Nat) : Nat := if bt X i = 1 then (kids X n i).length + (if exc X i = 0 then 1 else 0) else 0
theorem ones_sum (X n : Nat) : ones X n = sumTo (bt X) n := by
  induction n with
  | zero => exact ones_zero X
  | succ n ih => rw [ones_succ, ih]; rfl
theorem share_all {X n : Nat} (h : Ok X n) : sumTo (share X n) n = ones X n := by
  have e1 : sumTo (share X n) n = sumTo (fun i => sumTo (fun j => isKid X n i j) n + (if bt X i = 1 ∧ exc X i = 0 then 1 else 0)) n := by
    refine sumTo_congr fun i hi => ?_
    unfold share
    by_cases hb : bt X i = 1
    · rw [if_pos hb, kids_sum h ⟨hi, hb⟩]
      by_cases h0 : exc X i = 0
      · rw [if_pos h0, if_pos ⟨hb, h0⟩]
      · rw [if_neg h0, if_neg (fun x => h0 x.2)]
    · rw [if_neg hb, if_neg (fun x => hb x.1), sumTo_none]
      intro j _
      exact if_neg (fun x => hb x.1)
  rw [e1, sumTo_add, sumTo_swap, ← sumTo_add, ones_sum]
  refine sumTo_congr fun j hj => ?_
  rcases bt_or X j with hb | hb
  · rw [hb, if_neg (by omega), sumTo_none]
    intro i _
    exact if_neg (fun x => by omega)
  · have := kid_once h ⟨hj, hb⟩
    by_cases h0 : exc X j = 0
    · rw [if_pos h0] at this
      rw [if_pos ⟨hb, h0⟩, hb]; exact this
    · rw [if_neg h0] at this
      rw [if_neg (fun x => h0 x.2), hb]; exact this
/-- Between places with as many ones ahead there is no node. -/
theorem share_same {X n a b : Nat} (hab : a ≤ b) (h : ones X a = ones X b) : sumTo (share X n) a = sumTo (share X n) b := by
  induction b with
  | zero => obtain rfl : a = 0 := by omega
            rfl
  | succ b ih =>
    by_cases e : a = b + 1
    · rw [e]
    · have h1 := ones_mono X a b (by omega)
      have h2 := ones_succ X b
      have h3 := ih (by omega) (by omega)
      show _ = sumTo (share X n) b + share X n b
      rw [h3]
      unfold share
      rw [if_neg (by omega)]
      rfl
theorem share_ones {X n a b : Nat} (h : ones X a = ones X b) : sumTo (share X n) a = sumTo (share X n) b := by
  rcases Nat.le_total a b with hl | hl
  · exact share_same hl h
  · exact (share_same hl h.symm).symm
theorem share_le {X n a : Nat} (h : Ok X n) (ha : a ≤ n) : sumTo (share X n) a ≤ n := by
  have h1 := sumTo_split (share X n) a (n - a)
  rw [show a + (n - a) = n from by omega, share_all h] at h1
  have := ones_le X n
  omega
end Ns
end Go.Proofs.YtmeclkmmgbndkaaDoor
namespace Go.Proofs.YtmeclkmmgbndkaaDoor
namespace Ns
open Wd
/-- a is y, or y is in a. -/
structure Anc (X a y : Nat) : Prop where
  le : a ≤ y
  over : ∀ j, a < j → j ≤ y → exc X a < exc X j
theorem Anc.refl (X a : Nat) : Anc X a a := ⟨Nat.le_refl _, fun j h1 h2 => by omega⟩
theorem Anc.up {X a y p : Nat} (h : Anc X a y) (hp : Par X a p) : Anc X p y := by
  refine ⟨by have := hp.lt; have := h.le; omega, fun j h1 h2 => ?_⟩
  have he := hp.eq
  rcases Nat.lt_or_ge a j with hl | hl
  · have := h.over j hl h2; omega
  · have := hp.over j h1 hl; omega
/-- Where a node is in x, x isn't passed on the way up. -/
theorem Anc.stay {X x a p : Nat} (h : Anc X x a) (hx : x < a) (hp : Par X a p) : Anc X x p := by
  have h1 := h.over a hx (Nat.le_refl _)
  have hl : x ≤ p := by
    rcases Nat.lt_or_ge p x with hl | hl
    · have := hp.over x hl (Nat.le_of_lt hx); omega
    · exact hl
  exact ⟨hl, fun j h2 h3 => h.over j h2 (by have := hp.lt; omega)⟩
theorem anc_of_close {X n x y : Nat} (h : Ok X n) (hx : Nd X n x) (hy : Nd X n y) (hl : x ≤ y) (hc : cl X n y < cl X n x) : Anc X x y ∧ x < y := by
  have h1 := cl_spec h hx
  have h2 := cl_spec h hy
  have hne : x ≠ y := by rintro rfl; omega
  refine ⟨⟨hl, fun j j1 j2 => h1.over j j1 (by have := h2.gt; omega)⟩, by omega⟩
theorem apart {X n x y : Nat} (h : Ok X n) (hx : Nd X n x) (hy : Nd X n y) (hl : x < y) (hc : cl X n x ≤ cl X n y) : cl X n x < y ∧ ¬ Anc X x y := by
  have h1 := cl_spec h hx
  have h2 := cl_spec h hy
  have hlt : cl X n x < y := by
    rcases Nat.lt_or_ge (cl X n x) y with e | e
    · exact e
    · have h3 := h1.over y hl e
      have h4 := h1.eq
      have h5 := h2.eq
      rcases Nat.lt_or_ge (cl X n x) (cl X n y) with g | g
      · have := h2.over (cl X n x + 1) (by omega) (by omega)
        omega
      · obtain g : cl X n x = cl X n y := by omega
        rw [g] at h4
        omega
  refine ⟨hlt, fun ha => ?_⟩
  have := ha.over (cl X n x + 1) (by have := h1.gt; omega) hlt
  have := h1.eq
  omega
theorem exc_half {X n y : Nat} (h : Ok X n) (hy : y ≤ n) : 2 * exc X y ≤ n := by
  have h1 : ∀ d, y + d ≤ n → exc X y ≤ exc X (y + d) + d := by
    intro d
    induction d with
    | zero => intro _; simp
    | succ d ih =>
      intro hd
      have := ih (by omega)
      have e := exc_succ X (y + d)
      have := bt_lt X (y + d)
      rw [← Nat.add_assoc]
      omega
  have h2 := h1 (n - y) (by omega)
  rw [show y + (n - y) = n from by omega, h.all] at h2
  have h3 : ∀ d, exc X d ≤ d := by
    intro d
    induction d with
    | zero => rw [exc_zero]; simp
    | succ d ih =>
      have e := exc_succ X d
      have := bt_lt X d
      omega
  have := h3 y
  omega
end Ns
end Go.Proofs.YtmeclkmmgbndkaaDoor
