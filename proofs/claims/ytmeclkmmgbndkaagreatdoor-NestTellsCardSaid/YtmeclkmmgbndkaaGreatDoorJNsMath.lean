/-
  The mathematics of nests: which ) closes a node, its parent, its children in order.
  Nodes by their ranks: their parents' ranks, which is next to a node and which ahead of it among its parent's children or the roots, and its children in order; what is open at a place.
-/
import Derived.Test.YtmeclkmmgbndkaaGreatDoorJMath
import Derived.Test.YtmeclkmmgbndkaaGreatDoorJCk
namespace Go.Proofs.YtmeclkmmgbndkaaGreatDoor
namespace Ns
open Wd
/-- A balanced row. -/
structure Ok (X n : Nat) : Prop where
  lt : X < 2 ^ n
  all : exc X n = 0
  low : ∀ j, j ≤ n → 0 ≤ exc X j
theorem Ok.of {X n : Nat} (h : X < 2 ^ n) (hb : Pn.bal X n = true) : Ok X n := by
  obtain ⟨h1, h2⟩ := (Pn.bal_iff X n).1 hb
  refine ⟨h, h1, fun j hj => ?_⟩
  by_cases e : j = 0
  · subst e; exact Int.le_refl _
  · exact h2 j (by omega) hj
/-- A node: a place of a (. -/
def Nd (X n i : Nat) : Prop := i < n ∧ bt X i = 1
theorem bt_or (X i : Nat) : bt X i = 0 ∨ bt X i = 1 := by have := bt_lt X i; omega
theorem Ok.nd {X n i : Nat} (h : Ok X n) (hi : bt X i = 1) : Nd X n i := by
  refine ⟨?_, hi⟩
  rcases Nat.lt_or_ge i n with hl | hl
  · exact hl
  · have := bt_big X n i h.lt hl
    omega
theorem Nd.up {X n i : Nat} (h : Nd X n i) : exc X (i + 1) = exc X i + 1 := by rw [exc_succ, h.2]; omega
theorem down {X i : Nat} (h : bt X i = 0) : exc X (i + 1) = exc X i - 1 := by rw [exc_succ, h]; omega
theorem above {X a b : Nat} {T : Int} (h0 : T < exc X a) (h : ∀ j, a ≤ j → j ≤ b → exc X j ≠ T) : ∀ j, a ≤ j → j ≤ b → T < exc X j := by
  intro j
  induction j with
  | zero => intro h1 _; obtain rfl : a = 0 := by omega
            exact h0
  | succ j ih =>
    intro h1 h2
    by_cases e : a = j + 1
    · rw [← e]; exact h0
    · have h3 := ih (by omega) (by omega)
      have h4 := h (j + 1) h1 h2
      have h5 := exc_succ X j
      have h6 := bt_lt X j
      omega
theorem under {X a b : Nat} {T : Int} (h0 : exc X a < T) (h : ∀ j, a ≤ j → j ≤ b → exc X j ≠ T) : ∀ j, a ≤ j → j ≤ b → exc X j < T := by
  intro j
  induction j with
  | zero => intro h1 _; obtain rfl : a = 0 := by omega
            exact h0
  | succ j ih =>
    intro h1 h2
    by_cases e : a = j + 1
    · rw [← e]; exact h0
    · have h3 := ih (by omega) (by omega)
      have h4 := h (j + 1) h1 h2
      have h5 := exc_succ X j
      have h6 := bt_lt X j
      omega
/-- c is the place of the ) that closes i. -/
structure Cl (X n i c : Nat) : Prop where
  gt : i < c
  lt : c < n
  eq : exc X (c + 1) = exc X i
  zero : bt X c = 0
  over : ∀ j, i < j → j ≤ c → exc X i < exc X j
theorem Cl.unique {X n i c d : Nat} (h1 : Cl X n i c) (h2 : Cl X n i d) : c = d := by
  rcases Nat.lt_trichotomy c d with h | h | h
  · have := h2.over (c + 1) (by have := h1.gt; omega) h
    have := h1.eq
    omega
  · exact h
  · have := h1.over (d + 1) (by have := h2.gt; omega) h
    have := h2.eq
    omega
def cl (X n i : Nat) : Nat := (Pn.forth X i n 0).toNat
theorem forth_cl {X n i : Nat} (h : Ok X n) (hi : Nd X n i) : Pn.forth X i n 0 = (cl X n i : Int) ∧ Cl X n i (cl X n i) := by
  have hs := Mx.forth_spec X i n 0 (Nat.le_of_lt hi.1)
  rw [Int.add_zero] at hs
  have hup := hi.up
  rcases hs with ⟨_, h2⟩ | ⟨p, h1, h2, h3, h4, h5⟩
  · have h3 := above (X := X) (a := i + 1) (b := n) (T := exc X i) (by omega) (fun j j1 j2 => h2 j (by omega) j2) n hi.1 (Nat.le_refl _)
    have h4 := h.low i (Nat.le_of_lt hi.1)
    have h5 := h.all
    omega
  · have e : cl X n i = p := by unfold cl; rw [h1]; rfl
    rw [e]
    refine ⟨h1, ?_⟩
    have hip : i < p := by
      by_cases e : p = i
      · rw [e] at h4; omega
      · omega
    have h6 := above (X := X) (a := i + 1) (b := p) (T := exc X i) (by omega) (fun j j1 j2 => h5 j (by omega) j2)
    refine ⟨hip, h3, h4, ?_, fun j j1 j2 => h6 j (by omega) j2⟩
    have h7 := h6 p (by omega) (Nat.le_refl _)
    rcases bt_or X p with hz | hz
    · exact hz
    · have := exc_succ X p
      rw [hz] at this
      omega
theorem cl_spec {X n i : Nat} (h : Ok X n) (hi : Nd X n i) : Cl X n i (cl X n i) := (forth_cl h hi).2
/-- What closes a node is opened by it. -/
theorem back_open {X n i c : Nat} (h : Cl X n i c) : Pn.back X 0 (c + 1) 0 = (i : Int) := by
  refine (Mx.back_spec X 0 (c + 1) 0 (Nat.zero_le _)).unique (.inr ⟨i, rfl, Nat.zero_le _, by have := h.gt; omega, by have := h.eq; omega, fun j j1 j2 => ?_⟩)
  have := h.over j j1 (by omega)
  have := h.eq
  omega
/-- Each ) closes a node. -/
theorem opened {X n c : Nat} (h : Ok X n) (hc : c < n) (hz : bt X c = 0) : ∃ i, Nd X n i ∧ Cl X n i c ∧ Pn.back X 0 (c + 1) 0 = (i : Int) := by
  have hs := Mx.back_spec X 0 (c + 1) 0 (Nat.zero_le _)
  have hd := down hz
  have hl := h.low (c + 1) hc
  rcases hs with ⟨_, h2⟩ | ⟨p, h1, h2, h3, h4, h5⟩
  · have h0 : exc X 0 ≠ exc X (c + 1) := by have := h2 0 (Nat.le_refl _) (by omega); omega
    have := exc_zero X
    have h3 := under (X := X) (a := 0) (b := c) (T := exc X (c + 1)) (by omega) (fun j j1 j2 => by have := h2 j j1 (by omega); omega) c (Nat.zero_le _) (Nat.le_refl _)
    omega
  · have hpc : p ≠ c := by intro e; rw [e] at h4; omega
    have h6 : ∀ j, p + 1 ≤ j → j ≤ c → exc X j ≠ exc X (c + 1) := fun j j1 j2 => by have := h5 j (by omega) (by omega); omega
    have hb : bt X p = 1 := by
      rcases bt_or X p with hz | hz
      · have h7 := down hz
        have h8 := under (X := X) (a := p + 1) (b := c) (T := exc X (c + 1)) (by omega) h6 c (by omega) (Nat.le_refl _)
        omega
      · exact hz
    have hn : Nd X n p := ⟨by omega, hb⟩
    have hup := hn.up
    refine ⟨p, hn, ⟨by omega, hc, by omega, hz, fun j j1 j2 => ?_⟩, h1⟩
    have := above (X := X) (a := p + 1) (b := c) (T := exc X (c + 1)) (by omega) h6 j (by omega) j2
    omega
/-- p is the parent of i. -/
structure Par (X i p : Nat) : Prop where
  lt : p < i
  eq : exc X p = exc X i - 1
  one : bt X p = 1
  over : ∀ j, p < j → j ≤ i → exc X i ≤ exc X j
theorem Par.unique {X i p q : Nat} (h1 : Par X i p) (h2 : Par X i q) : p = q := by
  rcases Nat.lt_trichotomy p q with h | h | h
  · have := h1.over q h (Nat.le_of_lt h2.lt)
    have := h2.eq
    omega
  · exact h
  · have := h2.over p h (Nat.le_of_lt h1.lt)
    have := h1.eq
    omega
theorem back_par {X i : Nat} (h0 : 0 < exc X i) : ∃ p : Nat, Pn.back X 0 i 1 = (p : Int) ∧ Par X i p := by
  have hs := Mx.back_spec X 0 i 1 (Nat.zero_le _)
  have hi0 : 0 < i := by
    rcases Nat.eq_zero_or_pos i with e | e
    · rw [e, exc_zero] at h0; omega
    · exact e
  obtain ⟨k, rfl⟩ : ∃ k, i = k + 1 := ⟨i - 1, by omega⟩
  have hk := exc_succ X k
  have hkb := bt_lt X k
  rcases hs with ⟨_, h2⟩ | ⟨p, h1, h2, h3, h4, h5⟩
  · have h0 : exc X 0 ≠ exc X (k + 1) - 1 := h2 0 (Nat.le_refl _) (by omega)
    have := exc_zero X
    have h3 := under (X := X) (a := 0) (b := k) (T := exc X (k + 1) - 1) (by omega) (fun j j1 j2 => h2 j j1 (by omega)) k (Nat.zero_le _) (Nat.le_refl _)
    omega
  · have h6 : ∀ j, p + 1 ≤ j → j ≤ k + 1 → exc X j ≠ exc X (k + 1) - 1 := fun j j1 j2 => by
      by_cases e : j = k + 1
      · rw [e]; omega
      · exact h5 j (by omega) (by omega)
    have hb : bt X p = 1 := by
      rcases bt_or X p with hz | hz
      · have h7 := down hz
        have h8 := under (X := X) (a := p + 1) (b := k + 1) (T := exc X (k + 1) - 1) (by omega) h6 (k + 1) (by omega) (Nat.le_refl _)
        omega
      · exact hz
    have hup := exc_succ X p
    rw [hb] at hup
    refine ⟨p, h1, h3, h4, hb, fun j j1 j2 => ?_⟩
    have := above (X := X) (a := p + 1) (b := k + 1) (T := exc X (k + 1) - 1) (by omega) h6 j (by omega) j2
    omega
theorem back_root {X n i : Nat} (h : Ok X n) (hi : i ≤ n) (h0 : exc X i = 0) : Pn.back X 0 i 1 = -1 := by
  refine (Mx.back_spec X 0 i 1 (Nat.zero_le _)).unique (.inl ⟨rfl, fun j _ j2 => ?_⟩)
  have := h.low j (by omega)
  omega
/-- Whose parent i is: those one deeper that stand in it. -/
theorem par_iff {X n i c j : Nat} (hi : Nd X n i) (hc : Cl X n i c) (hj : bt X j = 1) : Par X j i ↔ i < j ∧ j < c ∧ exc X j = exc X i + 1 := by
  constructor
  · intro h
    have h1 := h.eq
    refine ⟨h.lt, ?_, by omega⟩
    rcases Nat.lt_or_ge j c with hl | hl
    · exact hl
    · rcases Nat.lt_or_ge c j with hl2 | hl2
      · have := h.over (c + 1) (by have := hc.gt; omega) hl2
        have := hc.eq
        omega
      · obtain rfl : j = c := by omega
        have := hc.zero
        omega
  · rintro ⟨h1, h2, h3⟩
    exact ⟨h1, by omega, hi.2, fun k k1 k2 => by have := hc.over k k1 (by omega); omega⟩
/-- The children of i from the place a on. -/
def ks (X n i a : Nat) : List Nat := (List.range' a (cl X n i - a)).filter fun j => X.testBit j && (exc X j == exc X i + 1)
/-- A place where a child begins, or all have ended. -/
structure AtC (X n i a : Nat) : Prop where
  gt : i < a
  le : a ≤ cl X n i
  eq : exc X a = exc X i + 1
theorem AtC.first {X n i : Nat} (h : Ok X n) (hi : Nd X n i) : AtC X n i (i + 1) :=
  ⟨by omega, (cl_spec h hi).gt, hi.up⟩
theorem AtC.none {X n i a : Nat} (h : Ok X n) (hi : Nd X n i) (ha : AtC X n i a) (hz : bt X a = 0) : a = cl X n i ∧ ks X n i a = [] := by
  have hc := cl_spec h hi
  have hd := down hz
  have h1 := ha.eq
  have e : a = cl X n i := by
    rcases Nat.lt_or_ge a (cl X n i) with hl | hl
    · have := hc.over (a + 1) (by have := ha.gt; omega) hl
      omega
    · have := ha.le
      omega
  refine ⟨e, ?_⟩
  unfold ks
  rw [← e, Nat.sub_self]
  rfl
theorem AtC.some {X n i a : Nat} (h : Ok X n) (hi : Nd X n i) (ha : AtC X n i a) (ho : bt X a = 1) :
    Nd X n a ∧ a < cl X n i ∧ cl X n a < cl X n i ∧ AtC X n i (cl X n a + 1) ∧ ks X n i a = a :: ks X n i (cl X n a + 1) := by
  have hc := cl_spec h hi
  have hn : Nd X n a := h.nd ho
  have ca := cl_spec h hn
  have h1 := ha.eq
  have h2 := ca.eq
  have hlt : a < cl X n i := by
    rcases Nat.lt_or_ge a (cl X n i) with hl | hl
    · exact hl
    · obtain e : a = cl X n i := by have := ha.le; omega
      have := hc.zero
      rw [e] at ho
      omega
  have hcc : cl X n a < cl X n i := by
    rcases Nat.lt_or_ge (cl X n a) (cl X n i) with hl | hl
    · exact hl
    · have h3 := hc.eq
      rcases Nat.lt_or_ge (cl X n i) (cl X n a) with hl2 | hl2
      · have := ca.over (cl X n i + 1) (by omega) hl2
        omega
      · obtain e : cl X n a = cl X n i := by omega
        rw [e] at h2
        omega
  refine ⟨hn, hlt, hcc, ⟨by have := ha.gt; have := ca.gt; omega, hcc, by omega⟩, ?_⟩
  have e1 : cl X n i - a = 1 + ((cl X n a - a) + (cl X n i - (cl X n a + 1))) := by have := ca.gt; omega
  have e2 : List.range' a (cl X n i - a) = a :: (List.range' (a + 1) (cl X n a - a) ++ List.range' (cl X n a + 1) (cl X n i - (cl X n a + 1))) := by
    rw [e1, Nat.add_comm 1, List.range'_succ, ← List.range'_append_1, show a + 1 + (cl X n a - a) = cl X n a + 1 from by have := ca.gt; omega]
  unfold ks
  rw [e2, List.filter_cons, if_pos, List.filter_append]
  · rw [show (List.range' (a + 1) (cl X n a - a)).filter (fun j => X.testBit j && (exc X j == exc X i + 1)) = [] from ?_]
    · rfl
    · rw [List.filter_eq_nil_iff]
      intro j hj
      rw [List.mem_range'_1] at hj
      have := ca.over j (by omega) (by omega)
      have e3 : ¬ (exc X j = exc X i + 1) := by omega
      simp [e3]
  · rw [testBit_bt, ho]
    simp [h1]
theorem ks_mem {X n i a j : Nat} : j ∈ ks X n i a ↔ (a ≤ j ∧ j < cl X n i) ∧ bt X j = 1 ∧ exc X j = exc X i + 1 := by
  unfold ks
  rw [List.mem_filter, List.mem_range'_1, testBit_bt]
  simp only [Bool.and_eq_true, beq_iff_eq]
  constructor
  · rintro ⟨⟨h1, h2⟩, h3, h4⟩
    exact ⟨⟨h1, by omega⟩, h3, h4⟩
  · rintro ⟨⟨h1, h2⟩, h3, h4⟩
    exact ⟨⟨h1, by omega⟩, h3, h4⟩
/-- The children of i, in order. -/
def kids (X n i : Nat) : List Nat := ks X n i (i + 1)
theorem kids_len (X n i a : Nat) : (ks X n i a).length ≤ cl X n i - a := by
  unfold ks
  exact Nat.le_trans (List.length_filter_le _ _) (by rw [List.length_range']; exact Nat.le_refl _)
end Ns
end Go.Proofs.YtmeclkmmgbndkaaGreatDoor
namespace Go.Proofs.YtmeclkmmgbndkaaGreatDoor
namespace Ns
open Wd
theorem ones_inj {X p q : Nat} (hp : bt X p = 1) (hq : bt X q = 1) (h : ones X p = ones X q) : p = q := by
  rcases Nat.lt_trichotomy p q with e | e | e
  · have := ones_lt X p q hp e; omega
  · exact e
  · have := ones_lt X q p hq e; omega
theorem Nd.at {X n i : Nat} (h : Nd X n i) : Ck.At X n (ones X i) i := ⟨h.1, h.2, rfl⟩
/-- The place of the node of rank r. -/
def pl (X n r : Nat) : Nat := Ck.pl X r n
theorem pl_rank {X n i : Nat} (h : Nd X n i) : pl X n (ones X i) = i := Ck.pl_eq h.at
theorem pl_nd {X n r : Nat} (h : r < ones X n) : Nd X n (pl X n r) ∧ ones X (pl X n r) = r := by
  have := Ck.pl_at h
  exact ⟨⟨this.lt, this.one⟩, this.cnt⟩
theorem rank_lt {X n i : Nat} (h : Nd X n i) : ones X i < ones X n := ones_lt X i n h.2 h.1
/-- The rank of a node's parent; -1. -/
def pr (X i : Nat) : Int := if 0 < exc X i then (ones X (Pn.back X 0 i 1).toNat : Int) else -1
theorem pr_par {X n i p : Nat} (h : Ok X n) (hi : i ≤ n) (hp : Par X i p) : pr X i = (ones X p : Int) := by
  have h0 := h.low p (by have := hp.lt; omega)
  have h1 : 0 < exc X i := by have := hp.eq; omega
  obtain ⟨q, hq, hq2⟩ := back_par h1
  unfold pr
  rw [if_pos h1, hq, hq2.unique hp]
  rfl
theorem pr_root {X i : Nat} (h : exc X i = 0) : pr X i = -1 := by unfold pr; rw [if_neg (by omega)]
theorem pr_dec {X n i : Nat} (h : Ok X n) (hi : i ≤ n) : (exc X i = 0 ∧ pr X i = -1) ∨ ∃ p, Par X i p ∧ pr X i = (ones X p : Int) := by
  have h0 := h.low i hi
  by_cases e : exc X i = 0
  · exact .inl ⟨e, pr_root e⟩
  · obtain ⟨p, _, hp⟩ := back_par (X := X) (i := i) (by omega)
    exact .inr ⟨p, hp, pr_par h hi hp⟩
theorem pr_eq {X n i j : Nat} (h : Ok X n) (hi : i ≤ n) (hj : j ≤ n) (e : pr X i = pr X j) : (exc X i = 0 ∧ exc X j = 0) ∨ ∃ p, Par X i p ∧ Par X j p := by
  rcases pr_dec h hi with ⟨h1, h2⟩ | ⟨p, h1, h2⟩
  · rcases pr_dec h hj with ⟨h3, h4⟩ | ⟨q, h3, h4⟩
    · exact .inl ⟨h1, h3⟩
    · omega
  · rcases pr_dec h hj with ⟨h3, h4⟩ | ⟨q, h3, h4⟩
    · omega
    · have : p = q := ones_inj h1.one h3.one (by omega)
      subst this
      exact .inr ⟨p, h1, h3⟩
theorem pr_exc {X n i j : Nat} (h : Ok X n) (hi : i ≤ n) (hj : j ≤ n) (e : pr X i = pr X j) : exc X i = exc X j := by
  rcases pr_eq h hi hj e with ⟨h1, h2⟩ | ⟨p, h1, h2⟩
  · omega
  · have := h1.eq; have := h2.eq; omega
theorem deeper {X n i j c : Nat} (h : Ok X n) (hc : Cl X n i c) (h1 : i < j) (h2 : j ≤ c) : pr X j ≠ pr X i := by
  intro e
  have h3 := hc.lt
  have := pr_exc h (by omega) (by omega) e
  have := hc.over j h1 h2
  omega
theorem next_same {X n i c : Nat} (h : Ok X n) (hc : Cl X n i c) : pr X (c + 1) = pr X i := by
  have h1 := hc.lt
  have h2 := hc.gt
  have h3 := hc.eq
  rcases pr_dec h (show i ≤ n by omega) with ⟨h4, h5⟩ | ⟨p, h4, h5⟩
  · rw [h5, pr_root (by omega)]
  · rw [h5]
    refine pr_par h (by omega) ⟨by have := h4.lt; omega, by have := h4.eq; omega, h4.one, fun j j1 j2 => ?_⟩
    rcases Nat.lt_or_ge i j with g | g
    · by_cases e : j = c + 1
      · rw [e]; exact Int.le_refl _
      · have := hc.over j g (by omega); omega
    · have := h4.over j j1 g; omega
theorem next_none {X n i j c : Nat} (h : Ok X n) (hc : Cl X n i c) (hz : bt X (c + 1) = 0) (hj : c < j) (hn : Nd X n j) : pr X j ≠ pr X i := by
  intro e
  have h1 := hc.lt
  have h2 := hc.gt
  have h3 := hc.eq
  have hne : j ≠ c + 1 := by rintro rfl; have := hn.2; omega
  have h4 := down hz
  have h5 := hn.1
  rcases pr_eq h (by omega) (by omega) e with ⟨e1, e2⟩ | ⟨p, e1, e2⟩
  · have := h.low (c + 1 + 1) (by omega); omega
  · have := e1.over (c + 1 + 1) (by have := e2.lt; omega) (by omega)
    have := e1.eq; have := e2.eq
    omega
theorem prev_none {X n i j : Nat} (h : Ok X n) (hb : bt X i = 1) (hi : i + 1 < n) (hj : j < i + 1) : pr X j ≠ pr X (i + 1) := by
  intro e
  have hn : Nd X n i := ⟨by omega, hb⟩
  have h1 := hn.up
  have h0 := h.low i (by omega)
  have hp : Par X (i + 1) i := ⟨by omega, by omega, hb, fun k k1 k2 => by
    obtain rfl : k = i + 1 := by omega
    exact Int.le_refl _⟩
  rcases pr_eq h (by omega) (by omega) e with ⟨e1, e2⟩ | ⟨p, e1, e2⟩
  · omega
  · have := e2.unique hp
    have := e1.lt
    omega
/-- Those ranks whose nodes have that parent. -/
def sibs (X n : Nat) (q : Int) : List Nat := (List.range (ones X n)).filter fun r => pr X (pl X n r) == q
theorem range_filter_split (P : Nat → Bool) {N r : Nat} (h : r < N) (hr : P r = true) : (List.range N).filter P = (List.range r).filter P ++ r :: (List.range' (r + 1) (N - (r + 1))).filter P := by
  have e : List.range N = List.range r ++ r :: List.range' (r + 1) (N - (r + 1)) := by
    rw [List.range_eq_range', List.range_eq_range', show N = r + (1 + (N - (r + 1))) from by omega, ← List.range'_append_1, Nat.zero_add, Nat.add_comm 1, List.range'_succ]
    rw [show r + (N - (r + 1) + 1) - (r + 1) = N - (r + 1) from by omega]
  rw [e, List.filter_append, List.filter_cons, if_pos hr]
theorem filter_first (P : Nat → Bool) {a m c : Nat} (h1 : a ≤ c) (h2 : c < a + m) (hc : P c = true) (h : ∀ r, a ≤ r → r < c → P r = false) : ((List.range' a m).filter P)[0]? = some c := by
  have e : List.range' a m = List.range' a (c - a) ++ c :: List.range' (c + 1) (m - (c - a) - 1) := by
    rw [show m = (c - a) + ((m - (c - a) - 1) + 1) from by omega, ← List.range'_append_1, List.range'_succ, show a + (c - a) = c from by omega]
    rw [show c - a + (m - (c - a) - 1 + 1) - (c - a) - 1 = m - (c - a) - 1 from by omega]
  rw [e, List.filter_append, List.filter_cons, if_pos hc, show (List.range' a (c - a)).filter P = [] from ?_]
  · rfl
  · rw [List.filter_eq_nil_iff]
    intro r hr
    rw [List.mem_range'_1] at hr
    rw [h r hr.1 (by omega)]
    exact Bool.false_ne_true
theorem filter_nil (P : Nat → Bool) {a m : Nat} (h : ∀ r, a ≤ r → r < a + m → P r = false) : (List.range' a m).filter P = [] := by
  rw [List.filter_eq_nil_iff]
  intro r hr
  rw [List.mem_range'_1] at hr
  rw [h r hr.1 hr.2]
  exact Bool.false_ne_true
theorem filter_last (P : Nat → Bool) {a c : Nat} (h2 : c < a) (hc : P c = true) (h : ∀ r, c < r → r < a → P r = false) : (List.range a).filter P = (List.range c).filter P ++ [c] := by
  rw [range_filter_split P h2 hc, filter_nil P (fun r h3 h4 => h r (by omega) (by omega))]
/-- What stands behind a node's rank among the ranks with its parent. -/
def nxt (X n i : Nat) : Int := if bt X (cl X n i + 1) = 1 then (ones X (cl X n i + 1) : Int) else -1
/-- The list of ranks with a node's parent, parted at the node's own. -/
theorem sibs_split {X n i : Nat} (hi : Nd X n i) : sibs X n (pr X i) = ((List.range (ones X i)).filter fun r => pr X (pl X n r) == pr X i) ++ ones X i :: ((List.range' (ones X i + 1) (ones X n - (ones X i + 1))).filter fun r => pr X (pl X n r) == pr X i) := by
  unfold sibs
  refine range_filter_split _ (rank_lt hi) ?_
  rw [pl_rank hi]
  exact beq_self_eq_true _
theorem ones_le_of {X a b : Nat} (h : ones X a < ones X b) : a < b := by
  rcases Nat.lt_or_ge a b with e | e
  · exact e
  · have := ones_mono X b a e; omega
/-- The next one, told by the list: the number behind the node's own. -/
theorem sibs_next {X n i : Nat} (h : Ok X n) (hi : Nd X n i) : ((List.range' (ones X i + 1) (ones X n - (ones X i + 1))).filter fun r => pr X (pl X n r) == pr X i)[0]? = if bt X (cl X n i + 1) = 1 then some (ones X (cl X n i + 1)) else none := by
  have hc := cl_spec h hi
  have hg := hc.gt
  have hlt := rank_lt hi
  by_cases hb : bt X (cl X n i + 1) = 1
  · rw [if_pos hb]
    have hn : Nd X n (cl X n i + 1) := h.nd hb
    have h1 := ones_lt X i (cl X n i + 1) hi.2 (by omega)
    have h2 := rank_lt hn
    refine filter_first _ (by omega) (by omega) ?_ fun r r1 r2 => ?_
    · rw [pl_rank hn, next_same h hc]
      exact beq_self_eq_true _
    · obtain ⟨h3, h4⟩ := pl_nd (X := X) (n := n) (r := r) (by omega)
      have h5 := ones_le_of (X := X) (a := i) (b := pl X n r) (by omega)
      have h6 := ones_le_of (X := X) (a := pl X n r) (b := cl X n i + 1) (by omega)
      exact beq_false_of_ne (deeper h hc h5 (by omega))
  · rw [if_neg hb]
    have hz : bt X (cl X n i + 1) = 0 := by rcases bt_or X (cl X n i + 1) with e | e; exact e; exact absurd e hb
    rw [filter_nil]
    · rfl
    · intro r r1 r2
      obtain ⟨h3, h4⟩ := pl_nd (X := X) (n := n) (r := r) (by omega)
      have h5 := ones_le_of (X := X) (a := i) (b := pl X n r) (by omega)
      rcases Nat.lt_or_ge (cl X n i) (pl X n r) with e | e
      · exact beq_false_of_ne (next_none h hc hz e h3)
      · exact beq_false_of_ne (deeper h hc h5 e)
/-- The one ahead, if there is one. -/
theorem sibs_prev {X n i j : Nat} (h : Ok X n) (hi : Nd X n i) (hc : Cl X n j (i - 1)) (hj : Nd X n j) : ∃ A, ((List.range (ones X i)).filter fun r => pr X (pl X n r) == pr X i) = A ++ [ones X j] := by
  have hg := hc.gt
  have e : i - 1 + 1 = i := by omega
  have hs := next_same h hc
  rw [e] at hs
  have h1 := ones_lt X j i hj.2 (by omega)
  refine ⟨_, filter_last _ h1 ?_ fun r r1 r2 => ?_⟩
  · rw [pl_rank hj, hs]
    exact beq_self_eq_true _
  · have := rank_lt hi
    obtain ⟨h3, h4⟩ := pl_nd (X := X) (n := n) (r := r) (by omega)
    have h5 := ones_le_of (X := X) (a := j) (b := pl X n r) (by omega)
    have h6 := ones_le_of (X := X) (a := pl X n r) (b := i) (by omega)
    rw [hs]
    exact beq_false_of_ne (deeper h hc h5 (by omega))
theorem sibs_prev_none {X n i : Nat} (h : Ok X n) (hi : Nd X n i) (hz : i = 0 ∨ bt X (i - 1) = 1) : ((List.range (ones X i)).filter fun r => pr X (pl X n r) == pr X i) = [] := by
  rw [List.range_eq_range']
  refine filter_nil _ fun r _ r2 => ?_
  rw [Nat.zero_add] at r2
  have := rank_lt hi
  obtain ⟨h3, h4⟩ := pl_nd (X := X) (n := n) (r := r) (by omega)
  have h5 := ones_le_of (X := X) (a := pl X n r) (b := i) (by omega)
  rcases hz with rfl | hb
  · omega
  · obtain ⟨k, rfl⟩ : ∃ k, i = k + 1 := ⟨i - 1, by omega⟩
    rw [Nat.add_sub_cancel] at hb
    exact beq_false_of_ne (prev_none h hb hi.1 h5)
theorem nodes_map (X n : Nat) : (List.range n).filter (fun j => X.testBit j) = (List.range (ones X n)).map (pl X n) := by
  have key : ∀ m, m ≤ n → (List.range m).filter (fun j => X.testBit j) = (List.range (ones X m)).map (pl X n) := by
    intro m
    induction m with
    | zero => intro _; rfl
    | succ m ih =>
      intro hm
      rw [List.range_succ, List.filter_append, ih (by omega), ones_succ]
      rcases bt_or X m with hb | hb
      · have : X.testBit m = false := by rw [testBit_bt, hb]; rfl
        simp [this, hb]
      · have ht : X.testBit m = true := by rw [testBit_bt, hb]; rfl
        have hn : Nd X n m := ⟨by omega, hb⟩
        rw [hb, List.range_succ, List.map_append]
        simp [ht, pl_rank hn]
  exact key n (Nat.le_refl _)
/-- The children's places are those of the ranks with that parent. -/
theorem sibs_kids {X n i : Nat} (h : Ok X n) (hi : Nd X n i) : (sibs X n (ones X i : Int)).map (pl X n) = kids X n i := by
  have hc := cl_spec h hi
  have h1 := hc.gt
  have h2 := hc.lt
  have e0 : (sibs X n (ones X i : Int)).map (pl X n) = ((List.range n).filter (fun j => X.testBit j)).filter (fun j => pr X j == (ones X i : Int)) := by
    rw [nodes_map, List.filter_map]
    rfl
  have hp : ∀ j, j < n → X.testBit j = true → (pr X j = (ones X i : Int) ↔ Par X j i) := by
    intro j hj hb
    have hb' : bt X j = 1 := by rw [testBit_bt] at hb; simpa using hb
    constructor
    · intro e
      rcases pr_dec h (Nat.le_of_lt hj) with ⟨h3, h4⟩ | ⟨p, h3, h4⟩
      · omega
      · obtain rfl := ones_inj h3.one hi.2 (show ones X p = ones X i by omega)
        exact h3
    · intro e
      exact pr_par h (Nat.le_of_lt hj) e
  have e1 : List.range n = List.range' 0 (i + 1) ++ (List.range' (i + 1) (cl X n i - (i + 1)) ++ List.range' (cl X n i) (n - cl X n i)) := by
    rw [List.range_eq_range']
    have := List.range'_append_1 (s := 0) (m := i + 1) (n := (cl X n i - (i + 1)) + (n - cl X n i))
    rw [show i + 1 + ((cl X n i - (i + 1)) + (n - cl X n i)) = n from by omega] at this
    have e2 := List.range'_append_1 (s := i + 1) (m := cl X n i - (i + 1)) (n := n - cl X n i)
    rw [show i + 1 + (cl X n i - (i + 1)) = cl X n i from by omega] at e2
    rw [← this, Nat.zero_add, ← e2]
  have out : ∀ j, j < n → (j < i + 1 ∨ cl X n i ≤ j) → (pr X j == (ones X i : Int) && X.testBit j) = false := by
    intro j hj ho
    by_cases hb : X.testBit j = true
    · have hb' : bt X j = 1 := by rw [testBit_bt] at hb; simpa using hb
      rw [beq_false_of_ne, Bool.false_and]
      intro e
      have := (par_iff hi hc hb').1 ((hp j hj hb).1 e)
      omega
    · rw [Bool.eq_false_iff.2 hb, Bool.and_false]
  rw [e0, List.filter_filter, e1, List.filter_append, List.filter_append, filter_nil (a := 0) (m := i + 1), filter_nil (a := cl X n i), List.nil_append, List.append_nil]
  · unfold kids ks
    refine List.filter_congr fun j hj => ?_
    rw [List.mem_range'_1] at hj
    by_cases hb : X.testBit j = true
    · have hb' : bt X j = 1 := by rw [testBit_bt] at hb; simpa using hb
      rw [hb, Bool.and_true, Bool.true_and]
      rw [Bool.eq_iff_iff, beq_iff_eq, beq_iff_eq, hp j (by omega) hb, par_iff hi hc hb']
      constructor
      · rintro ⟨_, _, e⟩; exact e
      · intro e; exact ⟨by omega, by omega, e⟩
    · rw [Bool.eq_false_iff.2 hb, Bool.and_false, Bool.false_and]
  · intro j j1 j2
    exact out j (by omega) (.inr j1)
  · intro j j1 j2
    exact out j (by omega) (.inl (by omega))
/-- What is open at a place: ranks of nodes that begin ahead of it and end there, or behind. -/
def opn (X n a : Nat) : List Nat := ((List.range a).filter fun p => X.testBit p && decide (a ≤ cl X n p)).map (ones X)
theorem opn_zero (X n : Nat) : opn X n 0 = [] := rfl
theorem opn_one {X n a : Nat} (h : Ok X n) (ha : Nd X n a) : opn X n (a + 1) = opn X n a ++ [ones X a] := by
  have hc := cl_spec h ha
  have ht : X.testBit a = true := by rw [testBit_bt, ha.2]; rfl
  have e : (List.range a).filter (fun p => X.testBit p && decide (a + 1 ≤ cl X n p)) = (List.range a).filter (fun p => X.testBit p && decide (a ≤ cl X n p)) := by
    refine List.filter_congr fun p hp => ?_
    rw [List.mem_range] at hp
    by_cases hb : X.testBit p = true
    · have hb' : bt X p = 1 := by rw [testBit_bt] at hb; simpa using hb
      have hz := (cl_spec h (h.nd hb')).zero
      have : cl X n p ≠ a := by intro e; rw [e, ha.2] at hz; omega
      rw [hb, Bool.true_and, Bool.true_and, decide_eq_decide]
      omega
    · rw [Bool.eq_false_iff.2 hb, Bool.false_and, Bool.false_and]
  unfold opn
  rw [List.range_succ, List.filter_append, e, List.map_append]
  have : decide (a + 1 ≤ cl X n a) = true := decide_eq_true hc.gt
  simp [ht, this]
theorem opn_pop {X n a q : Nat} (h : Ok X n) (hq : Nd X n q) (hc : Cl X n q a) : opn X n a = opn X n (a + 1) ++ [ones X q] := by
  have hg := hc.gt
  have hl := hc.lt
  have hz : X.testBit a = false := by rw [testBit_bt, hc.zero]; rfl
  have hqa : cl X n q = a := (cl_spec h hq).unique hc
  have e0 : (List.range (a + 1)).filter (fun p => X.testBit p && decide (a + 1 ≤ cl X n p)) = (List.range a).filter (fun p => X.testBit p && decide (a + 1 ≤ cl X n p)) := by
    rw [List.range_succ, List.filter_append]
    simp [hz]
  have e1 : (List.range a).filter (fun p => X.testBit p && decide (a ≤ cl X n p)) = (List.range q).filter (fun p => X.testBit p && decide (a ≤ cl X n p)) ++ [q] := by
    refine filter_last _ hg ?_ fun r r1 r2 => ?_
    · have : X.testBit q = true := by rw [testBit_bt, hq.2]; rfl
      rw [this, hqa]
      simp
    · by_cases hb : X.testBit r = true
      · have hb' : bt X r = 1 := by rw [testBit_bt] at hb; simpa using hb
        have hr := h.nd hb'
        have cr := cl_spec h hr
        have : ¬ a ≤ cl X n r := by
          intro hle
          have h3 := hc.over r r1 (by omega)
          have h4 := hc.eq
          have h5 := cr.eq
          by_cases e : cl X n r = a
          · rw [e] at h5; omega
          · have := cr.over (a + 1) (by omega) (by omega)
            omega
        rw [decide_eq_false this, Bool.and_false]
      · rw [Bool.eq_false_iff.2 hb, Bool.false_and]
  have e2 : (List.range a).filter (fun p => X.testBit p && decide (a + 1 ≤ cl X n p)) = (List.range q).filter (fun p => X.testBit p && decide (a ≤ cl X n p)) := by
    have e3 : List.range a = List.range q ++ List.range' q (a - q) := by
      rw [List.range_eq_range', List.range_eq_range']
      have := List.range'_append_1 (s := 0) (m := q) (n := a - q)
      rw [Nat.zero_add, show q + (a - q) = a from by omega] at this
      exact this.symm
    rw [e3, List.filter_append, filter_nil, List.append_nil]
    · refine List.filter_congr fun p hp => ?_
      rw [List.mem_range] at hp
      by_cases hb : X.testBit p = true
      · have hb' : bt X p = 1 := by rw [testBit_bt] at hb; simpa using hb
        have cp := cl_spec h (h.nd hb')
        have : cl X n p ≠ a := by
          intro e
          have h1 := cp.over q hp (by omega)
          have h2 := cp.eq
          have h3 := hc.eq
          rw [e] at h2
          omega
        rw [hb, Bool.true_and, Bool.true_and, decide_eq_decide]
        omega
      · rw [Bool.eq_false_iff.2 hb, Bool.false_and, Bool.false_and]
    · intro r r1 r2
      by_cases hb : X.testBit r = true
      · have hb' : bt X r = 1 := by rw [testBit_bt] at hb; simpa using hb
        have hr := h.nd hb'
        have cr := cl_spec h hr
        have : ¬ a + 1 ≤ cl X n r := by
          intro hle
          by_cases e : r = q
          · rw [e] at hle; omega
          · have h3 := hc.over r (by omega) (by omega)
            have h4 := hc.eq
            have := cr.over (a + 1) (by omega) (by omega)
            omega
        rw [decide_eq_false this, Bool.and_false]
      · rw [Bool.eq_false_iff.2 hb, Bool.false_and]
  unfold opn
  rw [e0, e1, e2, List.map_append]
  rfl
theorem opn_len {X n a : Nat} (h : Ok X n) (ha : a ≤ n) : ((opn X n a).length : Int) = exc X a := by
  induction a with
  | zero => rw [opn_zero, exc_zero]; rfl
  | succ a ih =>
    have h1 := ih (by omega)
    rcases bt_or X a with hb | hb
    · obtain ⟨q, hq, hc, _⟩ := opened h (by omega) hb
      have h2 := opn_pop h hq hc
      rw [h2, List.length_append, List.length_singleton] at h1
      have := down hb
      omega
    · have hn : Nd X n a := ⟨by omega, hb⟩
      rw [opn_one h hn, List.length_append, List.length_singleton]
      have := hn.up
      omega
/-- The parent is what is open last. -/
theorem opn_par {X n a p : Nat} (h : Ok X n) (hp : Par X a p) : ∃ A, opn X n a = A ++ [ones X p] := by
  have hl := hp.lt
  have hn := h.nd hp.one
  have cp := cl_spec h hn
  refine ⟨((List.range p).filter fun q => X.testBit q && decide (a ≤ cl X n q)).map (ones X), ?_⟩
  unfold opn
  rw [filter_last (c := p) _ hl ?_ fun r r1 r2 => ?_, List.map_append]
  · rfl
  · have : X.testBit p = true := by rw [testBit_bt, hp.one]; rfl
    rw [this, Bool.true_and, decide_eq_true]
    rcases Nat.lt_or_ge (cl X n p) a with e | e
    · have := hp.over (cl X n p + 1) (by have := cp.gt; omega) e
      have := cp.eq
      have := hp.eq
      omega
    · exact e
  · by_cases hb : X.testBit r = true
    · have hb' : bt X r = 1 := by rw [testBit_bt] at hb; simpa using hb
      have cr := cl_spec h (h.nd hb')
      have : ¬ a ≤ cl X n r := by
        intro hle
        have h1 := cr.over a r2 hle
        have h2 := hp.over r r1 (by omega)
        omega
      rw [decide_eq_false this, Bool.and_false]
    · rw [Bool.eq_false_iff.2 hb, Bool.false_and]
end Ns
end Go.Proofs.YtmeclkmmgbndkaaGreatDoor
