/-
  JSON texts, by mathematics alone: a machine that goes byte by byte, with the brackets that are open; what it tells of a text; what follows for texts that are cut off.
-/
import Derived.Test.YtifkemcjificcaaUtSc
namespace Go.Proofs.Ytifkemcjificcaa
namespace Js
/-- Where the machine stands: a mode, a number (UTF-8's state, how many digits), what is left of a word, whether a string is a key, which brackets are open (innermost first; true: an object), how deep it has been. -/
structure Cf where
  m : Nat
  x : Nat
  w : List UInt8
  k : Bool
  st : List Bool
  d : Nat
/-- A value is wanted; a value or ]; a key or }; a key; a colon; a value has ended. -/
def cV (st : List Bool) (d : Nat) : Cf := ⟨0, 0, [], false, st, d⟩
def cA (st : List Bool) (d : Nat) : Cf := ⟨1, 0, [], false, st, d⟩
def cO (st : List Bool) (d : Nat) : Cf := ⟨2, 0, [], false, st, d⟩
def cK (st : List Bool) (d : Nat) : Cf := ⟨3, 0, [], false, st, d⟩
def cC (st : List Bool) (d : Nat) : Cf := ⟨4, 0, [], false, st, d⟩
def cE (st : List Bool) (d : Nat) : Cf := ⟨5, 0, [], false, st, d⟩
/-- Within a string; behind 5c; within a unit; within a word; within a number (20: behind -, 21: behind 0, 22: digits, 23: behind the point, 24: digits behind it, 25: behind e, 26: behind its sign, 27: its digits). -/
def cS (q : Nat) (k : Bool) (st : List Bool) (d : Nat) : Cf := ⟨6, q, [], k, st, d⟩
def cX (k : Bool) (st : List Bool) (d : Nat) : Cf := ⟨7, 0, [], k, st, d⟩
def cU (j : Nat) (k : Bool) (st : List Bool) (d : Nat) : Cf := ⟨8, j, [], k, st, d⟩
def cW (w : List UInt8) (st : List Bool) (d : Nat) : Cf := ⟨9, 0, w, false, st, d⟩
def cN (m : Nat) (st : List Bool) (d : Nat) : Cf := ⟨m, 0, [], false, st, d⟩
/-- Behind a string. -/
def aft (k : Bool) (st : List Bool) (d : Nat) : Cf := if k then cC st d else cE st d
def isB (b : Nat) : Bool := b == 32 || b == 9 || b == 10 || b == 13
def isD (b : Nat) : Bool := decide (48 ≤ b) && decide (b ≤ 57)
def isH (b : Nat) : Bool := isD b || (decide (97 ≤ b) && decide (b ≤ 102)) || (decide (65 ≤ b) && decide (b ≤ 70))
def isS (b : Nat) : Bool := b == 34 || b == 92 || b == 47 || b == 98 || b == 102 || b == 110 || b == 114 || b == 116
def stV (st : List Bool) (d b : Nat) : Option Cf :=
  if b = 34 then some (cS 0 false st d)
  else if b = 91 then some (cA (false :: st) (max d (st.length + 1)))
  else if b = 123 then some (cO (true :: st) (max d (st.length + 1)))
  else if b = 110 then some (cW [117, 108, 108] st d)
  else if b = 116 then some (cW [114, 117, 101] st d)
  else if b = 102 then some (cW [97, 108, 115, 101] st d)
  else if b = 45 then some (cN 20 st d)
  else if b = 48 then some (cN 21 st d)
  else if isD b then some (cN 22 st d)
  else none
def stE (st : List Bool) (d b : Nat) : Option Cf :=
  if isB b then some (cE st d)
  else if b = 44 then (match st with | [] => none | false :: r => some (cV (false :: r) d) | true :: r => some (cK (true :: r) d))
  else if b = 93 then (match st with | false :: r => some (cE r d) | _ => none)
  else if b = 125 then (match st with | true :: r => some (cE r d) | _ => none)
  else none
def stS (q : Nat) (k : Bool) (st : List Bool) (d b : Nat) : Option Cf :=
  if q = 0 ∧ b = 34 then some (aft k st d)
  else if q = 0 ∧ b < 32 then none
  else if q = 0 ∧ b = 92 then some (cX k st d)
  else if Ut.st q b = 8 then none
  else some (cS (Ut.st q b) k st d)
def stN (m : Nat) (st : List Bool) (d b : Nat) : Option Cf :=
  if m = 20 then (if b = 48 then some (cN 21 st d) else if isD b then some (cN 22 st d) else none)
  else if m = 21 then (if b = 46 then some (cN 23 st d) else if b = 101 ∨ b = 69 then some (cN 25 st d) else stE st d b)
  else if m = 22 then (if isD b then some (cN 22 st d) else if b = 46 then some (cN 23 st d) else if b = 101 ∨ b = 69 then some (cN 25 st d) else stE st d b)
  else if m = 23 then (if isD b then some (cN 24 st d) else none)
  else if m = 24 then (if isD b then some (cN 24 st d) else if b = 101 ∨ b = 69 then some (cN 25 st d) else stE st d b)
  else if m = 25 then (if b = 43 ∨ b = 45 then some (cN 26 st d) else if isD b then some (cN 27 st d) else none)
  else if m = 26 then (if isD b then some (cN 27 st d) else none)
  else if m = 27 then (if isD b then some (cN 27 st d) else stE st d b)
  else none
/-- Behind a byte; none: no JSON text begins so. -/
def step (c : Cf) (b : Nat) : Option Cf := match c.m with
  | 0 => if isB b then some (cV c.st c.d) else stV c.st c.d b
  | 1 => if isB b then some (cA c.st c.d) else if b = 93 then stE c.st c.d b else stV c.st c.d b
  | 2 => if isB b then some (cO c.st c.d) else if b = 125 then stE c.st c.d b else if b = 34 then some (cS 0 true c.st c.d) else none
  | 3 => if isB b then some (cK c.st c.d) else if b = 34 then some (cS 0 true c.st c.d) else none
  | 4 => if isB b then some (cC c.st c.d) else if b = 58 then some (cV c.st c.d) else none
  | 5 => stE c.st c.d b
  | 6 => stS c.x c.k c.st c.d b
  | 7 => if isS b then some (cS 0 c.k c.st c.d) else if b = 117 then some (cU 0 c.k c.st c.d) else none
  | 8 => if isH b then (if c.x = 3 then some (cS 0 c.k c.st c.d) else some (cU (c.x + 1) c.k c.st c.d)) else none
  | 9 => match c.w with
    | [] => none
    | a :: r => if b = a.toNat then (if r = [] then some (cE c.st c.d) else some (cW r c.st c.d)) else none
  | m => stN m c.st c.d b
/-- It may end here. -/
def acc (c : Cf) : Bool := (c.m == 5 || c.m == 21 || c.m == 22 || c.m == 24 || c.m == 27) && c.st.isEmpty
/-- What is told of bytes: how deep they nest, if they are a JSON text from here on; and how many are alive. -/
def out (c : Cf) : List UInt8 → Option Nat × Nat
  | [] => (if acc c then some c.d else none, 0)
  | b :: l => match step c b.toNat with
    | none => (none, 0)
    | some c' => ((out c' l).1, (out c' l).2 + 1)
/-- The same, from a place of a text on, in its places. -/
def T (l : List UInt8) (c : Cf) (i : Nat) : Option Nat × Nat := ((out c (l.drop i)).1, (out c (l.drop i)).2 + i)
theorem T_next (l : List UInt8) (c c' : Cf) (i : Nat) (h : i < l.length) (hs : step c (l[i]).toNat = some c') : T l c i = T l c' (i + 1) := by
  unfold T
  rw [List.drop_eq_getElem_cons h]
  show ((match step c (l[i]).toNat with | none => (none, 0) | some c' => ((out c' (l.drop (i + 1))).1, (out c' (l.drop (i + 1))).2 + 1) : Option Nat × Nat).1, _ + i) = _
  rw [hs]
  show ((out c' (l.drop (i + 1))).1, (match step c (l[i]).toNat with | none => (none, 0) | some c' => ((out c' (l.drop (i + 1))).1, (out c' (l.drop (i + 1))).2 + 1) : Option Nat × Nat).2 + i) = _
  rw [hs]
  show (_, _ + 1 + i) = (_, _ + (i + 1))
  congr 1
  omega
theorem T_dead (l : List UInt8) (c : Cf) (i : Nat) (h : i < l.length) (hs : step c (l[i]).toNat = none) : T l c i = (none, i) := by
  unfold T
  rw [List.drop_eq_getElem_cons h]
  have e : out c (l[i] :: l.drop (i + 1)) = (none, 0) := by
    show (match step c (l[i]).toNat with | none => (none, 0) | some c' => ((out c' (l.drop (i + 1))).1, (out c' (l.drop (i + 1))).2 + 1) : Option Nat × Nat) = _
    rw [hs]
  rw [e, Nat.zero_add]
theorem T_end (l : List UInt8) (c : Cf) (i : Nat) (h : l.length = i) : T l c i = (if acc c then some c.d else none, i) := by
  unfold T
  rw [List.drop_of_length_le (by omega)]
  show (_, 0 + i) = _
  rw [Nat.zero_add]
  rfl
theorem T_live (l : List UInt8) (c : Cf) (i : Nat) (h : l.length = i) (ha : acc c = false) : T l c i = (none, i) := by
  rw [T_end l c i h, ha]
  rfl
/-- How it begins. -/
def c0 : Cf := cV [] 0
/-- How many bytes are alive, at most all. -/
theorem out_le (l : List UInt8) (c : Cf) : (out c l).2 ≤ l.length := by
  induction l generalizing c with
  | nil => exact Nat.le_refl _
  | cons b l ih =>
    unfold out
    split
    · exact Nat.zero_le _
    · exact Nat.succ_le_succ (ih _)
theorem out_cons (c : Cf) (b : UInt8) (l : List UInt8) : out c (b :: l) = match step c b.toNat with | none => (none, 0) | some c' => ((out c' l).1, (out c' l).2 + 1) := rfl
theorem out_some (c c' : Cf) (b : UInt8) (l : List UInt8) (h : step c b.toNat = some c') : out c (b :: l) = ((out c' l).1, (out c' l).2 + 1) := by
  rw [out_cons, h]
theorem out_none (c : Cf) (b : UInt8) (l : List UInt8) (h : step c b.toNat = none) : out c (b :: l) = (none, 0) := by
  rw [out_cons, h]
/-- A JSON text is alive to its end. -/
theorem out_all (l : List UInt8) (c : Cf) (v : Nat) (h : (out c l).1 = some v) : (out c l).2 = l.length := by
  induction l generalizing c with
  | nil => rfl
  | cons b l ih =>
    cases hs : step c b.toNat with
    | none =>
      rw [out_none c b l hs] at h
      cases h
    | some c' =>
      rw [out_some c c' b l hs] at h ⊢
      exact congrArg (· + 1) (ih c' h)
/-- What is cut off where it is alive. -/
theorem out_cut (l : List UInt8) (c : Cf) (k : Nat) (hk : k ≤ (out c l).2) : (out c (l.take k)).2 = k := by
  induction l generalizing c k with
  | nil =>
    have : k = 0 := Nat.le_zero.1 hk
    subst this
    rfl
  | cons b l ih =>
    cases k with
    | zero => rfl
    | succ k =>
      rw [List.take_succ_cons]
      cases hs : step c b.toNat with
      | none =>
        rw [out_none c b l hs] at hk
        cases hk
      | some c' =>
        rw [out_some c c' b l hs] at hk
        rw [out_some c c' b _ hs]
        exact congrArg (· + 1) (ih c' k (Nat.le_of_succ_le_succ hk))
/-- What dies, dies with just one byte more. -/
theorem out_die (l : List UInt8) (c : Cf) (h : (out c l).2 < l.length) : out c (l.take ((out c l).2 + 1)) = (none, (out c l).2) := by
  induction l generalizing c with
  | nil => cases h
  | cons b l ih =>
    cases hs : step c b.toNat with
    | none =>
      rw [out_none c b l hs]
      show out c (b :: l.take 0) = (none, 0)
      rw [out_none c b _ hs]
    | some c' =>
      rw [out_some c c' b l hs] at h ⊢
      show out c (b :: l.take ((out c' l).2 + 1)) = _
      rw [out_some c c' b _ hs, ih c' (Nat.lt_of_succ_lt_succ h)]
/-- What is no JSON text and alive to its end: it is cut off there anyhow. -/
theorem out_take (l : List UInt8) (c : Cf) : out c (l.take l.length) = out c l := by rw [List.take_length]
end Js
end Go.Proofs.Ytifkemcjificcaa
