/-
  UTF-8, by mathematics alone: states, what is alive, the first scalar, its bytes.
  UTF-8, by mathematics alone: a scalar's bytes are what the states let by; its value comes again.
  JSON texts, by mathematics alone: a machine that goes byte by byte, with the brackets that are open; what it tells of a text; what follows for texts that are cut off.
  JSON texts, by mathematics alone: what the machine does at blanks, words, numbers and strings.
  The marks of a record, by mathematics alone: where they stand, their bits; texts put together, and cut off.
  JSON texts, by mathematics alone: what the machine does at a number, from joint to joint.
  What Validate tells of a text, by the machine of JSON texts.
  JSON texts, by mathematics alone: a text's byte at a place (0 behind its end), and the machine's steps by it; a text's part behind a place; UTF-8's state behind a byte that is a letter.
  JSON texts, by mathematics alone: in brackets, with blanks about them, many brackets in one another.
  The marks of a JSON text, by mathematics alone: the machine of JSON texts against the marks' states; its bits are balanced; blanks about its marks; a text without brackets has no marks.
  What layer 14's laws ask of marks, by mathematics alone: two records in an array; a list of so many numbers of so many digits.
  Lists of bits as parentheses, by mathematics alone: the excess, and when they are balanced. Of no program.
  JSON texts, by mathematics alone: what the machine does at brackets, commas, colons, and what a value begins with.
  JSON texts and UTF-8, by mathematics alone: what is alive as a JSON text is alive as UTF-8; what is told of the part that is alive as UTF-8 is told of the whole.
  UTF-8, by mathematics alone: which bytes are the beginning of a scalar's, and how some bytes tell it.
-/
import Derived.Test.YtoipliflphbeiaaGreatDoorRows
namespace Go.Proofs.YtoipliflphbeiaaGreatDoor
namespace Ut
/-- The state behind a byte. -/
def st (q b : Nat) : Nat :=
  match q with
  | 0 => if b < 128 then 0 else if b < 194 then 8 else if b < 224 then 1 else if b = 224 then 4 else if b = 237 then 5 else if b < 240 then 2 else if b = 240 then 6 else if b < 244 then 3 else if b = 244 then 7 else 8
  | 1 => if 128 ≤ b ∧ b ≤ 191 then 0 else 8
  | 2 => if 128 ≤ b ∧ b ≤ 191 then 1 else 8
  | 3 => if 128 ≤ b ∧ b ≤ 191 then 2 else 8
  | 4 => if 160 ≤ b ∧ b ≤ 191 then 1 else 8
  | 5 => if 128 ≤ b ∧ b ≤ 159 then 1 else 8
  | 6 => if 144 ≤ b ∧ b ≤ 191 then 2 else 8
  | 7 => if 128 ≤ b ∧ b ≤ 143 then 2 else 8
  | _ => 8
/-- The state behind a byte, of any number. -/
def stz (z : Int) (b : Nat) : Nat := if z < 0 ∨ 7 < z then 8 else st z.toNat b
theorem st_le (q b : Nat) : st q b ≤ 8 := by
  unfold st
  repeat' split
  all_goals omega
theorem stz_nat (q b : Nat) (h : q ≤ 8) : stz (q : Nat) b = st q b := by
  unfold stz
  by_cases h8 : q = 8
  · subst h8
    rfl
  · rw [if_neg (by omega)]
    rfl
/-- The state behind bytes. -/
def run : Nat → List UInt8 → Nat
  | q, [] => q
  | q, b :: l => run (st q b.toNat) l
/-- How many bytes are alive. -/
def alive : Nat → List UInt8 → Nat
  | _, [] => 0
  | q, b :: l => if st q b.toNat = 8 then 0 else alive (st q b.toNat) l + 1
/-- How many bytes lead to the state 0 again, for the first time; 0, if none do. -/
def ld : Nat → List UInt8 → Nat
  | _, [] => 0
  | q, b :: l => if st q b.toNat = 0 then 1 else if st q b.toNat = 8 then 0 else if ld (st q b.toNat) l = 0 then 0 else ld (st q b.toNat) l + 1
theorem run_dead (l : List UInt8) : run 8 l = 8 := by
  induction l with
  | nil => rfl
  | cons b l ih => exact ih
theorem run_append (q : Nat) (l m : List UInt8) : run q (l ++ m) = run (run q l) m := by
  induction l generalizing q with
  | nil => rfl
  | cons b l ih => exact ih _
theorem run_take_succ (q : Nat) (l : List UInt8) (k : Nat) (h : k < l.length) : run q (l.take (k + 1)) = st (run q (l.take k)) (l[k]).toNat := by
  rw [List.take_add_one, List.getElem?_eq_getElem h, run_append]
  rfl
theorem alive_le (q : Nat) (l : List UInt8) : alive q l ≤ l.length := by
  induction l generalizing q with
  | nil => exact Nat.le_refl _
  | cons b l ih =>
    unfold alive
    split
    · exact Nat.zero_le _
    · exact Nat.succ_le_succ (ih _)
theorem run_alive (q : Nat) (l m : List UInt8) (h : run q l ≠ 8) : alive q (l ++ m) = l.length + alive (run q l) m := by
  induction l generalizing q with
  | nil => simp [run]
  | cons b l ih =>
    have h2 : st q b.toNat ≠ 8 := by
      intro e
      apply h
      show run (st q b.toNat) l = 8
      rw [e, run_dead]
    show (if st q b.toNat = 8 then 0 else alive (st q b.toNat) (l ++ m) + 1) = _
    rw [if_neg h2, ih _ h, List.length_cons]
    show _ = l.length + 1 + alive (run (st q b.toNat) l) m
    omega
theorem alive_all (q : Nat) (l : List UInt8) (h : run q l ≠ 8) : alive q l = l.length := by
  have := run_alive q l [] h
  rw [List.append_nil] at this
  rw [this]
  rfl
theorem alive_lt (q : Nat) (l : List UInt8) (hq : q ≠ 8) (h : run q l = 8) : alive q l < l.length := by
  induction l generalizing q with
  | nil => exact absurd h hq
  | cons b l ih =>
    unfold alive
    split
    · exact Nat.succ_pos _
    · rename_i h2
      exact Nat.succ_lt_succ (ih _ h2 h)
/-- Where bytes die. -/
theorem died (q : Nat) (l : List UInt8) (k : Nat) (hk : k < l.length) (h : run q (l.take k) ≠ 8) (hd : st (run q (l.take k)) (l[k]).toNat = 8) : alive q l = k ∧ run q l = 8 := by
  have e : l = l.take k ++ l[k] :: l.drop (k + 1) := by
    rw [← List.drop_eq_getElem_cons hk, List.take_append_drop]
  constructor
  · rw [e, run_alive q _ _ h, List.length_take]
    unfold alive
    rw [if_pos hd]
    omega
  · rw [e, run_append]
    show run (st _ _) _ = 8
    rw [hd, run_dead]
theorem ld_le (q : Nat) (l : List UInt8) : ld q l ≤ l.length := by
  induction l generalizing q with
  | nil => exact Nat.le_refl _
  | cons b l ih =>
    unfold ld
    have := ih (st q b.toNat)
    rw [List.length_cons]
    repeat' split
    all_goals omega
/-- What is known of the bytes that lead to 0. -/
theorem ld_some (q : Nat) (l : List UInt8) (h : ld q l ≠ 0) : run q (l.take (ld q l)) = 0 ∧ ∀ i, 0 < i → i < ld q l → run q (l.take i) ≠ 0 ∧ run q (l.take i) ≠ 8 := by
  induction l generalizing q with
  | nil => exact absurd rfl h
  | cons b l ih =>
    unfold ld at h ⊢
    by_cases h0 : st q b.toNat = 0
    · rw [if_pos h0]
      refine ⟨?_, fun i h1 h2 => by omega⟩
      show run q [b] = 0
      exact h0
    · rw [if_neg h0] at h ⊢
      by_cases h8 : st q b.toNat = 8
      · rw [if_pos h8] at h
        exact absurd rfl h
      · rw [if_neg h8] at h ⊢
        by_cases hl : ld (st q b.toNat) l = 0
        · rw [if_pos hl] at h
          exact absurd rfl h
        · rw [if_neg hl]
          obtain ⟨h1, h2⟩ := ih _ hl
          refine ⟨by rw [List.take_succ_cons]; exact h1, fun i hi hi2 => ?_⟩
          obtain ⟨j, rfl⟩ : ∃ j, i = j + 1 := ⟨i - 1, by omega⟩
          rw [List.take_succ_cons]
          by_cases hj : j = 0
          · subst hj
            exact ⟨h0, h8⟩
          · exact h2 j (by omega) (by omega)
theorem ld_none (q : Nat) (l : List UInt8) (h : ld q l = 0) (i : Nat) (h0 : 0 < i) (hi : i ≤ l.length) : run q (l.take i) ≠ 0 := by
  induction l generalizing q i with
  | nil => simp at hi; omega
  | cons b l ih =>
    unfold ld at h
    obtain ⟨j, rfl⟩ : ∃ j, i = j + 1 := ⟨i - 1, by omega⟩
    rw [List.take_succ_cons]
    by_cases hz : st q b.toNat = 0
    · rw [if_pos hz] at h
      cases h
    · rw [if_neg hz] at h
      by_cases h8 : st q b.toNat = 8
      · show run (st q b.toNat) _ ≠ 0
        rw [h8, run_dead]
        decide
      · rw [if_neg h8] at h
        by_cases hl : ld (st q b.toNat) l = 0
        · by_cases hj : j = 0
          · subst hj
            exact hz
          · exact ih _ hl j (by omega) (by rw [List.length_cons] at hi; omega)
        · rw [if_neg hl] at h
          cases h
theorem ld_zero_of (q : Nat) (l : List UInt8) (h : ∀ i, 0 < i → i ≤ l.length → run q (l.take i) ≠ 0) : ld q l = 0 := by
  by_cases hl : ld q l = 0
  · exact hl
  · exact absurd (ld_some q l hl).1 (h _ (by omega) (ld_le q l))
/-- A scalar. -/
def Sc (c : Nat) : Prop := c ≤ 1114111 ∧ ¬ (55296 ≤ c ∧ c ≤ 57343)
/-- How many bytes a scalar has. -/
def wid (c : Nat) : Nat := if c < 128 then 1 else if c < 2048 then 2 else if c < 65536 then 3 else 4
/-- The first byte's bits that tell n. -/
def hd (n : Nat) : Nat := if n = 1 then 0 else if n = 2 then 192 else if n = 3 then 224 else 240
/-- A scalar's bytes, all but the first one: the last k. -/
def tl (c : Nat) : Nat → List UInt8
  | 0 => []
  | k + 1 => UInt8.ofNat (128 + c / 64 ^ k % 64) :: tl c k
/-- A scalar's bytes. -/
def enc (c : Nat) : List UInt8 := if c ≤ 1114111 ∧ ¬ (55296 ≤ c ∧ c ≤ 57343) then UInt8.ofNat (hd (wid c) + c / 64 ^ (wid c - 1)) :: tl c (wid c - 1) else []
theorem wid_pos (c : Nat) : 0 < wid c := by
  unfold wid
  repeat' split
  all_goals omega
theorem enc_sc (c : Nat) (h : Sc c) : enc c = UInt8.ofNat (hd (wid c) + c / 64 ^ (wid c - 1)) :: tl c (wid c - 1) := if_pos h
theorem enc_none (c : Nat) (h : ¬ Sc c) : enc c = [] := if_neg h
theorem enc1 (c : Nat) (h : c < 128) : enc c = [UInt8.ofNat c] := by
  have : Sc c := ⟨by omega, by omega⟩
  rw [enc_sc c this]
  simp [wid, h, hd, tl]
theorem enc2 (c : Nat) (h : 128 ≤ c) (h2 : c < 2048) : enc c = [UInt8.ofNat (192 + c / 64), UInt8.ofNat (128 + c % 64)] := by
  have : Sc c := ⟨by omega, by omega⟩
  rw [enc_sc c this]
  simp [wid, h2, show ¬ c < 128 from by omega, hd, tl]
theorem enc3 (c : Nat) (h : 2048 ≤ c) (h2 : c < 65536) (h3 : ¬ (55296 ≤ c ∧ c ≤ 57343)) : enc c = [UInt8.ofNat (224 + c / 4096), UInt8.ofNat (128 + c / 64 % 64), UInt8.ofNat (128 + c % 64)] := by
  have : Sc c := ⟨by omega, h3⟩
  rw [enc_sc c this]
  simp [wid, h2, show ¬ c < 128 from by omega, show ¬ c < 2048 from by omega, hd, tl]
theorem enc4 (c : Nat) (h : 65536 ≤ c) (h2 : c ≤ 1114111) : enc c = [UInt8.ofNat (240 + c / 262144), UInt8.ofNat (128 + c / 4096 % 64), UInt8.ofNat (128 + c / 64 % 64), UInt8.ofNat (128 + c % 64)] := by
  have : Sc c := ⟨by omega, by omega⟩
  rw [enc_sc c this]
  simp [wid, show ¬ c < 65536 from by omega, show ¬ c < 128 from by omega, show ¬ c < 2048 from by omega, hd, tl]
/-- The bits of the first one of n bytes that aren't told. -/
def top (n b : Nat) : Nat := if n = 1 then b % 128 else if n = 2 then b % 32 else if n = 3 then b % 16 else b % 8
/-- The number of the first k + 1 of n bytes. -/
def vl (l : List UInt8) (n : Nat) : Nat → Nat
  | 0 => top n (l.getD 0 0).toNat
  | k + 1 => vl l n k * 64 + (l.getD (k + 1) 0).toNat % 64
/-- How many bytes a first byte seems to tell. -/
def rn (b : Nat) : Nat := if b < 128 then 1 else if b < 192 then 0 else if b < 224 then 2 else if b < 240 then 3 else if b < 248 then 4 else 0
/-- The scalar that bytes begin with, and how many they are. -/
def sc (l : List UInt8) : Nat × Nat := if ld 0 l = 0 then (0, 0) else (vl l (ld 0 l) (ld 0 l - 1), ld 0 l)
theorem ofNat_eq (a : Nat) (b : UInt8) (h : a < 256) : UInt8.ofNat a = b ↔ a = b.toNat := by
  constructor
  · intro e
    rw [← e, UInt8.toNat_ofNat']
    omega
  · intro e
    rw [e, UInt8.ofNat_toNat]
theorem st_zero (b : Nat) : st 0 b = if b < 128 then 0 else if b < 194 then 8 else if b < 224 then 1 else if b = 224 then 4 else if b = 237 then 5 else if b < 240 then 2 else if b = 240 then 6 else if b < 244 then 3 else if b = 244 then 7 else 8 := rfl
theorem st0 (b : Nat) : (b < 128 ∧ st 0 b = 0) ∨ (128 ≤ b ∧ b < 194 ∧ st 0 b = 8) ∨ (194 ≤ b ∧ b < 224 ∧ st 0 b = 1) ∨ (b = 224 ∧ st 0 b = 4) ∨ (b = 237 ∧ st 0 b = 5) ∨ (225 ≤ b ∧ b < 240 ∧ b ≠ 237 ∧ st 0 b = 2) ∨ (b = 240 ∧ st 0 b = 6) ∨ (240 < b ∧ b < 244 ∧ st 0 b = 3) ∨ (b = 244 ∧ st 0 b = 7) ∨ (244 < b ∧ st 0 b = 8) := by
  obtain ⟨x, hx⟩ : ∃ x, x = st 0 b := ⟨_, rfl⟩
  rw [← hx]
  rw [st_zero] at hx
  repeat' split at hx
  all_goals omega
theorem ld_cons (q : Nat) (a : UInt8) (l : List UInt8) : ld q (a :: l) = if st q a.toNat = 0 then 1 else if st q a.toNat = 8 then 0 else if ld (st q a.toNat) l = 0 then 0 else ld (st q a.toNat) l + 1 := rfl
theorem ld_nil (q : Nat) : ld q [] = 0 := rfl
/-- One byte more. -/
theorem ld1 (a : UInt8) (l : List UInt8) : ld 1 (a :: l) = if 128 ≤ a.toNat ∧ a.toNat ≤ 191 then 1 else 0 := by
  rw [ld_cons, show st 1 a.toNat = if 128 ≤ a.toNat ∧ a.toNat ≤ 191 then 0 else 8 from rfl]
  split <;> simp
theorem ld2 (a : UInt8) (l : List UInt8) (q lo hi : Nat) (h : ∀ b, st q b = if lo ≤ b ∧ b ≤ hi then 1 else 8) : ld q (a :: l) = if lo ≤ a.toNat ∧ a.toNat ≤ hi ∧ ld 1 l = 1 then 2 else 0 := by
  rw [ld_cons, h]
  have h1 : ld 1 l = 0 ∨ ld 1 l = 1 := by
    cases l with
    | nil => exact .inl rfl
    | cons b l =>
      rw [ld1]
      split
      · exact .inr rfl
      · exact .inl rfl
  by_cases h2 : lo ≤ a.toNat ∧ a.toNat ≤ hi
  · rcases h1 with h1 | h1 <;> simp [h1, h2]
  · rw [if_neg h2, if_neg (by omega), if_pos rfl, if_neg (by omega)]
theorem ld3 (a : UInt8) (l : List UInt8) (q lo hi : Nat) (h : ∀ b, st q b = if lo ≤ b ∧ b ≤ hi then 2 else 8) : ld q (a :: l) = if lo ≤ a.toNat ∧ a.toNat ≤ hi ∧ ld 2 l = 2 then 3 else 0 := by
  rw [ld_cons, h]
  have h1 : ld 2 l = 0 ∨ ld 2 l = 2 := by
    cases l with
    | nil => exact .inl rfl
    | cons b l =>
      rw [ld2 b l 2 128 191 (fun _ => rfl)]
      split
      · exact .inr rfl
      · exact .inl rfl
  by_cases h2 : lo ≤ a.toNat ∧ a.toNat ≤ hi
  · rcases h1 with h1 | h1 <;> simp [h1, h2]
  · rw [if_neg h2, if_neg (by omega), if_pos rfl, if_neg (by omega)]
end Ut
end Go.Proofs.YtoipliflphbeiaaGreatDoor
namespace Go.Proofs.YtoipliflphbeiaaGreatDoor
namespace Ut
theorem up (P : Prop) [Decidable P] (n : Nat) : (if (if P then n + 1 else 0) = 0 then 0 else (if P then n + 1 else 0) + 1) = if P then n + 2 else 0 := by
  by_cases h : P
  · simp [h]
  · simp [h]
theorem is_one (P : Prop) [Decidable P] : ((if P then 1 else 0) = 1) = P := by
  by_cases h : P
  · simp [h]
  · simp [h]
theorem is_two (P : Prop) [Decidable P] : ((if P then 2 else 0) = 2) = P := by
  by_cases h : P
  · simp [h]
  · simp [h]
theorem ld_byte (a : UInt8) (l : List UInt8) (h : a.toNat < 128) : ld 0 (a :: l) = 1 := by
  rw [ld_cons, st_zero, if_pos h, if_pos rfl]
/-- Two bytes. -/
theorem ld_two (a b : UInt8) (l : List UInt8) (h : 192 ≤ a.toNat) (h2 : a.toNat < 224) : ld 0 (a :: b :: l) = if 194 ≤ a.toNat ∧ 128 ≤ b.toNat ∧ b.toNat ≤ 191 then 2 else 0 := by
  rw [ld_cons]
  rcases st0 a.toNat with ⟨h3, _⟩ | ⟨_, _, e⟩ | ⟨_, _, e⟩ | ⟨h3, _⟩ | ⟨h3, _⟩ | ⟨h3, _⟩ | ⟨h3, _⟩ | ⟨h3, _⟩ | ⟨h3, _⟩ | ⟨h3, _⟩
  · omega
  · rw [e, if_neg (by decide), if_pos rfl, if_neg (by omega)]
  · rw [e, if_neg (by decide), if_neg (by decide), ld1]
    by_cases h4 : 128 ≤ b.toNat ∧ b.toNat ≤ 191
    · rw [if_pos h4, if_neg (by decide), if_pos (by omega)]
    · rw [if_neg h4, if_pos rfl, if_neg (by omega)]
  all_goals omega
/-- What may come behind the first one of three bytes. -/
def lo3 (a : Nat) : Nat := if a = 224 then 160 else 128
def hi3 (a : Nat) : Nat := if a = 237 then 159 else 191
theorem lo3_cases (a : Nat) : (a = 224 ∧ lo3 a = 160) ∨ (a ≠ 224 ∧ lo3 a = 128) := by
  unfold lo3
  split <;> omega
theorem hi3_cases (a : Nat) : (a = 237 ∧ hi3 a = 159) ∨ (a ≠ 237 ∧ hi3 a = 191) := by
  unfold hi3
  split <;> omega
theorem ld_three (a b c : UInt8) (l : List UInt8) (h : 224 ≤ a.toNat) (h2 : a.toNat < 240) : ld 0 (a :: b :: c :: l) = if lo3 a.toNat ≤ b.toNat ∧ b.toNat ≤ hi3 a.toNat ∧ 128 ≤ c.toNat ∧ c.toNat ≤ 191 then 3 else 0 := by
  have key : ∀ q lo hi : Nat, (∀ b, st q b = if lo ≤ b ∧ b ≤ hi then 1 else 8) → (if ld q (b :: c :: l) = 0 then 0 else ld q (b :: c :: l) + 1) = if lo ≤ b.toNat ∧ b.toNat ≤ hi ∧ 128 ≤ c.toNat ∧ c.toNat ≤ 191 then 3 else 0 := by
    intro q lo hi hq
    rw [ld2 b _ q lo hi hq, ld1]
    simp only [is_one, up _ 1]
  rw [ld_cons]
  unfold lo3 hi3
  rcases st0 a.toNat with ⟨h3, _⟩ | ⟨_, h3, e⟩ | ⟨_, h3, e⟩ | ⟨h3, e⟩ | ⟨h3, e⟩ | ⟨h3, h4, h5, e⟩ | ⟨h3, _⟩ | ⟨h3, _⟩ | ⟨h3, _⟩ | ⟨h3, _⟩
  · omega
  · omega
  · omega
  · rw [e, if_neg (by decide), if_neg (by decide), h3, key 4 160 191 (fun _ => rfl)]
    rfl
  · rw [e, if_neg (by decide), if_neg (by decide), h3, key 5 128 159 (fun _ => rfl)]
    rfl
  · rw [e, if_neg (by decide), if_neg (by decide), key 2 128 191 (fun _ => rfl), if_neg (c := a.toNat = 224) (by omega), if_neg h5]
  all_goals omega
def lo4 (a : Nat) : Nat := if a = 240 then 144 else 128
def hi4 (a : Nat) : Nat := if a = 244 then 143 else 191
theorem lo4_cases (a : Nat) : (a = 240 ∧ lo4 a = 144) ∨ (a ≠ 240 ∧ lo4 a = 128) := by
  unfold lo4
  split <;> omega
theorem hi4_cases (a : Nat) : (a = 244 ∧ hi4 a = 143) ∨ (a ≠ 244 ∧ hi4 a = 191) := by
  unfold hi4
  split <;> omega
theorem ld_four (a b c d : UInt8) (l : List UInt8) (h : 240 ≤ a.toNat) (h2 : a.toNat < 248) : ld 0 (a :: b :: c :: d :: l) = if a.toNat ≤ 244 ∧ lo4 a.toNat ≤ b.toNat ∧ b.toNat ≤ hi4 a.toNat ∧ 128 ≤ c.toNat ∧ c.toNat ≤ 191 ∧ 128 ≤ d.toNat ∧ d.toNat ≤ 191 then 4 else 0 := by
  have key : ∀ q lo hi : Nat, (∀ b, st q b = if lo ≤ b ∧ b ≤ hi then 2 else 8) → (if ld q (b :: c :: d :: l) = 0 then 0 else ld q (b :: c :: d :: l) + 1) = if lo ≤ b.toNat ∧ b.toNat ≤ hi ∧ 128 ≤ c.toNat ∧ c.toNat ≤ 191 ∧ 128 ≤ d.toNat ∧ d.toNat ≤ 191 then 4 else 0 := by
    intro q lo hi hq
    rw [ld3 b _ q lo hi hq, ld2 c _ 2 128 191 (fun _ => rfl), ld1]
    simp only [is_one, is_two, up _ 2]
  rw [ld_cons]
  unfold lo4 hi4
  rcases st0 a.toNat with ⟨h3, _⟩ | ⟨_, h3, e⟩ | ⟨_, h3, e⟩ | ⟨h3, e⟩ | ⟨h3, e⟩ | ⟨h3, h4, h5, e⟩ | ⟨h3, e⟩ | ⟨h3, h4, e⟩ | ⟨h3, e⟩ | ⟨h3, e⟩
  · omega
  · omega
  · omega
  · omega
  · omega
  · omega
  · rw [e, if_neg (by decide), if_neg (by decide), h3, key 6 144 191 (fun _ => rfl)]
    simp
  · rw [e, if_neg (by decide), if_neg (by decide), key 3 128 191 (fun _ => rfl), if_neg (c := a.toNat = 240) (by omega), if_neg (c := a.toNat = 244) (by omega)]
    simp [show a.toNat ≤ 244 from by omega]
  · rw [e, if_neg (by decide), if_neg (by decide), h3, key 7 128 143 (fun _ => rfl)]
    simp
  · rw [e, if_neg (by decide), if_pos rfl, if_neg (by omega)]
/-- Too few bytes. -/
theorem ld_short (a : UInt8) (l : List UInt8) (h : l.length + 1 < rn a.toNat) : ld 0 (a :: l) = 0 := by
  unfold rn at h
  rw [ld_cons]
  have h128 : ¬ a.toNat < 128 := by
    intro h1
    rw [if_pos h1] at h
    omega
  rcases st0 a.toNat with ⟨h3, _⟩ | ⟨_, h3, e⟩ | ⟨h2, h3, e⟩ | ⟨h3, e⟩ | ⟨h3, e⟩ | ⟨h3, h4, h5, e⟩ | ⟨h3, e⟩ | ⟨h3, h4, e⟩ | ⟨h3, e⟩ | ⟨h3, e⟩
  · omega
  · rw [e]
    rfl
  · rw [if_neg h128, if_neg (by omega), if_pos h3] at h
    obtain rfl : l = [] := List.eq_nil_of_length_eq_zero (by omega)
    rw [e]
    rfl
  · rw [if_neg h128, if_neg (by omega), if_neg (by omega), if_pos (by omega)] at h
    rw [e]
    match l, h with
    | [], _ => rfl
    | [b], _ =>
      rw [ld2 b _ 4 160 191 (fun _ => rfl), ld_nil, if_neg (c := _ ∧ _ ∧ _) (by omega)]
      rfl
  · rw [if_neg h128, if_neg (by omega), if_neg (by omega), if_pos (by omega)] at h
    rw [e]
    match l, h with
    | [], _ => rfl
    | [b], _ =>
      rw [ld2 b _ 5 128 159 (fun _ => rfl), ld_nil, if_neg (c := _ ∧ _ ∧ _) (by omega)]
      rfl
  · rw [if_neg h128, if_neg (by omega), if_neg (by omega), if_pos (by omega)] at h
    rw [e]
    match l, h with
    | [], _ => rfl
    | [b], _ =>
      rw [ld2 b _ 2 128 191 (fun _ => rfl), ld_nil, if_neg (c := _ ∧ _ ∧ _) (by omega)]
      rfl
  · rw [if_neg h128, if_neg (by omega), if_neg (by omega), if_neg (by omega), if_pos (by omega)] at h
    rw [e]
    match l, h with
    | [], _ => rfl
    | [b], _ =>
      rw [ld3 b _ 6 144 191 (fun _ => rfl), ld_nil, if_neg (c := _ ∧ _ ∧ _) (by omega)]
      rfl
    | [b, c], _ =>
      rw [ld3 b _ 6 144 191 (fun _ => rfl), ld2 c _ 2 128 191 (fun _ => rfl), ld_nil, if_neg (c := _ ∧ _ ∧ _ = 1) (by omega), if_neg (c := _ ∧ _ ∧ _) (by omega)]
      rfl
  · rw [if_neg h128, if_neg (by omega), if_neg (by omega), if_neg (by omega), if_pos (by omega)] at h
    rw [e]
    match l, h with
    | [], _ => rfl
    | [b], _ =>
      rw [ld3 b _ 3 128 191 (fun _ => rfl), ld_nil, if_neg (c := _ ∧ _ ∧ _) (by omega)]
      rfl
    | [b, c], _ =>
      rw [ld3 b _ 3 128 191 (fun _ => rfl), ld2 c _ 2 128 191 (fun _ => rfl), ld_nil, if_neg (c := _ ∧ _ ∧ _ = 1) (by omega), if_neg (c := _ ∧ _ ∧ _) (by omega)]
      rfl
  · rw [if_neg h128, if_neg (by omega), if_neg (by omega), if_neg (by omega), if_pos (by omega)] at h
    rw [e]
    match l, h with
    | [], _ => rfl
    | [b], _ =>
      rw [ld3 b _ 7 128 143 (fun _ => rfl), ld_nil, if_neg (c := _ ∧ _ ∧ _) (by omega)]
      rfl
    | [b, c], _ =>
      rw [ld3 b _ 7 128 143 (fun _ => rfl), ld2 c _ 2 128 191 (fun _ => rfl), ld_nil, if_neg (c := _ ∧ _ ∧ _ = 1) (by omega), if_neg (c := _ ∧ _ ∧ _) (by omega)]
      rfl
  · rw [e]
    rfl
/-- A byte that is no first one. -/
theorem ld_odd (a : UInt8) (l : List UInt8) (h : rn a.toNat = 0) : ld 0 (a :: l) = 0 := by
  unfold rn at h
  rw [ld_cons]
  rcases st0 a.toNat with ⟨h3, _⟩ | ⟨_, h3, e⟩ | ⟨h2, h3, e⟩ | ⟨h3, e⟩ | ⟨h3, e⟩ | ⟨h3, h4, h5, e⟩ | ⟨h3, e⟩ | ⟨h3, h4, e⟩ | ⟨h3, e⟩ | ⟨h3, e⟩
  · rw [if_pos h3] at h
    cases h
  · rw [e]
    rfl
  · rw [if_neg (by omega), if_neg (by omega), if_pos (by omega)] at h
    cases h
  · rw [if_neg (by omega), if_neg (by omega), if_neg (by omega), if_pos (by omega)] at h
    cases h
  · rw [if_neg (by omega), if_neg (by omega), if_neg (by omega), if_pos (by omega)] at h
    cases h
  · rw [if_neg (by omega), if_neg (by omega), if_neg (by omega), if_pos (by omega)] at h
    cases h
  · rw [if_neg (by omega), if_neg (by omega), if_neg (by omega), if_neg (by omega), if_pos (by omega)] at h
    cases h
  · rw [if_neg (by omega), if_neg (by omega), if_neg (by omega), if_neg (by omega), if_pos (by omega)] at h
    cases h
  · rw [if_neg (by omega), if_neg (by omega), if_neg (by omega), if_neg (by omega), if_pos (by omega)] at h
    cases h
  · rw [e]
    rfl
theorem enc_len_of (c : Nat) : (c < 128 → (enc c).length = 1) ∧ (128 ≤ c → c < 2048 → (enc c).length = 2) ∧ (2048 ≤ c → c < 65536 → (enc c).length = 3 ∨ (enc c).length = 0) ∧ (65536 ≤ c → (enc c).length = 4 ∨ (enc c).length = 0) := by
  refine ⟨fun h1 => by rw [enc1 c h1]; rfl, fun h1 h2 => by rw [enc2 c h1 h2]; rfl, fun h1 h2 => ?_, fun h1 => ?_⟩
  · by_cases h3 : 55296 ≤ c ∧ c ≤ 57343
    · rw [enc_none c (fun h => h.2 h3)]
      exact .inr rfl
    · rw [enc3 c h1 h2 h3]
      exact .inl rfl
  · by_cases h3 : c ≤ 1114111
    · rw [enc4 c h1 h3]
      exact .inl rfl
    · rw [enc_none c (fun h => h3 h.1)]
      exact .inr rfl
theorem back_two (a b : UInt8) (h : 192 ≤ a.toNat) (h2 : a.toNat < 224) : enc (a.toNat % 32 * 64 + b.toNat % 64) = [a, b] ↔ 194 ≤ a.toNat ∧ 128 ≤ b.toNat ∧ b.toNat ≤ 191 := by
  obtain ⟨v, hv⟩ : ∃ v, v = a.toNat % 32 * 64 + b.toNat % 64 := ⟨_, rfl⟩
  have hb := b.toNat_lt
  rw [← hv]
  by_cases h1 : v < 128
  · constructor
    · intro e
      rw [enc1 v h1] at e
      cases e
    · intro h3
      omega
  · rw [enc2 v (by omega) (by omega)]
    simp only [List.cons.injEq, and_true]
    rw [ofNat_eq _ _ (by omega), ofNat_eq _ _ (by omega)]
    omega
theorem back_three (a b c : UInt8) (h : 224 ≤ a.toNat) (h2 : a.toNat < 240) : enc ((a.toNat % 16 * 64 + b.toNat % 64) * 64 + c.toNat % 64) = [a, b, c] ↔ lo3 a.toNat ≤ b.toNat ∧ b.toNat ≤ hi3 a.toNat ∧ 128 ≤ c.toNat ∧ c.toNat ≤ 191 := by
  obtain ⟨v, hv⟩ : ∃ v, v = (a.toNat % 16 * 64 + b.toNat % 64) * 64 + c.toNat % 64 := ⟨_, rfl⟩
  have hb := b.toNat_lt
  have hc := c.toNat_lt
  have hlo := lo3_cases a.toNat
  have hhi := hi3_cases a.toNat
  rw [← hv]
  by_cases h1 : v < 2048
  · constructor
    · intro e
      have := enc_len_of v
      rw [e] at this
      simp at this
      omega
    · intro h3
      omega
  · by_cases h3 : 55296 ≤ v ∧ v ≤ 57343
    · constructor
      · intro e
        rw [enc_none v (fun h => h.2 h3)] at e
        cases e
      · intro h4
        omega
    · rw [enc3 v (by omega) (by omega) h3]
      simp only [List.cons.injEq, and_true]
      rw [ofNat_eq _ _ (by omega), ofNat_eq _ _ (by omega), ofNat_eq _ _ (by omega)]
      omega
theorem back_four (a b c d : UInt8) (h : 240 ≤ a.toNat) (h2 : a.toNat < 248) : enc (((a.toNat % 8 * 64 + b.toNat % 64) * 64 + c.toNat % 64) * 64 + d.toNat % 64) = [a, b, c, d] ↔ a.toNat ≤ 244 ∧ lo4 a.toNat ≤ b.toNat ∧ b.toNat ≤ hi4 a.toNat ∧ 128 ≤ c.toNat ∧ c.toNat ≤ 191 ∧ 128 ≤ d.toNat ∧ d.toNat ≤ 191 := by
  obtain ⟨v, hv⟩ : ∃ v, v = ((a.toNat % 8 * 64 + b.toNat % 64) * 64 + c.toNat % 64) * 64 + d.toNat % 64 := ⟨_, rfl⟩
  have hb := b.toNat_lt
  have hc := c.toNat_lt
  have hd := d.toNat_lt
  have hlo := lo4_cases a.toNat
  have hhi := hi4_cases a.toNat
  rw [← hv]
  by_cases h1 : v < 65536
  · constructor
    · intro e
      have := enc_len_of v
      rw [e] at this
      simp at this
      omega
    · intro h3
      omega
  · by_cases h3 : v ≤ 1114111
    · rw [enc4 v (by omega) h3]
      simp only [List.cons.injEq, and_true]
      rw [ofNat_eq _ _ (by omega), ofNat_eq _ _ (by omega), ofNat_eq _ _ (by omega), ofNat_eq _ _ (by omega)]
      omega
    · constructor
      · intro e
        rw [enc_none v (fun h => h3 h.1)] at e
        cases e
      · intro h4
        omega
/-- What the reference asks is what the states tell. -/
theorem back_any (a : UInt8) (l : List UInt8) (h0 : rn a.toNat ≠ 0) (hl : rn a.toNat ≤ l.length + 1) : (enc (vl (a :: l) (rn a.toNat) (rn a.toNat - 1)) = (a :: l).take (rn a.toNat) ∧ ld 0 (a :: l) = rn a.toNat) ∨ (enc (vl (a :: l) (rn a.toNat) (rn a.toNat - 1)) ≠ (a :: l).take (rn a.toNat) ∧ ld 0 (a :: l) = 0) := by
  have hr : rn a.toNat = if a.toNat < 128 then 1 else if a.toNat < 192 then 0 else if a.toNat < 224 then 2 else if a.toNat < 240 then 3 else if a.toNat < 248 then 4 else 0 := rfl
  by_cases h1 : a.toNat < 128
  · left
    rw [if_pos h1] at hr
    rw [hr]
    refine ⟨?_, ld_byte a l h1⟩
    show enc (a.toNat % 128) = [a]
    rw [Nat.mod_eq_of_lt h1, enc1 _ h1, UInt8.ofNat_toNat]
  rw [if_neg h1] at hr
  by_cases h2 : a.toNat < 192
  · rw [if_pos h2] at hr
    exact absurd hr h0
  rw [if_neg h2] at hr
  by_cases h3 : a.toNat < 224
  · rw [if_pos h3] at hr
    rw [hr] at hl ⊢
    match l, hl with
    | b :: l, _ =>
      have hb := back_two a b (by omega) h3
      have hc := ld_two a b l (by omega) h3
      show (enc (a.toNat % 32 * 64 + b.toNat % 64) = [a, b] ∧ _) ∨ (enc (a.toNat % 32 * 64 + b.toNat % 64) ≠ [a, b] ∧ _)
      split at hc
      · rename_i h4
        exact .inl ⟨hb.2 h4, hc⟩
      · rename_i h4
        exact .inr ⟨fun e => h4 (hb.1 e), hc⟩
  rw [if_neg h3] at hr
  by_cases h4 : a.toNat < 240
  · rw [if_pos h4] at hr
    rw [hr] at hl ⊢
    match l, hl with
    | b :: c :: l, _ =>
      have hb := back_three a b c (by omega) h4
      have hc := ld_three a b c l (by omega) h4
      show (enc ((a.toNat % 16 * 64 + b.toNat % 64) * 64 + c.toNat % 64) = [a, b, c] ∧ _) ∨ (enc ((a.toNat % 16 * 64 + b.toNat % 64) * 64 + c.toNat % 64) ≠ [a, b, c] ∧ _)
      split at hc
      · rename_i h4
        exact .inl ⟨hb.2 h4, hc⟩
      · rename_i h4
        exact .inr ⟨fun e => h4 (hb.1 e), hc⟩
  rw [if_neg h4] at hr
  by_cases h5 : a.toNat < 248
  · rw [if_pos h5] at hr
    rw [hr] at hl ⊢
    match l, hl with
    | b :: c :: d :: l, _ =>
      have hb := back_four a b c d (by omega) h5
      have hc := ld_four a b c d l (by omega) h5
      show (enc (((a.toNat % 8 * 64 + b.toNat % 64) * 64 + c.toNat % 64) * 64 + d.toNat % 64) = [a, b, c, d] ∧ _) ∨ (enc (((a.toNat % 8 * 64 + b.toNat % 64) * 64 + c.toNat % 64) * 64 + d.toNat % 64) ≠ [a, b, c, d] ∧ _)
      split at hc
      · rename_i h4
        exact .inl ⟨hb.2 h4, hc⟩
      · rename_i h4
        exact .inr ⟨fun e => h4 (hb.1 e), hc⟩
  rw [if_neg h5] at hr
  exact absurd hr h0
end Ut
end Go.Proofs.YtoipliflphbeiaaGreatDoor
namespace Go.Proofs.YtoipliflphbeiaaGreatDoor
namespace Js
/-- Where the machine stands: a mode, a number (UTF-8's state, how many digits), what is left of a word, whether a string is a key, which brackets are open (innermost first; true: an object), how deep it has been. -/
structure Cf where
  m : Nat
  x : Nat
  w : List UInt8
  k : Bool
  st : List Bool
  d : Nat
/-- A value is wanted; a value or ]; a key or }; a key; a colon; a value has ended. -/
def cV (st : List Bool) (d : Nat) : Cf := ⟨0, 0, [], false, st, d⟩
def cA (st : List Bool) (d : Nat) : Cf := ⟨1, 0, [], false, st, d⟩
def cO (st : List Bool) (d : Nat) : Cf := ⟨2, 0, [], false, st, d⟩
def cK (st : List Bool) (d : Nat) : Cf := ⟨3, 0, [], false, st, d⟩
def cC (st : List Bool) (d : Nat) : Cf := ⟨4, 0, [], false, st, d⟩
def cE (st : List Bool) (d : Nat) : Cf := ⟨5, 0, [], false, st, d⟩
/-- Within a string; behind 5c; within a unit; within a word; within a number (20: behind -, 21: behind 0, 22: digits, 23: behind the point, 24: digits behind it, 25: behind e, 26: behind its sign, 27: its digits). -/
def cS (q : Nat) (k : Bool) (st : List Bool) (d : Nat) : Cf := ⟨6, q, [], k, st, d⟩
def cX (k : Bool) (st : List Bool) (d : Nat) : Cf := ⟨7, 0, [], k, st, d⟩
def cU (j : Nat) (k : Bool) (st : List Bool) (d : Nat) : Cf := ⟨8, j, [], k, st, d⟩
def cW (w : List UInt8) (st : List Bool) (d : Nat) : Cf := ⟨9, 0, w, false, st, d⟩
def cN (m : Nat) (st : List Bool) (d : Nat) : Cf := ⟨m, 0, [], false, st, d⟩
/-- Behind a string. -/
def aft (k : Bool) (st : List Bool) (d : Nat) : Cf := if k then cC st d else cE st d
def isB (b : Nat) : Bool := b == 32 || b == 9 || b == 10 || b == 13
def isD (b : Nat) : Bool := decide (48 ≤ b) && decide (b ≤ 57)
def isH (b : Nat) : Bool := isD b || (decide (97 ≤ b) && decide (b ≤ 102)) || (decide (65 ≤ b) && decide (b ≤ 70))
def isS (b : Nat) : Bool := b == 34 || b == 92 || b == 47 || b == 98 || b == 102 || b == 110 || b == 114 || b == 116
def stV (st : List Bool) (d b : Nat) : Option Cf :=
  if b = 34 then some (cS 0 false st d)
  else if b = 91 then some (cA (false :: st) (max d (st.length + 1)))
  else if b = 123 then some (cO (true :: st) (max d (st.length + 1)))
  else if b = 110 then some (cW [117, 108, 108] st d)
  else if b = 116 then some (cW [114, 117, 101] st d)
  else if b = 102 then some (cW [97, 108, 115, 101] st d)
  else if b = 45 then some (cN 20 st d)
  else if b = 48 then some (cN 21 st d)
  else if isD b then some (cN 22 st d)
  else none
def stE (st : List Bool) (d b : Nat) : Option Cf :=
  if isB b then some (cE st d)
  else if b = 44 then (match st with | [] => none | false :: r => some (cV (false :: r) d) | true :: r => some (cK (true :: r) d))
  else if b = 93 then (match st with | false :: r => some (cE r d) | _ => none)
  else if b = 125 then (match st with | true :: r => some (cE r d) | _ => none)
  else none
def stS (q : Nat) (k : Bool) (st : List Bool) (d b : Nat) : Option Cf :=
  if q = 0 ∧ b = 34 then some (aft k st d)
  else if q = 0 ∧ b < 32 then none
  else if q = 0 ∧ b = 92 then some (cX k st d)
  else if Ut.st q b = 8 then none
  else some (cS (Ut.st q b) k st d)
def stN (m : Nat) (st : List Bool) (d b : Nat) : Option Cf :=
  if m = 20 then (if b = 48 then some (cN 21 st d) else if isD b then some (cN 22 st d) else none)
  else if m = 21 then (if b = 46 then some (cN 23 st d) else if b = 101 ∨ b = 69 then some (cN 25 st d) else stE st d b)
  else if m = 22 then (if isD b then some (cN 22 st d) else if b = 46 then some (cN 23 st d) else if b = 101 ∨ b = 69 then some (cN 25 st d) else stE st d b)
  else if m = 23 then (if isD b then some (cN 24 st d) else none)
  else if m = 24 then (if isD b then some (cN 24 st d) else if b = 101 ∨ b = 69 then some (cN 25 st d) else stE st d b)
  else if m = 25 then (if b = 43 ∨ b = 45 then some (cN 26 st d) else if isD b then some (cN 27 st d) else none)
  else if m = 26 then (if isD b then some (cN 27 st d) else none)
  else if m = 27 then (if isD b then some (cN 27 st d) else stE st d b)
  else none
/-- Behind a byte; none: no JSON text begins so. -/
def step (c : Cf) (b : Nat) : Option Cf := match c.m with
  | 0 => if isB b then some (cV c.st c.d) else stV c.st c.d b
  | 1 => if isB b then some (cA c.st c.d) else if b = 93 then stE c.st c.d b else stV c.st c.d b
  | 2 => if isB b then some (cO c.st c.d) else if b = 125 then stE c.st c.d b else if b = 34 then some (cS 0 true c.st c.d) else none
  | 3 => if isB b then some (cK c.st c.d) else if b = 34 then some (cS 0 true c.st c.d) else none
  | 4 => if isB b then some (cC c.st c.d) else if b = 58 then some (cV c.st c.d) else none
  | 5 => stE c.st c.d b
  | 6 => stS c.x c.k c.st c.d b
  | 7 => if isS b then some (cS 0 c.k c.st c.d) else if b = 117 then some (cU 0 c.k c.st c.d) else none
  | 8 => if isH b then (if c.x = 3 then some (cS 0 c.k c.st c.d) else some (cU (c.x + 1) c.k c.st c.d)) else none
  | 9 => match c.w with
    | [] => none
    | a :: r => if b = a.toNat then (if r = [] then some (cE c.st c.d) else some (cW r c.st c.d)) else none
  | m => stN m c.st c.d b
/-- It may end here. -/
def acc (c : Cf) : Bool := (c.m == 5 || c.m == 21 || c.m == 22 || c.m == 24 || c.m == 27) && c.st.isEmpty
/-- What is told of bytes: how deep they nest, if they are a JSON text from here on; and how many are alive. -/
def out (c : Cf) : List UInt8 → Option Nat × Nat
  | [] => (if acc c then some c.d else none, 0)
  | b :: l => match step c b.toNat with
    | none => (none, 0)
    | some c' => ((out c' l).1, (out c' l).2 + 1)
/-- The same, from a place of a text on, in its places. -/
def T (l : List UInt8) (c : Cf) (i : Nat) : Option Nat × Nat := ((out c (l.drop i)).1, (out c (l.drop i)).2 + i)
theorem T_next (l : List UInt8) (c c' : Cf) (i : Nat) (h : i < l.length) (hs : step c (l[i]).toNat = some c') : T l c i = T l c' (i + 1) := by
  unfold T
  rw [List.drop_eq_getElem_cons h]
  show ((match step c (l[i]).toNat with | none => (none, 0) | some c' => ((out c' (l.drop (i + 1))).1, (out c' (l.drop (i + 1))).2 + 1) : Option Nat × Nat).1, _ + i) = _
  rw [hs]
  show ((out c' (l.drop (i + 1))).1, (match step c (l[i]).toNat with | none => (none, 0) | some c' => ((out c' (l.drop (i + 1))).1, (out c' (l.drop (i + 1))).2 + 1) : Option Nat × Nat).2 + i) = _
  rw [hs]
  show (_, _ + 1 + i) = (_, _ + (i + 1))
  congr 1
  omega
theorem T_dead (l : List UInt8) (c : Cf) (i : Nat) (h : i < l.length) (hs : step c (l[i]).toNat = none) : T l c i = (none, i) := by
  unfold T
  rw [List.drop_eq_getElem_cons h]
  have e : out c (l[i] :: l.drop (i + 1)) = (none, 0) := by
    show (match step c (l[i]).toNat with | none => (none, 0) | some c' => ((out c' (l.drop (i + 1))).1, (out c' (l.drop (i + 1))).2 + 1) : Option Nat × Nat) = _
    rw [hs]
  rw [e, Nat.zero_add]
theorem T_end (l : List UInt8) (c : Cf) (i : Nat) (h : l.length = i) : T l c i = (if acc c then some c.d else none, i) := by
  unfold T
  rw [List.drop_of_length_le (by omega)]
  show (_, 0 + i) = _
  rw [Nat.zero_add]
  rfl
theorem T_live (l : List UInt8) (c : Cf) (i : Nat) (h : l.length = i) (ha : acc c = false) : T l c i = (none, i) := by
  rw [T_end l c i h, ha]
  rfl
/-- How it begins. -/
def c0 : Cf := cV [] 0
/-- How many bytes are alive, at most all. -/
theorem out_le (l : List UInt8) (c : Cf) : (out c l).2 ≤ l.length := by
  induction l generalizing c with
  | nil => exact Nat.le_refl _
  | cons b l ih =>
    unfold out
    split
    · exact Nat.zero_le _
    · exact Nat.succ_le_succ (ih _)
theorem out_cons (c : Cf) (b : UInt8) (l : List UInt8) : out c (b :: l) = match step c b.toNat with | none => (none, 0) | some c' => ((out c' l).1, (out c' l).2 + 1) := rfl
theorem out_some (c c' : Cf) (b : UInt8) (l : List UInt8) (h : step c b.toNat = some c') : out c (b :: l) = ((out c' l).1, (out c' l).2 + 1) := by
  rw [out_cons, h]
theorem out_none (c : Cf) (b : UInt8) (l : List UInt8) (h : step c b.toNat = none) : out c (b :: l) = (none, 0) := by
  rw [out_cons, h]
/-- A JSON text is alive to its end. -/
theorem out_all (l : List UInt8) (c : Cf) (v : Nat) (h : (out c l).1 = some v) : (out c l).2 = l.length := by
  induction l generalizing c with
  | nil => rfl
  | cons b l ih =>
    cases hs : step c b.toNat with
    | none =>
      rw [out_none c b l hs] at h
      cases h
    | some c' =>
      rw [out_some c c' b l hs] at h ⊢
      exact congrArg (· + 1) (ih c' h)
end Js
end Go.Proofs.YtoipliflphbeiaaGreatDoor
namespace Go.Proofs.YtoipliflphbeiaaGreatDoor
namespace Js
theorem T_same (l : List UInt8) (c c' : Cf) (i : Nat) (h : ∀ hi : i < l.length, step c (l[i]).toNat = step c' (l[i]).toNat) (ha : acc c = acc c') (hd : c.d = c'.d) : T l c i = T l c' i := by
  by_cases hi : i < l.length
  · cases hs : step c' (l[i]).toNat with
    | none => rw [T_dead l c' i hi hs, T_dead l c i hi ((h hi).trans hs)]
    | some x => rw [T_next l c' x i hi hs, T_next l c x i hi ((h hi).trans hs)]
  · unfold T
    rw [List.drop_of_length_le (by omega)]
    show ((if acc c then some c.d else none), _) = ((if acc c' then some c'.d else none), _)
    rw [ha, hd]
    rfl
/-- The byte ahead of the place is there, and no blank. -/
def Nb (l : List UInt8) (q : Nat) : Prop := ∃ (k : Nat) (h : k < l.length), q = k + 1 ∧ isB (l[k]).toNat = false
theorem nb_digit {l : List UInt8} {k : Nat} (hk : k < l.length) (h : isD (l[k]).toNat = true) : Nb l (k + 1) := by
  refine ⟨k, hk, rfl, ?_⟩
  unfold isD at h
  unfold isB
  simp only [Bool.and_eq_true, decide_eq_true_eq] at h
  simp only [Bool.or_eq_false_iff, beq_eq_false_iff_ne]
  omega
theorem nb_byte {l : List UInt8} {k : Nat} (hk : k < l.length) (h : isB (l[k]).toNat = false) : Nb l (k + 1) := ⟨k, hk, rfl, h⟩
/-- Blanks are gone by. -/
def Sp (c : Cf) : Prop := ∀ b, isB b = true → step c b = some c
theorem sp_V (st : List Bool) (d : Nat) : Sp (cV st d) := fun b h => by
  show (if isB b then some (cV st d) else stV st d b) = _
  rw [if_pos h]
theorem sp_A (st : List Bool) (d : Nat) : Sp (cA st d) := fun b h => by
  show (if isB b then some (cA st d) else _) = _
  rw [if_pos h]
theorem sp_O (st : List Bool) (d : Nat) : Sp (cO st d) := fun b h => by
  show (if isB b then some (cO st d) else _) = _
  rw [if_pos h]
theorem sp_K (st : List Bool) (d : Nat) : Sp (cK st d) := fun b h => by
  show (if isB b then some (cK st d) else _) = _
  rw [if_pos h]
theorem sp_C (st : List Bool) (d : Nat) : Sp (cC st d) := fun b h => by
  show (if isB b then some (cC st d) else _) = _
  rw [if_pos h]
theorem sp_E (st : List Bool) (d : Nat) : Sp (cE st d) := fun b h => by
  show (if isB b then some (cE st d) else _) = _
  rw [if_pos h]
theorem T_blank (l : List UInt8) (c : Cf) (i : Nat) (hc : Sp c) (h : i < l.length) (hb : isB (l[i]).toNat = true) : T l c i = T l c (i + 1) := T_next l c c i h (hc _ hb)
theorem isB_of (b : Nat) (h : b = 32 ∨ b = 9 ∨ b = 10 ∨ b = 13) : isB b = true := by
  rcases h with rfl | rfl | rfl | rfl <;> rfl
theorem isB_not (b : Nat) (h1 : b ≠ 32) (h2 : b ≠ 9) (h3 : b ≠ 10) (h4 : b ≠ 13) : isB b = false := by
  unfold isB
  simp [h1, h2, h3, h4]
theorem isB_iff (b : Nat) : isB b = true ↔ b = 32 ∨ b = 9 ∨ b = 10 ∨ b = 13 := by
  unfold isB
  simp [or_assoc]
theorem isD_iff (b : Nat) : isD b = true ↔ 48 ≤ b ∧ b ≤ 57 := by
  unfold isD
  simp
/-- What a value begins with. -/
theorem step_V (st : List Bool) (d b : Nat) (h : isB b = false) : step (cV st d) b = stV st d b := by
  show (if isB b then some (cV st d) else stV st d b) = _
  rw [h]
  rfl
theorem step_A (st : List Bool) (d b : Nat) (h : isB b = false) (h2 : b ≠ 93) : step (cA st d) b = stV st d b := by
  show (if isB b then some (cA st d) else if b = 93 then stE st d b else stV st d b) = _
  rw [h, if_neg h2]
  rfl
theorem step_E_none (st : List Bool) (d b : Nat) (h : isB b = false) (h1 : b ≠ 44) (h2 : ∀ r, st = false :: r → b ≠ 93) (h3 : ∀ r, st = true :: r → b ≠ 125) : step (cE st d) b = none := by
  show stE st d b = none
  unfold stE
  rw [h, if_neg h1]
  by_cases h93 : b = 93
  · rw [if_pos h93]
    match st, h2 with
    | [], _ => rfl
    | true :: r, _ => rfl
    | false :: r, h2 => exact absurd h93 (h2 r rfl)
  · rw [if_neg h93]
    by_cases h125 : b = 125
    · rw [if_pos h125]
      match st, h3 with
      | [], _ => rfl
      | false :: r, _ => rfl
      | true :: r, h3 => exact absurd h125 (h3 r rfl)
    · rw [if_neg h125]
      rfl
theorem step_K (st : List Bool) (d b : Nat) (h : isB b = false) : step (cK st d) b = if b = 34 then some (cS 0 true st d) else none := by
  show (if isB b then some (cK st d) else if b = 34 then some (cS 0 true st d) else none) = _
  rw [h]
  rfl
theorem step_O (st : List Bool) (d b : Nat) (h : isB b = false) (h2 : b ≠ 125) : step (cO st d) b = if b = 34 then some (cS 0 true st d) else none := by
  show (if isB b then some (cO st d) else if b = 125 then stE st d b else if b = 34 then some (cS 0 true st d) else none) = _
  rw [h, if_neg h2]
  rfl
theorem step_C (st : List Bool) (d b : Nat) (h : isB b = false) : step (cC st d) b = if b = 58 then some (cV st d) else none := by
  show (if isB b then some (cC st d) else if b = 58 then some (cV st d) else none) = _
  rw [h]
  rfl
theorem acc_E (st : List Bool) (d : Nat) : acc (cE st d) = st.isEmpty := rfl
/-- A value at its place: what is told hangs on its first byte alone, whether ] might come or not. -/
theorem T_first (l : List UInt8) (st : List Bool) (d i : Nat) (hb : ∀ hi : i < l.length, isB (l[i]).toNat = false ∧ (l[i]).toNat ≠ 93) : T l (cA st d) i = T l (cV st d) i :=
  T_same l _ _ i (fun hi => by rw [step_A st d _ (hb hi).1 (hb hi).2, step_V st d _ (hb hi).1]) rfl rfl
theorem T_member (l : List UInt8) (st : List Bool) (d i : Nat) (hb : ∀ hi : i < l.length, isB (l[i]).toNat = false ∧ (l[i]).toNat ≠ 125) : T l (cO st d) i = T l (cK st d) i :=
  T_same l _ _ i (fun hi => by rw [step_O st d _ (hb hi).1 (hb hi).2, step_K st d _ (hb hi).1]) rfl rfl
/-- A word: as far as it is there. -/
theorem T_word (l w : List UInt8) (st : List Bool) (d i j : Nat) (hj : j + 1 < w.length) (hi : i < l.length) (hw : (l[i]).toNat = (w.getD j 0).toNat) : T l (cW (w.drop j) st d) i = T l (cW (w.drop (j + 1)) st d) (i + 1) := by
  have e : w.drop j = w.getD j 0 :: w.drop (j + 1) := by
    rw [List.drop_eq_getElem_cons (show j < w.length by omega), List.getD_eq_getElem?_getD, List.getElem?_eq_getElem (show j < w.length by omega)]
    rfl
  refine T_next l _ _ i hi ?_
  rw [e]
  show (if (l[i]).toNat = (w.getD j 0).toNat then (if w.drop (j + 1) = [] then some (cE st d) else some (cW (w.drop (j + 1)) st d)) else none) = _
  rw [if_pos hw, if_neg]
  intro h
  have := congrArg List.length h
  rw [List.length_drop] at this
  simp at this
  omega
theorem T_word_last (l w : List UInt8) (st : List Bool) (d i j : Nat) (hj : j + 1 = w.length) (hi : i < l.length) (hw : (l[i]).toNat = (w.getD j 0).toNat) : T l (cW (w.drop j) st d) i = T l (cE st d) (i + 1) := by
  have e : w.drop j = [w.getD j 0] := by
    rw [List.drop_eq_getElem_cons (show j < w.length by omega), List.drop_of_length_le (by omega), List.getD_eq_getElem?_getD, List.getElem?_eq_getElem (show j < w.length by omega)]
    rfl
  refine T_next l _ _ i hi ?_
  rw [e]
  show (if (l[i]).toNat = (w.getD j 0).toNat then some (cE st d) else none) = _
  rw [if_pos hw]
theorem T_word_no (l w : List UInt8) (st : List Bool) (d i j : Nat) (hj : j < w.length) (h : ∀ hi : i < l.length, (l[i]).toNat ≠ (w.getD j 0).toNat) (hl : i ≤ l.length) : T l (cW (w.drop j) st d) i = (none, i) := by
  by_cases hi : i < l.length
  · have e : w.drop j = w.getD j 0 :: w.drop (j + 1) := by
      rw [List.drop_eq_getElem_cons hj, List.getD_eq_getElem?_getD, List.getElem?_eq_getElem hj]
      rfl
    refine T_dead l _ i hi ?_
    rw [e]
    show (if (l[i]).toNat = (w.getD j 0).toNat then (if w.drop (j + 1) = [] then some (cE st d) else some (cW (w.drop (j + 1)) st d)) else none) = _
    rw [if_neg (h hi)]
  · exact T_live l _ i (by omega) rfl
/-- Numbers. -/
theorem T_digit (l : List UInt8) (m : Nat) (st : List Bool) (d i : Nat) (hm : m = 22 ∨ m = 24 ∨ m = 27) (hi : i < l.length) (h : isD (l[i]).toNat = true) : T l (cN m st d) i = T l (cN m st d) (i + 1) := by
  refine T_next l _ _ i hi ?_
  rcases hm with rfl | rfl | rfl
  · show (if isD _ then _ else _) = _
    rw [if_pos h]
    rfl
  · show (if isD _ then _ else _) = _
    rw [if_pos h]
    rfl
  · show (if isD _ then _ else _) = _
    rw [if_pos h]
    rfl
theorem T_number_end (l : List UInt8) (m : Nat) (st : List Bool) (d i : Nat) (hm : m = 21 ∨ m = 22 ∨ m = 24 ∨ m = 27)
    (h : ∀ hi : i < l.length, (m ≠ 21 → isD (l[i]).toNat = false) ∧ (m = 21 ∨ m = 22 → (l[i]).toNat ≠ 46) ∧ (m ≠ 27 → (l[i]).toNat ≠ 101 ∧ (l[i]).toNat ≠ 69)) : T l (cN m st d) i = T l (cE st d) i := by
  refine T_same l _ _ i (fun hi => ?_) ?_ rfl
  · obtain ⟨h1, h2, h3⟩ := h hi
    have e : ∀ b, step (cN m st d) b = stN m st d b := fun b => by rcases hm with rfl | rfl | rfl | rfl <;> rfl
    rw [e]
    show stN m st d _ = stE st d _
    unfold stN
    rcases hm with rfl | rfl | rfl | rfl
    · have h4 := h2 (.inl rfl)
      have h5 := h3 (by decide)
      rw [if_neg (by decide), if_pos rfl, if_neg h4, if_neg (fun h6 => h6.elim h5.1 h5.2)]
    · have h4 := h2 (.inr rfl)
      have h5 := h3 (by decide)
      rw [if_neg (by decide), if_neg (by decide), if_pos rfl, h1 (by decide), if_neg Bool.false_ne_true, if_neg h4, if_neg (fun h6 => h6.elim h5.1 h5.2)]
    · have h5 := h3 (by decide)
      rw [if_neg (by decide), if_neg (by decide), if_neg (by decide), if_neg (by decide), if_pos rfl, h1 (by decide), if_neg Bool.false_ne_true, if_neg (fun h6 => h6.elim h5.1 h5.2)]
    · rw [if_neg (by decide), if_neg (by decide), if_neg (by decide), if_neg (by decide), if_neg (by decide), if_neg (by decide), if_neg (by decide), if_pos rfl, h1 (by decide)]
      rfl
  · rcases hm with rfl | rfl | rfl | rfl <;> rfl
theorem T_number_no (l : List UInt8) (m : Nat) (st : List Bool) (d i : Nat) (hm : m = 20 ∨ m = 23 ∨ m = 25 ∨ m = 26) (hl : i ≤ l.length)
    (h : ∀ hi : i < l.length, isD (l[i]).toNat = false ∧ (m = 25 → (l[i]).toNat ≠ 43 ∧ (l[i]).toNat ≠ 45)) : T l (cN m st d) i = (none, i) := by
  by_cases hi : i < l.length
  · obtain ⟨h1, h2⟩ := h hi
    have hD : ¬ (48 ≤ (l[i]).toNat ∧ (l[i]).toNat ≤ 57) := fun h3 => by
      rw [(isD_iff _).2 h3] at h1
      cases h1
    have e : ∀ b, step (cN m st d) b = stN m st d b := fun b => by rcases hm with rfl | rfl | rfl | rfl <;> rfl
    refine T_dead l _ i hi ?_
    rw [e]
    unfold stN
    rcases hm with rfl | rfl | rfl | rfl
    · rw [if_pos rfl, if_neg (by omega), h1]
      rfl
    · rw [if_neg (by decide), if_neg (by decide), if_neg (by decide), if_pos rfl, h1]
      rfl
    · have h3 := h2 rfl
      rw [if_neg (by decide), if_neg (by decide), if_neg (by decide), if_neg (by decide), if_neg (by decide), if_pos rfl, if_neg (fun h6 => h6.elim h3.1 h3.2), h1]
      rfl
    · rw [if_neg (by decide), if_neg (by decide), if_neg (by decide), if_neg (by decide), if_neg (by decide), if_neg (by decide), if_pos rfl, h1]
      rfl
  · refine T_live l _ i (by omega) ?_
    rcases hm with rfl | rfl | rfl | rfl <;> rfl
/-- Strings: UTF-8 by its states. -/
theorem out_scalar (l : List UInt8) (q : Nat) (k : Bool) (st : List Bool) (d : Nat) (hq : q = 0 → ∀ b t, l = b :: t → 32 ≤ b.toNat ∧ b.toNat ≠ 34 ∧ b.toNat ≠ 92) (h : Ut.ld q l ≠ 0) :
    out (cS q k st d) l = ((out (cS 0 k st d) (l.drop (Ut.ld q l))).1, (out (cS 0 k st d) (l.drop (Ut.ld q l))).2 + Ut.ld q l) := by
  induction l generalizing q with
  | nil => exact absurd rfl h
  | cons b l ih =>
    have hs : step (cS q k st d) b.toNat = if Ut.st q b.toNat = 8 then none else some (cS (Ut.st q b.toNat) k st d) := by
      show stS q k st d b.toNat = _
      unfold stS
      by_cases h0 : q = 0
      · have := hq h0 b l rfl
        rw [if_neg (by omega), if_neg (by omega), if_neg (by omega)]
      · rw [if_neg (fun h1 => h0 h1.1), if_neg (fun h1 => h0 h1.1), if_neg (fun h1 => h0 h1.1)]
    rw [Ut.ld_cons] at h ⊢
    by_cases h0 : Ut.st q b.toNat = 0
    · rw [if_pos h0, out_some _ _ b l (hs.trans (by rw [h0]; rfl))]
      rfl
    · rw [if_neg h0] at h ⊢
      by_cases h8 : Ut.st q b.toNat = 8
      · rw [if_pos h8] at h
        exact absurd rfl h
      · rw [if_neg h8] at h ⊢
        by_cases hl : Ut.ld (Ut.st q b.toNat) l = 0
        · rw [if_pos hl] at h
          exact absurd rfl h
        · rw [if_neg hl, out_some _ _ b l (hs.trans (if_neg h8)), ih _ (fun h1 => absurd h1 h0) hl]
          rfl
theorem out_odd (l : List UInt8) (q : Nat) (k : Bool) (st : List Bool) (d : Nat) (hq : q = 0 → ∀ b t, l = b :: t → 32 ≤ b.toNat ∧ b.toNat ≠ 34 ∧ b.toNat ≠ 92) (h : Ut.ld q l = 0) :
    out (cS q k st d) l = (none, Ut.alive q l) := by
  induction l generalizing q with
  | nil => rfl
  | cons b l ih =>
    have hs : step (cS q k st d) b.toNat = if Ut.st q b.toNat = 8 then none else some (cS (Ut.st q b.toNat) k st d) := by
      show stS q k st d b.toNat = _
      unfold stS
      by_cases h0 : q = 0
      · have := hq h0 b l rfl
        rw [if_neg (by omega), if_neg (by omega), if_neg (by omega)]
      · rw [if_neg (fun h1 => h0 h1.1), if_neg (fun h1 => h0 h1.1), if_neg (fun h1 => h0 h1.1)]
    rw [Ut.ld_cons] at h
    show _ = (none, if Ut.st q b.toNat = 8 then 0 else Ut.alive (Ut.st q b.toNat) l + 1)
    by_cases h0 : Ut.st q b.toNat = 0
    · rw [if_pos h0] at h
      cases h
    · rw [if_neg h0] at h
      by_cases h8 : Ut.st q b.toNat = 8
      · rw [if_pos h8, out_none _ b l (hs.trans (if_pos h8))]
      · rw [if_neg h8] at h
        rw [if_neg h8]
        by_cases hl : Ut.ld (Ut.st q b.toNat) l = 0
        · rw [out_some _ _ b l (hs.trans (if_neg h8)), ih _ (fun h1 => absurd h1 h0) hl]
        · rw [if_neg hl] at h
          cases h
/-- How many bytes a state waits for. -/
def mu (q : Nat) : Nat := match q with | 1 => 1 | 2 => 2 | 3 => 3 | 4 => 2 | 5 => 2 | 6 => 3 | 7 => 3 | _ => 0
theorem mu_next (q b : Nat) (hq : 1 ≤ q) (hq7 : q ≤ 7) (h0 : Ut.st q b ≠ 0) (h8 : Ut.st q b ≠ 8) : mu (Ut.st q b) + 1 = mu q ∧ 1 ≤ Ut.st q b ∧ Ut.st q b ≤ 7 := by
  obtain rfl | rfl | rfl | rfl | rfl | rfl | rfl : q = 1 ∨ q = 2 ∨ q = 3 ∨ q = 4 ∨ q = 5 ∨ q = 6 ∨ q = 7 := by omega
  all_goals unfold Ut.st at h0 h8 ⊢
  all_goals simp only [] at h0 h8 ⊢
  all_goals split at h0
  all_goals first | exact absurd rfl h0 | skip
  all_goals first | (rename_i h; rw [if_pos h] at h8 ⊢; exact ⟨rfl, by decide, by decide⟩) | (rename_i h; rw [if_neg h] at h8; exact absurd rfl h8)
theorem alive_mu (l : List UInt8) (q : Nat) (hq : 1 ≤ q) (hq7 : q ≤ 7) (h : Ut.ld q l = 0) : Ut.alive q l + 1 ≤ mu q := by
  have hmu : 1 ≤ mu q := by
    obtain rfl | rfl | rfl | rfl | rfl | rfl | rfl : q = 1 ∨ q = 2 ∨ q = 3 ∨ q = 4 ∨ q = 5 ∨ q = 6 ∨ q = 7 := by omega
    all_goals decide
  induction l generalizing q with
  | nil => exact hmu
  | cons b l ih =>
    show (if Ut.st q b.toNat = 8 then 0 else Ut.alive (Ut.st q b.toNat) l + 1) + 1 ≤ mu q
    rw [Ut.ld_cons] at h
    by_cases h0 : Ut.st q b.toNat = 0
    · rw [if_pos h0] at h
      cases h
    · rw [if_neg h0] at h
      by_cases h8 : Ut.st q b.toNat = 8
      · rw [if_pos h8]
        exact hmu
      · rw [if_neg h8] at h
        rw [if_neg h8]
        obtain ⟨h1, h2, h3⟩ := mu_next q b.toNat hq hq7 h0 h8
        by_cases hl : Ut.ld (Ut.st q b.toNat) l = 0
        · have hm : 1 ≤ mu (Ut.st q b.toNat) := by
            generalize Ut.st q b.toNat = p at h2 h3
            obtain rfl | rfl | rfl | rfl | rfl | rfl | rfl : p = 1 ∨ p = 2 ∨ p = 3 ∨ p = 4 ∨ p = 5 ∨ p = 6 ∨ p = 7 := by omega
            all_goals decide
          have := ih _ h2 h3 hl hm
          omega
        · rw [if_neg hl] at h
          cases h
theorem alive_three (l : List UInt8) (h : Ut.ld 0 l = 0) : Ut.alive 0 l ≤ 3 := by
  cases l with
  | nil => exact Nat.zero_le _
  | cons b l =>
    show (if Ut.st 0 b.toNat = 8 then 0 else Ut.alive (Ut.st 0 b.toNat) l + 1) ≤ 3
    rw [Ut.ld_cons] at h
    by_cases h0 : Ut.st 0 b.toNat = 0
    · rw [if_pos h0] at h
      cases h
    · rw [if_neg h0] at h
      by_cases h8 : Ut.st 0 b.toNat = 8
      · rw [if_pos h8]
        exact Nat.zero_le _
      · rw [if_neg h8] at h
        rw [if_neg h8]
        have hle := Ut.st_le 0 b.toNat
        by_cases hl : Ut.ld (Ut.st 0 b.toNat) l = 0
        · have h1 := alive_mu l _ (by omega) (by omega) hl
          have h2 : mu (Ut.st 0 b.toNat) ≤ 3 := by
            unfold mu
            split <;> decide
          omega
        · rw [if_neg hl] at h
          cases h
theorem alive_take (l : List UInt8) (q k : Nat) : Ut.alive q (l.take k) = min k (Ut.alive q l) := by
  induction l generalizing q k with
  | nil =>
    rw [List.take_nil]
    exact (Nat.min_eq_right (Nat.zero_le _)).symm
  | cons b l ih =>
    cases k with
    | zero => exact (Nat.min_eq_left (Nat.zero_le _)).symm
    | succ k =>
      rw [List.take_succ_cons]
      show (if Ut.st q b.toNat = 8 then 0 else Ut.alive (Ut.st q b.toNat) (l.take k) + 1) = min (k + 1) (if Ut.st q b.toNat = 8 then 0 else Ut.alive (Ut.st q b.toNat) l + 1)
      by_cases h8 : Ut.st q b.toNat = 8
      · rw [if_pos h8, if_pos h8]
        omega
      · rw [if_neg h8, if_neg h8, ih]
        omega
theorem alive_four (l : List UInt8) (h : Ut.ld 0 l = 0) : Ut.alive 0 (l.take 4) = Ut.alive 0 l := by
  have := alive_three l h
  rw [alive_take]
  omega
theorem T_scalar (l : List UInt8) (k : Bool) (st : List Bool) (d i : Nat) (hi : i < l.length) (h1 : 32 ≤ (l[i]).toNat) (h2 : (l[i]).toNat ≠ 34) (h3 : (l[i]).toNat ≠ 92) (h : Ut.ld 0 (l.drop i) ≠ 0) : T l (cS 0 k st d) i = T l (cS 0 k st d) (i + Ut.ld 0 (l.drop i)) := by
  unfold T
  rw [out_scalar (l.drop i) 0 k st d (fun _ b t e => by rw [List.drop_eq_getElem_cons hi, List.cons.injEq] at e; rw [← e.1]; exact ⟨h1, h2, h3⟩) h, List.drop_drop]
  show (_, _ + Ut.ld 0 (l.drop i) + i) = (_, _ + (i + Ut.ld 0 (l.drop i)))
  congr 1
  omega
theorem T_odd (l : List UInt8) (k : Bool) (st : List Bool) (d i : Nat) (hi : i < l.length) (h1 : 32 ≤ (l[i]).toNat) (h2 : (l[i]).toNat ≠ 34) (h3 : (l[i]).toNat ≠ 92) (h : Ut.ld 0 (l.drop i) = 0) : T l (cS 0 k st d) i = (none, i + Ut.alive 0 ((l.drop i).take 4)) := by
  unfold T
  rw [out_odd (l.drop i) 0 k st d (fun _ b t e => by rw [List.drop_eq_getElem_cons hi, List.cons.injEq] at e; rw [← e.1]; exact ⟨h1, h2, h3⟩) h, alive_four _ h, Nat.add_comm]
theorem T_close (l : List UInt8) (k : Bool) (st : List Bool) (d i : Nat) (hi : i < l.length) (h : (l[i]).toNat = 34) : T l (cS 0 k st d) i = T l (aft k st d) (i + 1) := by
  refine T_next l _ _ i hi ?_
  show stS 0 k st d _ = _
  unfold stS
  rw [if_pos ⟨rfl, h⟩]
theorem T_low (l : List UInt8) (k : Bool) (st : List Bool) (d i : Nat) (hi : i < l.length) (h : (l[i]).toNat < 32) : T l (cS 0 k st d) i = (none, i) := by
  refine T_dead l _ i hi ?_
  show stS 0 k st d _ = _
  unfold stS
  rw [if_neg (by omega), if_pos ⟨rfl, h⟩]
theorem T_back (l : List UInt8) (k : Bool) (st : List Bool) (d i : Nat) (hi : i < l.length) (h : (l[i]).toNat = 92) : T l (cS 0 k st d) i = T l (cX k st d) (i + 1) := by
  refine T_next l _ _ i hi ?_
  show stS 0 k st d _ = _
  unfold stS
  rw [if_neg (by omega), if_neg (by omega), if_pos ⟨rfl, h⟩]
theorem T_sign (l : List UInt8) (k : Bool) (st : List Bool) (d i : Nat) (hi : i < l.length) (h : isS (l[i]).toNat = true) : T l (cX k st d) i = T l (cS 0 k st d) (i + 1) := by
  refine T_next l _ _ i hi ?_
  show (if isS _ then some (cS 0 k st d) else _) = _
  rw [if_pos h]
theorem T_u (l : List UInt8) (k : Bool) (st : List Bool) (d i : Nat) (hi : i < l.length) (h : (l[i]).toNat = 117) : T l (cX k st d) i = T l (cU 0 k st d) (i + 1) := by
  refine T_next l _ _ i hi ?_
  show (if isS _ then some (cS 0 k st d) else if _ then some (cU 0 k st d) else none) = _
  rw [h]
  rfl
theorem T_nosign (l : List UInt8) (k : Bool) (st : List Bool) (d i : Nat) (hl : i ≤ l.length) (h : ∀ hi : i < l.length, isS (l[i]).toNat = false ∧ (l[i]).toNat ≠ 117) : T l (cX k st d) i = (none, i) := by
  by_cases hi : i < l.length
  · obtain ⟨h1, h2⟩ := h hi
    refine T_dead l _ i hi ?_
    show (if isS _ then some (cS 0 k st d) else if _ then some (cU 0 k st d) else none) = _
    rw [h1, if_neg h2]
    rfl
  · exact T_live l _ i (by omega) rfl
theorem T_hex (l : List UInt8) (k : Bool) (st : List Bool) (d i j : Nat) (hj : j < 3) (hi : i < l.length) (h : isH (l[i]).toNat = true) : T l (cU j k st d) i = T l (cU (j + 1) k st d) (i + 1) := by
  refine T_next l _ _ i hi ?_
  show (if isH _ then (if j = 3 then some (cS 0 k st d) else some (cU (j + 1) k st d)) else none) = _
  rw [if_pos h, if_neg (by omega)]
theorem T_hex_last (l : List UInt8) (k : Bool) (st : List Bool) (d i : Nat) (hi : i < l.length) (h : isH (l[i]).toNat = true) : T l (cU 3 k st d) i = T l (cS 0 k st d) (i + 1) := by
  refine T_next l _ _ i hi ?_
  show (if isH _ then (if 3 = 3 then some (cS 0 k st d) else _) else none) = _
  rw [if_pos h]
  rfl
theorem T_nohex (l : List UInt8) (k : Bool) (st : List Bool) (d i j : Nat) (hl : i ≤ l.length) (h : ∀ hi : i < l.length, isH (l[i]).toNat = false) : T l (cU j k st d) i = (none, i) := by
  by_cases hi : i < l.length
  · refine T_dead l _ i hi ?_
    show (if isH _ then _ else none) = _
    rw [h hi]
    rfl
  · exact T_live l _ i (by omega) rfl
end Js
end Go.Proofs.YtoipliflphbeiaaGreatDoor
namespace Go.Proofs.YtoipliflphbeiaaGreatDoor
namespace Mk
/-- One of the six. -/
def isM (b : Nat) : Bool := b == 91 || b == 93 || b == 123 || b == 125 || b == 58 || b == 44
/-- The state behind a byte: 0 outside of strings, 1 within one, 2 behind 5c. -/
def st (q b : Nat) : Nat := if q = 0 then (if b = 34 then 1 else 0) else if q = 1 then (if b = 34 then 0 else if b = 92 then 2 else 1) else 1
def run : Nat → List UInt8 → Nat
  | q, [] => q
  | q, b :: l => run (st q b.toNat) l
/-- The marks' places, the first byte's being i. -/
def pl : Nat → Nat → List UInt8 → List Nat
  | _, _, [] => []
  | q, i, b :: l => if q = 0 ∧ isM b.toNat = true then i :: pl 0 (i + 1) l else pl (st q b.toNat) (i + 1) l
/-- A mark's two bits. -/
def two (b : Nat) : List Bool := [b == 91 || b == 123, !(b == 93 || b == 125)]
def bs : Nat → List UInt8 → List Bool
  | _, [] => []
  | q, b :: l => if q = 0 ∧ isM b.toNat = true then two b.toNat ++ bs 0 l else bs (st q b.toNat) l
/-- With blanks about each mark. -/
def sp : Nat → List UInt8 → List UInt8
  | _, [] => []
  | q, b :: l => if q = 0 ∧ isM b.toNat = true then 32 :: b :: 10 :: sp 0 l else b :: sp (st q b.toNat) l
theorem isM_iff (b : Nat) : isM b = true ↔ b = 91 ∨ b = 93 ∨ b = 123 ∨ b = 125 ∨ b = 58 ∨ b = 44 := by
  unfold isM
  simp only [Bool.or_eq_true, beq_iff_eq]
  omega
theorem st_mark (b : Nat) (h : isM b = true) : st 0 b = 0 := by
  have := (isM_iff b).1 h
  unfold st
  rw [if_pos rfl, if_neg (by omega)]
theorem pl_mark (i : Nat) (b : UInt8) (l : List UInt8) (h : isM b.toNat = true) : pl 0 i (b :: l) = i :: pl 0 (i + 1) l := if_pos ⟨rfl, h⟩
theorem pl_other (q i : Nat) (b : UInt8) (l : List UInt8) (h : ¬ (q = 0 ∧ isM b.toNat = true)) : pl q i (b :: l) = pl (st q b.toNat) (i + 1) l := if_neg h
theorem bs_mark (b : UInt8) (l : List UInt8) (h : isM b.toNat = true) : bs 0 (b :: l) = two b.toNat ++ bs 0 l := if_pos ⟨rfl, h⟩
theorem bs_other (q : Nat) (b : UInt8) (l : List UInt8) (h : ¬ (q = 0 ∧ isM b.toNat = true)) : bs q (b :: l) = bs (st q b.toNat) l := if_neg h
theorem sp_mark (b : UInt8) (l : List UInt8) (h : isM b.toNat = true) : sp 0 (b :: l) = 32 :: b :: 10 :: sp 0 l := if_pos ⟨rfl, h⟩
theorem sp_other (q : Nat) (b : UInt8) (l : List UInt8) (h : ¬ (q = 0 ∧ isM b.toNat = true)) : sp q (b :: l) = b :: sp (st q b.toNat) l := if_neg h
theorem run_mark (b : UInt8) (l : List UInt8) (h : isM b.toNat = true) : run 0 (b :: l) = run 0 l := by
  show run (st 0 b.toNat) l = _
  rw [st_mark _ h]
theorem pl_app (l : List UInt8) : ∀ (q i : Nat) (m : List UInt8), pl q i (l ++ m) = pl q i l ++ pl (run q l) (i + l.length) m := by
  induction l with
  | nil => intro q i m; rfl
  | cons b l ih =>
    intro q i m
    rw [List.cons_append]
    by_cases h : q = 0 ∧ isM b.toNat = true
    · obtain ⟨rfl, h⟩ := h
      rw [pl_mark i b _ h, pl_mark i b _ h, ih, run_mark b l h, List.length_cons, List.cons_append, show i + 1 + l.length = i + (l.length + 1) by omega]
    · rw [pl_other q i b _ h, pl_other q i b _ h, ih, List.length_cons, show i + 1 + l.length = i + (l.length + 1) by omega]
      rfl
theorem pl_shift (l : List UInt8) : ∀ (q i k : Nat), pl q (i + k) l = (pl q i l).map (· + k) := by
  induction l with
  | nil => intro q i k; rfl
  | cons b l ih =>
    intro q i k
    by_cases h : q = 0 ∧ isM b.toNat = true
    · obtain ⟨rfl, h⟩ := h
      rw [pl_mark _ b _ h, pl_mark _ b _ h, List.map_cons, ← ih 0 (i + 1) k, show i + 1 + k = i + k + 1 by omega]
    · rw [pl_other q _ b _ h, pl_other q _ b _ h, ← ih _ (i + 1) k, show i + 1 + k = i + k + 1 by omega]
theorem bs_app (l : List UInt8) : ∀ (q : Nat) (m : List UInt8), bs q (l ++ m) = bs q l ++ bs (run q l) m := by
  induction l with
  | nil => intro q m; rfl
  | cons b l ih =>
    intro q m
    rw [List.cons_append]
    by_cases h : q = 0 ∧ isM b.toNat = true
    · obtain ⟨rfl, h⟩ := h
      rw [bs_mark b _ h, bs_mark b _ h, ih, run_mark b l h, List.append_assoc]
    · rw [bs_other q b _ h, bs_other q b _ h, ih]
      rfl
theorem two_len (b : Nat) : (two b).length = 2 := rfl
theorem bs_len (l : List UInt8) : ∀ (q i : Nat), (bs q l).length = 2 * (pl q i l).length := by
  induction l with
  | nil => intro q i; rfl
  | cons b l ih =>
    intro q i
    by_cases hm : q = 0 ∧ isM b.toNat = true
    · obtain ⟨rfl, hm⟩ := hm
      rw [bs_mark b l hm, pl_mark i b l hm, List.length_append, two_len, List.length_cons, ih 0 (i + 1)]
      omega
    · rw [bs_other q b l hm, pl_other q i b l hm, ih _ (i + 1)]
theorem pl_lt (l : List UInt8) : ∀ (q i p : Nat), p ∈ pl q i l → i ≤ p ∧ p < i + l.length := by
  induction l with
  | nil => intro q i p h; exact absurd h List.not_mem_nil
  | cons b l ih =>
    intro q i p h
    rw [List.length_cons]
    by_cases hm : q = 0 ∧ isM b.toNat = true
    · obtain ⟨rfl, hm⟩ := hm
      rw [pl_mark i b l hm] at h
      rcases List.mem_cons.1 h with rfl | h
      · omega
      · have := ih _ _ p h
        omega
    · rw [pl_other q i b l hm] at h
      have := ih _ _ p h
      omega
/-- The bits by the places. -/
theorem bs_by (l : List UInt8) : ∀ (q i : Nat) (m : List UInt8), i = m.length → bs q l = (pl q i l).flatMap fun p => two ((m ++ l).getD p 0).toNat := by
  induction l with
  | nil => intro q i m _; rfl
  | cons b l ih =>
    intro q i m hi
    have hb : (m ++ b :: l).getD i 0 = b := by
      rw [hi, List.getD_eq_getElem?_getD, List.getElem?_append_right (Nat.le_refl _), Nat.sub_self]
      rfl
    have hm2 : m ++ b :: l = (m ++ [b]) ++ l := by rw [List.append_assoc]; rfl
    have hl : i + 1 = (m ++ [b]).length := by rw [List.length_append, hi]; rfl
    by_cases hm : q = 0 ∧ isM b.toNat = true
    · obtain ⟨rfl, hm⟩ := hm
      rw [bs_mark b l hm, pl_mark i b l hm, List.flatMap_cons, hb, ih 0 (i + 1) (m ++ [b]) hl, hm2]
    · rw [bs_other q b l hm, pl_other q i b l hm, ih _ (i + 1) (m ++ [b]) hl, hm2]
end Mk
end Go.Proofs.YtoipliflphbeiaaGreatDoor
namespace Go.Proofs.YtoipliflphbeiaaGreatDoor
namespace Js
theorem T_digits (l : List UInt8) (m : Nat) (st : List Bool) (d i n : Nat) (hm : m = 22 ∨ m = 24 ∨ m = 27) (h : ∀ j, i ≤ j → j < i + n → ∃ hj : j < l.length, isD (l[j]).toNat = true) : T l (cN m st d) i = T l (cN m st d) (i + n) := by
  induction n with
  | zero => rfl
  | succ n ih =>
    obtain ⟨hj, hd⟩ := h (i + n) (by omega) (by omega)
    rw [ih (fun j h1 h2 => h j h1 (by omega)), T_digit l m st d (i + n) hm hj hd]
    rfl
theorem T_point (l : List UInt8) (m : Nat) (st : List Bool) (d i : Nat) (hm : m = 21 ∨ m = 22) (hi : i < l.length) (h : (l[i]).toNat = 46) : T l (cN m st d) i = T l (cN 23 st d) (i + 1) := by
  refine T_next l _ _ i hi ?_
  rw [h]
  rcases hm with rfl | rfl <;> rfl
theorem T_exp (l : List UInt8) (m : Nat) (st : List Bool) (d i : Nat) (hm : m = 21 ∨ m = 22 ∨ m = 24) (hi : i < l.length) (h : (l[i]).toNat = 101 ∨ (l[i]).toNat = 69) : T l (cN m st d) i = T l (cN 25 st d) (i + 1) := by
  refine T_next l _ _ i hi ?_
  rcases h with h | h <;> rw [h] <;> rcases hm with rfl | rfl | rfl <;> rfl
theorem T_expsign (l : List UInt8) (st : List Bool) (d i : Nat) (hi : i < l.length) (h : (l[i]).toNat = 43 ∨ (l[i]).toNat = 45) : T l (cN 25 st d) i = T l (cN 26 st d) (i + 1) := by
  refine T_next l _ _ i hi ?_
  rcases h with h | h <;> rw [h] <;> rfl
theorem T_pointdigit (l : List UInt8) (st : List Bool) (d i : Nat) (hi : i < l.length) (h : isD (l[i]).toNat = true) : T l (cN 23 st d) i = T l (cN 24 st d) (i + 1) := by
  refine T_next l _ _ i hi ?_
  show (if isD _ then _ else none) = _
  rw [if_pos h]
  rfl
theorem T_expdigit (l : List UInt8) (m : Nat) (st : List Bool) (d i : Nat) (hm : m = 25 ∨ m = 26) (hi : i < l.length) (h : isD (l[i]).toNat = true) : T l (cN m st d) i = T l (cN 27 st d) (i + 1) := by
  refine T_next l _ _ i hi ?_
  have h2 := (isD_iff _).1 h
  rcases hm with rfl | rfl
  · show (if _ then _ else if isD _ then _ else none) = _
    rw [if_neg (by omega), if_pos h]
    rfl
  · show (if isD _ then _ else none) = _
    rw [if_pos h]
    rfl
theorem step_sign (st : List Bool) (d b : Nat) : step (cN 20 st d) b = (if b = 48 then some (cN 21 st d) else if isD b then some (cN 22 st d) else none) := rfl
/-- A value that begins with none of the other signs. -/
def plain (b : Nat) : Prop := isB b = false ∧ b ≠ 34 ∧ b ≠ 91 ∧ b ≠ 123 ∧ b ≠ 110 ∧ b ≠ 116 ∧ b ≠ 102
theorem step_plain (st : List Bool) (d b : Nat) (h : plain b) : step (cV st d) b = (if b = 45 then some (cN 20 st d) else if b = 48 then some (cN 21 st d) else if isD b then some (cN 22 st d) else none) := by
  obtain ⟨h0, h1, h2, h3, h4, h5, h6⟩ := h
  rw [step_V st d b h0]
  unfold stV
  rw [if_neg h1, if_neg h2, if_neg h3, if_neg h4, if_neg h5, if_neg h6]
/-- Where a number's digits may begin: what they lead to. -/
structure Begun (l : List UInt8) (i a : Nat) : Prop where
  zero : ∀ st d (h : a < l.length), (l[a]).toNat = 48 → T l (cV st d) i = T l (cN 21 st d) (a + 1)
  digit : ∀ st d (h : a < l.length), isD (l[a]).toNat = true → (l[a]).toNat ≠ 48 → T l (cV st d) i = T l (cN 22 st d) (a + 1)
  no : ∀ st d, (∀ h : a < l.length, isD (l[a]).toNat = false) → T l (cV st d) i = (none, a)
theorem begun_minus (l : List UInt8) (i : Nat) (hi : i < l.length) (h : (l[i]).toNat = 45) : Begun l i (i + 1) := by
  have e : ∀ st d, T l (cV st d) i = T l (cN 20 st d) (i + 1) := fun st d => T_next l _ _ i hi (by rw [h]; rfl)
  refine ⟨fun st d h1 h2 => ?_, fun st d h1 h2 h3 => ?_, fun st d h1 => ?_⟩
  · rw [e]
    refine T_next l _ _ _ h1 ?_
    rw [step_sign, if_pos h2]
  · rw [e]
    refine T_next l _ _ _ h1 ?_
    rw [step_sign, if_neg h3, if_pos h2]
  · rw [e]
    exact T_number_no l 20 st d (i + 1) (.inl rfl) hi fun h2 => ⟨h1 h2, fun h3 => absurd h3 (by decide)⟩
theorem begun_plain (l : List UInt8) (i : Nat) (hi : i < l.length) (h : plain (l[i]).toNat) (h45 : (l[i]).toNat ≠ 45) : Begun l i i := by
  refine ⟨fun st d h1 h2 => ?_, fun st d h1 h2 h3 => ?_, fun st d h1 => ?_⟩
  · refine T_next l _ _ _ h1 ?_
    rw [step_plain st d _ h, if_neg h45, if_pos h2]
  · refine T_next l _ _ _ h1 ?_
    rw [step_plain st d _ h, if_neg h45, if_neg h3, if_pos h2]
  · refine T_dead l _ i hi ?_
    have h0 := h1 hi
    have h48 : (l[i]).toNat ≠ 48 := fun h2 => by
      rw [h2] at h0
      exact absurd h0 (by decide)
    rw [step_plain st d _ h, if_neg h45, if_neg h48, h0]
    rfl
/-- From a number's whole part on: the mode m at the place p. -/
structure Whole (l : List UInt8) (i p m : Nat) : Prop where
  mode : m = 21 ∨ m = 22
  far : i < p
  le : p ≤ l.length
  rest : m ≠ 21 → ∀ h : p < l.length, isD (l[p]).toNat = false
  last : Nb l p
  tells : ∀ st d, T l (cV st d) i = T l (cN m st d) p
theorem nb_last {l : List UInt8} {a n : Nat} (hn : 0 < n) (h : ∀ j, a ≤ j → j < a + n → ∃ hj : j < l.length, isD (l[j]).toNat = true) : Nb l (a + n) := by
  obtain ⟨m, rfl⟩ : ∃ m, n = m + 1 := ⟨n - 1, by omega⟩
  obtain ⟨h1, h2⟩ := h (a + m) (by omega) (by omega)
  exact nb_digit h1 h2
/-- A number from i to q. -/
def Ends (l : List UInt8) (i q : Nat) : Prop := Nb l q ∧ ∀ st d, T l (cV st d) i = T l (cE st d) q
theorem whole_zero {l : List UInt8} {i a : Nat} (hb : Begun l i a) (hia : i ≤ a) (ha : a < l.length) (h : (l[a]).toNat = 48) : Whole l i (a + 1) 21 :=
  ⟨.inl rfl, by omega, ha, fun h1 => absurd rfl h1, nb_digit ha (by rw [h]; rfl), fun st d => hb.zero st d ha h⟩
theorem whole_digits {l : List UInt8} {i a n : Nat} (hb : Begun l i a) (hia : i ≤ a) (hn : 0 < n) (hl : a + n ≤ l.length) (h : ∀ j, a ≤ j → j < a + n → ∃ hj : j < l.length, isD (l[j]).toNat = true) (hr : ∀ hj : a + n < l.length, isD (l[a + n]).toNat = false) (h48 : ∀ ha : a < l.length, (l[a]).toNat ≠ 48) : Whole l i (a + n) 22 := by
  refine ⟨.inr rfl, by omega, hl, fun _ => hr, nb_last hn h, fun st d => ?_⟩
  obtain ⟨ha, hd⟩ := h a (Nat.le_refl _) (by omega)
  rw [hb.digit st d ha hd (h48 ha), T_digits l 22 st d (a + 1) (n - 1) (.inl rfl) (fun j h1 h2 => h j (by omega) (by omega)), show a + 1 + (n - 1) = a + n by omega]
/-- Behind a number's point and its digits, if there are any. -/
structure Frac (l : List UInt8) (i p m : Nat) : Prop where
  mode : m = 21 ∨ m = 22 ∨ m = 24
  far : i < p
  le : p ≤ l.length
  rest : ∀ h : p < l.length, (m ≠ 21 → isD (l[p]).toNat = false) ∧ (m = 21 ∨ m = 22 → (l[p]).toNat ≠ 46)
  last : Nb l p
  tells : ∀ st d, T l (cV st d) i = T l (cN m st d) p
theorem frac_none {l : List UInt8} {i p m : Nat} (hw : Whole l i p m) (h : ∀ h : p < l.length, (l[p]).toNat ≠ 46) : Frac l i p m :=
  ⟨hw.mode.elim .inl (fun h => .inr (.inl h)), hw.far, hw.le, fun h1 => ⟨fun h2 => hw.rest h2 h1, fun _ => h h1⟩, hw.last, hw.tells⟩
theorem frac_no {l : List UInt8} {i p m : Nat} (hw : Whole l i p m) (hp : p < l.length) (h : (l[p]).toNat = 46) (hr : ∀ hj : p + 1 < l.length, isD (l[p + 1]).toNat = false) (st : List Bool) (d : Nat) : T l (cV st d) i = (none, p + 1) := by
  rw [hw.tells, T_point l m st d p hw.mode hp h]
  exact T_number_no l 23 st d (p + 1) (.inr (.inl rfl)) hp fun h1 => ⟨hr h1, fun h2 => absurd h2 (by decide)⟩
theorem frac_some {l : List UInt8} {i p m n : Nat} (hw : Whole l i p m) (hp : p < l.length) (h : (l[p]).toNat = 46) (hn : 0 < n) (hl : p + 1 + n ≤ l.length) (hd : ∀ j, p + 1 ≤ j → j < p + 1 + n → ∃ hj : j < l.length, isD (l[j]).toNat = true) (hr : ∀ hj : p + 1 + n < l.length, isD (l[p + 1 + n]).toNat = false) : Frac l i (p + 1 + n) 24 := by
  have := hw.far
  refine ⟨.inr (.inr rfl), by omega, hl, fun h1 => ⟨fun _ => hr h1, fun h2 => absurd h2 (by decide)⟩, nb_last hn hd, fun st d => ?_⟩
  obtain ⟨ha, hd1⟩ := hd (p + 1) (Nat.le_refl _) (by omega)
  rw [hw.tells, T_point l m st d p hw.mode hp h, T_pointdigit l st d (p + 1) ha hd1, T_digits l 24 st d (p + 1 + 1) (n - 1) (.inr (.inl rfl)) (fun j h1 h2 => hd j (by omega) (by omega)), show p + 1 + 1 + (n - 1) = p + 1 + n by omega]
theorem frac_end {l : List UInt8} {i p m : Nat} (hf : Frac l i p m) (h : ∀ h : p < l.length, (l[p]).toNat ≠ 101 ∧ (l[p]).toNat ≠ 69) : Ends l i p := by
  refine ⟨hf.last, fun st d => ?_⟩
  rw [hf.tells]
  refine T_number_end l m st d p (hf.mode.elim .inl (fun h => h.elim (fun h => .inr (.inl h)) (fun h => .inr (.inr (.inl h))))) fun h1 => ⟨(hf.rest h1).1, (hf.rest h1).2, fun _ => h h1⟩
/-- Behind a number's e, and its sign if there is one. -/
structure Expo (l : List UInt8) (i p m : Nat) : Prop where
  mode : m = 25 ∨ m = 26
  far : i < p
  le : p ≤ l.length
  rest : ∀ h : p < l.length, m = 25 → (l[p]).toNat ≠ 43 ∧ (l[p]).toNat ≠ 45
  tells : ∀ st d, T l (cV st d) i = T l (cN m st d) p
theorem expo_sign {l : List UInt8} {i p m : Nat} (hf : Frac l i p m) (hp : p < l.length) (h : (l[p]).toNat = 101 ∨ (l[p]).toNat = 69) (hp1 : p + 1 < l.length) (h1 : (l[p + 1]).toNat = 43 ∨ (l[p + 1]).toNat = 45) : Expo l i (p + 2) 26 := by
  have := hf.far
  refine ⟨.inr rfl, by omega, hp1, fun _ h2 => absurd h2 (by decide), fun st d => ?_⟩
  rw [hf.tells, T_exp l m st d p hf.mode hp h, T_expsign l st d (p + 1) hp1 h1]
theorem expo_none {l : List UInt8} {i p m : Nat} (hf : Frac l i p m) (hp : p < l.length) (h : (l[p]).toNat = 101 ∨ (l[p]).toNat = 69) (h1 : ∀ hp1 : p + 1 < l.length, (l[p + 1]).toNat ≠ 43 ∧ (l[p + 1]).toNat ≠ 45) : Expo l i (p + 1) 25 := by
  have := hf.far
  refine ⟨.inl rfl, by omega, hp, fun h2 _ => h1 h2, fun st d => ?_⟩
  rw [hf.tells, T_exp l m st d p hf.mode hp h]
theorem expo_no {l : List UInt8} {i p m : Nat} (he : Expo l i p m) (hr : ∀ hj : p < l.length, isD (l[p]).toNat = false) (st : List Bool) (d : Nat) : T l (cV st d) i = (none, p) := by
  rw [he.tells]
  exact T_number_no l m st d p (he.mode.elim (fun h => .inr (.inr (.inl h))) (fun h => .inr (.inr (.inr h)))) he.le fun h1 => ⟨hr h1, he.rest h1⟩
theorem expo_end {l : List UInt8} {i p m n : Nat} (he : Expo l i p m) (hn : 0 < n) (hd : ∀ j, p ≤ j → j < p + n → ∃ hj : j < l.length, isD (l[j]).toNat = true) (hr : ∀ hj : p + n < l.length, isD (l[p + n]).toNat = false) : Ends l i (p + n) := by
  refine ⟨nb_last hn hd, fun st d => ?_⟩
  obtain ⟨ha, hd1⟩ := hd p (Nat.le_refl _) (by omega)
  rw [he.tells, T_expdigit l m st d p he.mode ha hd1, T_digits l 27 st d (p + 1) (n - 1) (.inr (.inr rfl)) (fun j h1 h2 => hd j (by omega) (by omega)), show p + 1 + (n - 1) = p + n by omega]
  exact T_number_end l 27 st d (p + n) (.inr (.inr (.inr rfl))) fun h1 => ⟨fun _ => hr h1, fun h2 => absurd h2 (by decide), fun h2 => absurd rfl h2⟩
end Js
end Go.Proofs.YtoipliflphbeiaaGreatDoor
namespace Go.Proofs.YtoipliflphbeiaaGreatDoor
namespace Js
/-- What Validate tells, of a deep that may be. -/
def val (l : List UInt8) (z : Int) : Int × Int :=
  if 65536 < l.length then (4, 0) else match (out c0 l).1 with
    | none => (3, ((out c0 l).2 : Nat))
    | some D => if z < (D : Int) then (2, (D : Nat)) else (1, (D : Nat))
theorem val_long (l : List UInt8) (z : Int) (h : 65536 < l.length) : val l z = (4, 0) := if_pos h
theorem val_no (l : List UInt8) (z : Int) (q : Nat) (h : ¬ 65536 < l.length) (ho : out c0 l = (none, q)) : val l z = (3, (q : Int)) := by
  unfold val
  rw [if_neg h, ho]
theorem val_deep (l : List UInt8) (z : Int) (D : Nat) (h : ¬ 65536 < l.length) (ho : (out c0 l).1 = some D) (hz : z < (D : Int)) : val l z = (2, (D : Int)) := by
  unfold val
  rw [if_neg h, ho]
  exact if_pos hz
theorem val_yes (l : List UInt8) (z : Int) (D : Nat) (h : ¬ 65536 < l.length) (ho : (out c0 l).1 = some D) (hz : ¬ z < (D : Int)) : val l z = (1, (D : Int)) := by
  unfold val
  rw [if_neg h, ho]
  exact if_neg hz
theorem text_end (l : List UInt8) (D j : Nat) (h : l.length = j) : T l (cE [] D) j = (some D, j) := by
  rw [T_end l _ j h]
  rfl
theorem text_no (l : List UInt8) (D j : Nat) (hj : j < l.length) (h : isB (l[j]).toNat = false) : T l (cE [] D) j = (none, j) := by
  refine T_dead l _ j hj ?_
  show stE [] D _ = none
  unfold stE
  rw [h, if_neg Bool.false_ne_true]
  split
  · rfl
  split
  · rfl
  split
  · rfl
  · rfl
end Js
end Go.Proofs.YtoipliflphbeiaaGreatDoor
namespace Go.Proofs.YtoipliflphbeiaaGreatDoor
namespace Js
def bt (l : List UInt8) (i : Nat) : Nat := (l.getD i 0).toNat
theorem bt_at (l : List UInt8) (i : Nat) (h : i < l.length) : bt l i = (l[i]).toNat := by
  unfold bt
  rw [List.getD_eq_getElem?_getD, List.getElem?_eq_getElem h]
  rfl
theorem bt_past (l : List UInt8) (i : Nat) (h : l.length ≤ i) : bt l i = 0 := by
  unfold bt
  rw [List.getD_eq_getElem?_getD, List.getElem?_eq_none h]
  rfl
theorem bt_in (l : List UInt8) (i : Nat) (h : bt l i ≠ 0) : i < l.length := by
  rcases Nat.lt_or_ge i l.length with h1 | h1
  · exact h1
  · exact absurd (bt_past l i h1) h
theorem bt_drop (l : List UInt8) (a i : Nat) : bt (l.drop a) i = bt l (a + i) := by
  unfold bt
  rw [List.getD_eq_getElem?_getD, List.getD_eq_getElem?_getD, List.getElem?_drop]
theorem T_drop (l : List UInt8) (c : Cf) (a i : Nat) : T l c (a + i) = ((T (l.drop a) c i).1, (T (l.drop a) c i).2 + a) := by
  unfold T
  rw [List.drop_drop]
  exact Prod.ext rfl (by show _ + (a + i) = _ + i + a; omega)
theorem T_go (l : List UInt8) (c c' : Cf) (i : Nat) (h0 : bt l i ≠ 0) (h : step c (bt l i) = some c') : T l c i = T l c' (i + 1) := by
  have hi := bt_in l i h0
  rw [bt_at l i hi] at h
  exact T_next l c c' i hi h
theorem T_no (l : List UInt8) (c : Cf) (i : Nat) (hi : i ≤ l.length) (ha : acc c = false) (h : i < l.length → step c (bt l i) = none) : T l c i = (none, i) := by
  by_cases h1 : i < l.length
  · have := h h1
    rw [bt_at l i h1] at this
    exact T_dead l c i h1 this
  · exact T_live l c i (by omega) ha
theorem isB_bt (b : Nat) : isB b = true → b ≠ 0 ∧ b < 128 := fun h => by
  have := (isB_iff b).1 h
  omega
theorem isD_bt (b : Nat) : isD b = true → b ≠ 0 ∧ b < 128 := fun h => by
  have := (isD_iff b).1 h
  omega
/-- A place behind a letter, or the beginning. -/
def As (l : List UInt8) (i : Nat) : Prop := i = 0 ∨ (0 < i ∧ bt l (i - 1) < 128)
theorem As.next (l : List UInt8) (i : Nat) (h : bt l i < 128) : As l (i + 1) := .inr ⟨Nat.succ_pos i, h⟩
theorem As.at (l : List UInt8) (i : Nat) (h0 : 0 < i) (h : bt l (i - 1) < 128) : As l i := .inr ⟨h0, h⟩
/-- UTF-8's state behind a letter. -/
theorem st_letter (q b : Nat) (hb : b < 128) (h : Ut.st q b ≠ 8) : q = 0 ∧ Ut.st q b = 0 := by
  unfold Ut.st at h ⊢
  split at h
  all_goals (first | (refine ⟨rfl, ?_⟩; rw [if_pos hb]) | (exfalso; split at h <;> omega) | exact absurd rfl h)
/-- All of it is alive. -/
def Al (l : List UInt8) : Prop := Ut.run 0 l ≠ 8
theorem Al.take (l : List UInt8) (h : Al l) (k : Nat) : Ut.run 0 (l.take k) ≠ 8 := fun h1 => by
  have e := Ut.run_append 0 (l.take k) (l.drop k)
  rw [List.take_append_drop, h1, Ut.run_dead] at e
  exact h e
theorem Al.at (l : List UInt8) (h : Al l) (i : Nat) (hi : As l i) (hl : i ≤ l.length) : Ut.run 0 (l.take i) = 0 := by
  rcases hi with rfl | ⟨h0, h1⟩
  · rfl
  · obtain ⟨j, rfl⟩ : ∃ j, i = j + 1 := ⟨i - 1, by omega⟩
    have hj : j < l.length := by omega
    have e := Ut.run_take_succ 0 l j hj
    rw [Nat.add_sub_cancel, bt_at l j hj] at h1
    have h2 := h.take l (j + 1)
    rw [e] at h2
    rw [e]
    exact (st_letter _ _ h1 h2).2
theorem Al.drop (l : List UInt8) (h : Al l) (i : Nat) (hi : As l i) (hl : i ≤ l.length) : Al (l.drop i) := fun h1 => by
  have e := Ut.run_append 0 (l.take i) (l.drop i)
  rw [List.take_append_drop, h.at l i hi hl] at e
  exact h (e.trans h1)
/-- The state on the way, and the machine within a string. -/
def qs (l : List UInt8) (i : Nat) : Nat := Ut.run 0 (l.take i)
theorem qs_letter (l : List UInt8) (h : Al l) (i : Nat) (hi : i < l.length) (hb : bt l i < 128) : qs l i = 0 ∧ qs l (i + 1) = 0 := by
  have e := Ut.run_take_succ 0 l i hi
  have h2 := h.take l (i + 1)
  rw [e] at h2
  rw [bt_at l i hi] at hb
  have := st_letter _ _ hb h2
  exact ⟨this.1, e.trans this.2⟩
theorem T_through (l : List UInt8) (h : Al l) (i : Nat) (hi : i < l.length) (h1 : 32 ≤ bt l i) (h2 : bt l i ≠ 34) (h3 : bt l i ≠ 92) (k : Bool) (st : List Bool) (d : Nat) : T l (cS (qs l i) k st d) i = T l (cS (qs l (i + 1)) k st d) (i + 1) := by
  have e : qs l (i + 1) = Ut.st (qs l i) (l[i]).toNat := Ut.run_take_succ 0 l i hi
  have h8 : qs l (i + 1) ≠ 8 := h.take l (i + 1)
  rw [bt_at l i hi] at h1 h2 h3
  refine T_next l _ _ i hi ?_
  show stS (qs l i) k st d _ = _
  unfold stS
  rw [if_neg (fun h => h2 h.2), if_neg (fun h => by omega), if_neg (fun h => h3 h.2), ← e, if_neg h8]
end Js
end Go.Proofs.YtoipliflphbeiaaGreatDoor
namespace Go.Proofs.YtoipliflphbeiaaGreatDoor
namespace Js
/-- What holds of every place that is come to: as deep as what is open, at least; a word's letters are no blanks. -/
def Ok (c : Cf) : Prop := c.st.length ≤ c.d ∧ ∀ a ∈ c.w, isB a.toNat = false
theorem ok_c0 : Ok c0 := ⟨Nat.le_refl _, fun _ h => absurd h List.not_mem_nil⟩
theorem ok_lit (m x : Nat) (k : Bool) (st : List Bool) (d : Nat) (h : st.length ≤ d) : Ok ⟨m, x, [], k, st, d⟩ := ⟨h, fun _ h => absurd h List.not_mem_nil⟩
/-- What a step does to the depth, and where it may end behind a blank. -/
def Good (c c' : Cf) (b : Nat) : Prop := Ok c' ∧ c.d ≤ c'.d ∧ c'.d ≤ c.d + 1 ∧ (isB b = true → acc c' = true → acc c = true)
theorem good_V (c c' : Cf) (b : Nat) (hb : isB b = false) (ho : Ok c) (h : stV c.st c.d b = some c') : Good c c' b := by
  have h1 := ho.1
  have hn : isB b = true → acc c' = true → acc c = true := fun h2 => by rw [hb] at h2; cases h2
  unfold stV at h
  by_cases e1 : b = 34
  · rw [if_pos e1] at h
    obtain rfl := Option.some.inj h
    exact ⟨ok_lit _ _ _ _ _ h1, Nat.le_refl _, Nat.le_succ _, hn⟩
  rw [if_neg e1] at h
  by_cases e2 : b = 91
  · rw [if_pos e2] at h
    obtain rfl := Option.some.inj h
    refine ⟨ok_lit _ _ _ _ _ ?_, ?_, ?_, hn⟩
    · rw [List.length_cons]; omega
    · show c.d ≤ max c.d (c.st.length + 1); omega
    · show max c.d (c.st.length + 1) ≤ c.d + 1; omega
  rw [if_neg e2] at h
  by_cases e3 : b = 123
  · rw [if_pos e3] at h
    obtain rfl := Option.some.inj h
    refine ⟨ok_lit _ _ _ _ _ ?_, ?_, ?_, hn⟩
    · rw [List.length_cons]; omega
    · show c.d ≤ max c.d (c.st.length + 1); omega
    · show max c.d (c.st.length + 1) ≤ c.d + 1; omega
  rw [if_neg e3] at h
  by_cases e4 : b = 110
  · rw [if_pos e4] at h
    obtain rfl := Option.some.inj h
    exact ⟨⟨h1, (show ∀ a ∈ ([117, 108, 108] : List UInt8), isB a.toNat = false by decide)⟩, Nat.le_refl _, Nat.le_succ _, hn⟩
  rw [if_neg e4] at h
  by_cases e5 : b = 116
  · rw [if_pos e5] at h
    obtain rfl := Option.some.inj h
    exact ⟨⟨h1, (show ∀ a ∈ ([114, 117, 101] : List UInt8), isB a.toNat = false by decide)⟩, Nat.le_refl _, Nat.le_succ _, hn⟩
  rw [if_neg e5] at h
  by_cases e6 : b = 102
  · rw [if_pos e6] at h
    obtain rfl := Option.some.inj h
    exact ⟨⟨h1, (show ∀ a ∈ ([97, 108, 115, 101] : List UInt8), isB a.toNat = false by decide)⟩, Nat.le_refl _, Nat.le_succ _, hn⟩
  rw [if_neg e6] at h
  by_cases e7 : b = 45
  · rw [if_pos e7] at h
    obtain rfl := Option.some.inj h
    exact ⟨ok_lit _ _ _ _ _ h1, Nat.le_refl _, Nat.le_succ _, hn⟩
  rw [if_neg e7] at h
  by_cases e8 : b = 48
  · rw [if_pos e8] at h
    obtain rfl := Option.some.inj h
    exact ⟨ok_lit _ _ _ _ _ h1, Nat.le_refl _, Nat.le_succ _, hn⟩
  rw [if_neg e8] at h
  split at h
  · obtain rfl := Option.some.inj h
    exact ⟨ok_lit _ _ _ _ _ h1, Nat.le_refl _, Nat.le_succ _, hn⟩
  · cases h
/-- Behind a value: c's own mode ends, if nothing is open. -/
theorem good_E (c c' : Cf) (b : Nat) (hc : c.st = [] → acc c = true) (ho : Ok c) (h : stE c.st c.d b = some c') : Good c c' b := by
  have h1 := ho.1
  unfold stE at h
  by_cases e1 : isB b = true
  · rw [if_pos e1] at h
    obtain rfl := Option.some.inj h
    refine ⟨ok_lit _ _ _ _ _ h1, Nat.le_refl _, Nat.le_succ _, fun _ h2 => hc ?_⟩
    rw [acc_E] at h2
    exact List.isEmpty_iff.1 h2
  rw [if_neg e1] at h
  have hn : ∀ c'' : Cf, isB b = true → acc c'' = true → acc c = true := fun _ h2 => absurd h2 e1
  by_cases e2 : b = 44
  · rw [if_pos e2] at h
    split at h
    · cases h
    · rename_i r hr
      obtain rfl := Option.some.inj h
      exact ⟨ok_lit _ _ _ _ _ (by rw [← hr]; exact h1), Nat.le_refl _, Nat.le_succ _, hn _⟩
    · rename_i r hr
      obtain rfl := Option.some.inj h
      exact ⟨ok_lit _ _ _ _ _ (by rw [← hr]; exact h1), Nat.le_refl _, Nat.le_succ _, hn _⟩
  rw [if_neg e2] at h
  by_cases e3 : b = 93
  · rw [if_pos e3] at h
    split at h
    · rename_i r hr
      obtain rfl := Option.some.inj h
      rw [hr, List.length_cons] at h1
      exact ⟨ok_lit _ _ _ _ _ (by omega), Nat.le_refl _, Nat.le_succ _, hn _⟩
    · cases h
  rw [if_neg e3] at h
  by_cases e4 : b = 125
  · rw [if_pos e4] at h
    split at h
    · rename_i r hr
      obtain rfl := Option.some.inj h
      rw [hr, List.length_cons] at h1
      exact ⟨ok_lit _ _ _ _ _ (by omega), Nat.le_refl _, Nat.le_succ _, hn _⟩
    · cases h
  · rw [if_neg e4] at h
    cases h
theorem acc_lit (c : Cf) (hm : c.m = 5 ∨ c.m = 21 ∨ c.m = 22 ∨ c.m = 24 ∨ c.m = 27) (h : c.st = []) : acc c = true := by
  unfold acc
  rw [h]
  rcases hm with e | e | e | e | e <;> rw [e] <;> rfl
theorem aft_ok (k : Bool) (st : List Bool) (d : Nat) (h : st.length ≤ d) : Ok (aft k st d) := by
  cases k
  · exact ok_lit _ _ _ _ _ h
  · exact ok_lit _ _ _ _ _ h
theorem aft_d (k : Bool) (st : List Bool) (d : Nat) : (aft k st d).d = d := by cases k <;> rfl
/-- A step that keeps the depth, behind a byte that is no blank. -/
theorem good_plain (c c' : Cf) (b : Nat) (ho : Ok c') (hd : c'.d = c.d) (h : isB b = true → acc c' = true → acc c = true) : Good c c' b := ⟨ho, by omega, by omega, h⟩
theorem good_step (c c' : Cf) (b : Nat) (ho : Ok c) (h : step c b = some c') : Good c c' b := by
  have h1 := ho.1
  have nb : ∀ (n : Nat), b = n → isB n = false → isB b = true → acc c' = true → acc c = true := fun n e h2 h3 => by rw [e, h2] at h3; cases h3
  obtain ⟨m, x, w, k, st, d⟩ := c
  have h1 : st.length ≤ d := h1
  by_cases hm : m ≤ 9
  · obtain rfl | rfl | rfl | rfl | rfl | rfl | rfl | rfl | rfl | rfl : m = 0 ∨ m = 1 ∨ m = 2 ∨ m = 3 ∨ m = 4 ∨ m = 5 ∨ m = 6 ∨ m = 7 ∨ m = 8 ∨ m = 9 := by omega
    · have h : (if isB b then some (cV st d) else stV st d b) = some c' := h
      by_cases e : isB b = true
      · rw [if_pos e] at h
        obtain rfl := Option.some.inj h
        exact good_plain _ _ _ (ok_lit _ _ _ _ _ h1) rfl (fun _ h2 => by cases h2)
      · rw [if_neg e] at h
        exact good_V _ _ _ (by simpa using e) ho h
    · have h : (if isB b then some (cA st d) else if b = 93 then stE st d b else stV st d b) = some c' := h
      by_cases e : isB b = true
      · rw [if_pos e] at h
        obtain rfl := Option.some.inj h
        exact good_plain _ _ _ (ok_lit _ _ _ _ _ h1) rfl (fun _ h2 => by cases h2)
      · rw [if_neg e] at h
        by_cases e2 : b = 93
        · rw [if_pos e2] at h
          have := good_E (cE st d) c' b (fun h2 => by rw [acc_E, show st = [] from h2]; rfl) (ok_lit _ _ _ _ _ h1) h
          exact ⟨this.1, this.2.1, this.2.2.1, fun h2 => absurd h2 e⟩
        · rw [if_neg e2] at h
          exact good_V _ _ _ (by simpa using e) ho h
    · have h : (if isB b then some (cO st d) else if b = 125 then stE st d b else if b = 34 then some (cS 0 true st d) else none) = some c' := h
      by_cases e : isB b = true
      · rw [if_pos e] at h
        obtain rfl := Option.some.inj h
        exact good_plain _ _ _ (ok_lit _ _ _ _ _ h1) rfl (fun _ h2 => by cases h2)
      · rw [if_neg e] at h
        by_cases e2 : b = 125
        · rw [if_pos e2] at h
          have := good_E (cE st d) c' b (fun h2 => by rw [acc_E, show st = [] from h2]; rfl) (ok_lit _ _ _ _ _ h1) h
          exact ⟨this.1, this.2.1, this.2.2.1, fun h2 => absurd h2 e⟩
        · rw [if_neg e2] at h
          by_cases e3 : b = 34
          · rw [if_pos e3] at h
            obtain rfl := Option.some.inj h
            exact good_plain _ _ _ (ok_lit _ _ _ _ _ h1) rfl (fun h2 => absurd h2 e)
          · rw [if_neg e3] at h
            cases h
    · have h : (if isB b then some (cK st d) else if b = 34 then some (cS 0 true st d) else none) = some c' := h
      by_cases e : isB b = true
      · rw [if_pos e] at h
        obtain rfl := Option.some.inj h
        exact good_plain _ _ _ (ok_lit _ _ _ _ _ h1) rfl (fun _ h2 => by cases h2)
      · rw [if_neg e] at h
        by_cases e3 : b = 34
        · rw [if_pos e3] at h
          obtain rfl := Option.some.inj h
          exact good_plain _ _ _ (ok_lit _ _ _ _ _ h1) rfl (fun h2 => absurd h2 e)
        · rw [if_neg e3] at h
          cases h
    · have h : (if isB b then some (cC st d) else if b = 58 then some (cV st d) else none) = some c' := h
      by_cases e : isB b = true
      · rw [if_pos e] at h
        obtain rfl := Option.some.inj h
        exact good_plain _ _ _ (ok_lit _ _ _ _ _ h1) rfl (fun _ h2 => by cases h2)
      · rw [if_neg e] at h
        by_cases e3 : b = 58
        · rw [if_pos e3] at h
          obtain rfl := Option.some.inj h
          exact good_plain _ _ _ (ok_lit _ _ _ _ _ h1) rfl (fun h2 => absurd h2 e)
        · rw [if_neg e3] at h
          cases h
    · exact good_E _ _ _ (fun h2 => acc_lit _ (.inl rfl) h2) ho h
    · have h : stS x k st d b = some c' := h
      unfold stS at h
      by_cases e1 : x = 0 ∧ b = 34
      · rw [if_pos e1] at h
        obtain rfl := Option.some.inj h
        exact good_plain _ _ _ (aft_ok k st d h1) (aft_d k st d) (nb 34 e1.2 rfl)
      rw [if_neg e1] at h
      by_cases e2 : x = 0 ∧ b < 32
      · rw [if_pos e2] at h
        cases h
      rw [if_neg e2] at h
      by_cases e3 : x = 0 ∧ b = 92
      · rw [if_pos e3] at h
        obtain rfl := Option.some.inj h
        exact good_plain _ _ _ (ok_lit _ _ _ _ _ h1) rfl (fun _ h2 => by cases h2)
      rw [if_neg e3] at h
      by_cases e4 : Ut.st x b = 8
      · rw [if_pos e4] at h
        cases h
      · rw [if_neg e4] at h
        obtain rfl := Option.some.inj h
        exact good_plain _ _ _ (ok_lit _ _ _ _ _ h1) rfl (fun _ h2 => by cases h2)
    · have h : (if isS b then some (cS 0 k st d) else if b = 117 then some (cU 0 k st d) else none) = some c' := h
      by_cases e1 : isS b = true
      · rw [if_pos e1] at h
        obtain rfl := Option.some.inj h
        exact good_plain _ _ _ (ok_lit _ _ _ _ _ h1) rfl (fun _ h2 => by cases h2)
      · rw [if_neg e1] at h
        by_cases e2 : b = 117
        · rw [if_pos e2] at h
          obtain rfl := Option.some.inj h
          exact good_plain _ _ _ (ok_lit _ _ _ _ _ h1) rfl (fun _ h2 => by cases h2)
        · rw [if_neg e2] at h
          cases h
    · have h : (if isH b then (if x = 3 then some (cS 0 k st d) else some (cU (x + 1) k st d)) else none) = some c' := h
      by_cases e1 : isH b = true
      · rw [if_pos e1] at h
        by_cases e2 : x = 3
        · rw [if_pos e2] at h
          obtain rfl := Option.some.inj h
          exact good_plain _ _ _ (ok_lit _ _ _ _ _ h1) rfl (fun _ h2 => by cases h2)
        · rw [if_neg e2] at h
          obtain rfl := Option.some.inj h
          exact good_plain _ _ _ (ok_lit _ _ _ _ _ h1) rfl (fun _ h2 => by cases h2)
      · rw [if_neg e1] at h
        cases h
    · have hw := ho.2
      match w, hw, h with
      | a :: r, hw, h =>
        have h : (if b = a.toNat then (if r = [] then some (cE st d) else some (cW r st d)) else none) = some c' := h
        by_cases e1 : b = a.toNat
        · rw [if_pos e1] at h
          have hn := nb _ e1 (hw a List.mem_cons_self)
          by_cases e2 : r = []
          · rw [if_pos e2] at h
            obtain rfl := Option.some.inj h
            exact good_plain _ _ _ (ok_lit _ _ _ _ _ h1) rfl hn
          · rw [if_neg e2] at h
            obtain rfl := Option.some.inj h
            exact good_plain _ _ _ ⟨h1, fun y hy => hw y (List.mem_cons_of_mem _ hy)⟩ rfl hn
        · rw [if_neg e1] at h
          cases h
  · have h : stN m st d b = some c' := by
      have : step ⟨m, x, w, k, st, d⟩ b = stN m st d b := by
        obtain ⟨j, rfl⟩ : ∃ j, m = j + 10 := ⟨m - 10, by omega⟩
        rfl
      rw [← this]
      exact h
    have lit : ∀ (n : Nat), Ok (cN n st d) := fun n => ok_lit _ _ _ _ _ h1
    have no : ∀ (n : Nat), n = 23 ∨ n = 25 ∨ n = 26 → isB b = true → acc (cN n st d) = true → acc (⟨m, x, w, k, st, d⟩ : Cf) = true := fun n hn _ h2 => by
      rcases hn with rfl | rfl | rfl <;> cases h2
    have dg : isD b = true → ∀ (n : Nat), isB b = true → acc (cN n st d) = true → acc (⟨m, x, w, k, st, d⟩ : Cf) = true := fun h2 _ h3 => by
      rw [isD_iff] at h2
      rw [isB_iff] at h3
      omega
    unfold stN at h
    by_cases m0 : m = 20
    · rw [if_pos m0] at h
      by_cases e : b = 48
      · rw [if_pos e] at h
        obtain rfl := Option.some.inj h
        exact good_plain _ _ _ (lit _) rfl (nb 48 e rfl)
      · rw [if_neg e] at h
        split at h
        · rename_i e2
          obtain rfl := Option.some.inj h
          exact good_plain _ _ _ (lit _) rfl (dg e2 _)
        · cases h
    rw [if_neg m0] at h
    by_cases m1 : m = 21
    · rw [if_pos m1] at h
      by_cases e : b = 46
      · rw [if_pos e] at h
        obtain rfl := Option.some.inj h
        exact good_plain _ _ _ (lit _) rfl (no _ (.inl rfl))
      rw [if_neg e] at h
      by_cases e2 : b = 101 ∨ b = 69
      · rw [if_pos e2] at h
        obtain rfl := Option.some.inj h
        exact good_plain _ _ _ (lit _) rfl (no _ (.inr (.inl rfl)))
      · rw [if_neg e2] at h
        exact good_E _ _ _ (fun h2 => acc_lit _ (.inr (.inl m1)) h2) ho h
    rw [if_neg m1] at h
    by_cases m2 : m = 22
    · rw [if_pos m2] at h
      by_cases e0 : isD b = true
      · rw [if_pos e0] at h
        obtain rfl := Option.some.inj h
        exact good_plain _ _ _ (lit _) rfl (dg e0 _)
      rw [if_neg e0] at h
      by_cases e : b = 46
      · rw [if_pos e] at h
        obtain rfl := Option.some.inj h
        exact good_plain _ _ _ (lit _) rfl (no _ (.inl rfl))
      rw [if_neg e] at h
      by_cases e2 : b = 101 ∨ b = 69
      · rw [if_pos e2] at h
        obtain rfl := Option.some.inj h
        exact good_plain _ _ _ (lit _) rfl (no _ (.inr (.inl rfl)))
      · rw [if_neg e2] at h
        exact good_E _ _ _ (fun h2 => acc_lit _ (.inr (.inr (.inl m2))) h2) ho h
    rw [if_neg m2] at h
    by_cases m3 : m = 23
    · rw [if_pos m3] at h
      by_cases e0 : isD b = true
      · rw [if_pos e0] at h
        obtain rfl := Option.some.inj h
        exact good_plain _ _ _ (lit _) rfl (dg e0 _)
      · rw [if_neg e0] at h
        cases h
    rw [if_neg m3] at h
    by_cases m4 : m = 24
    · rw [if_pos m4] at h
      by_cases e0 : isD b = true
      · rw [if_pos e0] at h
        obtain rfl := Option.some.inj h
        exact good_plain _ _ _ (lit _) rfl (dg e0 _)
      rw [if_neg e0] at h
      by_cases e2 : b = 101 ∨ b = 69
      · rw [if_pos e2] at h
        obtain rfl := Option.some.inj h
        exact good_plain _ _ _ (lit _) rfl (no _ (.inr (.inl rfl)))
      · rw [if_neg e2] at h
        exact good_E _ _ _ (fun h2 => acc_lit _ (.inr (.inr (.inr (.inl m4)))) h2) ho h
    rw [if_neg m4] at h
    by_cases m5 : m = 25
    · rw [if_pos m5] at h
      by_cases e : b = 43 ∨ b = 45
      · rw [if_pos e] at h
        obtain rfl := Option.some.inj h
        exact good_plain _ _ _ (lit _) rfl (no _ (.inr (.inr rfl)))
      rw [if_neg e] at h
      by_cases e0 : isD b = true
      · rw [if_pos e0] at h
        obtain rfl := Option.some.inj h
        exact good_plain _ _ _ (lit _) rfl (dg e0 _)
      · rw [if_neg e0] at h
        cases h
    rw [if_neg m5] at h
    by_cases m6 : m = 26
    · rw [if_pos m6] at h
      by_cases e0 : isD b = true
      · rw [if_pos e0] at h
        obtain rfl := Option.some.inj h
        exact good_plain _ _ _ (lit _) rfl (dg e0 _)
      · rw [if_neg e0] at h
        cases h
    rw [if_neg m6] at h
    by_cases m7 : m = 27
    · rw [if_pos m7] at h
      by_cases e0 : isD b = true
      · rw [if_pos e0] at h
        obtain rfl := Option.some.inj h
        exact good_plain _ _ _ (lit _) rfl (dg e0 _)
      · rw [if_neg e0] at h
        exact good_E _ _ _ (fun h2 => acc_lit _ (.inr (.inr (.inr (.inr m7)))) h2) ho h
    · rw [if_neg m7] at h
      cases h
/-- No text nests deeper than it is long. -/
theorem out_deep (l : List UInt8) (c : Cf) (ho : Ok c) (v : Nat) (h : (out c l).1 = some v) : v ≤ c.d + l.length := by
  induction l generalizing c with
  | nil =>
    have h : (if acc c then some c.d else none) = some v := h
    split at h
    · rw [← Option.some.inj h]
      exact Nat.le_add_right _ _
    · cases h
  | cons b l ih =>
    cases hs : step c b.toNat with
    | none =>
      rw [out_none c b l hs] at h
      cases h
    | some c' =>
      rw [out_some c c' b l hs] at h
      have hg := good_step c c' _ ho hs
      have := ih c' hg.1 h
      have := hg.2.2.1
      rw [List.length_cons]
      omega
theorem acc_iff (c : Cf) : acc c = true ↔ (c.m = 5 ∨ c.m = 21 ∨ c.m = 22 ∨ c.m = 24 ∨ c.m = 27) ∧ c.st = [] := by
  unfold acc
  simp [or_assoc]
/-- Where it may end, what is no part of a number is read as behind a value. -/
theorem step_end (c : Cf) (b : Nat) (hm : c.m = 5 ∨ c.m = 21 ∨ c.m = 22 ∨ c.m = 24 ∨ c.m = 27) (hb : isD b = false) (h1 : b ≠ 46) (h2 : b ≠ 101) (h3 : b ≠ 69) : step c b = stE c.st c.d b := by
  obtain ⟨m, y, w, k, st, d⟩ := c
  have hm : m = 5 ∨ m = 21 ∨ m = 22 ∨ m = 24 ∨ m = 27 := hm
  rcases hm with rfl | rfl | rfl | rfl | rfl
  · rfl
  · show (if b = 46 then some (cN 23 st d) else if b = 101 ∨ b = 69 then some (cN 25 st d) else stE st d b) = _
    rw [if_neg h1, if_neg (fun h => h.elim h2 h3)]
  · show (if isD b then some (cN 22 st d) else if b = 46 then some (cN 23 st d) else if b = 101 ∨ b = 69 then some (cN 25 st d) else stE st d b) = _
    rw [hb, if_neg Bool.false_ne_true, if_neg h1, if_neg (fun h => h.elim h2 h3)]
  · show (if isD b then some (cN 24 st d) else if b = 101 ∨ b = 69 then some (cN 25 st d) else stE st d b) = _
    rw [hb, if_neg Bool.false_ne_true, if_neg (fun h => h.elim h2 h3)]
  · show (if isD b then some (cN 27 st d) else stE st d b) = _
    rw [hb, if_neg Bool.false_ne_true]
/-- The same place with more brackets open beneath. -/
def under (B : List Bool) (D : Nat) (c : Cf) : Cf := ⟨c.m, c.x, c.w, c.k, c.st ++ B, max D (c.d + B.length)⟩
theorem max_push (D d n m : Nat) : max D (max d (n + 1) + m) = max (max D (d + m)) (n + m + 1) := by omega
theorem under_V (B : List Bool) (D : Nat) (st : List Bool) (d b : Nat) (c' : Cf) (h : stV st d b = some c') : stV (st ++ B) (max D (d + B.length)) b = some (under B D c') := by
  unfold stV at h ⊢
  have push : ∀ (o : Bool) (f : List Bool → Nat → Cf), (∀ s e, under B D (f s e) = f (s ++ B) (max D (e + B.length))) → f (o :: (st ++ B)) (max (max D (d + B.length)) ((st ++ B).length + 1)) = under B D (f (o :: st) (max d (st.length + 1))) := fun o f hf => by
    rw [hf, List.cons_append, List.length_append, max_push]
  by_cases e1 : b = 34
  · rw [if_pos e1] at h ⊢
    rw [← Option.some.inj h]
    rfl
  rw [if_neg e1] at h ⊢
  by_cases e2 : b = 91
  · rw [if_pos e2] at h ⊢
    rw [← Option.some.inj h, push false cA (fun _ _ => rfl)]
  rw [if_neg e2] at h ⊢
  by_cases e3 : b = 123
  · rw [if_pos e3] at h ⊢
    rw [← Option.some.inj h, push true cO (fun _ _ => rfl)]
  rw [if_neg e3] at h ⊢
  by_cases e4 : b = 110
  · rw [if_pos e4] at h ⊢
    rw [← Option.some.inj h]
    rfl
  rw [if_neg e4] at h ⊢
  by_cases e5 : b = 116
  · rw [if_pos e5] at h ⊢
    rw [← Option.some.inj h]
    rfl
  rw [if_neg e5] at h ⊢
  by_cases e6 : b = 102
  · rw [if_pos e6] at h ⊢
    rw [← Option.some.inj h]
    rfl
  rw [if_neg e6] at h ⊢
  by_cases e7 : b = 45
  · rw [if_pos e7] at h ⊢
    rw [← Option.some.inj h]
    rfl
  rw [if_neg e7] at h ⊢
  by_cases e8 : b = 48
  · rw [if_pos e8] at h ⊢
    rw [← Option.some.inj h]
    rfl
  rw [if_neg e8] at h ⊢
  split at h
  · rename_i e9
    rw [if_pos e9, ← Option.some.inj h]
    rfl
  · cases h
theorem under_E (B : List Bool) (D : Nat) (st : List Bool) (d b : Nat) (c' : Cf) (h : stE st d b = some c') : stE (st ++ B) (max D (d + B.length)) b = some (under B D c') := by
  unfold stE at h ⊢
  by_cases e1 : isB b = true
  · rw [if_pos e1] at h ⊢
    rw [← Option.some.inj h]
    rfl
  rw [if_neg e1] at h ⊢
  by_cases e2 : b = 44
  · rw [if_pos e2] at h ⊢
    match st, h with
    | false :: r, h => rw [← Option.some.inj h]; rfl
    | true :: r, h => rw [← Option.some.inj h]; rfl
  rw [if_neg e2] at h ⊢
  by_cases e3 : b = 93
  · rw [if_pos e3] at h ⊢
    match st, h with
    | false :: r, h => rw [← Option.some.inj h]; rfl
  rw [if_neg e3] at h ⊢
  by_cases e4 : b = 125
  · rw [if_pos e4] at h ⊢
    match st, h with
    | true :: r, h => rw [← Option.some.inj h]; rfl
  · rw [if_neg e4] at h
    cases h
theorem under_aft (B : List Bool) (D : Nat) (k : Bool) (st : List Bool) (d : Nat) : under B D (aft k st d) = aft k (st ++ B) (max D (d + B.length)) := by cases k <;> rfl
theorem under_S (B : List Bool) (D : Nat) (q : Nat) (k : Bool) (st : List Bool) (d b : Nat) (c' : Cf) (h : stS q k st d b = some c') : stS q k (st ++ B) (max D (d + B.length)) b = some (under B D c') := by
  unfold stS at h ⊢
  by_cases e1 : q = 0 ∧ b = 34
  · rw [if_pos e1] at h ⊢
    rw [← Option.some.inj h, under_aft]
  rw [if_neg e1] at h ⊢
  by_cases e2 : q = 0 ∧ b < 32
  · rw [if_pos e2] at h
    cases h
  rw [if_neg e2] at h ⊢
  by_cases e3 : q = 0 ∧ b = 92
  · rw [if_pos e3] at h ⊢
    rw [← Option.some.inj h]
    rfl
  rw [if_neg e3] at h ⊢
  by_cases e4 : Ut.st q b = 8
  · rw [if_pos e4] at h
    cases h
  · rw [if_neg e4] at h ⊢
    rw [← Option.some.inj h]
    rfl
theorem under_N (B : List Bool) (D : Nat) (m : Nat) (st : List Bool) (d b : Nat) (c' : Cf) (h : stN m st d b = some c') : stN m (st ++ B) (max D (d + B.length)) b = some (under B D c') := by
  unfold stN at h ⊢
  repeat' split at h
  all_goals first | cases h; done | skip
  all_goals simp only [*, ↓reduceIte]
  all_goals first | exact under_E B D st d b c' h | (rw [← Option.some.inj h]; rfl)
theorem step_under (B : List Bool) (D : Nat) (c c' : Cf) (b : Nat) (h : step c b = some c') : step (under B D c) b = some (under B D c') := by
  obtain ⟨m, x, w, k, st, d⟩ := c
  by_cases hm : m ≤ 9
  · obtain rfl | rfl | rfl | rfl | rfl | rfl | rfl | rfl | rfl | rfl : m = 0 ∨ m = 1 ∨ m = 2 ∨ m = 3 ∨ m = 4 ∨ m = 5 ∨ m = 6 ∨ m = 7 ∨ m = 8 ∨ m = 9 := by omega
    · have h : (if isB b then some (cV st d) else stV st d b) = some c' := h
      show (if isB b then some (cV (st ++ B) (max D (d + B.length))) else stV (st ++ B) (max D (d + B.length)) b) = _
      by_cases e : isB b = true
      · rw [if_pos e] at h ⊢
        rw [← Option.some.inj h]
        rfl
      · rw [if_neg e] at h ⊢
        exact under_V B D st d b c' h
    · have h : (if isB b then some (cA st d) else if b = 93 then stE st d b else stV st d b) = some c' := h
      show (if isB b then some (cA (st ++ B) (max D (d + B.length))) else if b = 93 then stE (st ++ B) (max D (d + B.length)) b else stV (st ++ B) (max D (d + B.length)) b) = _
      by_cases e : isB b = true
      · rw [if_pos e] at h ⊢
        rw [← Option.some.inj h]
        rfl
      · rw [if_neg e] at h ⊢
        by_cases e2 : b = 93
        · rw [if_pos e2] at h ⊢
          exact under_E B D st d b c' h
        · rw [if_neg e2] at h ⊢
          exact under_V B D st d b c' h
    · have h : (if isB b then some (cO st d) else if b = 125 then stE st d b else if b = 34 then some (cS 0 true st d) else none) = some c' := h
      show (if isB b then some (cO (st ++ B) (max D (d + B.length))) else if b = 125 then stE (st ++ B) (max D (d + B.length)) b else if b = 34 then some (cS 0 true (st ++ B) (max D (d + B.length))) else none) = _
      by_cases e : isB b = true
      · rw [if_pos e] at h ⊢
        rw [← Option.some.inj h]
        rfl
      · rw [if_neg e] at h ⊢
        by_cases e2 : b = 125
        · rw [if_pos e2] at h ⊢
          exact under_E B D st d b c' h
        · rw [if_neg e2] at h ⊢
          by_cases e3 : b = 34
          · rw [if_pos e3] at h ⊢
            rw [← Option.some.inj h]
            rfl
          · rw [if_neg e3] at h
            cases h
    · have h : (if isB b then some (cK st d) else if b = 34 then some (cS 0 true st d) else none) = some c' := h
      show (if isB b then some (cK (st ++ B) (max D (d + B.length))) else if b = 34 then some (cS 0 true (st ++ B) (max D (d + B.length))) else none) = _
      by_cases e : isB b = true
      · rw [if_pos e] at h ⊢
        rw [← Option.some.inj h]
        rfl
      · rw [if_neg e] at h ⊢
        by_cases e3 : b = 34
        · rw [if_pos e3] at h ⊢
          rw [← Option.some.inj h]
          rfl
        · rw [if_neg e3] at h
          cases h
    · have h : (if isB b then some (cC st d) else if b = 58 then some (cV st d) else none) = some c' := h
      show (if isB b then some (cC (st ++ B) (max D (d + B.length))) else if b = 58 then some (cV (st ++ B) (max D (d + B.length))) else none) = _
      by_cases e : isB b = true
      · rw [if_pos e] at h ⊢
        rw [← Option.some.inj h]
        rfl
      · rw [if_neg e] at h ⊢
        by_cases e3 : b = 58
        · rw [if_pos e3] at h ⊢
          rw [← Option.some.inj h]
          rfl
        · rw [if_neg e3] at h
          cases h
    · exact under_E B D st d b c' h
    · exact under_S B D x k st d b c' h
    · have h : (if isS b then some (cS 0 k st d) else if b = 117 then some (cU 0 k st d) else none) = some c' := h
      show (if isS b then some (cS 0 k (st ++ B) (max D (d + B.length))) else if b = 117 then some (cU 0 k (st ++ B) (max D (d + B.length))) else none) = _
      by_cases e1 : isS b = true
      · rw [if_pos e1] at h ⊢
        rw [← Option.some.inj h]
        rfl
      · rw [if_neg e1] at h ⊢
        by_cases e2 : b = 117
        · rw [if_pos e2] at h ⊢
          rw [← Option.some.inj h]
          rfl
        · rw [if_neg e2] at h
          cases h
    · have h : (if isH b then (if x = 3 then some (cS 0 k st d) else some (cU (x + 1) k st d)) else none) = some c' := h
      show (if isH b then (if x = 3 then some (cS 0 k (st ++ B) (max D (d + B.length))) else some (cU (x + 1) k (st ++ B) (max D (d + B.length)))) else none) = _
      by_cases e1 : isH b = true
      · rw [if_pos e1] at h ⊢
        by_cases e2 : x = 3
        · rw [if_pos e2] at h ⊢
          rw [← Option.some.inj h]
          rfl
        · rw [if_neg e2] at h ⊢
          rw [← Option.some.inj h]
          rfl
      · rw [if_neg e1] at h
        cases h
    · match w, h with
      | a :: r, h =>
        have h : (if b = a.toNat then (if r = [] then some (cE st d) else some (cW r st d)) else none) = some c' := h
        show (if b = a.toNat then (if r = [] then some (cE (st ++ B) (max D (d + B.length))) else some (cW r (st ++ B) (max D (d + B.length)))) else none) = _
        by_cases e1 : b = a.toNat
        · rw [if_pos e1] at h ⊢
          by_cases e2 : r = []
          · rw [if_pos e2] at h ⊢
            rw [← Option.some.inj h]
            rfl
          · rw [if_neg e2] at h ⊢
            rw [← Option.some.inj h]
            rfl
        · rw [if_neg e1] at h
          cases h
  · obtain ⟨j, rfl⟩ : ∃ j, m = j + 10 := ⟨m - 10, by omega⟩
    exact under_N B D (j + 10) st d b c' h
/-- A text that ends well, with more brackets open beneath, and what stands behind it. -/
theorem out_under (l : List UInt8) (B : List Bool) (D : Nat) (c : Cf) (v : Nat) (h : (out c l).1 = some v) : ∃ ce, acc ce = true ∧ ce.d = v ∧ ∀ r, out (under B D c) (l ++ r) = ((out (under B D ce) r).1, (out (under B D ce) r).2 + l.length) := by
  induction l generalizing c with
  | nil =>
    have h : (if acc c then some c.d else none) = some v := h
    split at h
    · rename_i ha
      exact ⟨c, ha, Option.some.inj h, fun r => rfl⟩
    · cases h
  | cons b l ih =>
    cases hs : step c b.toNat with
    | none =>
      rw [out_none c b l hs] at h
      cases h
    | some c' =>
      rw [out_some c c' b l hs] at h
      obtain ⟨ce, h1, h2, h3⟩ := ih c' h
      refine ⟨ce, h1, h2, fun r => ?_⟩
      rw [List.cons_append, out_some _ _ b _ (step_under B D c c' _ hs), h3 r]
      rfl
/-- The same, where what stands behind begins with a comma or a closing bracket. -/
theorem out_inner (l : List UInt8) (B : List Bool) (D v : Nat) (b : UInt8) (r : List UInt8) (h : (out c0 l).1 = some v) (hb : b = 44 ∨ b = 93 ∨ b = 125) : out (cV B (max D B.length)) (l ++ b :: r) = ((out (cE B (max D (v + B.length))) (b :: r)).1, (out (cE B (max D (v + B.length))) (b :: r)).2 + l.length) := by
  obtain ⟨ce, h1, h2, h3⟩ := out_under l B D c0 v h
  have e : under B D c0 = cV B (max D B.length) := by
    show cV ([] ++ B) (max D (0 + B.length)) = _
    rw [Nat.zero_add]
    rfl
  rw [← e, h3]
  obtain ⟨h4, h5⟩ := (acc_iff ce).1 h1
  have hs : step (under B D ce) b.toNat = stE B (max D (v + B.length)) b.toNat := by
    have := step_end (under B D ce) b.toNat h4 (by rcases hb with rfl | rfl | rfl <;> rfl) (by rcases hb with rfl | rfl | rfl <;> decide) (by rcases hb with rfl | rfl | rfl <;> decide) (by rcases hb with rfl | rfl | rfl <;> decide)
    rw [this]
    show stE (ce.st ++ B) (max D (ce.d + B.length)) _ = _
    rw [h5, h2]
    rfl
  have hE : out (under B D ce) (b :: r) = out (cE B (max D (v + B.length))) (b :: r) := by
    rw [out_cons, out_cons, hs]
    rfl
  rw [hE]
/-- No JSON text begins with ]. -/
theorem out_array (l : List UInt8) (c : Nat) (st : List Bool) (d v : Nat) (h : (out (cV [] c) l).1 = some v) (r : List UInt8) : out (cA st d) (l ++ r) = out (cV st d) (l ++ r) := by
  induction l with
  | nil => cases h
  | cons b l ih =>
    rw [List.cons_append, out_cons, out_cons]
    by_cases hb : isB b.toNat = true
    · rw [sp_A st d _ hb, sp_V st d _ hb]
      rw [out_some _ _ b l (sp_V [] c _ hb)] at h
      show ((out (cA st d) (l ++ r)).1, _) = ((out (cV st d) (l ++ r)).1, _)
      rw [ih h]
    · have hb2 : isB b.toNat = false := by simpa using hb
      have h93 : b.toNat ≠ 93 := fun e => by
        rw [out_none _ b l (by rw [e]; rfl)] at h
        cases h
      rw [step_A st d _ hb2 h93, step_V st d _ hb2]
theorem out_one (c c' : Cf) (b : UInt8) (l : List UInt8) (h : step c b.toNat = some c') : out c (b :: l) = ((out c' l).1, (out c' l).2 + 1) := out_some c c' b l h
/-- Two texts in an array. -/
theorem nest_array (s t : List UInt8) (d c : Nat) (hs : (out c0 s).1 = some d) (ht : (out c0 t).1 = some c) : (out c0 (91 :: (s ++ 44 :: (t ++ [93])))).1 = some (max d c + 1) := by
  rw [out_one c0 (cA [false] 1) 91 _ rfl, out_array s 0 [false] 1 d hs]
  have h1 := out_inner s [false] 1 d 44 (t ++ [93]) hs (.inl rfl)
  rw [show max 1 [false].length = 1 from rfl] at h1
  rw [h1, out_one _ (cV [false] (max 1 (d + 1))) 44 _ rfl]
  have h2 := out_inner t [false] (max 1 (d + 1)) c 93 [] ht (.inr (.inl rfl))
  rw [show max (max 1 (d + 1)) [false].length = max 1 (d + 1) from by show max (max 1 (d + 1)) 1 = _; omega] at h2
  rw [show t ++ [93] = t ++ 93 :: [] from rfl, h2, out_one _ (cE [] (max (max 1 (d + 1)) (c + 1))) 93 _ rfl]
  show some (max (max 1 (d + 1)) (c + 1)) = _
  congr 1
  omega
end Js
end Go.Proofs.YtoipliflphbeiaaGreatDoor
namespace Go.Proofs.YtoipliflphbeiaaGreatDoor
namespace Mk
open Js
/-- Where the machine stands, and the marks' state. -/
structure Rl (c : Cf) (q : Nat) : Prop where
  str : c.m = 6 ∨ c.m = 8 → q = 1
  esc : c.m = 7 → q = 2
  off : c.m ≠ 6 → c.m ≠ 7 → c.m ≠ 8 → q = 0
  wd : ∀ a ∈ c.w, 97 ≤ a.toNat ∧ a.toNat ≤ 122
  arr : c.m = 1 → ∃ r, c.st = false :: r
  obj : c.m = 2 ∨ c.m = 3 ∨ c.m = 4 → ∃ r, c.st = true :: r
  key : c.m = 6 ∨ c.m = 7 ∨ c.m = 8 → c.k = true → ∃ r, c.st = true :: r
theorem rl_plain (m x : Nat) (st : List Bool) (k : Bool) (d : Nat) (h1 : m ≠ 1) (h2 : m ≠ 2) (h3 : m ≠ 3) (h4 : m ≠ 4) (h6 : m ≠ 6) (h7 : m ≠ 7) (h8 : m ≠ 8) : Rl ⟨m, x, [], k, st, d⟩ 0 :=
  ⟨fun h => h.elim (fun h => absurd h h6) (fun h => absurd h h8), fun h => absurd h h7, fun _ _ _ => rfl, fun _ h => absurd h List.not_mem_nil, fun h => absurd h h1, fun h => (by rcases h with h | h | h <;> contradiction), fun h => (by rcases h with h | h | h <;> contradiction)⟩
theorem rl_V (st : List Bool) (d : Nat) : Rl (cV st d) 0 := rl_plain 0 0 st false d (by decide) (by decide) (by decide) (by decide) (by decide) (by decide) (by decide)
theorem rl_E (st : List Bool) (d : Nat) : Rl (cE st d) 0 := rl_plain 5 0 st false d (by decide) (by decide) (by decide) (by decide) (by decide) (by decide) (by decide)
theorem rl_A (r : List Bool) (d : Nat) : Rl (cA (false :: r) d) 0 :=
  ⟨fun h => (by rcases h with h | h <;> cases h), fun h => (by cases h), fun _ _ _ => rfl, fun _ h => absurd h List.not_mem_nil, fun _ => ⟨r, rfl⟩, fun h => (by rcases h with h | h | h <;> cases h), fun h => (by rcases h with h | h | h <;> cases h)⟩
theorem rl_O (r : List Bool) (d : Nat) : Rl (cO (true :: r) d) 0 :=
  ⟨fun h => (by rcases h with h | h <;> cases h), fun h => (by cases h), fun _ _ _ => rfl, fun _ h => absurd h List.not_mem_nil, fun h => (by cases h), fun _ => ⟨r, rfl⟩, fun h => (by rcases h with h | h | h <;> cases h)⟩
theorem rl_K (r : List Bool) (d : Nat) : Rl (cK (true :: r) d) 0 :=
  ⟨fun h => (by rcases h with h | h <;> cases h), fun h => (by cases h), fun _ _ _ => rfl, fun _ h => absurd h List.not_mem_nil, fun h => (by cases h), fun _ => ⟨r, rfl⟩, fun h => (by rcases h with h | h | h <;> cases h)⟩
theorem rl_C (r : List Bool) (d : Nat) : Rl (cC (true :: r) d) 0 :=
  ⟨fun h => (by rcases h with h | h <;> cases h), fun h => (by cases h), fun _ _ _ => rfl, fun _ h => absurd h List.not_mem_nil, fun h => (by cases h), fun _ => ⟨r, rfl⟩, fun h => (by rcases h with h | h | h <;> cases h)⟩
theorem rl_S (x : Nat) (k : Bool) (st : List Bool) (d : Nat) (h : k = true → ∃ r, st = true :: r) : Rl (cS x k st d) 1 :=
  ⟨fun _ => rfl, fun h => (by cases h), fun h => absurd rfl h, fun _ h => absurd h List.not_mem_nil, fun h => (by cases h), fun h => (by rcases h with h | h | h <;> cases h), fun _ hk => h hk⟩
theorem rl_U (j : Nat) (k : Bool) (st : List Bool) (d : Nat) (h : k = true → ∃ r, st = true :: r) : Rl (cU j k st d) 1 :=
  ⟨fun _ => rfl, fun h => (by cases h), fun _ _ h => absurd rfl h, fun _ h => absurd h List.not_mem_nil, fun h => (by cases h), fun h => (by rcases h with h | h | h <;> cases h), fun _ hk => h hk⟩
theorem rl_X (k : Bool) (st : List Bool) (d : Nat) (h : k = true → ∃ r, st = true :: r) : Rl (cX k st d) 2 :=
  ⟨fun h => (by rcases h with h | h <;> cases h), fun _ => rfl, fun _ h => absurd rfl h, fun _ h => absurd h List.not_mem_nil, fun h => (by cases h), fun h => (by rcases h with h | h | h <;> cases h), fun _ hk => h hk⟩
theorem rl_W (w : List UInt8) (st : List Bool) (d : Nat) (h : ∀ a ∈ w, 97 ≤ a.toNat ∧ a.toNat ≤ 122) : Rl (cW w st d) 0 :=
  ⟨fun h => (by rcases h with h | h <;> cases h), fun h => (by cases h), fun _ _ _ => rfl, h, fun h => (by cases h), fun h => (by rcases h with h | h | h <;> cases h), fun h => (by rcases h with h | h | h <;> cases h)⟩
theorem rl_aft (k : Bool) (st : List Bool) (d : Nat) (h : k = true → ∃ r, st = true :: r) : Rl (aft k st d) 0 := by
  cases k with
  | false => exact rl_E st d
  | true =>
    obtain ⟨r, rfl⟩ := h rfl
    exact rl_C r d
theorem rl_N (m : Nat) (st : List Bool) (d : Nat) (h : 20 ≤ m) : Rl (cN m st d) 0 := rl_plain m 0 st false d (by omega) (by omega) (by omega) (by omega) (by omega) (by omega) (by omega)
/-- What a mark does to the open brackets. -/
def Does (st st' : List Bool) (b : Nat) : Prop :=
  ((b = 91 ∨ b = 123) ∧ ∃ c, st' = c :: st) ∨ ((b = 93 ∨ b = 125) ∧ ∃ c, st = c :: st') ∨ ((b = 44 ∨ b = 58) ∧ st' = st ∧ 0 < st.length)
/-- A step outside of strings: a mark, with what it does, or another byte, which changes nothing. -/
def Did (c c' : Cf) (b : Nat) : Prop := (isM b = true ∧ Rl c' 0 ∧ Does c.st c'.st b ∧ c.d ≤ c'.d ∧ (c'.st.length ≤ c.st.length ∨ 0 < c'.d) ∧ (∃ c1, Js.step c 32 = some c1 ∧ Js.step c1 b = some c') ∧ Js.step c' 10 = some c') ∨ (isM b = false ∧ Rl c' (st 0 b) ∧ c'.st = c.st ∧ c.d ≤ c'.d)
theorem isM_no {b : Nat} (h : ¬ (b = 91 ∨ b = 93 ∨ b = 123 ∨ b = 125 ∨ b = 58 ∨ b = 44)) : isM b = false := by
  cases h2 : isM b with
  | false => rfl
  | true => exact absurd ((isM_iff b).1 h2) h
theorem st_no {b : Nat} (h : b ≠ 34) : st 0 b = 0 := by
  unfold st
  rw [if_pos rfl, if_neg h]
theorem stV_did (st d : _) (b : Nat) (c' : Cf) (h : stV st d b = some c') : (b = 91 ∧ c' = cA (false :: st) (max d (st.length + 1))) ∨ (b = 123 ∧ c' = cO (true :: st) (max d (st.length + 1))) ∨ (isM b = false ∧ Rl c' (Mk.st 0 b) ∧ c'.st = st ∧ d ≤ c'.d) := by
  unfold stV at h
  split at h
  · rename_i hb; subst hb
    cases h
    exact .inr (.inr ⟨by decide, rl_S 0 false st d (fun h => by cases h), rfl, Nat.le_refl _⟩)
  split at h
  · cases h; exact .inl ⟨by assumption, rfl⟩
  split at h
  · cases h; exact .inr (.inl ⟨by assumption, rfl⟩)
  split at h
  · rename_i hb; subst hb
    cases h
    exact .inr (.inr ⟨by decide, rl_W _ st d (by decide), rfl, Nat.le_refl _⟩)
  split at h
  · rename_i hb; subst hb
    cases h
    exact .inr (.inr ⟨by decide, rl_W _ st d (by decide), rfl, Nat.le_refl _⟩)
  split at h
  · rename_i hb; subst hb
    cases h
    exact .inr (.inr ⟨by decide, rl_W _ st d (by decide), rfl, Nat.le_refl _⟩)
  split at h
  · rename_i hb; subst hb
    cases h
    exact .inr (.inr ⟨by decide, rl_N 20 st d (by decide), rfl, Nat.le_refl _⟩)
  split at h
  · rename_i hb; subst hb
    cases h
    exact .inr (.inr ⟨by decide, rl_N 21 st d (by decide), rfl, Nat.le_refl _⟩)
  split at h
  · rename_i hb
    have hb := (isD_iff b).1 hb
    cases h
    exact .inr (.inr ⟨isM_no (by omega), by rw [st_no (by omega)]; exact rl_N 22 st d (by decide), rfl, Nat.le_refl _⟩)
  · cases h
theorem stE_did (st : List Bool) (d b : Nat) (c' : Cf) (h : stE st d b = some c') : (isM b = true ∧ Rl c' 0 ∧ Does st c'.st b ∧ c'.d = d ∧ c'.st.length ≤ st.length ∧ Js.step c' 10 = some c') ∨ (isM b = false ∧ b ≠ 34 ∧ c' = cE st d) := by
  unfold stE at h
  split at h
  · rename_i hb
    have hb := (isB_iff b).1 hb
    cases h
    exact .inr ⟨isM_no (by omega), by omega, rfl⟩
  split at h
  · rename_i hb
    subst hb
    split at h
    · cases h
    · cases h
      exact .inl ⟨by decide, rl_V _ d, .inr (.inr ⟨.inl rfl, rfl, Nat.succ_pos _⟩), rfl, Nat.le_refl _, rfl⟩
    · cases h
      exact .inl ⟨by decide, rl_K _ d, .inr (.inr ⟨.inl rfl, rfl, Nat.succ_pos _⟩), rfl, Nat.le_refl _, rfl⟩
  split at h
  · rename_i hb
    subst hb
    split at h
    · cases h
      exact .inl ⟨by decide, rl_E _ d, .inr (.inl ⟨.inl rfl, _, rfl⟩), rfl, Nat.le_succ _, rfl⟩
    · cases h
  split at h
  · rename_i hb
    subst hb
    split at h
    · cases h
      exact .inl ⟨by decide, rl_E _ d, .inr (.inl ⟨.inr rfl, _, rfl⟩), rfl, Nat.le_succ _, rfl⟩
    · cases h
  · cases h
/-- From a step behind a value to the whole claim. -/
theorem did_E (c c' : Cf) (b : Nat) (h : stE c.st c.d b = some c') (h32 : Js.step c 32 = some (cE c.st c.d)) : Did c c' b := by
  rcases stE_did c.st c.d b c' h with ⟨h1, h2, h3, h4, h5, h6⟩ | ⟨h1, h2, rfl⟩
  · exact .inl ⟨h1, h2, h3, by omega, .inl h5, ⟨_, h32, h⟩, h6⟩
  · exact .inr ⟨h1, by rw [st_no h2]; exact rl_E _ _, rfl, Nat.le_refl _⟩
theorem did_N (c c' : Cf) (b : Nat) (hc : ∀ b, Js.step c b = stN c.m c.st c.d b) (h : stN c.m c.st c.d b = some c') : Did c c' b := by
  have digit : ∀ m2, 20 ≤ m2 → isD b = true → c' = cN m2 c.st c.d → Did c c' b := fun m2 hm2 hb e => by
    have hb := (isD_iff b).1 hb
    subst e
    exact .inr ⟨isM_no (by omega), by rw [st_no (by omega)]; exact rl_N m2 _ _ hm2, rfl, Nat.le_refl _⟩
  have sign : ∀ m2, 20 ≤ m2 → (b = 46 ∨ b = 101 ∨ b = 69 ∨ b = 43 ∨ b = 45 ∨ b = 48) → c' = cN m2 c.st c.d → Did c c' b := fun m2 hm2 hb e => by
    subst e
    exact .inr ⟨isM_no (by omega), by rw [st_no (by omega)]; exact rl_N m2 _ _ hm2, rfl, Nat.le_refl _⟩
  have ends : stE c.st c.d b = some c' → (c.m = 21 ∨ c.m = 22 ∨ c.m = 24 ∨ c.m = 27) → Did c c' b := fun h1 h2 => did_E c c' b h1 (by
    rw [hc]
    rcases h2 with h2 | h2 | h2 | h2 <;> rw [h2] <;> rfl)
  unfold stN at h
  split at h
  · split at h
    · exact sign 21 (by decide) (by omega) (by cases h; rfl)
    split at h
    · exact digit 22 (by decide) (by assumption) (by cases h; rfl)
    · cases h
  split at h
  · split at h
    · exact sign 23 (by decide) (by omega) (by cases h; rfl)
    split at h
    · exact sign 25 (by decide) (by omega) (by cases h; rfl)
    · exact ends h (by omega)
  split at h
  · split at h
    · exact digit 22 (by decide) (by assumption) (by cases h; rfl)
    split at h
    · exact sign 23 (by decide) (by omega) (by cases h; rfl)
    split at h
    · exact sign 25 (by decide) (by omega) (by cases h; rfl)
    · exact ends h (by omega)
  split at h
  · split at h
    · exact digit 24 (by decide) (by assumption) (by cases h; rfl)
    · cases h
  split at h
  · split at h
    · exact digit 24 (by decide) (by assumption) (by cases h; rfl)
    split at h
    · exact sign 25 (by decide) (by omega) (by cases h; rfl)
    · exact ends h (by omega)
  split at h
  · split at h
    · exact sign 26 (by decide) (by omega) (by cases h; rfl)
    split at h
    · exact digit 27 (by decide) (by assumption) (by cases h; rfl)
    · cases h
  split at h
  · split at h
    · exact digit 27 (by decide) (by assumption) (by cases h; rfl)
    · cases h
  split at h
  · split at h
    · exact digit 27 (by decide) (by assumption) (by cases h; rfl)
    · exact ends h (by omega)
  · cases h
/-- A step outside of strings. -/
theorem step_did (c c' : Cf) (b : Nat) (hr : Rl c 0) (h : Js.step c b = some c') : Did c c' b := by
  obtain ⟨m, x, w, k, st0, d⟩ := c
  have h6 : m ≠ 6 := fun e => absurd (hr.str (.inl e)) (by decide)
  have h8 : m ≠ 8 := fun e => absurd (hr.str (.inr e)) (by decide)
  have h7 : m ≠ 7 := fun e => absurd (hr.esc e) (by decide)
  match m, hr, h, h6, h7, h8 with
  | 0, hr, h, _, _, _ =>
    have h2 : (if isB b then some (cV st0 d) else stV st0 d b) = some c' := h
    split at h2
    · rename_i hb
      have hb := (isB_iff b).1 hb
      cases h2
      exact .inr ⟨isM_no (by omega), by rw [st_no (by omega)]; exact rl_V _ _, rfl, Nat.le_refl _⟩
    · rcases stV_did st0 d b c' h2 with ⟨rfl, rfl⟩ | ⟨rfl, rfl⟩ | h3
      · exact .inl ⟨by decide, rl_A _ _, .inl ⟨.inl rfl, _, rfl⟩, Nat.le_max_left _ _, .inr (by show 0 < max d (st0.length + 1); omega), ⟨_, rfl, rfl⟩, rfl⟩
      · exact .inl ⟨by decide, rl_O _ _, .inl ⟨.inr rfl, _, rfl⟩, Nat.le_max_left _ _, .inr (by show 0 < max d (st0.length + 1); omega), ⟨_, rfl, rfl⟩, rfl⟩
      · exact .inr h3
  | 1, hr, h, _, _, _ =>
    obtain ⟨r, hst⟩ := hr.arr rfl
    have hst : st0 = false :: r := hst
    subst hst
    have h2 : (if isB b then some (cA (false :: r) d) else if b = 93 then stE (false :: r) d b else stV (false :: r) d b) = some c' := h
    split at h2
    · rename_i hb
      have hb := (isB_iff b).1 hb
      cases h2
      exact .inr ⟨isM_no (by omega), by rw [st_no (by omega)]; exact rl_A _ _, rfl, Nat.le_refl _⟩
    split at h2
    · rename_i hb
      subst hb
      cases h2
      exact .inl ⟨by decide, rl_E _ _, .inr (.inl ⟨.inl rfl, _, rfl⟩), Nat.le_refl _, .inl (Nat.le_succ _), ⟨_, rfl, rfl⟩, rfl⟩
    · rcases stV_did (false :: r) d b c' h2 with ⟨rfl, rfl⟩ | ⟨rfl, rfl⟩ | h3
      · exact .inl ⟨by decide, rl_A _ _, .inl ⟨.inl rfl, _, rfl⟩, Nat.le_max_left _ _, .inr (by show 0 < max d ((false :: r).length + 1); omega), ⟨_, rfl, rfl⟩, rfl⟩
      · exact .inl ⟨by decide, rl_O _ _, .inl ⟨.inr rfl, _, rfl⟩, Nat.le_max_left _ _, .inr (by show 0 < max d ((false :: r).length + 1); omega), ⟨_, rfl, rfl⟩, rfl⟩
      · exact .inr h3
  | 2, hr, h, _, _, _ =>
    obtain ⟨r, hst⟩ := hr.obj (.inl rfl)
    have hst : st0 = true :: r := hst
    subst hst
    have h2 : (if isB b then some (cO (true :: r) d) else if b = 125 then stE (true :: r) d b else if b = 34 then some (cS 0 true (true :: r) d) else none) = some c' := h
    split at h2
    · rename_i hb
      have hb := (isB_iff b).1 hb
      cases h2
      exact .inr ⟨isM_no (by omega), by rw [st_no (by omega)]; exact rl_O _ _, rfl, Nat.le_refl _⟩
    split at h2
    · rename_i hb
      subst hb
      cases h2
      exact .inl ⟨by decide, rl_E _ _, .inr (.inl ⟨.inr rfl, _, rfl⟩), Nat.le_refl _, .inl (Nat.le_succ _), ⟨_, rfl, rfl⟩, rfl⟩
    split at h2
    · rename_i hb
      subst hb
      cases h2
      exact .inr ⟨by decide, rl_S 0 true _ _ (fun _ => ⟨r, rfl⟩), rfl, Nat.le_refl _⟩
    · cases h2
  | 3, hr, h, _, _, _ =>
    obtain ⟨r, hst⟩ := hr.obj (.inr (.inl rfl))
    have hst : st0 = true :: r := hst
    subst hst
    have h2 : (if isB b then some (cK (true :: r) d) else if b = 34 then some (cS 0 true (true :: r) d) else none) = some c' := h
    split at h2
    · rename_i hb
      have hb := (isB_iff b).1 hb
      cases h2
      exact .inr ⟨isM_no (by omega), by rw [st_no (by omega)]; exact rl_K _ _, rfl, Nat.le_refl _⟩
    split at h2
    · rename_i hb
      subst hb
      cases h2
      exact .inr ⟨by decide, rl_S 0 true _ _ (fun _ => ⟨r, rfl⟩), rfl, Nat.le_refl _⟩
    · cases h2
  | 4, hr, h, _, _, _ =>
    obtain ⟨r, hst⟩ := hr.obj (.inr (.inr rfl))
    have hst : st0 = true :: r := hst
    subst hst
    have h2 : (if isB b then some (cC (true :: r) d) else if b = 58 then some (cV (true :: r) d) else none) = some c' := h
    split at h2
    · rename_i hb
      have hb := (isB_iff b).1 hb
      cases h2
      exact .inr ⟨isM_no (by omega), by rw [st_no (by omega)]; exact rl_C _ _, rfl, Nat.le_refl _⟩
    split at h2
    · rename_i hb
      subst hb
      cases h2
      exact .inl ⟨by decide, rl_V _ _, .inr (.inr ⟨.inr rfl, rfl, Nat.succ_pos _⟩), Nat.le_refl _, .inl (Nat.le_refl _), ⟨_, rfl, rfl⟩, rfl⟩
    · cases h2
  | 5, hr, h, _, _, _ => exact did_E _ c' b h rfl
  | 9, hr, h, _, _, _ =>
    cases w with
    | nil =>
      have h2 : (none : Option Cf) = some c' := h
      cases h2
    | cons a r =>
      have h2 : (if b = a.toNat then (if r = [] then some (cE st0 d) else some (cW r st0 d)) else none) = some c' := h
      have ha := hr.wd a List.mem_cons_self
      split at h2
      · rename_i hb
        split at h2
        · cases h2
          exact .inr ⟨isM_no (by omega), by rw [st_no (by omega)]; exact rl_E _ _, rfl, Nat.le_refl _⟩
        · cases h2
          exact .inr ⟨isM_no (by omega), by rw [st_no (by omega)]; exact rl_W r _ _ (fun y hy => hr.wd y (List.mem_cons_of_mem _ hy)), rfl, Nat.le_refl _⟩
      · cases h2
  | m + 10, hr, h, _, _, _ => exact did_N _ c' b (fun _ => rfl) h
/-- A step within a string. -/
theorem step_in (c c' : Cf) (q b : Nat) (hq : q ≠ 0) (hr : Rl c q) (h : Js.step c b = some c') : Rl c' (st q b) ∧ c'.st = c.st ∧ c.d ≤ c'.d := by
  obtain ⟨m, x, w, k, st0, d⟩ := c
  have hkey := hr.key
  by_cases h6 : m = 6
  · subst h6
    obtain rfl : q = 1 := hr.str (.inl rfl)
    have hk : k = true → ∃ r, st0 = true :: r := hkey (.inl rfl)
    have h2 : stS x k st0 d b = some c' := h
    unfold stS at h2
    split at h2
    · rename_i h3
      obtain ⟨rfl, rfl⟩ := h3
      cases h2
      exact ⟨rl_aft k st0 d hk, by cases k <;> rfl, by cases k <;> exact Nat.le_refl _⟩
    split at h2
    · cases h2
    split at h2
    · rename_i h3
      obtain ⟨rfl, rfl⟩ := h3
      cases h2
      exact ⟨rl_X k st0 d hk, rfl, Nat.le_refl _⟩
    split at h2
    · cases h2
    · rename_i n1 n2 n3 n4
      cases h2
      have hb : b ≠ 34 ∧ b ≠ 92 := by
        by_cases hx : x = 0
        · exact ⟨fun e => n1 ⟨hx, e⟩, fun e => n3 ⟨hx, e⟩⟩
        · have : ¬ b < 128 := fun hb => hx (st_letter x b hb n4).1
          omega
      refine ⟨?_, rfl, Nat.le_refl _⟩
      have e : st 1 b = 1 := by
        unfold st
        rw [if_neg (by decide), if_pos rfl, if_neg hb.1, if_neg hb.2]
      rw [e]
      exact rl_S _ k st0 d hk
  by_cases h8 : m = 8
  · subst h8
    obtain rfl : q = 1 := hr.str (.inr rfl)
    have hk : k = true → ∃ r, st0 = true :: r := hkey (.inr (.inr rfl))
    have h2 : (if isH b then (if x = 3 then some (cS 0 k st0 d) else some (cU (x + 1) k st0 d)) else none) = some c' := h
    split at h2
    · rename_i hs
      have hb : b ≠ 34 ∧ b ≠ 92 := by
        unfold isH isD at hs
        simp only [Bool.or_eq_true, Bool.and_eq_true, decide_eq_true_eq] at hs
        omega
      have e : st 1 b = 1 := by
        unfold st
        rw [if_neg (by decide), if_pos rfl, if_neg hb.1, if_neg hb.2]
      rw [e]
      split at h2
      · cases h2; exact ⟨rl_S _ k st0 d hk, rfl, Nat.le_refl _⟩
      · cases h2; exact ⟨rl_U _ k st0 d hk, rfl, Nat.le_refl _⟩
    · cases h2
  by_cases h7 : m = 7
  · subst h7
    obtain rfl : q = 2 := hr.esc rfl
    have hk : k = true → ∃ r, st0 = true :: r := hkey (.inr (.inl rfl))
    have e : st 2 b = 1 := rfl
    rw [e]
    have h2 : (if isS b then some (cS 0 k st0 d) else if b = 117 then some (cU 0 k st0 d) else none) = some c' := h
    split at h2
    · cases h2; exact ⟨rl_S _ k st0 d hk, rfl, Nat.le_refl _⟩
    split at h2
    · cases h2; exact ⟨rl_U _ k st0 d hk, rfl, Nat.le_refl _⟩
    · cases h2
  · exact absurd (hr.off h6 h7 h8) hq
/-- Any step. -/
theorem step_any (c c' : Cf) (q b : Nat) (hr : Rl c q) (h : Js.step c b = some c') :
    (q = 0 ∧ isM b = true ∧ Rl c' 0 ∧ Does c.st c'.st b ∧ c.d ≤ c'.d ∧ (c'.st.length ≤ c.st.length ∨ 0 < c'.d) ∧ (∃ c1, Js.step c 32 = some c1 ∧ Js.step c1 b = some c') ∧ Js.step c' 10 = some c')
    ∨ (¬ (q = 0 ∧ isM b = true) ∧ Rl c' (st q b) ∧ c'.st = c.st ∧ c.d ≤ c'.d) := by
  by_cases hq : q = 0
  · subst hq
    rcases step_did c c' b hr h with ⟨h1, h2⟩ | ⟨h1, h2⟩
    · exact .inl ⟨rfl, h1, h2⟩
    · exact .inr ⟨fun h3 => by rw [h1] at h3; exact absurd h3.2 (by decide), h2⟩
  · exact .inr ⟨fun h3 => hq h3.1, step_in c c' q b hq hr h⟩
/-- Whether bits are balanced, from an excess on. -/
def bal : Int → List Bool → Bool
  | e, [] => e == 0
  | e, o :: l => if e + (if o then 1 else -1) < 0 then false else bal (e + (if o then 1 else -1)) l
theorem bal_two (st0 st1 : List Bool) (b : Nat) (hd : Does st0 st1 b) (l : List Bool) : bal (2 * st0.length) (two b ++ l) = bal (2 * st1.length) l := by
  rcases hd with ⟨hb, c, rfl⟩ | ⟨hb, c, rfl⟩ | ⟨hb, rfl, h0⟩
  · have e : two b = [true, true] := by rcases hb with rfl | rfl <;> rfl
    rw [e, List.length_cons]
    show (if (2 * (st0.length : Int)) + 1 < 0 then false else if (2 * (st0.length : Int)) + 1 + 1 < 0 then false else bal ((2 * (st0.length : Int)) + 1 + 1) l) = _
    rw [if_neg (by omega), if_neg (by omega)]
    congr 1
  · have e : two b = [false, false] := by rcases hb with rfl | rfl <;> rfl
    rw [e, List.length_cons]
    show (if (2 * ((st1.length + 1 : Nat) : Int)) + -1 < 0 then false else if (2 * ((st1.length + 1 : Nat) : Int)) + -1 + -1 < 0 then false else bal ((2 * ((st1.length + 1 : Nat) : Int)) + -1 + -1) l) = _
    rw [if_neg (by omega), if_neg (by omega)]
    congr 1
    omega
  · have e : two b = [false, true] := by rcases hb with rfl | rfl <;> rfl
    rw [e]
    show (if (2 * (st1.length : Int)) + -1 < 0 then false else if (2 * (st1.length : Int)) + -1 + 1 < 0 then false else bal ((2 * (st1.length : Int)) + -1 + 1) l) = _
    rw [if_neg (by omega), if_neg (by omega)]
    congr 1
    omega
/-- Of a JSON text: it ends outside of strings; its bits are balanced; with blanks about its marks it is one, of the same depth. -/
theorem json_all (l : List UInt8) : ∀ (c : Cf) (q D : Nat), Rl c q → (out c l).1 = some D → run q l = 0 ∧ bal (2 * c.st.length) (bs q l) = true ∧ (out c (sp q l)).1 = some D := by
  induction l with
  | nil =>
    intro c q D hr h
    have ha : acc c = true := by
      cases h2 : acc c with
      | true => rfl
      | false =>
        have h3 : (if acc c then some c.d else none : Option Nat) = some D := h
        rw [h2] at h3
        cases h3
    obtain ⟨hm, hst⟩ := (acc_iff c).1 ha
    refine ⟨hr.off (by omega) (by omega) (by omega), ?_, h⟩
    rw [hst]
    rfl
  | cons b l ih =>
    intro c q D hr h
    cases hs : Js.step c b.toNat with
    | none =>
      rw [out_none c b l hs] at h
      cases h
    | some c' =>
      rw [out_some c c' b l hs] at h
      rcases step_any c c' q b.toNat hr hs with ⟨rfl, hm, hr2, hd, _, _, ⟨c1, h1, h2⟩, h3⟩ | ⟨hm, hr2, hst, _⟩
      · obtain ⟨i1, i2, i3⟩ := ih c' 0 D hr2 h
        refine ⟨by rw [run_mark b l hm]; exact i1, by rw [bs_mark b l hm, bal_two _ _ _ hd]; exact i2, ?_⟩
        rw [sp_mark b l hm, out_some c c1 32 _ h1, out_some c1 c' b _ h2, out_some c' c' 10 _ h3]
        exact i3
      · obtain ⟨i1, i2, i3⟩ := ih c' _ D hr2 h
        refine ⟨i1, by rw [bs_other q b l hm, ← hst]; exact i2, ?_⟩
        rw [sp_other q b l hm, out_some c c' b _ hs]
        exact i3
theorem rl_c0 : Rl c0 0 := rl_V [] 0
/-- The laws' mathematics. -/
theorem text_bal (l : List UInt8) (D : Nat) (h : (out c0 l).1 = some D) : run 0 l = 0 ∧ bal 0 (bs 0 l) = true ∧ (out c0 (sp 0 l)).1 = some D := json_all l c0 0 D rl_c0 h
end Mk
end Go.Proofs.YtoipliflphbeiaaGreatDoor
namespace Go.Proofs.YtoipliflphbeiaaGreatDoor
namespace Mk
open Js
/-- Two texts in an array: their marks and bits. -/
theorem array_pl (s t : List UInt8) (D E : Nat) (hs : (out c0 s).1 = some D) (ht : (out c0 t).1 = some E) : pl 0 0 (91 :: (s ++ 44 :: (t ++ [93]))) = 0 :: ((pl 0 0 s).map (· + 1) ++ (1 + s.length) :: ((pl 0 0 t).map (· + (2 + s.length)) ++ [2 + s.length + t.length])) := by
  have h1 := (text_bal s D hs).1
  have h2 := (text_bal t E ht).1
  rw [pl_mark 0 91 _ (by decide), pl_app, h1, pl_mark _ 44 _ (by decide), pl_app, h2, pl_mark _ 93 _ (by decide)]
  have e1 := pl_shift s 0 0 1
  have e2 := pl_shift t 0 0 (2 + s.length)
  rw [Nat.zero_add] at e1 e2
  rw [show 0 + 1 = 1 from rfl, e1, show 1 + s.length + 1 = 2 + s.length by omega, e2, show 2 + s.length + t.length = 2 + s.length + t.length from rfl]
  rfl
theorem array_bs (s t : List UInt8) (D E : Nat) (hs : (out c0 s).1 = some D) (ht : (out c0 t).1 = some E) : bs 0 (91 :: (s ++ 44 :: (t ++ [93]))) = [true, true] ++ (bs 0 s ++ ([false, true] ++ (bs 0 t ++ [false, false]))) := by
  have h1 := (text_bal s D hs).1
  have h2 := (text_bal t E ht).1
  rw [bs_mark 91 _ (by decide), bs_app, h1, bs_mark 44 _ (by decide), bs_app, h2, bs_mark 93 _ (by decide)]
  rfl
/-- How many bits are 1. -/
def on (l : List Bool) : Nat := (l.filter id).length
theorem on_app (a b : List Bool) : on (a ++ b) = on a + on b := by
  unfold on
  rw [List.filter_append, List.length_append]
theorem array_on (s t : List UInt8) (D E : Nat) (hs : (out c0 s).1 = some D) (ht : (out c0 t).1 = some E) : on (bs 0 (91 :: (s ++ 44 :: (t ++ [93])))) = on (bs 0 s) + on (bs 0 t) + 3 := by
  rw [array_bs s t D E hs ht, on_app, on_app, on_app, on_app]
  show 2 + (on (bs 0 s) + (1 + (on (bs 0 t) + 0))) = _
  omega
/-- So many numbers of so many digits, each with a comma behind. -/
def nums (d : Nat) : Nat → List UInt8
  | 0 => []
  | k + 1 => List.replicate d 55 ++ 44 :: nums d k
theorem nums_len (d k : Nat) : (nums d k).length = k * (d + 1) := by
  induction k with
  | zero => rw [Nat.zero_mul]; rfl
  | succ k ih =>
    show (List.replicate d 55 ++ 44 :: nums d k).length = _
    rw [List.length_append, List.length_replicate, List.length_cons, ih, Nat.succ_mul]
    omega
theorem nums_last (d k : Nat) : nums d (k + 1) = nums d k ++ (List.replicate d 55 ++ [44]) := by
  induction k with
  | zero => rfl
  | succ k ih =>
    show List.replicate d 55 ++ 44 :: nums d (k + 1) = (List.replicate d 55 ++ 44 :: nums d k) ++ _
    rw [ih, List.append_assoc]
    rfl
/-- The law's text. -/
def long (d k : Nat) : List UInt8 := 91 :: (nums d k ++ (List.replicate d 55 ++ [93]))
theorem pl_digits (d : Nat) : ∀ (i : Nat) (r : List UInt8), pl 0 i (List.replicate d 55 ++ r) = pl 0 (i + d) r := by
  induction d with
  | zero => intro i r; rfl
  | succ d ih =>
    intro i r
    rw [List.replicate_succ, List.cons_append, pl_other 0 i 55 _ (by decide)]
    show pl 0 (i + 1) _ = _
    rw [ih, show i + 1 + d = i + (d + 1) by omega]
theorem pl_nums (d k : Nat) : ∀ (i : Nat) (r : List UInt8), pl 0 i (nums d k ++ r) = (List.range k).map (fun j => i + j * (d + 1) + d) ++ pl 0 (i + k * (d + 1)) r := by
  induction k with
  | zero =>
    intro i r
    rw [Nat.zero_mul]
    rfl
  | succ k ih =>
    intro i r
    show pl 0 i ((List.replicate d 55 ++ 44 :: nums d k) ++ r) = _
    rw [List.append_assoc, pl_digits, List.cons_append, pl_mark _ 44 _ (by decide), ih, List.range_succ_eq_map, List.map_cons, List.map_map, Nat.zero_mul, List.cons_append, Nat.add_zero, show i + d + 1 + k * (d + 1) = i + (k + 1) * (d + 1) by rw [Nat.succ_mul]; omega]
    congr 1
    congr 1
    apply List.map_congr_left
    intro j _
    show i + d + 1 + j * (d + 1) + d = i + (j + 1) * (d + 1) + d
    rw [Nat.succ_mul]
    omega
theorem long_pl (d k : Nat) : pl 0 0 (long d k) = 0 :: (List.range (k + 1)).map (fun j => (j + 1) * (d + 1)) := by
  unfold long
  rw [pl_mark 0 91 _ (by decide), pl_nums, pl_digits, pl_mark _ 93 _ (by decide), List.range_succ, List.map_append]
  have e : (List.range k).map (fun j => 0 + 1 + j * (d + 1) + d) = (List.range k).map (fun j => (j + 1) * (d + 1)) := by
    apply List.map_congr_left
    intro j _
    rw [Nat.succ_mul]
    omega
  rw [e]
  congr 1
  congr 1
  show [0 + 1 + k * (d + 1) + d] = [(k + 1) * (d + 1)]
  congr 1
  rw [Nat.succ_mul]
  omega
theorem bs_digits (d : Nat) (r : List UInt8) : bs 0 (List.replicate d 55 ++ r) = bs 0 r := by
  induction d with
  | zero => rfl
  | succ d ih =>
    rw [List.replicate_succ, List.cons_append, bs_other 0 55 _ (by decide)]
    exact ih
theorem on_nums (d k : Nat) (r : List UInt8) : on (bs 0 (nums d k ++ r)) = k + on (bs 0 r) := by
  induction k with
  | zero => exact (Nat.zero_add _).symm
  | succ k ih =>
    show on (bs 0 ((List.replicate d 55 ++ 44 :: nums d k) ++ r)) = _
    rw [List.append_assoc, bs_digits, List.cons_append, bs_mark 44 _ (by decide), on_app, ih]
    show 1 + (k + on (bs 0 r)) = _
    omega
theorem long_on (d k : Nat) : on (bs 0 (long d k)) = k + 2 := by
  unfold long
  rw [bs_mark 91 _ (by decide), on_app, on_nums, bs_digits, bs_mark 93 _ (by decide)]
  show 2 + (k + 0) = _
  omega
theorem out_digits (d : Nat) (st : List Bool) (D : Nat) (r : List UInt8) : (out (cN 22 st D) (List.replicate d 55 ++ r)).1 = (out (cN 22 st D) r).1 := by
  induction d with
  | zero => rfl
  | succ d ih =>
    rw [List.replicate_succ, List.cons_append, out_some _ (cN 22 st D) 55 _ rfl]
    exact ih
theorem out_nums (d k : Nat) (D : Nat) (r : List UInt8) : (out (cV [false] D) (nums (d + 1) k ++ (List.replicate (d + 1) 55 ++ r))).1 = (out (cN 22 [false] D) r).1 := by
  induction k with
  | zero =>
    show (out (cV [false] D) (List.replicate (d + 1) 55 ++ r)).1 = _
    rw [List.replicate_succ, List.cons_append, out_some _ (cN 22 [false] D) 55 _ rfl]
    exact out_digits d _ _ _
  | succ k ih =>
    show (out (cV [false] D) ((List.replicate (d + 1) 55 ++ 44 :: nums (d + 1) k) ++ (List.replicate (d + 1) 55 ++ r))).1 = _
    rw [List.append_assoc, List.replicate_succ, List.cons_append, out_some _ (cN 22 [false] D) 55 _ rfl]
    show (out (cN 22 [false] D) (List.replicate d 55 ++ (44 :: nums (d + 1) k ++ _))).1 = _
    rw [out_digits, List.cons_append, out_some _ (cV [false] D) 44 _ rfl]
    exact ih
/-- It is a JSON text that nests once. -/
theorem long_out (d k : Nat) : (out c0 (long (d + 1) k)).1 = some 1 := by
  unfold long
  rw [out_some _ (cA [false] 1) 91 _ rfl]
  show (out (cA [false] 1) _).1 = _
  have h : ∀ r : List UInt8, out (cA [false] 1) (55 :: r) = out (cV [false] 1) (55 :: r) := fun r => by
    rw [out_some _ (cN 22 [false] 1) 55 _ rfl, out_some _ (cN 22 [false] 1) 55 _ rfl]
  have e : (out (cA [false] 1) (nums (d + 1) k ++ (List.replicate (d + 1) 55 ++ [93]))).1 = (out (cV [false] 1) (nums (d + 1) k ++ (List.replicate (d + 1) 55 ++ [93]))).1 := by
    cases k with
    | zero =>
      show (out (cA [false] 1) (List.replicate (d + 1) 55 ++ [93])).1 = (out (cV [false] 1) (List.replicate (d + 1) 55 ++ [93])).1
      rw [List.replicate_succ, List.cons_append, h]
    | succ k =>
      show (out (cA [false] 1) ((List.replicate (d + 1) 55 ++ 44 :: nums (d + 1) k) ++ (List.replicate (d + 1) 55 ++ [93]))).1 = (out (cV [false] 1) ((List.replicate (d + 1) 55 ++ 44 :: nums (d + 1) k) ++ (List.replicate (d + 1) 55 ++ [93]))).1
      rw [List.replicate_succ, List.cons_append, List.cons_append, h]
  rw [e, out_nums]
  rfl
end Mk
end Go.Proofs.YtoipliflphbeiaaGreatDoor
namespace Go.Proofs.YtoipliflphbeiaaGreatDoor
namespace Mk
/-- An excess of so many bits. -/
def ex (l : List Bool) : Nat → Int
  | 0 => 0
  | j + 1 => ex l j + (if l.getD j false then 1 else -1)
theorem bal_drop (l : List Bool) : ∀ (k j : Nat), l.length = j + k → ((∃ t, j < t ∧ t ≤ l.length ∧ ex l t < 0) → bal (ex l j) (l.drop j) = false) ∧ ((∀ t, j < t → t ≤ l.length → 0 ≤ ex l t) → bal (ex l j) (l.drop j) = (ex l l.length == 0)) := by
  intro k
  induction k with
  | zero =>
    intro j hj
    refine ⟨fun ⟨t, h1, h2, _⟩ => by omega, fun _ => ?_⟩
    rw [List.drop_of_length_le (by omega), show l.length = j by omega]
    rfl
  | succ k ih =>
    intro j hj
    have hlt : j < l.length := by omega
    have e : ex l j + (if l[j] then 1 else -1) = ex l (j + 1) := by
      show _ = ex l j + (if l.getD j false then 1 else -1)
      rw [List.getD_eq_getElem?_getD, List.getElem?_eq_getElem hlt]
      rfl
    have e2 : bal (ex l j) (l.drop j) = (if ex l (j + 1) < 0 then false else bal (ex l (j + 1)) (l.drop (j + 1))) := by
      rw [List.drop_eq_getElem_cons hlt]
      show (if ex l j + (if l[j] then 1 else -1) < 0 then false else bal (ex l j + (if l[j] then 1 else -1)) (l.drop (j + 1))) = _
      rw [e]
    obtain ⟨i1, i2⟩ := ih (j + 1) (by omega)
    rw [e2]
    refine ⟨fun ⟨t, h1, h2, h3⟩ => ?_, fun h => ?_⟩
    · by_cases h0 : ex l (j + 1) < 0
      · rw [if_pos h0]
      · rw [if_neg h0]
        refine i1 ⟨t, ?_, h2, h3⟩
        rcases Nat.lt_or_ge (j + 1) t with h4 | h4
        · exact h4
        · exfalso
          rw [show t = j + 1 by omega] at h3
          exact h0 h3
    · have h0 := h (j + 1) (by omega) (by omega)
      rw [if_neg (by omega)]
      exact i2 fun t h1 h2 => h t (by omega) h2
theorem bal_no (l : List Bool) (t : Nat) (h1 : 0 < t) (h2 : t ≤ l.length) (h3 : ex l t < 0) : bal 0 l = false :=
  (bal_drop l l.length 0 (by omega)).1 ⟨t, h1, h2, h3⟩
theorem bal_end (l : List Bool) (h : ∀ t, 0 < t → t ≤ l.length → 0 ≤ ex l t) : bal 0 l = (ex l l.length == 0) :=
  (bal_drop l l.length 0 (by omega)).2 h
end Mk
end Go.Proofs.YtoipliflphbeiaaGreatDoor
namespace Go.Proofs.YtoipliflphbeiaaGreatDoor
namespace Js
/-- What stands in an array (false) or an object (true): an item wanted; the bracket just opened; the bracket that closes it. -/
def cI (b : Bool) (st : List Bool) (d : Nat) : Cf := if b then cK st d else cV st d
def cB (b : Bool) (st : List Bool) (d : Nat) : Cf := if b then cO st d else cA st d
def gE (b : Bool) : Nat := if b then 125 else 93
def gO (b : Bool) : Nat := if b then 123 else 91
theorem sp_B (b : Bool) (st : List Bool) (d : Nat) : Sp (cB b st d) := by
  cases b
  · exact sp_A st d
  · exact sp_O st d
theorem sp_I (b : Bool) (st : List Bool) (d : Nat) : Sp (cI b st d) := by
  cases b
  · exact sp_V st d
  · exact sp_K st d
theorem T_B_end (l : List UInt8) (b : Bool) (st : List Bool) (d i : Nat) (hi : i < l.length) (h : (l[i]).toNat = gE b) : T l (cB b (b :: st) d) i = T l (cE st d) (i + 1) := by
  refine T_next l _ _ i hi ?_
  rw [h]
  cases b <;> rfl
theorem T_B_item (l : List UInt8) (b : Bool) (st : List Bool) (d i : Nat) (h : ∀ hi : i < l.length, isB (l[i]).toNat = false ∧ (l[i]).toNat ≠ gE b) : T l (cB b st d) i = T l (cI b st d) i := by
  cases b
  · exact T_first l st d i h
  · exact T_member l st d i h
theorem T_E_end (l : List UInt8) (b : Bool) (st : List Bool) (d i : Nat) (hi : i < l.length) (h : (l[i]).toNat = gE b) : T l (cE (b :: st) d) i = T l (cE st d) (i + 1) := by
  refine T_next l _ _ i hi ?_
  rw [h]
  cases b <;> rfl
theorem T_E_next (l : List UInt8) (b : Bool) (st : List Bool) (d i : Nat) (hi : i < l.length) (h : (l[i]).toNat = 44) : T l (cE (b :: st) d) i = T l (cI b (b :: st) d) (i + 1) := by
  refine T_next l _ _ i hi ?_
  rw [h]
  cases b <;> rfl
theorem T_E_no (l : List UInt8) (b : Bool) (st : List Bool) (d i : Nat) (hl : i ≤ l.length) (h : ∀ hi : i < l.length, isB (l[i]).toNat = false ∧ (l[i]).toNat ≠ gE b ∧ (l[i]).toNat ≠ 44) : T l (cE (b :: st) d) i = (none, i) := by
  by_cases hi : i < l.length
  · obtain ⟨h1, h2, h3⟩ := h hi
    refine T_dead l _ i hi (step_E_none _ _ _ h1 h3 (fun r e => ?_) (fun r e => ?_))
    · injection e with e1 e2
      subst e1
      exact h2
    · injection e with e1 e2
      subst e1
      exact h2
  · exact T_live l _ i (by omega) rfl
theorem T_K_str (l : List UInt8) (st : List Bool) (d i : Nat) (hi : i < l.length) (h : (l[i]).toNat = 34) : T l (cK st d) i = T l (cS 0 true st d) (i + 1) := by
  refine T_next l _ _ i hi ?_
  rw [h]
  rfl
theorem T_K_no (l : List UInt8) (st : List Bool) (d i : Nat) (hl : i ≤ l.length) (h : ∀ hi : i < l.length, isB (l[i]).toNat = false ∧ (l[i]).toNat ≠ 34) : T l (cK st d) i = (none, i) := by
  by_cases hi : i < l.length
  · obtain ⟨h1, h2⟩ := h hi
    refine T_dead l _ i hi ?_
    rw [step_K st d _ h1, if_neg h2]
  · exact T_live l _ i (by omega) rfl
theorem T_C_colon (l : List UInt8) (st : List Bool) (d i : Nat) (hi : i < l.length) (h : (l[i]).toNat = 58) : T l (cC st d) i = T l (cV st d) (i + 1) := by
  refine T_next l _ _ i hi ?_
  rw [h]
  rfl
theorem T_C_no (l : List UInt8) (st : List Bool) (d i : Nat) (hl : i ≤ l.length) (h : ∀ hi : i < l.length, isB (l[i]).toNat = false ∧ (l[i]).toNat ≠ 58) : T l (cC st d) i = (none, i) := by
  by_cases hi : i < l.length
  · obtain ⟨h1, h2⟩ := h hi
    refine T_dead l _ i hi ?_
    rw [step_C st d _ h1, if_neg h2]
  · exact T_live l _ i (by omega) rfl
theorem T_V_open (l : List UInt8) (b : Bool) (st : List Bool) (d i : Nat) (hi : i < l.length) (h : (l[i]).toNat = gO b) : T l (cV st d) i = T l (cB b (b :: st) (max d (st.length + 1))) (i + 1) := by
  refine T_next l _ _ i hi ?_
  rw [h]
  cases b <;> rfl
theorem T_V_str (l : List UInt8) (st : List Bool) (d i : Nat) (hi : i < l.length) (h : (l[i]).toNat = 34) : T l (cV st d) i = T l (cS 0 false st d) (i + 1) := by
  refine T_next l _ _ i hi ?_
  rw [h]
  rfl
/-- The three words. -/
def isW (w : List UInt8) : Prop := w = [110, 117, 108, 108] ∨ w = [116, 114, 117, 101] ∨ w = [102, 97, 108, 115, 101]
theorem T_V_word (l w : List UInt8) (st : List Bool) (d i : Nat) (hw : isW w) (hi : i < l.length) (h : (l[i]).toNat = (w.getD 0 0).toNat) : T l (cV st d) i = T l (cW (w.drop 1) st d) (i + 1) := by
  refine T_next l _ _ i hi ?_
  rw [h]
  rcases hw with rfl | rfl | rfl <;> rfl
theorem T_W_some (l w : List UInt8) (st : List Bool) (d i j : Nat) (hj : j + 1 < w.length) (h : ∀ k, k < j + 1 → ∃ h : i + k < l.length, (l[i + k]).toNat = (w.getD k 0).toNat) : T l (cW (w.drop 1) st d) (i + 1) = T l (cW (w.drop (j + 1)) st d) (i + (j + 1)) := by
  induction j with
  | zero => rfl
  | succ j ih =>
    obtain ⟨h1, h2⟩ := h (j + 1) (by omega)
    rw [ih (by omega) (fun k hk => h k (by omega)), T_word l w st d (i + (j + 1)) (j + 1) hj h1 h2]
    rfl
theorem T_W_all (l w : List UInt8) (st : List Bool) (d i : Nat) (hw : isW w) (h : ∀ k, k < w.length → ∃ h : i + k < l.length, (l[i + k]).toNat = (w.getD k 0).toNat) : T l (cV st d) i = T l (cE st d) (i + w.length) := by
  have hl : 3 ≤ w.length := by
    rcases hw with rfl | rfl | rfl <;> decide
  obtain ⟨h1, h2⟩ := h 0 (by omega)
  obtain ⟨n, hn⟩ : ∃ n, w.length = n + 2 := ⟨w.length - 2, by omega⟩
  obtain ⟨h3, h4⟩ := h (n + 1) (by omega)
  rw [T_V_word l w st d i hw h1 h2, T_W_some l w st d i n (by omega) (fun k hk => h k (by omega)), T_word_last l w st d (i + (n + 1)) (n + 1) (by omega) h3 h4, hn]
  rfl
theorem nb_word {l w : List UInt8} {i : Nat} (hw : isW w) (h : ∀ k, k < w.length → ∃ h : i + k < l.length, (l[i + k]).toNat = (w.getD k 0).toNat) : Nb l (i + w.length) := by
  obtain ⟨n, hn⟩ : ∃ n, w.length = n + 1 := ⟨w.length - 1, by rcases hw with rfl | rfl | rfl <;> rfl⟩
  obtain ⟨h1, h2⟩ := h n (by omega)
  rw [hn]
  refine nb_byte (k := i + n) h1 ?_
  rw [h2]
  rcases hw with rfl | rfl | rfl <;> (injection hn with hn; subst hn; rfl)
theorem nb_close {l : List UInt8} {b : Bool} {j : Nat} (hj : j < l.length) (h : (l[j]).toNat = gE b) : Nb l (j + 1) := nb_byte hj (by rw [h]; cases b <;> rfl)
theorem T_W_no (l w : List UInt8) (st : List Bool) (d i j : Nat) (hw : isW w) (hj : j < w.length) (hl : i + j ≤ l.length) (h0 : 0 < j) (h : ∀ k, k < j → ∃ h : i + k < l.length, (l[i + k]).toNat = (w.getD k 0).toNat) (hn : ∀ h : i + j < l.length, (l[i + j]).toNat ≠ (w.getD j 0).toNat) : T l (cV st d) i = (none, i + j) := by
  obtain ⟨h1, h2⟩ := h 0 h0
  obtain ⟨n, rfl⟩ : ∃ n, j = n + 1 := ⟨j - 1, by omega⟩
  rw [T_V_word l w st d i hw h1 h2, T_W_some l w st d i n hj h]
  exact T_word_no l w st d (i + (n + 1)) (n + 1) hj hn hl
end Js
end Go.Proofs.YtoipliflphbeiaaGreatDoor
namespace Go.Proofs.YtoipliflphbeiaaGreatDoor
namespace Js
/-- The machine against UTF-8's state. -/
structure Rel (c : Cf) (q : Nat) : Prop where
  str : c.m = 6 → c.x = q
  off : c.m ≠ 6 → q = 0
  wd : ∀ a ∈ c.w, a.toNat < 128
theorem rel_off (c : Cf) (h6 : c.m ≠ 6) (hw : ∀ a ∈ c.w, a.toNat < 128) : Rel c 0 := ⟨fun h => absurd h h6, fun _ => rfl, hw⟩
theorem rel_str (k : Bool) (st : List Bool) (d q : Nat) : Rel (cS q k st d) q := ⟨fun _ => rfl, fun h => absurd rfl h, fun _ ha => absurd ha List.not_mem_nil⟩
theorem rel_none (c : Cf) (h6 : c.m ≠ 6) (hw : c.w = []) : Rel c 0 := rel_off c h6 (by rw [hw]; exact fun a ha => absurd ha List.not_mem_nil)
theorem isB_128 {b : Nat} (h : isB b = true) : b < 128 := (isB_bt b h).2
theorem isD_128 {b : Nat} (h : isD b = true) : b < 128 := (isD_bt b h).2
theorem stV_rel (st : List Bool) (d b : Nat) (c' : Cf) (h : stV st d b = some c') : b < 128 ∧ Rel c' 0 := by
  unfold stV at h
  split at h
  · cases h; exact ⟨by omega, rel_str _ _ _ _⟩
  split at h
  · cases h; exact ⟨by omega, rel_none _ (by decide : (1 : Nat) ≠ 6) rfl⟩
  split at h
  · cases h; exact ⟨by omega, rel_none _ (by decide : (2 : Nat) ≠ 6) rfl⟩
  split at h
  · cases h; exact ⟨by omega, rel_off _ (by decide : (9 : Nat) ≠ 6) (by show ∀ a ∈ ([117, 108, 108] : List UInt8), _; decide)⟩
  split at h
  · cases h; exact ⟨by omega, rel_off _ (by decide : (9 : Nat) ≠ 6) (by show ∀ a ∈ ([114, 117, 101] : List UInt8), _; decide)⟩
  split at h
  · cases h; exact ⟨by omega, rel_off _ (by decide : (9 : Nat) ≠ 6) (by show ∀ a ∈ ([97, 108, 115, 101] : List UInt8), _; decide)⟩
  split at h
  · cases h; exact ⟨by omega, rel_none _ (by decide : (20 : Nat) ≠ 6) rfl⟩
  split at h
  · cases h; exact ⟨by omega, rel_none _ (by decide : (21 : Nat) ≠ 6) rfl⟩
  split at h
  · cases h; exact ⟨isD_128 (by assumption), rel_none _ (by decide : (22 : Nat) ≠ 6) rfl⟩
  · cases h
theorem stE_rel (st : List Bool) (d b : Nat) (c' : Cf) (h : stE st d b = some c') : b < 128 ∧ Rel c' 0 := by
  unfold stE at h
  split at h
  · cases h; exact ⟨isB_128 (by assumption), rel_none _ (by decide : (5 : Nat) ≠ 6) rfl⟩
  split at h
  · refine ⟨by omega, ?_⟩
    split at h
    · cases h
    · cases h; exact rel_none _ (by decide : (0 : Nat) ≠ 6) rfl
    · cases h; exact rel_none _ (by decide : (3 : Nat) ≠ 6) rfl
  split at h
  · refine ⟨by omega, ?_⟩
    split at h
    · cases h; exact rel_none _ (by decide : (5 : Nat) ≠ 6) rfl
    · cases h
  split at h
  · refine ⟨by omega, ?_⟩
    split at h
    · cases h; exact rel_none _ (by decide : (5 : Nat) ≠ 6) rfl
    · cases h
  · cases h
theorem num_rel (m : Nat) (hm : m ≠ 6) (st : List Bool) (d : Nat) : Rel (cN m st d) 0 := rel_none _ hm rfl
theorem stN_rel (m : Nat) (st : List Bool) (d b : Nat) (c' : Cf) (h : stN m st d b = some c') : b < 128 ∧ Rel c' 0 := by
  unfold stN at h
  repeat' split at h
  all_goals first
    | (cases h; done)
    | exact stE_rel st d b c' h
    | (cases h; exact ⟨by first | omega | (exact isD_128 (by assumption)), num_rel _ (by decide) st d⟩)
theorem step_rel (c c' : Cf) (q b : Nat) (hr : Rel c q) (h : step c b = some c') : Ut.st q b ≠ 8 ∧ Rel c' (Ut.st q b) := by
  obtain ⟨m, x, w, k, st, d⟩ := c
  have low : b < 128 ∧ Rel c' 0 → q = 0 → Ut.st q b ≠ 8 ∧ Rel c' (Ut.st q b) := fun h1 h2 => by
    have e : Ut.st q b = 0 := by
      subst h2
      exact if_pos h1.1
    rw [e]
    exact ⟨by decide, h1.2⟩
  have hoff : m ≠ 6 → q = 0 := hr.off
  have hwd : ∀ a ∈ w, a.toNat < 128 := hr.wd
  by_cases h6 : m = 6
  · subst h6
    have hx : x = q := hr.str rfl
    subst hx
    have h2 : stS x k st d b = some c' := h
    unfold stS at h2
    split at h2
    · rename_i h3
      obtain ⟨rfl, rfl⟩ := h3
      refine ⟨by decide, ?_⟩
      show Rel c' 0
      cases h2
      unfold aft
      cases k
      · exact rel_none _ (by decide : (5 : Nat) ≠ 6) rfl
      · exact rel_none _ (by decide : (4 : Nat) ≠ 6) rfl
    split at h2
    · cases h2
    split at h2
    · rename_i h3
      obtain ⟨rfl, rfl⟩ := h3
      refine ⟨by decide, ?_⟩
      cases h2
      exact rel_none _ (by decide : (7 : Nat) ≠ 6) rfl
    split at h2
    · cases h2
    · rename_i h8
      cases h2
      exact ⟨h8, rel_str _ _ _ _⟩
  · refine low ?_ (hoff h6)
    match m, h6 with
    | 0, _ =>
      have h2 : (if isB b then some (cV st d) else stV st d b) = some c' := h
      split at h2
      · cases h2; exact ⟨isB_128 (by assumption), rel_none _ (by decide : (0 : Nat) ≠ 6) rfl⟩
      · exact stV_rel st d b c' h2
    | 1, _ =>
      have h2 : (if isB b then some (cA st d) else if b = 93 then stE st d b else stV st d b) = some c' := h
      split at h2
      · cases h2; exact ⟨isB_128 (by assumption), rel_none _ (by decide : (1 : Nat) ≠ 6) rfl⟩
      split at h2
      · exact stE_rel st d b c' h2
      · exact stV_rel st d b c' h2
    | 2, _ =>
      have h2 : (if isB b then some (cO st d) else if b = 125 then stE st d b else if b = 34 then some (cS 0 true st d) else none) = some c' := h
      split at h2
      · cases h2; exact ⟨isB_128 (by assumption), rel_none _ (by decide : (2 : Nat) ≠ 6) rfl⟩
      split at h2
      · exact stE_rel st d b c' h2
      split at h2
      · cases h2; exact ⟨by omega, rel_str _ _ _ _⟩
      · cases h2
    | 3, _ =>
      have h2 : (if isB b then some (cK st d) else if b = 34 then some (cS 0 true st d) else none) = some c' := h
      split at h2
      · cases h2; exact ⟨isB_128 (by assumption), rel_none _ (by decide : (3 : Nat) ≠ 6) rfl⟩
      split at h2
      · cases h2; exact ⟨by omega, rel_str _ _ _ _⟩
      · cases h2
    | 4, _ =>
      have h2 : (if isB b then some (cC st d) else if b = 58 then some (cV st d) else none) = some c' := h
      split at h2
      · cases h2; exact ⟨isB_128 (by assumption), rel_none _ (by decide : (4 : Nat) ≠ 6) rfl⟩
      split at h2
      · cases h2; exact ⟨by omega, rel_none _ (by decide : (0 : Nat) ≠ 6) rfl⟩
      · cases h2
    | 5, _ => exact stE_rel st d b c' h
    | 7, _ =>
      have h2 : (if isS b then some (cS 0 k st d) else if b = 117 then some (cU 0 k st d) else none) = some c' := h
      split at h2
      · rename_i hs
        cases h2
        refine ⟨?_, rel_str _ _ _ _⟩
        unfold isS at hs
        simp only [Bool.or_eq_true, beq_iff_eq] at hs
        omega
      split at h2
      · cases h2; exact ⟨by omega, rel_none _ (by decide : (8 : Nat) ≠ 6) rfl⟩
      · cases h2
    | 8, _ =>
      have h2 : (if isH b then (if x = 3 then some (cS 0 k st d) else some (cU (x + 1) k st d)) else none) = some c' := h
      split at h2
      · rename_i hs
        have hb : b < 128 := by
          unfold isH isD at hs
          simp only [Bool.or_eq_true, Bool.and_eq_true, decide_eq_true_eq] at hs
          omega
        split at h2
        · cases h2; exact ⟨hb, rel_str _ _ _ _⟩
        · cases h2; exact ⟨hb, rel_none _ (by decide : (8 : Nat) ≠ 6) rfl⟩
      · cases h2
    | 9, _ =>
      cases w with
      | nil =>
        have h2 : (none : Option Cf) = some c' := h
        cases h2
      | cons a r =>
        have h2 : (if b = a.toNat then (if r = [] then some (cE st d) else some (cW r st d)) else none) = some c' := h
        have ha := hwd a List.mem_cons_self
        split at h2
        · split at h2
          · cases h2; exact ⟨by omega, rel_none _ (by decide : (5 : Nat) ≠ 6) rfl⟩
          · cases h2; exact ⟨by omega, rel_off _ (by decide : (9 : Nat) ≠ 6) fun y hy => hwd y (List.mem_cons_of_mem _ hy)⟩
        · cases h2
    | m + 10, _ => exact stN_rel (m + 10) st d b c' h
theorem out_utf (l : List UInt8) : ∀ (c : Cf) (q : Nat), Rel c q → (out c l).2 ≤ Ut.alive q l := by
  induction l with
  | nil => intro c q _; exact Nat.zero_le _
  | cons b l ih =>
    intro c q hr
    cases hs : step c b.toNat with
    | none =>
      rw [out_none c b l hs]
      exact Nat.zero_le _
    | some c' =>
      rw [out_some c c' b l hs]
      obtain ⟨h8, hr2⟩ := step_rel c c' q b.toNat hr hs
      have := ih c' _ hr2
      show (out c' l).2 + 1 ≤ (if Ut.st q b.toNat = 8 then 0 else Ut.alive (Ut.st q b.toNat) l + 1)
      rw [if_neg h8]
      omega
theorem out_min (l : List UInt8) : ∀ (c : Cf) (k : Nat), (out c (l.take k)).2 = min k (out c l).2 := by
  induction l with
  | nil => intro c k; cases k <;> rfl
  | cons b l ih =>
    intro c k
    cases k with
    | zero => rw [Nat.zero_min]; rfl
    | succ k =>
      rw [List.take_succ_cons]
      cases hs : step c b.toNat with
      | none =>
        rw [out_none c b l hs, out_none c b _ hs]
        exact (Nat.min_zero _).symm
      | some c' =>
        rw [out_some c c' b l hs, out_some c c' b _ hs]
        show (out c' (l.take k)).2 + 1 = min (k + 1) ((out c' l).2 + 1)
        rw [ih c' k]
        omega
theorem rel_c0 : Rel c0 0 := rel_none _ (by decide : (0 : Nat) ≠ 6) rfl
theorem alive_al (l : List UInt8) : Al (l.take (Ut.alive 0 l)) := fun h => by
  have h1 := Ut.alive_lt 0 (l.take (Ut.alive 0 l)) (by decide) h
  rw [alive_take, Nat.min_self, List.length_take] at h1
  omega
/-- Not all is alive as UTF-8. -/
theorem out_short (l : List UInt8) (h : Ut.alive 0 l < l.length) : out c0 l = (none, (out c0 (l.take (Ut.alive 0 l))).2) := by
  have h1 := out_utf l c0 0 rel_c0
  have h2 := out_min l c0 (Ut.alive 0 l)
  rw [Nat.min_eq_right h1] at h2
  rw [h2]
  refine Prod.ext ?_ rfl
  show (out c0 l).1 = none
  cases ho : (out c0 l).1 with
  | none => rfl
  | some D =>
    have := out_all l c0 D ho
    omega
end Js
end Go.Proofs.YtoipliflphbeiaaGreatDoor
namespace Go.Proofs.YtoipliflphbeiaaGreatDoor
namespace Ut
/-- Bytes that go on, x behind one alone. -/
def ext (x : UInt8) (p : List UInt8) : Nat → List UInt8
  | 0 => p
  | j + 1 => ext x p j ++ [if (ext x p j).length = 1 then x else 128]
theorem ext_length (x : UInt8) (p : List UInt8) (j : Nat) : (ext x p j).length = p.length + j := by
  induction j with
  | zero => rfl
  | succ j ih =>
    unfold ext
    rw [List.length_append, ih]
    rfl
theorem ext_app (x : UInt8) (p : List UInt8) (j : Nat) : ∃ e : List UInt8, ext x p j = p ++ e ∧ e.length = j := by
  induction j with
  | zero => exact ⟨[], by rw [List.append_nil]; rfl, rfl⟩
  | succ j ih =>
    obtain ⟨e, h1, h2⟩ := ih
    refine ⟨e ++ [if (ext x p j).length = 1 then x else 128], ?_, ?_⟩
    · rw [← List.append_assoc, ← h1]
      rfl
    · rw [List.length_append, h2]
      rfl
/-- Some scalar's bytes begin so, and go on. -/
def Par (p : List UInt8) : Prop := run 0 p ≠ 8 ∧ ld 0 p = 0
/-- The same, as it is told. -/
def parB (p : List UInt8) : Bool := decide (run 0 p ≠ 8 ∧ ld 0 p = 0)
theorem parB_yes (p : List UInt8) (h : Par p) : parB p = true := decide_eq_true h
theorem parB_no (p : List UInt8) (h : ¬ Par p) : parB p = false := decide_eq_false h
theorem parB_iff (p : List UInt8) (q : Prop) [Decidable q] (h : Par p ↔ q) : parB p = decide q := by
  by_cases hq : q
  · rw [decide_eq_true hq, parB_yes p (h.2 hq)]
  · rw [decide_eq_false hq, parB_no p (fun hp => hq (h.1 hp))]
/-- What is tried as the second byte. -/
def plo (i : Nat) : UInt8 := if i = 0 then 128 else if i = 1 then 160 else 144
def phi (i : Nat) : UInt8 := if i = 0 then 191 else if i = 1 then 159 else 143
def px (i k : Nat) : UInt8 := if k % 2 = 0 then plo i else phi i
/-- It isn't hit. -/
def Ms (p : List UInt8) (i k j : Nat) : Prop := ld 0 (ext (px i k) p j) ≠ p.length + j
theorem ld_app (q : Nat) (p e : List UInt8) (h : ld q p = 0) (h8 : run q p ≠ 8) : ld q (p ++ e) = if ld (run q p) e = 0 then 0 else p.length + ld (run q p) e := by
  induction p generalizing q with
  | nil =>
    show ld q e = if ld q e = 0 then 0 else 0 + ld q e
    split
    · assumption
    · rw [Nat.zero_add]
  | cons b p ih =>
    rw [ld_cons] at h
    have hb8 : st q b.toNat ≠ 8 := by
      intro e
      apply h8
      show run (st q b.toNat) p = 8
      rw [e, run_dead]
    by_cases h0 : st q b.toNat = 0
    · rw [if_pos h0] at h
      cases h
    · rw [if_neg h0, if_neg hb8] at h
      have hl : ld (st q b.toNat) p = 0 := by
        by_cases hl : ld (st q b.toNat) p = 0
        · exact hl
        · rw [if_neg hl] at h
          cases h
      rw [List.cons_append, ld_cons, if_neg h0, if_neg hb8, ih _ hl h8]
      show _ = if ld (run (st q b.toNat) p) e = 0 then 0 else (b :: p).length + ld (run (st q b.toNat) p) e
      split
      · rfl
      · rename_i h1
        rw [if_neg (by omega), List.length_cons]
        omega
theorem par_of_hit (x : UInt8) (p : List UInt8) (j : Nat) (h0 : 0 < p.length) (hj : 0 < j) (h : ld 0 (ext x p j) = p.length + j) : Par p := by
  obtain ⟨e, he, hl⟩ := ext_app x p j
  rw [he] at h
  have hs := (ld_some 0 (p ++ e) (by omega)).2
  constructor
  · have := (hs p.length h0 (by omega)).2
    rw [List.take_left'  rfl] at this
    exact this
  · refine ld_zero_of 0 p (fun i h1 h2 => ?_)
    have := (hs i h1 (by omega)).1
    rw [List.take_append_of_le_length h2] at this
    exact this
theorem hit_app (i k j : Nat) (p : List UInt8) (h : Par p) (e : List UInt8) (he : ext (px i k) p j = p ++ e) (hl : ld (run 0 p) e = j) (hj : 0 < j) : ¬ Ms p i k j := by
  intro hm
  apply hm
  rw [he, ld_app 0 p e h.2 h.1, hl, if_neg (by omega)]
theorem hit_of_par (p : List UInt8) (h0 : 0 < p.length) (h3 : p.length ≤ 3) (h : Par p) : ∃ i k j, i < 3 ∧ k < 3 ∧ 0 < j ∧ p.length + j ≤ 4 ∧ ¬ Ms p i k j := by
  match p, h0, h3, h with
  | [a], _, _, h =>
    have e : run 0 [a] = st 0 a.toNat := rfl
    have h1 := h.1
    have h2 := h.2
    rw [e] at h1
    rcases st0 a.toNat with ⟨h3, e2⟩ | ⟨_, _, e2⟩ | ⟨_, _, e2⟩ | ⟨h3, e2⟩ | ⟨h3, e2⟩ | ⟨h3, _, _, e2⟩ | ⟨h3, e2⟩ | ⟨h3, _, e2⟩ | ⟨h3, e2⟩ | ⟨h3, e2⟩
    · rw [ld_byte a [] h3] at h2
      cases h2
    · exact absurd e2 h1
    · exact ⟨0, 0, 1, by decide, by decide, by decide, by simp, hit_app 0 0 1 [a] h [128] rfl (by rw [e, e2]; decide) (by decide)⟩
    · exact ⟨1, 0, 2, by decide, by decide, by decide, by simp, hit_app 1 0 2 [a] h [160, 128] rfl (by rw [e, e2]; decide) (by decide)⟩
    · exact ⟨0, 0, 2, by decide, by decide, by decide, by simp, hit_app 0 0 2 [a] h [128, 128] rfl (by rw [e, e2]; decide) (by decide)⟩
    · exact ⟨0, 0, 2, by decide, by decide, by decide, by simp, hit_app 0 0 2 [a] h [128, 128] rfl (by rw [e, e2]; decide) (by decide)⟩
    · exact ⟨2, 0, 3, by decide, by decide, by decide, by simp, hit_app 2 0 3 [a] h [144, 128, 128] rfl (by rw [e, e2]; decide) (by decide)⟩
    · exact ⟨0, 0, 3, by decide, by decide, by decide, by simp, hit_app 0 0 3 [a] h [128, 128, 128] rfl (by rw [e, e2]; decide) (by decide)⟩
    · exact ⟨0, 0, 3, by decide, by decide, by decide, by simp, hit_app 0 0 3 [a] h [128, 128, 128] rfl (by rw [e, e2]; decide) (by decide)⟩
    · exact absurd e2 h1
  | [a, b], _, _, h =>
    have hq : run 0 [a, b] = 1 ∨ run 0 [a, b] = 2 := by
      have e : run 0 [a, b] = st (st 0 a.toNat) b.toNat := rfl
      have h1 := h.1
      have h2 := h.2
      have h4 := ld_none 0 [a, b] h2 2 (by decide) (by simp)
      rw [show run 0 ([a, b].take 2) = st (st 0 a.toNat) b.toNat from rfl] at h4
      have h5 := ld_none 0 [a, b] h2 1 (by decide) (by simp)
      rw [show run 0 ([a, b].take 1) = st 0 a.toNat from rfl] at h5
      rw [e] at h1 ⊢
      obtain ⟨q, hq⟩ : ∃ q, q = st 0 a.toNat := ⟨_, rfl⟩
      have hle := st_le 0 a.toNat
      rw [← hq] at h1 h4 h5 hle ⊢
      obtain rfl | rfl | rfl | rfl | rfl | rfl | rfl | rfl | rfl : q = 0 ∨ q = 1 ∨ q = 2 ∨ q = 3 ∨ q = 4 ∨ q = 5 ∨ q = 6 ∨ q = 7 ∨ q = 8 := by omega
      · exact absurd rfl h5
      all_goals simp only [st] at h1 h4 ⊢
      all_goals first | exact absurd rfl h1 | (split at h1 <;> simp_all)
    rcases hq with e | e
    · exact ⟨0, 0, 1, by decide, by decide, by decide, by simp, hit_app 0 0 1 [a, b] h [128] rfl (by rw [e]; decide) (by decide)⟩
    · exact ⟨0, 0, 2, by decide, by decide, by decide, by simp, hit_app 0 0 2 [a, b] h [128, 128] rfl (by rw [e]; decide) (by decide)⟩
  | [a, b, c], _, _, h =>
    have hq : run 0 [a, b, c] = 1 := by
      have e : run 0 [a, b, c] = st (st (st 0 a.toNat) b.toNat) c.toNat := rfl
      have h1 := h.1
      have h2 := h.2
      have h4 := ld_none 0 [a, b, c] h2 2 (by decide) (by simp)
      rw [show run 0 ([a, b, c].take 2) = st (st 0 a.toNat) b.toNat from rfl] at h4
      have h5 := ld_none 0 [a, b, c] h2 1 (by decide) (by simp)
      rw [show run 0 ([a, b, c].take 1) = st 0 a.toNat from rfl] at h5
      have h6 := ld_none 0 [a, b, c] h2 3 (by decide) (by simp)
      rw [show run 0 ([a, b, c].take 3) = st (st (st 0 a.toNat) b.toNat) c.toNat from rfl] at h6
      rw [e] at h1 ⊢
      obtain ⟨q, hq⟩ : ∃ q, q = st 0 a.toNat := ⟨_, rfl⟩
      have hle := st_le 0 a.toNat
      rw [← hq] at h1 h4 h5 h6 hle ⊢
      obtain ⟨r, hr⟩ : ∃ r, r = st q b.toNat := ⟨_, rfl⟩
      have hrle : r = 0 ∨ r = 1 ∨ r = 2 ∨ r = 8 := by
        rw [hr]
        obtain rfl | rfl | rfl | rfl | rfl | rfl | rfl | rfl | rfl : q = 0 ∨ q = 1 ∨ q = 2 ∨ q = 3 ∨ q = 4 ∨ q = 5 ∨ q = 6 ∨ q = 7 ∨ q = 8 := by omega
        · exact absurd rfl h5
        all_goals simp only [st]
        all_goals first | (split <;> simp) | simp
      rw [← hr] at h1 h4 h6 ⊢
      obtain rfl | rfl | rfl | rfl := hrle
      · exact absurd rfl h4
      · simp only [st] at h1 h6 ⊢
        split at h1 <;> simp_all
      · simp only [st] at h1 h6 ⊢
        split at h1 <;> simp_all
      · exact absurd rfl h1
    exact ⟨0, 0, 1, by decide, by decide, by decide, by simp, hit_app 0 0 1 [a, b, c] h [128] rfl (by rw [hq]; decide) (by decide)⟩
theorem alive_run (q : Nat) (l : List UInt8) (i : Nat) (hi : i ≤ l.length) (hq : q ≠ 8) : run q (l.take i) ≠ 8 ↔ i ≤ alive q l := by
  induction l generalizing q i with
  | nil =>
    obtain rfl : i = 0 := by simpa using hi
    exact ⟨fun _ => Nat.zero_le _, fun _ => hq⟩
  | cons b l ih =>
    cases i with
    | zero => exact ⟨fun _ => Nat.zero_le _, fun _ => hq⟩
    | succ i =>
      rw [List.take_succ_cons]
      show run (st q b.toNat) (l.take i) ≠ 8 ↔ i + 1 ≤ if st q b.toNat = 8 then 0 else alive (st q b.toNat) l + 1
      by_cases h8 : st q b.toNat = 8
      · rw [if_pos h8, h8, run_dead]
        exact ⟨fun h => absurd rfl h, fun h => by omega⟩
      · rw [if_neg h8, ih _ i (by simpa using hi) h8]
        omega
/-- How many bytes may be wanted. -/
def rk (q : Nat) : Nat := if q = 0 ∨ q = 8 then 0 else if q = 1 then 1 else if q = 2 ∨ q = 4 ∨ q = 5 then 2 else 3
theorem rk_st (q b : Nat) (h0 : 0 < q) (h8 : q < 8) (h1 : st q b ≠ 0) (h2 : st q b ≠ 8) : rk (st q b) + 1 = rk q := by
  obtain rfl | rfl | rfl | rfl | rfl | rfl | rfl : q = 1 ∨ q = 2 ∨ q = 3 ∨ q = 4 ∨ q = 5 ∨ q = 6 ∨ q = 7 := by omega
  all_goals simp only [st] at h1 h2 ⊢
  all_goals split at h1 <;> simp_all [rk]
theorem alive_rk (q : Nat) (l : List UInt8) (h0 : 0 < q) (h8 : q < 8) (h : ld q l = 0) : alive q l + 1 ≤ rk q := by
  induction l generalizing q with
  | nil =>
    show 0 + 1 ≤ rk q
    unfold rk
    rw [if_neg (by omega)]
    split
    · omega
    · split <;> omega
  | cons b l ih =>
    have hk : 1 ≤ rk q := by
      unfold rk
      rw [if_neg (by omega)]
      split
      · omega
      · split <;> omega
    rw [ld_cons] at h
    by_cases hz : st q b.toNat = 0
    · rw [if_pos hz] at h
      cases h
    · rw [if_neg hz] at h
      show (if st q b.toNat = 8 then 0 else alive (st q b.toNat) l + 1) + 1 ≤ rk q
      by_cases he : st q b.toNat = 8
      · rw [if_pos he]
        omega
      · rw [if_neg he] at h ⊢
        have hl : ld (st q b.toNat) l = 0 := by
          by_cases hl : ld (st q b.toNat) l = 0
          · exact hl
          · rw [if_neg hl] at h
            cases h
        have h3 := st_le q b.toNat
        have := ih _ (by omega) (by omega) hl
        have := rk_st q b.toNat h0 h8 hz he
        omega
theorem rk_le (q : Nat) : rk q ≤ 3 := by
  unfold rk
  repeat' split
  all_goals omega
/-- Where no scalar begins, at most three bytes are alive. -/
theorem alive_three (l : List UInt8) (h : ld 0 l = 0) : alive 0 l ≤ 3 := by
  cases l with
  | nil => exact Nat.zero_le _
  | cons b l =>
    rw [ld_cons] at h
    show (if st 0 b.toNat = 8 then 0 else alive (st 0 b.toNat) l + 1) ≤ 3
    by_cases he : st 0 b.toNat = 8
    · rw [if_pos he]
      omega
    · rw [if_neg he] at h ⊢
      by_cases hz : st 0 b.toNat = 0
      · rw [if_pos hz] at h
        cases h
      · rw [if_neg hz] at h
        have hl : ld (st 0 b.toNat) l = 0 := by
          by_cases hl : ld (st 0 b.toNat) l = 0
          · exact hl
          · rw [if_neg hl] at h
            cases h
        have h3 := st_le 0 b.toNat
        have := alive_rk _ l (by omega) (by omega) hl
        have := rk_le (st 0 b.toNat)
        omega
theorem par_take (m : List UInt8) (k : Nat) (h : ld 0 m = 0) (hk : k < m.length) : Par (m.take (k + 1)) ↔ k + 1 ≤ alive 0 m := by
  have h1 : ld 0 (m.take (k + 1)) = 0 := by
    refine ld_zero_of 0 _ (fun i h1 h2 => ?_)
    rw [List.length_take, Nat.min_eq_left (by omega)] at h2
    rw [List.take_take, Nat.min_eq_left h2]
    exact ld_none 0 m h i h1 (by omega)
  unfold Par
  rw [← alive_run 0 m (k + 1) (by omega) (by decide)]
  exact ⟨fun h => h.1, fun h2 => ⟨h2, h1⟩⟩
end Ut
end Go.Proofs.YtoipliflphbeiaaGreatDoor
