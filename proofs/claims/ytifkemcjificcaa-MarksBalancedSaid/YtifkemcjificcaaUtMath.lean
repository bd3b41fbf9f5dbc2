/-
  UTF-8, by mathematics alone: states, what is alive, the first scalar, its bytes.
-/
import Derived.Test.YtifkemcjificcaaRows
namespace Go.Proofs.Ytifkemcjificcaa
namespace Ut
/-- The state behind a byte. -/
def st (q b : Nat) : Nat :=
  match q with
  | 0 => if b < 128 then 0 else if b < 194 then 8 else if b < 224 then 1 else if b = 224 then 4 else if b = 237 then 5 else if b < 240 then 2 else if b = 240 then 6 else if b < 244 then 3 else if b = 244 then 7 else 8
  | 1 => if 128 ≤ b ∧ b ≤ 191 then 0 else 8
  | 2 => if 128 ≤ b ∧ b ≤ 191 then 1 else 8
  | 3 => if 128 ≤ b ∧ b ≤ 191 then 2 else 8
  | 4 => if 160 ≤ b ∧ b ≤ 191 then 1 else 8
  | 5 => if 128 ≤ b ∧ b ≤ 159 then 1 else 8
  | 6 => if 144 ≤ b ∧ b ≤ 191 then 2 else 8
  | 7 => if 128 ≤ b ∧ b ≤ 143 then 2 else 8
  | _ => 8
/-- The state behind a byte, of any number. -/
def stz (z : Int) (b : Nat) : Nat := if z < 0 ∨ 7 < z then 8 else st z.toNat b
theorem st_le (q b : Nat) : st q b ≤ 8 := by
  unfold st
  repeat' split
  all_goals omega
theorem st_dead (b : Nat) : st 8 b = 8 := rfl
theorem stz_nat (q b : Nat) (h : q ≤ 8) : stz (q : Nat) b = st q b := by
  unfold stz
  by_cases h8 : q = 8
  · subst h8
    rfl
  · rw [if_neg (by omega)]
    rfl
/-- The state behind bytes. -/
def run : Nat → List UInt8 → Nat
  | q, [] => q
  | q, b :: l => run (st q b.toNat) l
/-- How many bytes are alive. -/
def alive : Nat → List UInt8 → Nat
  | _, [] => 0
  | q, b :: l => if st q b.toNat = 8 then 0 else alive (st q b.toNat) l + 1
/-- How many bytes lead to the state 0 again, for the first time; 0, if none do. -/
def ld : Nat → List UInt8 → Nat
  | _, [] => 0
  | q, b :: l => if st q b.toNat = 0 then 1 else if st q b.toNat = 8 then 0 else if ld (st q b.toNat) l = 0 then 0 else ld (st q b.toNat) l + 1
theorem run_le (q : Nat) (l : List UInt8) (h : q ≤ 8) : run q l ≤ 8 := by
  induction l generalizing q with
  | nil => exact h
  | cons b l ih => exact ih _ (st_le _ _)
theorem run_dead (l : List UInt8) : run 8 l = 8 := by
  induction l with
  | nil => rfl
  | cons b l ih => exact ih
theorem run_append (q : Nat) (l m : List UInt8) : run q (l ++ m) = run (run q l) m := by
  induction l generalizing q with
  | nil => rfl
  | cons b l ih => exact ih _
theorem run_take_succ (q : Nat) (l : List UInt8) (k : Nat) (h : k < l.length) : run q (l.take (k + 1)) = st (run q (l.take k)) (l[k]).toNat := by
  rw [List.take_add_one, List.getElem?_eq_getElem h, run_append]
  rfl
theorem alive_le (q : Nat) (l : List UInt8) : alive q l ≤ l.length := by
  induction l generalizing q with
  | nil => exact Nat.le_refl _
  | cons b l ih =>
    unfold alive
    split
    · exact Nat.zero_le _
    · exact Nat.succ_le_succ (ih _)
theorem run_alive (q : Nat) (l m : List UInt8) (h : run q l ≠ 8) : alive q (l ++ m) = l.length + alive (run q l) m := by
  induction l generalizing q with
  | nil => simp [run]
  | cons b l ih =>
    have h2 : st q b.toNat ≠ 8 := by
      intro e
      apply h
      show run (st q b.toNat) l = 8
      rw [e, run_dead]
    show (if st q b.toNat = 8 then 0 else alive (st q b.toNat) (l ++ m) + 1) = _
    rw [if_neg h2, ih _ h, List.length_cons]
    show _ = l.length + 1 + alive (run (st q b.toNat) l) m
    omega
theorem alive_all (q : Nat) (l : List UInt8) (h : run q l ≠ 8) : alive q l = l.length := by
  have := run_alive q l [] h
  rw [List.append_nil] at this
  rw [this]
  rfl
theorem alive_lt (q : Nat) (l : List UInt8) (hq : q ≠ 8) (h : run q l = 8) : alive q l < l.length := by
  induction l generalizing q with
  | nil => exact absurd h hq
  | cons b l ih =>
    unfold alive
    split
    · exact Nat.succ_pos _
    · rename_i h2
      exact Nat.succ_lt_succ (ih _ h2 h)
/-- Where bytes die. -/
theorem died (q : Nat) (l : List UInt8) (k : Nat) (hk : k < l.length) (h : run q (l.take k) ≠ 8) (hd : st (run q (l.take k)) (l[k]).toNat = 8) : alive q l = k ∧ run q l = 8 := by
  have e : l = l.take k ++ l[k] :: l.drop (k + 1) := by
    rw [← List.drop_eq_getElem_cons hk, List.take_append_drop]
  constructor
  · rw [e, run_alive q _ _ h, List.length_take]
    unfold alive
    rw [if_pos hd]
    omega
  · rw [e, run_append]
    show run (st _ _) _ = 8
    rw [hd, run_dead]
theorem ld_le (q : Nat) (l : List UInt8) : ld q l ≤ l.length := by
  induction l generalizing q with
  | nil => exact Nat.le_refl _
  | cons b l ih =>
    unfold ld
    have := ih (st q b.toNat)
    rw [List.length_cons]
    repeat' split
    all_goals omega
/-- What is known of the bytes that lead to 0. -/
theorem ld_some (q : Nat) (l : List UInt8) (h : ld q l ≠ 0) : run q (l.take (ld q l)) = 0 ∧ ∀ i, 0 < i → i < ld q l → run q (l.take i) ≠ 0 ∧ run q (l.take i) ≠ 8 := by
  induction l generalizing q with
  | nil => exact absurd rfl h
  | cons b l ih =>
    unfold ld at h ⊢
    by_cases h0 : st q b.toNat = 0
    · rw [if_pos h0]
      refine ⟨?_, fun i h1 h2 => by omega⟩
      show run q [b] = 0
      exact h0
    · rw [if_neg h0] at h ⊢
      by_cases h8 : st q b.toNat = 8
      · rw [if_pos h8] at h
        exact absurd rfl h
      · rw [if_neg h8] at h ⊢
        by_cases hl : ld (st q b.toNat) l = 0
        · rw [if_pos hl] at h
          exact absurd rfl h
        · rw [if_neg hl]
          obtain ⟨h1, h2⟩ := ih _ hl
          refine ⟨by rw [List.take_succ_cons]; exact h1, fun i hi hi2 => ?_⟩
          obtain ⟨j, rfl⟩ : ∃ j, i = j + 1 := ⟨i - 1, by omega⟩
          rw [List.take_succ_cons]
          by_cases hj : j = 0
          · subst hj
            exact ⟨h0, h8⟩
          · exact h2 j (by omega) (by omega)
theorem ld_none (q : Nat) (l : List UInt8) (h : ld q l = 0) (i : Nat) (h0 : 0 < i) (hi : i ≤ l.length) : run q (l.take i) ≠ 0 := by
  induction l generalizing q i with
  | nil => simp at hi; omega
  | cons b l ih =>
    unfold ld at h
    obtain ⟨j, rfl⟩ : ∃ j, i = j + 1 := ⟨i - 1, by omega⟩
    rw [List.take_succ_cons]
    by_cases hz : st q b.toNat = 0
    · rw [if_pos hz] at h
      cases h
    · rw [if_neg hz] at h
      by_cases h8 : st q b.toNat = 8
      · show run (st q b.toNat) _ ≠ 0
        rw [h8, run_dead]
        decide
      · rw [if_neg h8] at h
        by_cases hl : ld (st q b.toNat) l = 0
        · by_cases hj : j = 0
          · subst hj
            exact hz
          · exact ih _ hl j (by omega) (by rw [List.length_cons] at hi; omega)
        · rw [if_neg hl] at h
          cases h
theorem ld_of (q : Nat) (l : List UInt8) (n : Nat) (h0 : 0 < n) (hn : n ≤ l.length) (hz : run q (l.take n) = 0) (h : ∀ i, 0 < i → i < n → run q (l.take i) ≠ 0) : ld q l = n := by
  by_cases hl : ld q l = 0
  · exact absurd hz (ld_none q l hl n h0 hn)
  · obtain ⟨h1, h2⟩ := ld_some q l hl
    have h3 := ld_le q l
    rcases Nat.lt_trichotomy (ld q l) n with h4 | h4 | h4
    · exact absurd h1 (h _ (by omega) h4)
    · exact h4
    · exact absurd hz (h2 n h0 h4).1
theorem ld_zero_of (q : Nat) (l : List UInt8) (h : ∀ i, 0 < i → i ≤ l.length → run q (l.take i) ≠ 0) : ld q l = 0 := by
  by_cases hl : ld q l = 0
  · exact hl
  · exact absurd (ld_some q l hl).1 (h _ (by omega) (ld_le q l))
/-- Behind the first scalar all begins anew. -/
theorem run_past (l : List UInt8) (h : ld 0 l ≠ 0) : run 0 l = run 0 (l.drop (ld 0 l)) := by
  have h1 := (ld_some 0 l h).1
  have h2 := run_append 0 (l.take (ld 0 l)) (l.drop (ld 0 l))
  rw [List.take_append_drop, h1] at h2
  exact h2
theorem alive_past (l : List UInt8) (h : ld 0 l ≠ 0) : alive 0 l = ld 0 l + alive 0 (l.drop (ld 0 l)) := by
  have h1 := (ld_some 0 l h).1
  have h2 := run_alive 0 (l.take (ld 0 l)) (l.drop (ld 0 l)) (by rw [h1]; decide)
  rw [List.take_append_drop, h1, List.length_take, Nat.min_eq_left (ld_le 0 l)] at h2
  exact h2
theorem run_not (l : List UInt8) (h : ld 0 l = 0) (hl : l ≠ []) : run 0 l ≠ 0 := by
  have := ld_none 0 l h l.length (by cases l with | nil => exact absurd rfl hl | cons => simp) (Nat.le_refl _)
  rw [List.take_length] at this
  exact this

/-- A scalar. -/
def Sc (c : Nat) : Prop := c ≤ 1114111 ∧ ¬ (55296 ≤ c ∧ c ≤ 57343)
/-- How many bytes a scalar has. -/
def wid (c : Nat) : Nat := if c < 128 then 1 else if c < 2048 then 2 else if c < 65536 then 3 else 4
/-- The first byte's bits that tell n. -/
def hd (n : Nat) : Nat := if n = 1 then 0 else if n = 2 then 192 else if n = 3 then 224 else 240
/-- A scalar's bytes, all but the first one: the last k. -/
def tl (c : Nat) : Nat → List UInt8
  | 0 => []
  | k + 1 => UInt8.ofNat (128 + c / 64 ^ k % 64) :: tl c k
/-- A scalar's bytes. -/
def enc (c : Nat) : List UInt8 := if c ≤ 1114111 ∧ ¬ (55296 ≤ c ∧ c ≤ 57343) then UInt8.ofNat (hd (wid c) + c / 64 ^ (wid c - 1)) :: tl c (wid c - 1) else []
theorem wid_pos (c : Nat) : 0 < wid c := by
  unfold wid
  repeat' split
  all_goals omega
theorem wid_le (c : Nat) : wid c ≤ 4 := by
  unfold wid
  repeat' split
  all_goals omega
theorem tl_length (c k : Nat) : (tl c k).length = k := by
  induction k with
  | zero => rfl
  | succ k ih => rw [tl, List.length_cons, ih]
theorem enc_sc (c : Nat) (h : Sc c) : enc c = UInt8.ofNat (hd (wid c) + c / 64 ^ (wid c - 1)) :: tl c (wid c - 1) := if_pos h
theorem enc_length (c : Nat) (h : Sc c) : (enc c).length = wid c := by
  have := wid_pos c
  rw [enc_sc c h, List.length_cons, tl_length]
  omega
theorem enc_none (c : Nat) (h : ¬ Sc c) : enc c = [] := if_neg h
theorem enc1 (c : Nat) (h : c < 128) : enc c = [UInt8.ofNat c] := by
  have : Sc c := ⟨by omega, by omega⟩
  rw [enc_sc c this]
  simp [wid, h, hd, tl]
theorem enc2 (c : Nat) (h : 128 ≤ c) (h2 : c < 2048) : enc c = [UInt8.ofNat (192 + c / 64), UInt8.ofNat (128 + c % 64)] := by
  have : Sc c := ⟨by omega, by omega⟩
  rw [enc_sc c this]
  simp [wid, h2, show ¬ c < 128 from by omega, hd, tl]
theorem enc3 (c : Nat) (h : 2048 ≤ c) (h2 : c < 65536) (h3 : ¬ (55296 ≤ c ∧ c ≤ 57343)) : enc c = [UInt8.ofNat (224 + c / 4096), UInt8.ofNat (128 + c / 64 % 64), UInt8.ofNat (128 + c % 64)] := by
  have : Sc c := ⟨by omega, h3⟩
  rw [enc_sc c this]
  simp [wid, h2, show ¬ c < 128 from by omega, show ¬ c < 2048 from by omega, hd, tl]
theorem enc4 (c : Nat) (h : 65536 ≤ c) (h2 : c ≤ 1114111) : enc c = [UInt8.ofNat (240 + c / 262144), UInt8.ofNat (128 + c / 4096 % 64), UInt8.ofNat (128 + c / 64 % 64), UInt8.ofNat (128 + c % 64)] := by
  have : Sc c := ⟨by omega, by omega⟩
  rw [enc_sc c this]
  simp [wid, show ¬ c < 65536 from by omega, show ¬ c < 128 from by omega, show ¬ c < 2048 from by omega, hd, tl]
/-- The bits of the first one of n bytes that aren't told. -/
def top (n b : Nat) : Nat := if n = 1 then b % 128 else if n = 2 then b % 32 else if n = 3 then b % 16 else b % 8
/-- The number of the first k + 1 of n bytes. -/
def vl (l : List UInt8) (n : Nat) : Nat → Nat
  | 0 => top n (l.getD 0 0).toNat
  | k + 1 => vl l n k * 64 + (l.getD (k + 1) 0).toNat % 64
/-- How many bytes a first byte seems to tell. -/
def rn (b : Nat) : Nat := if b < 128 then 1 else if b < 192 then 0 else if b < 224 then 2 else if b < 240 then 3 else if b < 248 then 4 else 0
/-- The scalar that bytes begin with, and how many they are. -/
def sc (l : List UInt8) : Nat × Nat := if ld 0 l = 0 then (0, 0) else (vl l (ld 0 l) (ld 0 l - 1), ld 0 l)
theorem ofNat_eq (a : Nat) (b : UInt8) (h : a < 256) : UInt8.ofNat a = b ↔ a = b.toNat := by
  constructor
  · intro e
    rw [← e, UInt8.toNat_ofNat']
    omega
  · intro e
    rw [e, UInt8.ofNat_toNat]
theorem run_one (q : Nat) (a : UInt8) (l : List UInt8) : run q ((a :: l).take 1) = st q a.toNat := rfl
theorem run_two (q : Nat) (a b : UInt8) (l : List UInt8) : run q ((a :: b :: l).take 2) = st (st q a.toNat) b.toNat := rfl
theorem st_zero (b : Nat) : st 0 b = if b < 128 then 0 else if b < 194 then 8 else if b < 224 then 1 else if b = 224 then 4 else if b = 237 then 5 else if b < 240 then 2 else if b = 240 then 6 else if b < 244 then 3 else if b = 244 then 7 else 8 := rfl
theorem st0 (b : Nat) : (b < 128 ∧ st 0 b = 0) ∨ (128 ≤ b ∧ b < 194 ∧ st 0 b = 8) ∨ (194 ≤ b ∧ b < 224 ∧ st 0 b = 1) ∨ (b = 224 ∧ st 0 b = 4) ∨ (b = 237 ∧ st 0 b = 5) ∨ (225 ≤ b ∧ b < 240 ∧ b ≠ 237 ∧ st 0 b = 2) ∨ (b = 240 ∧ st 0 b = 6) ∨ (240 < b ∧ b < 244 ∧ st 0 b = 3) ∨ (b = 244 ∧ st 0 b = 7) ∨ (244 < b ∧ st 0 b = 8) := by
  obtain ⟨x, hx⟩ : ∃ x, x = st 0 b := ⟨_, rfl⟩
  rw [← hx]
  rw [st_zero] at hx
  repeat' split at hx
  all_goals omega
theorem ld_cons (q : Nat) (a : UInt8) (l : List UInt8) : ld q (a :: l) = if st q a.toNat = 0 then 1 else if st q a.toNat = 8 then 0 else if ld (st q a.toNat) l = 0 then 0 else ld (st q a.toNat) l + 1 := rfl
theorem ld_nil (q : Nat) : ld q [] = 0 := rfl
/-- One byte more. -/
theorem ld1 (a : UInt8) (l : List UInt8) : ld 1 (a :: l) = if 128 ≤ a.toNat ∧ a.toNat ≤ 191 then 1 else 0 := by
  rw [ld_cons, show st 1 a.toNat = if 128 ≤ a.toNat ∧ a.toNat ≤ 191 then 0 else 8 from rfl]
  split <;> simp
theorem ld2 (a : UInt8) (l : List UInt8) (q lo hi : Nat) (h : ∀ b, st q b = if lo ≤ b ∧ b ≤ hi then 1 else 8) : ld q (a :: l) = if lo ≤ a.toNat ∧ a.toNat ≤ hi ∧ ld 1 l = 1 then 2 else 0 := by
  rw [ld_cons, h]
  have h1 : ld 1 l = 0 ∨ ld 1 l = 1 := by
    cases l with
    | nil => exact .inl rfl
    | cons b l =>
      rw [ld1]
      split
      · exact .inr rfl
      · exact .inl rfl
  by_cases h2 : lo ≤ a.toNat ∧ a.toNat ≤ hi
  · rcases h1 with h1 | h1 <;> simp [h1, h2]
  · rw [if_neg h2, if_neg (by omega), if_pos rfl, if_neg (by omega)]
theorem ld3 (a : UInt8) (l : List UInt8) (q lo hi : Nat) (h : ∀ b, st q b = if lo ≤ b ∧ b ≤ hi then 2 else 8) : ld q (a :: l) = if lo ≤ a.toNat ∧ a.toNat ≤ hi ∧ ld 2 l = 2 then 3 else 0 := by
  rw [ld_cons, h]
  have h1 : ld 2 l = 0 ∨ ld 2 l = 2 := by
    cases l with
    | nil => exact .inl rfl
    | cons b l =>
      rw [ld2 b l 2 128 191 (fun _ => rfl)]
      split
      · exact .inr rfl
      · exact .inl rfl
  by_cases h2 : lo ≤ a.toNat ∧ a.toNat ≤ hi
  · rcases h1 with h1 | h1 <;> simp [h1, h2]
  · rw [if_neg h2, if_neg (by omega), if_pos rfl, if_neg (by omega)]
theorem and_lt (p : UInt8) : p.toNat < 256 := p.toNat_lt
end Ut
end Go.Proofs.Ytifkemcjificcaa
