/-
  Strings as JSON writes them, by mathematics alone: digits, units, characters, scalars, texts, and how a text is written shortest.
-/
import Derived.Test.YtjhjkahjljikhaaUtSc
import Derived.Test.YtjhjkahjljikhaaUtScalar
import Derived.Test.YtjhjkahjljikhaaUtPut
namespace Go.Proofs.Ytjhjkahjljikhaa
namespace Es
/-- A digit's number; -1. -/
def hx (b : Nat) : Int := if 48 ≤ b ∧ b ≤ 57 then (b : Int) - 48 else if 97 ≤ b ∧ b ≤ 102 then (b : Int) - 87 else if 65 ≤ b ∧ b ≤ 70 then (b : Int) - 55 else -1
theorem hx_cases (b : Nat) : hx b = -1 ∨ (0 ≤ hx b ∧ hx b < 16) := by
  unfold hx
  repeat' split
  all_goals omega
/-- What the first k digits make; -1, if one is none. -/
def up (l : List UInt8) : Nat → Int
  | 0 => 0
  | k + 1 => if up l k < 0 ∨ l.length ≤ k ∨ hx (l.getD k 0).toNat < 0 then -1 else up l k * 16 + hx (l.getD k 0).toNat
theorem up_zero (l : List UInt8) : up l 0 = 0 := rfl
theorem up_succ (l : List UInt8) (k : Nat) : up l (k + 1) = if up l k < 0 ∨ l.length ≤ k ∨ hx (l.getD k 0).toNat < 0 then -1 else up l k * 16 + hx (l.getD k 0).toNat := rfl
theorem up_cases (l : List UInt8) (k : Nat) : up l k = -1 ∨ (0 ≤ up l k ∧ up l k < 16 ^ k) := by
  induction k with
  | zero => exact .inr ⟨Int.le_refl _, by show (0 : Int) < 1; decide⟩
  | succ k ih =>
    rw [up_succ]
    split
    · exact .inl rfl
    · rename_i h
      have := hx_cases (l.getD k 0).toNat
      right
      rw [Int.pow_succ]
      omega
theorem up_dead (l : List UInt8) (k j : Nat) (h : up l k < 0) : up l (k + j) = -1 := by
  induction j with
  | zero => rcases up_cases l k with h1 | h1 <;> simp only [Nat.add_zero] <;> omega
  | succ j ih =>
    rw [← Nat.add_assoc, up_succ, if_pos]
    left
    omega
theorem up_short (l : List UInt8) (k : Nat) (h : l.length < k) : up l k = -1 := by
  obtain ⟨j, rfl⟩ : ∃ j, k = (l.length + 1) + j := ⟨k - (l.length + 1), by omega⟩
  refine up_dead _ _ _ ?_
  rw [up_succ, if_pos (.inr (.inl (Nat.le_refl _)))]
  decide
theorem up_append (l m : List UInt8) (k : Nat) (h : 0 ≤ up l k) : up (l ++ m) k = up l k := by
  induction k with
  | zero => rfl
  | succ k ih =>
    rw [up_succ] at h ⊢
    rw [up_succ]
    by_cases h1 : up l k < 0 ∨ l.length ≤ k ∨ hx (l.getD k 0).toNat < 0
    · rw [if_pos h1] at h
      omega
    · have h2 : k < l.length := by omega
      have h3 : (l ++ m).getD k 0 = l.getD k 0 := by
        rw [List.getD_eq_getElem?_getD, List.getD_eq_getElem?_getD, List.getElem?_append_left h2]
      rw [ih (by omega), h3, if_neg h1, if_neg]
      rw [List.length_append]
      omega
/-- What a sign behind 5c says; -1. -/
def sg (b : Nat) : Int := if b = 34 then 34 else if b = 92 then 92 else if b = 47 then 47 else if b = 98 then 8 else if b = 102 then 12 else if b = 110 then 10 else if b = 114 then 13 else if b = 116 then 9 else -1
theorem sg_cases (b : Nat) : sg b = -1 ∨ (0 ≤ sg b ∧ b ≠ 117 ∧ b ≠ 0 ∧ (sg b = 34 ∨ sg b = 92 ∨ sg b = 47 ∨ sg b = 8 ∨ sg b = 12 ∨ sg b = 10 ∨ sg b = 13 ∨ sg b = 9)) := by
  unfold sg
  repeat' split
  all_goals omega
/-- The unit at the beginning; -1. -/
def ru : List UInt8 → Int
  | a :: b :: t => if a.toNat = 92 ∧ b.toNat = 117 then up t 4 else -1
  | _ => -1
theorem ru_cons (a b : UInt8) (t : List UInt8) : ru (a :: b :: t) = if a.toNat = 92 ∧ b.toNat = 117 then up t 4 else -1 := rfl
theorem ru_cases (l : List UInt8) : ru l = -1 ∨ (0 ≤ ru l ∧ ru l < 65536 ∧ 6 ≤ l.length ∧ ∃ t, l = 92 :: 117 :: t ∧ ru l = up t 4) := by
  match l with
  | [] => exact .inl rfl
  | [a] => exact .inl rfl
  | a :: b :: t =>
    rw [ru_cons]
    by_cases h : a.toNat = 92 ∧ b.toNat = 117
    · rw [if_pos h]
      rcases up_cases t 4 with h1 | ⟨h1, h2⟩
      · exact .inl h1
      · refine .inr ⟨h1, h2, ?_, t, ?_, rfl⟩
        · rcases Nat.lt_or_ge t.length 4 with h3 | h3
          · rw [up_short t 4 h3] at h1
            omega
          · simp only [List.length_cons]
            omega
        · rw [show a = 92 from UInt8.toNat_inj.1 h.1, show b = 117 from UInt8.toNat_inj.1 h.2]
    · rw [if_neg h]
      exact .inl rfl
theorem ru_append (l m : List UInt8) (h : 0 ≤ ru l) : ru (l ++ m) = ru l := by
  match l, h with
  | [], h => exact absurd h (by decide)
  | [a], h => exact absurd h (by show ¬ (0 : Int) ≤ -1; decide)
  | a :: b :: t, h =>
    show ru (a :: b :: (t ++ m)) = _
    rw [ru_cons, ru_cons]
    rw [ru_cons] at h
    by_cases h1 : a.toNat = 92 ∧ b.toNat = 117
    · rw [if_pos h1] at h
      rw [if_pos h1, if_pos h1, up_append _ _ _ h]
    · rw [if_neg h1] at h
      exact absurd h (by decide)
/-- What 5c and what stands behind it say, and how many bytes they are. -/
def bs (l : List UInt8) : Int × Nat := if 0 ≤ ru l then (ru l, 6) else if 0 ≤ sg (l.getD 1 0).toNat then (sg (l.getD 1 0).toNat, 2) else (-1, 0)
/-- The first character, and how many bytes it has; -1 and 0. -/
def cr : List UInt8 → Int × Nat
  | [] => (-1, 0)
  | a :: t => if a.toNat < 32 ∨ a.toNat = 34 then (-1, 0) else if a.toNat = 92 then bs (a :: t) else if Ut.ld 0 (a :: t) = 0 then (-1, 0) else (((Ut.sc (a :: t)).1 : Nat), (Ut.sc (a :: t)).2)
theorem cr_cons (a : UInt8) (t : List UInt8) : cr (a :: t) = if a.toNat < 32 ∨ a.toNat = 34 then (-1, 0) else if a.toNat = 92 then bs (a :: t) else if Ut.ld 0 (a :: t) = 0 then (-1, 0) else (((Ut.sc (a :: t)).1 : Nat), (Ut.sc (a :: t)).2) := rfl
theorem getD_len (l : List UInt8) (h : (l.getD 1 0).toNat ≠ 0) : 2 ≤ l.length := by
  match l, h with
  | [], h => exact absurd rfl h
  | [a], h => exact absurd rfl h
  | a :: b :: t, _ => simp
/-- A scalar at the beginning has just its bytes. -/
theorem sc_take (l : List UInt8) (h : Ut.ld 0 l ≠ 0) : Ut.sc l = ((Ut.sc l).1, Ut.ld 0 l) ∧ Ut.enc (Ut.sc l).1 = l.take (Ut.ld 0 l) ∧ Ut.Sc (Ut.sc l).1 := by
  match l, h with
  | [], h => exact absurd rfl h
  | a :: t, h =>
    have h1 := Ut.ld_rn a t h
    have h2 : Ut.rn a.toNat ≠ 0 := by rw [← h1]; exact h
    have h3 := Ut.ld_le 0 (a :: t)
    rw [List.length_cons] at h3
    have e : Ut.sc (a :: t) = (Ut.vl (a :: t) (Ut.ld 0 (a :: t)) (Ut.ld 0 (a :: t) - 1), Ut.ld 0 (a :: t)) := if_neg h
    rcases Ut.back_any a t h2 (by omega) with ⟨h4, _⟩ | ⟨_, h5⟩
    · rw [← h1] at h4
      rw [e]
      refine ⟨rfl, h4, ?_⟩
      by_cases hs : Ut.Sc (Ut.vl (a :: t) (Ut.ld 0 (a :: t)) (Ut.ld 0 (a :: t) - 1))
      · exact hs
      · rw [Ut.enc_none _ hs] at h4
        have h5 := congrArg List.length h4
        rw [List.length_take, List.length_cons] at h5
        simp at h5
        omega
    · exact absurd h5 h
theorem enc_head (c : Nat) (h : Ut.Sc c) (h2 : 128 ≤ c) : ∀ b ∈ Ut.enc c, 128 ≤ b.toNat := by
  intro b hb
  have h1 := h.1
  by_cases h3 : c < 2048
  · rw [Ut.enc2 c h2 h3] at hb
    simp only [List.mem_cons, List.not_mem_nil, or_false] at hb
    rcases hb with rfl | rfl
    all_goals rw [Ut.toNat_ofNat _ (by omega)]
    all_goals omega
  · by_cases h4 : c < 65536
    · rw [Ut.enc3 c (by omega) h4 h.2] at hb
      simp only [List.mem_cons, List.not_mem_nil, or_false] at hb
      rcases hb with rfl | rfl | rfl
      all_goals rw [Ut.toNat_ofNat _ (by omega)]
      all_goals omega
    · rw [Ut.enc4 c (by omega) h1] at hb
      simp only [List.mem_cons, List.not_mem_nil, or_false] at hb
      rcases hb with rfl | rfl | rfl | rfl
      all_goals rw [Ut.toNat_ofNat _ (by omega)]
      all_goals omega
/-- A scalar's value beside its first byte. -/
theorem sc_byte (a : UInt8) (t : List UInt8) (h : Ut.ld 0 (a :: t) ≠ 0) : (a.toNat < 128 ∧ (Ut.sc (a :: t)).1 = a.toNat ∧ Ut.ld 0 (a :: t) = 1) ∨ (128 ≤ a.toNat ∧ 128 ≤ (Ut.sc (a :: t)).1) := by
  obtain ⟨h1, h2, h3⟩ := sc_take (a :: t) h
  have h0 : 0 < Ut.ld 0 (a :: t) := by omega
  by_cases ha : a.toNat < 128
  · left
    have e := Ut.ld_byte a t ha
    refine ⟨ha, ?_, e⟩
    show (if Ut.ld 0 (a :: t) = 0 then (0, 0) else (Ut.vl (a :: t) (Ut.ld 0 (a :: t)) (Ut.ld 0 (a :: t) - 1), Ut.ld 0 (a :: t))).1 = _
    rw [if_neg h, e]
    show a.toNat % 128 = _
    omega
  · right
    refine ⟨by omega, ?_⟩
    rcases Nat.lt_or_ge (Ut.sc (a :: t)).1 128 with h4 | h4
    · rw [Ut.enc1 _ h4] at h2
      obtain ⟨j, hj⟩ : ∃ j, Ut.ld 0 (a :: t) = j + 1 := ⟨Ut.ld 0 (a :: t) - 1, by omega⟩
      rw [hj, List.take_succ_cons] at h2
      have h5 := (List.cons.inj h2).1
      have h6 := congrArg UInt8.toNat h5
      rw [Ut.toNat_ofNat _ (by omega)] at h6
      omega
    · exact h4
/-- A character is none, or a unit, or a scalar as it stands, or what a sign says. -/
theorem cr_cases (l : List UInt8) : cr l = (-1, 0) ∨ ∃ c n : Nat, cr l = ((c : Int), n) ∧ 0 < n ∧ n ≤ l.length ∧
    ((n = 6 ∧ c < 65536 ∧ ru l = (c : Int)) ∨ (Ut.Sc c ∧ l.take n = Ut.enc c ∧ 32 ≤ c ∧ c ≠ 34 ∧ c ≠ 92) ∨ (n = 2 ∧ (c = 34 ∨ c = 92 ∨ c = 47 ∨ c = 8 ∨ c = 12 ∨ c = 10 ∨ c = 13 ∨ c = 9))) := by
  match l with
  | [] => exact .inl rfl
  | a :: t =>
    rw [cr_cons]
    by_cases h1 : a.toNat < 32 ∨ a.toNat = 34
    · rw [if_pos h1]
      exact .inl rfl
    rw [if_neg h1]
    by_cases h2 : a.toNat = 92
    · rw [if_pos h2]
      unfold bs
      by_cases h3 : 0 ≤ ru (a :: t)
      · rw [if_pos h3]
        rcases ru_cases (a :: t) with h4 | ⟨h4, h5, h6, _⟩
        · omega
        · exact .inr ⟨(ru (a :: t)).toNat, 6, by rw [Int.toNat_of_nonneg h4], by decide, h6, .inl ⟨rfl, by omega, by rw [Int.toNat_of_nonneg h4]⟩⟩
      · rw [if_neg h3]
        by_cases h4 : 0 ≤ sg ((a :: t).getD 1 0).toNat
        · rw [if_pos h4]
          rcases sg_cases ((a :: t).getD 1 0).toNat with h5 | ⟨_, _, h6, h7⟩
          · omega
          · refine .inr ⟨(sg ((a :: t).getD 1 0).toNat).toNat, 2, by rw [Int.toNat_of_nonneg h4], by decide, getD_len _ h6, .inr (.inr ⟨rfl, by omega⟩)⟩
        · rw [if_neg h4]
          exact .inl rfl
    · rw [if_neg h2]
      by_cases h3 : Ut.ld 0 (a :: t) = 0
      · rw [if_pos h3]
        exact .inl rfl
      · rw [if_neg h3]
        obtain ⟨h4, h5, h6⟩ := sc_take (a :: t) h3
        have h7 : (Ut.sc (a :: t)).2 = Ut.ld 0 (a :: t) := congrArg Prod.snd h4
        have h8 := Ut.ld_le 0 (a :: t)
        have h9 := sc_byte a t h3
        rw [h7]
        exact .inr ⟨(Ut.sc (a :: t)).1, Ut.ld 0 (a :: t), rfl, by omega, h8, .inr (.inl ⟨h6, h5.symm, by omega, by omega, by omega⟩)⟩
/-- What the program asks of a scalar, and the reference of a byte. -/
theorem cr_none (l : List UInt8) (h : Ut.ld 0 l = 0 ∨ (Ut.sc l).1 < 32 ∨ (Ut.sc l).1 = 34) : cr l = (-1, 0) := by
  match l, h with
  | [], _ => rfl
  | a :: t, h =>
    rw [cr_cons]
    by_cases h1 : a.toNat < 32 ∨ a.toNat = 34
    · rw [if_pos h1]
    rw [if_neg h1]
    by_cases h3 : Ut.ld 0 (a :: t) = 0
    · rw [if_pos h3]
      by_cases h2 : a.toNat = 92
      · rw [Ut.ld_byte a t (by omega)] at h3
        cases h3
      · rw [if_neg h2]
    · have := sc_byte a t h3
      omega
theorem cr_sign (l : List UInt8) (h0 : Ut.ld 0 l ≠ 0) (h : (Ut.sc l).1 = 92) : cr l = bs l := by
  match l, h0, h with
  | [], h0, _ => exact absurd rfl h0
  | a :: t, h0, h =>
    have := sc_byte a t h0
    rw [cr_cons, if_neg (by omega), if_pos (by omega)]
theorem cr_plain (l : List UInt8) (h0 : Ut.ld 0 l ≠ 0) (h1 : ¬ (Ut.sc l).1 < 32) (h2 : (Ut.sc l).1 ≠ 34) (h3 : (Ut.sc l).1 ≠ 92) : cr l = ((((Ut.sc l).1 : Nat) : Int), (Ut.sc l).2) := by
  match l, h0, h1, h2, h3 with
  | [], h0, _, _, _ => exact absurd rfl h0
  | a :: t, h0, h1, h2, h3 =>
    have := sc_byte a t h0
    rw [cr_cons, if_neg (by omega), if_neg (by omega), if_neg h0]
/-- A second half is a unit. -/
theorem cr_half (l : List UInt8) (h : 55296 ≤ (cr l).1) (h2 : (cr l).1 ≤ 57343) : cr l = (ru l, 6) := by
  rcases cr_cases l with h3 | ⟨c, n, h3, h4, h5, h6⟩
  · rw [h3] at h
    exact absurd h (by decide)
  · rw [h3] at h h2 ⊢
    simp only [] at h h2
    rcases h6 with ⟨rfl, _, h7⟩ | ⟨h7, _⟩ | ⟨_, h7⟩
    · rw [h7]
    · have := h7.2
      omega
    · omega
theorem cr_unit (l : List UInt8) (h : 0 ≤ ru l) : cr l = (ru l, 6) := by
  rcases ru_cases l with h1 | ⟨_, _, _, t, rfl, _⟩
  · omega
  · rw [cr_cons, if_neg (by decide), if_pos (by decide)]
    unfold bs
    rw [if_pos h]
theorem half_iff (l : List UInt8) : (56320 ≤ (cr l).1 ∧ (cr l).1 ≤ 57343) ↔ (56320 ≤ ru l ∧ ru l ≤ 57343) := by
  constructor
  · rintro ⟨h1, h2⟩
    have := cr_half l (by omega) h2
    rw [this] at h1 h2
    exact ⟨h1, h2⟩
  · rintro ⟨h1, h2⟩
    rw [cr_unit l (by omega)]
    exact ⟨h1, h2⟩
/-- The first scalar of a string's inside, and how many bytes make it; -1 and 0. -/
def so (l : List UInt8) : Int × Nat :=
  if 55296 ≤ (cr l).1 ∧ (cr l).1 ≤ 56319 then
    if 56320 ≤ ru (l.drop 6) ∧ ru (l.drop 6) ≤ 57343 then (65536 + ((cr l).1 - 55296) * 1024 + (ru (l.drop 6) - 56320), 12) else (65533, 6)
  else if 56320 ≤ (cr l).1 ∧ (cr l).1 ≤ 57343 then (65533, 6) else cr l
theorem so_pair (l : List UInt8) (h : 55296 ≤ (cr l).1) (h2 : (cr l).1 ≤ 56319) (h3 : 56320 ≤ ru (l.drop 6)) (h4 : ru (l.drop 6) ≤ 57343) : so l = (65536 + ((cr l).1 - 55296) * 1024 + (ru (l.drop 6) - 56320), 12) := by
  unfold so
  rw [if_pos ⟨h, h2⟩, if_pos ⟨h3, h4⟩]
theorem so_lost (l : List UInt8) (h : 55296 ≤ (cr l).1) (h2 : (cr l).1 ≤ 57343) (h3 : ¬ ((cr l).1 ≤ 56319 ∧ 56320 ≤ ru (l.drop 6) ∧ ru (l.drop 6) ≤ 57343)) : so l = (65533, 6) := by
  unfold so
  by_cases h4 : (cr l).1 ≤ 56319
  · rw [if_pos ⟨h, h4⟩, if_neg (fun h5 => h3 ⟨h4, h5⟩)]
  · rw [if_neg (fun h5 => h4 h5.2), if_pos (by omega)]
theorem so_cr (l : List UInt8) (h : ¬ (55296 ≤ (cr l).1 ∧ (cr l).1 ≤ 57343)) : so l = cr l := by
  unfold so
  rw [if_neg (by omega), if_neg (by omega)]
/-- How a byte is written shortest between two of that mark. -/
def dg (d : Nat) : Nat := if d < 10 then 48 + d else 87 + d
def sh (m b : Nat) : List UInt8 := if b = m ∨ b = 92 then [92, UInt8.ofNat b] else if b = 8 then [92, 98] else if b = 12 then [92, 102] else if b = 10 then [92, 110] else if b = 13 then [92, 114] else if b = 9 then [92, 116] else if b < 32 then [92, 117, 48, 48, UInt8.ofNat (dg (b / 16)), UInt8.ofNat (dg (b % 16))] else [UInt8.ofNat b]
def shs (m : Nat) (l : List UInt8) : List UInt8 := l.flatMap fun b => sh m b.toNat
theorem shs_nil (m : Nat) : shs m [] = [] := rfl
theorem shs_cons (m : Nat) (b : UInt8) (l : List UInt8) : shs m (b :: l) = sh m b.toNat ++ shs m l := List.flatMap_cons ..
theorem shs_append (m : Nat) (l k : List UInt8) : shs m (l ++ k) = shs m l ++ shs m k := List.flatMap_append ..
def qu (m : Nat) (l : List UInt8) : List UInt8 := UInt8.ofNat m :: (shs m l ++ [UInt8.ofNat m])
theorem sh_len (m b : Nat) : 0 < (sh m b).length ∧ (sh m b).length ≤ 6 := by
  unfold sh
  repeat' split
  all_goals simp
theorem sh_high (m : Nat) (b : UInt8) (hm : m < 128) (h : 128 ≤ b.toNat) : sh m b.toNat = [b] := by
  unfold sh
  rw [if_neg (by omega), if_neg (by omega), if_neg (by omega), if_neg (by omega), if_neg (by omega), if_neg (by omega), if_neg (by omega), UInt8.ofNat_toNat]
theorem shs_high (m : Nat) (l : List UInt8) (hm : m < 128) (h : ∀ b ∈ l, 128 ≤ b.toNat) : shs m l = l := by
  induction l with
  | nil => rfl
  | cons b l ih =>
    rw [shs_cons, sh_high m b hm (h b List.mem_cons_self), ih (fun c hc => h c (List.mem_cons_of_mem _ hc))]
    rfl
theorem shs_low (m c : Nat) (h : c < 128) : shs m (Ut.enc c) = sh m c := by
  rw [Ut.enc1 c h, shs_cons, shs_nil, List.append_nil, Ut.toNat_ofNat _ (by omega)]
/-- No scalar is written with more bytes than six, nor than it has been. -/
theorem shs_six (c : Nat) : (shs 34 (Ut.enc c)).length ≤ 6 := by
  by_cases h : Ut.Sc c
  · by_cases h2 : c < 128
    · rw [shs_low 34 c h2]
      exact (sh_len 34 c).2
    · rw [shs_high 34 _ (by decide) (enc_head c h (by omega)), Ut.enc_length c h]
      have := Ut.wid_le c
      omega
  · rw [Ut.enc_none c h]
    exact Nat.zero_le _
theorem so_cases (l : List UInt8) : (so l = (-1, 0) ∧ cr l = (-1, 0)) ∨ ∃ c n : Nat, so l = ((c : Int), n) ∧ 0 < n ∧ n ≤ l.length ∧ Ut.Sc c ∧ (shs 34 (Ut.enc c)).length ≤ n ∧ (cr l).2 ≠ 0 := by
  by_cases h : 55296 ≤ (cr l).1 ∧ (cr l).1 ≤ 57343
  · have h1 := cr_half l h.1 h.2
    rcases ru_cases l with h2 | ⟨_, _, h2, _⟩
    · rw [h1, h2] at h
      exact absurd h.1 (by decide)
    by_cases h3 : (cr l).1 ≤ 56319 ∧ 56320 ≤ ru (l.drop 6) ∧ ru (l.drop 6) ≤ 57343
    · obtain ⟨h3, h4, h5⟩ := h3
      rw [so_pair l h.1 h3 h4 h5]
      rcases ru_cases (l.drop 6) with h6 | ⟨_, _, h6, _⟩
      · omega
      rw [List.length_drop] at h6
      refine .inr ⟨(65536 + ((cr l).1 - 55296) * 1024 + (ru (l.drop 6) - 56320)).toNat, 12, ?_, by decide, by omega, ⟨by omega, by omega⟩, ?_, by rw [h1]; exact Nat.succ_ne_zero 5⟩
      · rw [Int.toNat_of_nonneg (by omega)]
      · have := shs_six (65536 + ((cr l).1 - 55296) * 1024 + (ru (l.drop 6) - 56320)).toNat
        omega
    · rw [so_lost l h.1 h.2 h3]
      exact .inr ⟨65533, 6, rfl, by decide, h2, ⟨by decide, by decide⟩, shs_six _, by rw [h1]; exact Nat.succ_ne_zero 5⟩
  · rw [so_cr l h]
    rcases cr_cases l with h3 | ⟨c, n, h3, h4, h5, h6⟩
    · exact .inl ⟨h3, h3⟩
    · rw [h3] at h ⊢
      simp only [] at h
      have hsc : Ut.Sc c := by
        rcases h6 with ⟨_, h7, _⟩ | ⟨h7, _⟩ | ⟨_, h7⟩
        · exact ⟨by omega, by omega⟩
        · exact h7
        · exact ⟨by omega, by omega⟩
      refine .inr ⟨c, n, rfl, h4, h5, hsc, ?_, by show n ≠ 0; omega⟩
      rcases h6 with ⟨rfl, _, _⟩ | ⟨_, h7, h8, h9, h10⟩ | ⟨rfl, h7⟩
      · exact shs_six c
      · have e := congrArg List.length h7
        rw [List.length_take, Nat.min_eq_left h5] at e
        by_cases h2 : c < 128
        · rw [shs_low 34 c h2]
          unfold sh
          rw [if_neg (by omega), if_neg (by omega), if_neg (by omega), if_neg (by omega), if_neg (by omega), if_neg (by omega), if_neg (by omega)]
          exact h4
        · rw [shs_high 34 _ (by decide) (enc_head c hsc (by omega)), ← e]
          exact Nat.le_refl _
      · rcases h7 with rfl | rfl | rfl | rfl | rfl | rfl | rfl | rfl
        all_goals rw [shs_low 34 _ (by decide)]
        all_goals decide
end Es
end Go.Proofs.Ytjhjkahjljikhaa
