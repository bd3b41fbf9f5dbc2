/-
  What is read of whole numbers as they are written, with noughts behind a point, and with an exponent.
-/
import Derived.Test.YthimbaflodphmaaDoorNuAwake
import Derived.Test.YthimbaflodphmaaDoorNuTx
namespace Go.Proofs.YthimbaflodphmaaDoor
open Go.RowKit
namespace Nu
/-- A whole number's digits: no 0 stands ahead of others. -/
structure Good (l : List UInt8) : Prop where
  digs : ∀ c ∈ l, dig c = true
  pos : 0 < l.length
  led : 1 < l.length → l.head? ≠ some 48
theorem dc_stops {l tl : List UInt8} (hl : ∀ c ∈ l, dig c = true) (ht : dc tl = 0) : dc (l ++ tl) = l.length := by
  rw [dc_digits l tl hl, ht]
  omega
theorem body_good {neg : Bool} {l tl : List UInt8} (h : Good l) (ht : dc tl = 0) :
    body neg (l ++ tl) = if tl.head? = some 46 then
        if dc (tl.drop 1) = 0 then none
        else tail neg l ((tl.drop 1).take (dc (tl.drop 1))) ((tl.drop 1).drop (dc (tl.drop 1)))
      else tail neg l [] tl := by
  have hd := dc_stops h.digs ht
  have hp := h.pos
  have e1 : (l ++ tl).take l.length = l := List.take_left
  have e2 : (l ++ tl).drop l.length = tl := List.drop_left
  have e3 : (l ++ tl).head? = l.head? := by
    cases l with
    | nil => simp at hp
    | cons c m => rfl
  rw [body, hd, e1, e2, e3, if_neg (by omega), if_neg (fun hh => h.led hh.1 hh.2)]
theorem dec_good (u : Nat) : Good (Lib.decDigits u) where
  digs := dec_digs u
  pos := by rw [Lib.decDigits_length]; exact Lib.nDigits_pos u
  led := by
    rw [Lib.decDigits_length]
    intro h1
    have h2 := dec_at u 0 (by omega)
    have h3 := nDigits_le u (Lib.nDigits u - 1) (by omega)
    have h4 : u / 10 ^ (Lib.nDigits u - 1) ≠ 0 := fun e => by
      have := h3.2 e
      omega
    have h5 : u / 10 ^ (Lib.nDigits u - 1) < 10 := by
      have := Lib.lt_pow_nDigits u
      rw [Nat.div_lt_iff_lt_mul (Nat.pow_pos (by omega)), Nat.mul_comm, ← Nat.pow_succ, show (Lib.nDigits u - 1).succ = Lib.nDigits u by omega]
      exact this
    rw [List.head?_eq_getElem?, h2]
    intro e
    have h6 := congrArg UInt8.toNat (Option.some.inj e)
    rw [Nat.sub_zero, Nat.mod_eq_of_lt h5, UInt8.toNat_ofNat'] at h6
    have h7 : (48 : UInt8).toNat = 48 := rfl
    rw [h7] at h6
    obtain ⟨d, hd⟩ : ∃ d, d = u / 10 ^ (Lib.nDigits u - 1) := ⟨_, rfl⟩
    rw [← hd] at h4 h5 h6
    clear h2 h3 hd h7 h1 e
    have h8 : (48 + d) % 2 ^ 8 = 48 + d := Nat.mod_eq_of_lt (by omega)
    omega
theorem good_has {l tl : List UInt8} (h : Good l) (c : UInt8) (hc : dig c = false) : has c (l ++ tl) = false := by
  have hp := h.pos
  cases l with
  | nil => simp at hp
  | cons x m =>
    show (x == c) = false
    rw [beq_eq_false_iff_ne]
    intro e
    have := h.digs x (by simp)
    rw [e, hc] at this
    cases this
theorem read_good {l tl : List UInt8} (h : Good l) : Nu.read (l ++ tl) = body false (l ++ tl) := by
  rw [Nu.read, good_has h 45 rfl, off_not (good_has h 45 rfl)]
theorem read_signed (n : Int) (tl : List UInt8) : Nu.read (txt n ++ tl) = body (decide (n < 0)) (Lib.decDigits n.natAbs ++ tl) := by
  unfold txt
  by_cases hn : n < 0
  · rw [if_pos hn, decide_eq_true hn]
    rfl
  · rw [if_neg hn, decide_eq_false hn, List.nil_append]
    exact read_good (dec_good _)
/-- A whole number with so many noughts behind a point. -/
def noughts (z : Nat) : List UInt8 := if z = 0 then [] else 46 :: List.replicate z 48
theorem zeros_digs (z : Nat) : ∀ c ∈ List.replicate z (48 : UInt8), dig c = true := by
  intro c hc
  obtain ⟨_, rfl⟩ := List.mem_replicate.1 hc
  rfl
theorem read_whole (n : Int) (z : Nat) : Nu.read (txt n ++ noughts z) = some ⟨decide (n < 0), Lib.decDigits n.natAbs, List.replicate z 48, false, []⟩ := by
  rw [read_signed]
  unfold noughts
  by_cases hz : z = 0
  · subst hz
    rw [if_pos rfl, body_good (dec_good _) rfl, if_neg (by simp), tail_nil]
    rfl
  · rw [if_neg hz, body_good (dec_good _) rfl]
    have e1 : (46 :: List.replicate z (48 : UInt8)).head? = some 46 := rfl
    have e2 : (46 :: List.replicate z (48 : UInt8)).drop 1 = List.replicate z 48 := rfl
    have e3 : dc (List.replicate z (48 : UInt8)) = z := by rw [dc_all _ (zeros_digs z), List.length_replicate]
    rw [e1, if_pos rfl, e2, e3, if_neg hz, List.take_of_length_le (by simp), List.drop_eq_nil_of_le (by simp), tail_nil]
theorem key_whole (neg : Bool) (u z : Nat) (hu : u < 10 ^ 19) : Pt.key ⟨neg, Lib.decDigits u, List.replicate z 48, false, []⟩ = 10 * u := by
  have e1 : Pt.n ⟨neg, Lib.decDigits u, List.replicate z 48, false, []⟩ = u * 10 ^ z := by rw [Pt.n, num_pad, num_dec]
  have e2 : Pt.e ⟨neg, Lib.decDigits u, List.replicate z 48, false, []⟩ = 0 - (z : Int) := by simp [Pt.e, num_nil]
  rw [Pt.key, e1, e2, key_shift u z 0 (Int.le_refl 0), key_nat u hu]
theorem whole_whole (n : Int) (z : Nat) (h0 : -9223372036854775808 ≤ n) (h1 : n ≤ 9223372036854775807) :
    wholeZ (Nu.read (txt n ++ noughts z)) = if -9007199254740991 ≤ n ∧ n ≤ 9007199254740991 then (n, true) else (0, false) := by
  rw [read_whole]
  unfold wholeZ
  simp only [key_whole (decide (n < 0)) n.natAbs z (by omega)]
  by_cases hin : -9007199254740991 ≤ n ∧ n ≤ 9007199254740991
  · rw [if_pos hin, if_neg (by omega)]
    have e : 10 * n.natAbs / 10 = n.natAbs := by omega
    rw [e]
    by_cases hn : n < 0
    · rw [if_pos (decide_eq_true hn)]
      congr 1
      omega
    · rw [if_neg (by simpa using hn)]
      congr 1
      omega
  · rw [if_neg hin, if_pos (.inr (by omega))]
theorem cmp_whole (n m : Int) (z : Nat) (h0 : -9223372036854775808 ≤ n) (h1 : n ≤ 9223372036854775807) : cmpZ m (Nu.read (txt n ++ noughts z)) = cmp3 n m := by
  rw [read_whole]
  show cmp3 (Pt.val _) (10 * m) = _
  rw [Pt.val]
  simp only [key_whole (decide (n < 0)) n.natAbs z (by omega)]
  have e : (if decide (n < 0) = true then -((10 * n.natAbs : Nat) : Int) else ((10 * n.natAbs : Nat) : Int)) = 10 * n := by
    by_cases hn : n < 0
    · rw [if_pos (decide_eq_true hn)]
      omega
    · rw [if_neg (by simpa using hn)]
      omega
  rw [e]
  unfold cmp3
  split <;> split <;> (try split) <;> (try split) <;> omega
/-- Digits alone; and with an exponent. -/
theorem read_digs {l : List UInt8} (h : Good l) : Nu.read l = some ⟨false, l, [], false, []⟩ := by
  have := read_good (tl := []) h
  rw [List.append_nil] at this
  rw [this]
  have h2 := body_good (neg := false) (tl := []) h rfl
  rw [List.append_nil] at h2
  rw [h2, if_neg (by simp), tail_nil]
theorem dec_expo (neg : Bool) (wh fr : List UInt8) (m : Nat) : expo neg wh fr (Lib.decDigits m) = some ⟨neg, wh, fr, false, Lib.decDigits m⟩ ∧ expo neg wh fr (45 :: Lib.decDigits m) = some ⟨neg, wh, fr, true, Lib.decDigits m⟩ ∧ expo neg wh fr (43 :: Lib.decDigits m) = some ⟨neg, wh, fr, false, Lib.decDigits m⟩ := by
  have hg := dec_good m
  have h45 := good_has (tl := []) hg 45 rfl
  have h43 := good_has (tl := []) hg 43 rfl
  rw [List.append_nil] at h45 h43
  have hdc := dc_all _ hg.digs
  have hp := hg.pos
  have hdr : (Lib.decDigits m).drop (Lib.decDigits m).length = [] := List.drop_eq_nil_of_le (Nat.le_refl _)
  refine ⟨?_, ?_, ?_⟩
  · have e : (if has 45 (Lib.decDigits m) = true then off 45 (Lib.decDigits m) else off 43 (Lib.decDigits m)) = Lib.decDigits m := by
      rw [h45, if_neg (by simp), off_not h43]
    unfold expo
    rw [e, hdc, if_neg (by omega), hdr, if_pos rfl, h45]
  · have e : (if has 45 (45 :: Lib.decDigits m) = true then off 45 (45 :: Lib.decDigits m) else off 43 (45 :: Lib.decDigits m)) = Lib.decDigits m := rfl
    unfold expo
    rw [e, hdc, if_neg (by omega), hdr, if_pos rfl]
    rfl
  · have e : (if has 45 (43 :: Lib.decDigits m) = true then off 45 (43 :: Lib.decDigits m) else off 43 (43 :: Lib.decDigits m)) = Lib.decDigits m := rfl
    unfold expo
    rw [e, hdc, if_neg (by omega), hdr, if_pos rfl]
    rfl
theorem read_expo {l : List UInt8} (h : Good l) (m : Nat) : Nu.read (l ++ (101 :: Lib.decDigits m)) = some ⟨false, l, [], false, Lib.decDigits m⟩ ∧ Nu.read (l ++ (101 :: 45 :: Lib.decDigits m)) = some ⟨false, l, [], true, Lib.decDigits m⟩ ∧ Nu.read (l ++ (69 :: 43 :: Lib.decDigits m)) = some ⟨false, l, [], false, Lib.decDigits m⟩ := by
  obtain ⟨h1, h2, h3⟩ := dec_expo false l [] m
  refine ⟨?_, ?_, ?_⟩
  · rw [read_good h, body_good h rfl, if_neg (by simp), tail_e _ _ _ _ _ (.inl rfl), h1]
  · rw [read_good h, body_good h rfl, if_neg (by simp), tail_e _ _ _ _ _ (.inl rfl), h2]
  · rw [read_good h, body_good h rfl, if_neg (by simp), tail_e _ _ _ _ _ (.inr rfl), h3]
/-- What is told depends on the sign and the key alone. -/
theorem whole_key {p q : Pt} (h1 : p.neg = q.neg) (h2 : p.key = q.key) : wholeZ (some p) = wholeZ (some q) := by
  unfold wholeZ
  simp only [h1, h2]
theorem cmp_key {p q : Pt} (h1 : p.neg = q.neg) (h2 : p.key = q.key) (n : Int) : cmpZ n (some p) = cmpZ n (some q) := by
  show cmp3 _ _ = cmp3 _ _
  rw [Pt.val, Pt.val, h1, h2]
theorem key_plain (l : List UInt8) : Pt.key ⟨false, l, [], false, []⟩ = key (num l) 0 := by
  rw [Pt.key, Pt.n, List.append_nil]
  rfl
theorem key_expo (l : List UInt8) (en : Bool) (m : Nat) : Pt.key ⟨false, l, [], en, Lib.decDigits m⟩ = key (num l) (if en then -(m : Int) else (m : Int)) := by
  rw [Pt.key, Pt.n, List.append_nil, Pt.e, num_dec]
  simp
theorem good_more {l : List UInt8} (h : Good l) (h48 : l.head? ≠ some 48) (k : Nat) : Good (l ++ List.replicate k 48) where
  digs := fun c hc => (List.mem_append.1 hc).elim (h.digs c) (zeros_digs k c)
  pos := by rw [List.length_append]; have := h.pos; omega
  led := fun _ => by
    have hp := h.pos
    cases l with
    | nil => simp at hp
    | cons c m => exact h48
/-- So many noughts more, and an exponent that takes them back. -/
theorem moves {l : List UInt8} (h : Good l) (h48 : l.head? ≠ some 48) (k : Nat) (n : Int) :
    wholeZ (Nu.read ((l ++ List.replicate k 48) ++ (101 :: 45 :: Lib.decDigits k))) = wholeZ (Nu.read l) ∧
    cmpZ n (Nu.read ((l ++ List.replicate k 48) ++ (101 :: 45 :: Lib.decDigits k))) = cmpZ n (Nu.read l) ∧
    cmpZ n (Nu.read (l ++ (69 :: 43 :: Lib.decDigits k))) = cmpZ n (Nu.read (l ++ List.replicate k 48)) ∧
    cmpZ n (Nu.read (l ++ (101 :: Lib.decDigits k))) = cmpZ n (Nu.read (l ++ List.replicate k 48)) := by
  have hm := good_more h h48 k
  have k1 : key (num (l ++ List.replicate k 48)) (-(k : Int)) = key (num l) 0 := by
    rw [num_pad, ← key_shift (num l) k 0 (Int.le_refl 0), Int.zero_sub]
  have k2 : key (num (l ++ List.replicate k 48)) 0 = key (num l) (k : Int) := by
    rw [num_pad, ← key_shift (num l) k (k : Int) (by omega), Int.sub_self]
  rw [(read_expo hm k).2.1, (read_expo h k).2.2, (read_expo h k).1, read_digs h, read_digs hm]
  refine ⟨whole_key ?_ ?_, cmp_key ?_ ?_ n, cmp_key ?_ ?_ n, cmp_key ?_ ?_ n⟩
  · rfl
  · rw [key_expo, key_plain, if_pos rfl, k1]
  · rfl
  · rw [key_expo, key_plain, if_pos rfl, k1]
  · rfl
  · rw [key_expo, key_plain, if_neg (by simp), k2]
  · rfl
  · rw [key_expo, key_plain, if_neg (by simp), k2]
end Nu
end Go.Proofs.YthimbaflodphmaaDoor
