/-
  The contracts of a sequence's Len, Bound, number, Get, ahead and halve, and of lowest and join of package fano.
-/
import Derived.Test.YtfohldojcdhnhaaDoorFnMake
namespace Go.Proofs.YtfohldojcdhnhaaDoor
open Go.RowKit
theorem bits_or_i64_nat (a b : Nat) (ha : a < 9223372036854775808) (hb : b < 9223372036854775808) :
    bits .or .i64 (a : Int) (b : Int) = ((a ||| b : Nat) : Int) := by
  have hx : a ||| b < 2 ^ 63 := Nat.or_lt_two_pow (by omega) (by omega)
  have h1 : (BitVec.ofInt 64 (a : Int)).toNat = a := by
    rw [BitVec.ofInt_natCast, BitVec.toNat_ofNat]; exact Nat.mod_eq_of_lt (by omega)
  have h2 : (BitVec.ofInt 64 (b : Int)).toNat = b := by
    rw [BitVec.ofInt_natCast, BitVec.toNat_ofNat]; exact Nat.mod_eq_of_lt (by omega)
  show IntKind.i64.wrap ((BitVec.ofInt 64 (a : Int) ||| BitVec.ofInt 64 (b : Int)).toNat : Int) = _
  rw [BitVec.toNat_or, h1, h2, IntKind.wrap_i64]
  omega
theorem Fn.or_join (H L W : Nat) (hL : L < 2 ^ W) : H * 2 ^ W ||| L = H * 2 ^ W + L := by
  have := Nat.two_pow_add_eq_or_of_lt hL H
  rw [Nat.mul_comm H]
  exact this.symm
set_option maxHeartbeats 400000 in
theorem SLen_any (s u : Nat) (l : List Nat) (q : Fn.Q) (w : World) (h : Sq w s l u q) :
    Calls Tryd.prog 14 #[.pointer (some ⟨s, 0, none⟩)] w fun e w' => e = .returned (.int .i64 (l.length : Nat)) ∧ w' = w := by
  have c0 := h.cell0
  go_enter Tryd.func14, Tryd.ntmps14
  go_wp2
  go_ret
  exact ⟨rfl, rfl⟩
set_option maxHeartbeats 400000 in
theorem SBound_any (s u : Nat) (l : List Nat) (q : Fn.Q) (w : World) (h : Sq w s l u q) :
    Calls Tryd.prog 15 #[.pointer (some ⟨s, 0, none⟩)] w fun e w' => e = .returned (.int .i64 (u : Nat)) ∧ w' = w := by
  have c0 := h.cell1
  go_enter Tryd.func15, Tryd.ntmps15
  go_wp2
  go_ret
  exact ⟨rfl, rfl⟩
set_option maxHeartbeats 400000 in
theorem lowest_any (r m X i W : Nat) (u : Value) (w : World) (h : Rw w r m X u) (hW : W ≤ 40) (hle : i * W + W ≤ m) :
    Calls Tryd.prog 66 #[.pointer (some ⟨r, 0, none⟩), .int .i64 (i : Nat), .int .i64 (W : Nat)] w fun e w' => e = .returned (.int .i64 ((Bt.fd X (i * W) W : Nat) : Int)) ∧ w' = w := by
  obtain ⟨P, hP⟩ : ∃ P, P = i * W := ⟨_, rfl⟩
  have hP2 : (i : Int) * (W : Int) = (P : Int) := by rw [hP]; exact (Int.natCast_mul _ _).symm
  rw [← hP] at hle ⊢
  have hm := h.len
  have HR := hidden (RField_in r m X P W u w h (by omega) (by omega))
  have hf : Bt.fd X P W < 1099511627777 := Nat.lt_of_lt_of_le (Bt.fd_lt X P W) (Nat.le_trans (Nat.pow_le_pow_right (by decide) hW) (by decide))
  generalize Bt.fd X P W = F at *
  clear hP h
  have hf2 : IntKind.i64.wrap (F : Int) = (F : Int) := by rw [IntKind.wrap_i64]; omega
  go_enter Tryd.func66, Tryd.ntmps66
  go_wp2_with fail
  refine (HR.out).mono ?_
  rintro e' w1 ⟨rfl, rfl⟩
  go_wp2_with fail
  go_ret
  exact ⟨rfl, rfl⟩
set_option maxHeartbeats 400000 in
theorem join_any (H L W : Nat) (w : World) (hL : L < 2 ^ W) (hW : W ≤ 40) (hH : H * 2 ^ W + L < 4611686018427387904) :
    Calls Tryd.prog 65 #[.int .i64 (H : Nat), .int .i64 (L : Nat), .int .i64 (W : Nat)] w fun e w' => e = .returned (.int .i64 ((H * 2 ^ W + L : Nat) : Int)) ∧ w' = w := by
  obtain ⟨P, hP⟩ : ∃ P, P = H * 2 ^ W := ⟨_, rfl⟩
  have hP2 : (H : Int) * 2 ^ W = (P : Int) := by rw [hP]; push_cast; rfl
  have ho := bits_or_i64_nat P L (by omega) (by omega)
  have hor : P ||| L = P + L := by rw [hP]; exact Fn.or_join H L W hL
  rw [hor] at ho
  rw [← hP] at hH ⊢
  have hP3 : IntKind.i64.wrap (P : Int) = (P : Int) := by rw [IntKind.wrap_i64]; omega
  clear hP hor hL
  go_enter Tryd.func65, Tryd.ntmps65
  go_wp2_with fail
  go_ret
  exact ⟨ret_int (by omega), rfl⟩
/-- The i-th number, as it is put together from its high part. -/
theorem Fn.low_fd {l : List Nat} {u i : Nat} (hi : i < l.length) : Bt.fd (Bt.num (Fn.lowB l u)) (i * Fn.wdt l.length u) (Fn.wdt l.length u) = l.getD i 0 % 2 ^ Fn.wdt l.length u := Fn.low_field l u i hi
set_option maxHeartbeats 1000000 in
theorem number_any (s u i H : Nat) (z : Int) (l : List Nat) (q : Fn.Q) (w : World) (h : Sq w s l u q) (hi : i < l.length) (hz : z = (H : Int)) (hH : H = l.getD i 0 / 2 ^ Fn.wdt l.length u) :
    Calls Tryd.prog 37 #[.pointer (some ⟨s, 0, none⟩), .int .i64 z, .int .i64 (i : Nat)] w fun e w' => e = .returned (.int .i64 ((l.getD i 0 : Nat) : Int)) ∧ ∃ m, w' = w.drewN m := by
  subst hz
  have c2 := h.cell2
  have c3 := h.cell3
  have hn := h.ok.len
  have hW := Fn.wdt_le (n := l.length) (u := u) (by have := h.ok.le; omega)
  have hx := h.ok.lt i hi
  have hu := h.ok.le
  have hlow : i * Fn.wdt l.length u + Fn.wdt l.length u ≤ (Fn.lowB l u).length := by
    rw [Fn.lowB_length]
    unfold Fn.lows
    have : (i + 1) * Fn.wdt l.length u ≤ l.length * Fn.wdt l.length u := Nat.mul_le_mul_right _ hi
    rw [Nat.add_mul, Nat.one_mul] at this
    exact this
  have HL := hidden (fun m => lowest_any q.low _ _ i (Fn.wdt l.length u) q.u0 (w.drewN m) (h.low.drewN m) hW hlow)
  rw [Fn.low_fd hi] at HL
  have he := Fn.join_eq (l.getD i 0) (Fn.wdt l.length u)
  have HJ := hidden (fun w => join_any H (l.getD i 0 % 2 ^ Fn.wdt l.length u) (Fn.wdt l.length u) w (Nat.mod_lt _ (Nat.two_pow_pos _)) hW (by rw [hH]; omega))
  rw [hH, he, ← hH] at HJ
  generalize Fn.wdt l.length u = W at *
  generalize l.getD i 0 % 2 ^ W = R at *
  generalize l.getD i 0 = x at *
  clear h hlow he hH
  go_enter Tryd.func37, Tryd.ntmps37
  go_wp2_with fail
  go_quiet (first
    | (go_at_call 66; exact Calls.quiet_of_same (HL.out _))
    | (go_at_call 65; exact Calls.quiet_of_same (HJ.out _)))
  go_wp2_with fail
  go_ret
  exact ⟨rfl, nq, rfl⟩
theorem Sq.one {w : World} {s u : Nat} {l : List Nat} {q : Fn.Q} (h : Sq w s l u q) {i : Nat} (hi : i < l.length) : Ck.At (Bt.num (Fn.HB l u)) (Fn.HB l u).length i (Fn.pc l (Fn.wdt l.length u) i) := by
  rw [Fn.HB_some (by omega), h.ok.high_length]
  exact h.ok.one_at hi
theorem Sq.ones {w : World} {s u : Nat} {l : List Nat} {q : Fn.Q} (h : Sq w s l u q) : Wd.ones (Bt.num (Fn.HB l u)) (Fn.HB l u).length = l.length := by
  rcases Nat.eq_zero_or_pos l.length with h0 | h0
  · rw [Fn.HB_none h0, h0]
    rfl
  · rw [Fn.HB_some h0, h.ok.high_length]
    exact h.ok.ones_all
set_option maxHeartbeats 1000000 in
theorem SGet_in (s u i : Nat) (z : Int) (l : List Nat) (q : Fn.Q) (w : World) (h : Sq w s l u q) (hT : Tab w) (hi : i < l.length) (hz : z = (i : Int)) :
    Calls Tryd.prog 16 #[.pointer (some ⟨s, 0, none⟩), .int .i64 z] w fun e w' => e = .returned (.tuple #[.int .i64 ((l.getD i 0 : Nat) : Int), .int .i64 0]) ∧ Below w.heap.size w w' := by
  subst hz
  have c5 := h.cell5
  have HS := hidden h
  have hn := h.ok.len
  have hu := h.ok.le
  have HC := hidden (COne_at _ _ _ _ _ _ _ _ i _ _ w h.ch hT (h.one hi))
  have hx := h.ok.lt i hi
  have hpx : l.getD i 0 / 2 ^ Fn.wdt l.length u ≤ l.getD i 0 := Nat.div_le_self _ _
  have hpc : Fn.pc l (Fn.wdt l.length u) i = i + l.getD i 0 / 2 ^ Fn.wdt l.length u := rfl
  have HH : Hid (∃ H, H = l.getD i 0 / 2 ^ Fn.wdt l.length u) := ⟨_, rfl⟩
  obtain ⟨H, hH⟩ := HH.out
  rw [← hH] at hpc hpx
  have HHH := hidden hH
  generalize Fn.pc l (Fn.wdt l.length u) i = p at *
  obtain ⟨x, hx0⟩ : ∃ x, x = l.getD i 0 := ⟨_, rfl⟩
  rw [← hx0] at hx hpx ⊢
  have HX0 := hidden hx0
  clear hH h hT hx0
  go_enter Tryd.func16, Tryd.ntmps16
  go_wp2_with fail
  refine (HC.out).mono ?_
  rintro e' w1 ⟨rfl, hb1⟩
  have HB1 := hidden hb1
  have HS1 := hidden (HS.out.below hb1 (Nat.le_refl _))
  clear hb1
  go_wp2_with fail
  refine (number_any s u i H _ l q w1 HS1.out hi (by omega) HHH.out).mono ?_
  rintro e' w2 ⟨rfl, m, rfl⟩
  rw [← HX0.out]
  go_wp2_with fail
  go_ret2
  exact ⟨rfl, below_drewN HB1.out m⟩
set_option maxHeartbeats 1000000 in
theorem SGet_out (s u : Nat) (i : Int) (l : List Nat) (q : Fn.Q) (w : World) (h : Sq w s l u q) (hi : i < 0 ∨ (l.length : Int) ≤ i) :
    Calls Tryd.prog 16 #[.pointer (some ⟨s, 0, none⟩), .int .i64 i] w fun e w' => e = .returned (.tuple #[.int .i64 0, .int .i64 2]) ∧ Below w.heap.size w w' := by
  have c5 := h.cell5
  have HC := hidden (COne_none _ _ _ _ _ _ _ _ i _ w h.ch (by rw [h.ones]; exact hi))
  clear h hi
  go_enter Tryd.func16, Tryd.ntmps16
  go_wp2_with fail
  refine (HC.out).mono ?_
  rintro e' w1 ⟨rfl, hb1⟩
  have HB1 := hidden hb1
  clear hb1
  go_wp2_with fail
  go_ret2
  exact ⟨rfl, HB1.out⟩
set_option maxHeartbeats 1000000 in
theorem ahead_seq (s u k : Nat) (z : Int) (l : List Nat) (q : Fn.Q) (w : World) (h : Sq w s l u q) (hT : Tab w) (h0 : 0 < l.length) (hk : k ≤ Fn.top l.length u + 1) (hz : z = (k : Int)) :
    Calls Tryd.prog 67 #[.pointer (some ⟨s, 0, none⟩), .int .i64 z] w fun e w' => e = .returned (.int .i64 ((Fn.ah l (Fn.wdt l.length u) k : Nat) : Int)) ∧ Below w.heap.size w w' := by
  subst hz
  have c5 := h.cell5
  have hn := h.ok.len
  have hu := h.ok.le
  cases k with
  | zero =>
    rw [Fn.ah_zero h.ok.up]
    clear h
    go_enter Tryd.func67, Tryd.ntmps67
    go_wp2_with fail
    go_ret
    exact ⟨rfl, Below.refl _ _⟩
  | succ k =>
    have hA := h.ok.ahead_at (k := k) (by omega)
    rw [← h.ok.high_length, ← Fn.HB_some (u := u) h0] at hA
    have HC := hidden (CZero_at _ _ _ _ _ _ _ _ k _ _ w h.ch hT hA)
    have ht := Fn.top_lt h0 (show u < 2 ^ 64 by omega)
    have hah := Fn.ah_le l (Fn.wdt l.length u) (k + 1)
    generalize Fn.ah l (Fn.wdt l.length u) (k + 1) = c at *
    have hk2 : k < 33554432 := by omega
    clear h hA ht
    have hne : (((k + 1 : Nat) : Int) == 0) = false := by simp; omega
    have hk3 : ((k + 1 : Nat) : Int) - 1 = (k : Int) := by omega
    go_enter Tryd.func67, Tryd.ntmps67
    go_wp2_with fail
    refine (HC.out).mono ?_
    rintro e' w1 ⟨rfl, hb1⟩
    have HB1 := hidden hb1
    clear hb1
    go_wp2_with fail
    go_ret
    exact ⟨ret_int (by omega), HB1.out⟩
end Go.Proofs.YtfohldojcdhnhaaDoor
