/-
  The contracts of the reference's functions of layer 6 (the package laceworkref06), for every list of bits; nothing in memory is changed.
-/
import Derived.Test.YtdjhpfojbnikdaaPnMath
import Derived.Test.YtdjhpfojbnikdaaBtList
namespace Go.Proofs.Ytdjhpfojbnikdaa
open Go.RowKit
theorem Pn.exc_bit (L : List Bool) (f i : Nat) (o : Bool) (ho : o = L.getD (f + i) false) : Wd.exc (Bt.num L / 2 ^ f) (i + 1) = if o then Wd.exc (Bt.num L / 2 ^ f) i + 1 else Wd.exc (Bt.num L / 2 ^ f) i - 1 := by
  rw [Wd.exc_succ, Wd.bt_div, Bt.bt_num, ← ho]
  cases o
  · simp only [Bool.toNat_false, Bool.false_eq_true, if_false]; omega
  · simp only [Bool.toNat_true, if_true]; omega
theorem Pn.exc_bit_rv (L : List Bool) (g i : Nat) (o : Bool) (hi : i < g) (ho : o = L.getD (g - 1 - i) false) : Wd.exc (Pn.rv (Bt.num L) g) (i + 1) = if o then Wd.exc (Pn.rv (Bt.num L) g) i + 1 else Wd.exc (Pn.rv (Bt.num L) g) i - 1 := by
  rw [Wd.exc_succ, Pn.bt_rv, if_pos hi, Bt.bt_num, ← ho]
  cases o
  · simp only [Bool.toNat_false, Bool.false_eq_true, if_false]; omega
  · simp only [Bool.toNat_true, if_true]; omega
set_option maxHeartbeats 400000 in
theorem rEnds_any (L : List Bool) (v : Value) (a t : Int) (w : World) (h : Bv w v L) :
    Calls Try.prog 37 #[v, .int .i64 a, .int .i64 t] w fun e w' => e = .returned (.tuple #[.int .i64 (Pn.fr L.length a : Nat), .int .i64 (Pn.to L.length a t : Nat)]) ∧ w' = w := by
  have h1 := Pn.fr_cast L.length a
  have h2 := Pn.to_cast L.length a t
  obtain ⟨ao, cap, rfl, hcap, hc⟩ := h
  generalize Pn.fr L.length a = f at *
  generalize Pn.to L.length a t = g at *
  clear hc
  go_enter Try.func37, Try.ntmps37
  go_wp2
  go_ret2
  exact ⟨rfl, rfl⟩
set_option maxHeartbeats 1000000 in
theorem rPExcess_any (L : List Bool) (v : Value) (a t : Int) (w : World) (h : Bv w v L) (hL : L.length ≤ 4294967296) :
    Calls Try.prog 16 #[v, .int .i64 a, .int .i64 t] w fun e w' => e = .returned (.int .i64 (Wd.exc (Bt.num L / 2 ^ Pn.fr L.length a) (Pn.to L.length a t - Pn.fr L.length a))) ∧ w' = w := by
  obtain ⟨hA, hB⟩ := Pn.fr_to L.length a t
  have HE := hidden (rEnds_any L v a t w h)
  generalize Pn.fr L.length a = f at *
  generalize Pn.to L.length a t = g at *
  obtain ⟨ao, cap, rfl, hcap, hc⟩ := h
  have HC := hidden hc
  clear hc
  go_enter Try.func16, Try.ntmps16
  go_wp2_with fail
  refine HE.out.mono ?_
  rintro e1 w1 ⟨rfl, rfl⟩
  go_wp2_with fail
  go_loopw [9, 10] (fun s9 s10 wr => ∃ i : Nat, i ≤ g - f ∧ s9 = .int .i64 (Wd.exc (Bt.num L / 2 ^ f) i) ∧ s10 = .int .i64 ((f + i : Nat) : Int) ∧ wr = w1) (fun _ s10 _ => g - (intOf s10).toNat)
  case atStart => exact ⟨0, by omega, rfl, rfl, rfl⟩
  case round =>
    obtain ⟨i, hi, rfl, rfl, rfl⟩ := hrel
    by_cases hlt : i < g - f
    · obtain ⟨b, off, rfl, hb, hcell⟩ := HC.out (by omega)
      have he := Wd.exc_bounds (Bt.num L / 2 ^ f) i
      have c0 := hcell (f + i) (by omega)
      obtain ⟨o, ho⟩ : ∃ o, o = L.getD (f + i) false := ⟨_, rfl⟩
      have hs := Pn.exc_bit L f i o ho
      rw [← ho] at c0
      have hq1 : f + i < g := by omega
      have hq2 : f + i < L.length := by omega
      obtain ⟨q, hq⟩ : ∃ q, q = f + i := ⟨_, rfl⟩
      rw [← hq] at c0 hq1 hq2 ⊢
      obtain ⟨E, hE⟩ : ∃ E, E = Wd.exc (Bt.num L / 2 ^ f) i := ⟨_, rfl⟩
      rw [← hE] at he hs ⊢
      have hb2 : -4294967296 ≤ E ∧ E ≤ 4294967296 := by omega
      have HS := hidden hs
      have HQ := hidden hq
      clear hcell hs ho hq hE he
      cases o
      · go_wp2_with fail
        go_roundw
        case rel => exact ⟨i + 1, by omega, by rw [HS.out]; rfl, by have := HQ.out; go_num, trivial⟩
        case measure => simp [intOf]; omega
      · go_wp2_with fail
        go_roundw
        case rel => exact ⟨i + 1, by omega, by rw [HS.out]; rfl, by have := HQ.out; go_num, trivial⟩
        case measure => simp [intOf]; omega
    · obtain rfl : i = g - f := by omega
      have hq1 : g ≤ f + (g - f) := by omega
      obtain ⟨q, hq⟩ : ∃ q, q = f + (g - f) := ⟨_, rfl⟩
      rw [← hq] at hq1 ⊢
      clear hq
      go_wp2_with fail
      go_ret
      exact ⟨rfl, rfl⟩
set_option maxHeartbeats 1000000 in
theorem rForth_any (L : List Bool) (v : Value) (a t d : Int) (w : World) (h : Bv w v L) (hL : L.length ≤ 4294967296) :
    Calls Try.prog 33 #[v, .int .i64 a, .int .i64 t, .int .i64 d] w fun e w' => e = .returned (.int .i64 (Pn.forth (Bt.num L) (Pn.fr L.length a) (Pn.to L.length a t) d)) ∧ w' = w := by
  obtain ⟨hA, hB⟩ := Pn.fr_to L.length a t
  have HE := hidden (rEnds_any L v a t w h)
  generalize Pn.fr L.length a = f at *
  generalize Pn.to L.length a t = g at *
  obtain ⟨ao, cap, rfl, hcap, hc⟩ := h
  have HC := hidden hc
  clear hc
  go_enter Try.func33, Try.ntmps33
  go_wp2_with fail
  refine HE.out.mono ?_
  rintro e1 w1 ⟨rfl, rfl⟩
  go_wp2_with fail
  go_loopw [11, 12] (fun s9 s10 wr => ∃ i : Nat, i ≤ g - f ∧ s9 = .int .i64 (Wd.exc (Bt.num L / 2 ^ f) i) ∧ s10 = .int .i64 ((f + i : Nat) : Int) ∧ Hid (Pn.Unmet (Bt.num L / 2 ^ f) d i) ∧ wr = w1) (fun _ s10 _ => g - (intOf s10).toNat)
  case atStart => exact ⟨0, by omega, rfl, rfl, Pn.Unmet.zero _ _, rfl⟩
  case round =>
    obtain ⟨i, hi, rfl, rfl, HU, rfl⟩ := hrel
    by_cases hlt : i < g - f
    · obtain ⟨b, off, rfl, hb, hcell⟩ := HC.out (by omega)
      have he := Wd.exc_bounds (Bt.num L / 2 ^ f) i
      have c0 := hcell (f + i) (by omega)
      obtain ⟨o, ho⟩ : ∃ o, o = L.getD (f + i) false := ⟨_, rfl⟩
      have hs := Pn.exc_bit L f i o ho
      rw [← ho] at c0
      have hq1 : f + i < g := by omega
      have hq2 : f + i < L.length := by omega
      obtain ⟨q, hq⟩ : ∃ q, q = f + i := ⟨_, rfl⟩
      rw [← hq] at c0 hq1 hq2 ⊢
      obtain ⟨E, hE⟩ : ∃ E, E = Wd.exc (Bt.num L / 2 ^ f) i := ⟨_, rfl⟩
      rw [← hE] at he hs ⊢
      have hb2 : -4294967296 ≤ E ∧ E ≤ 4294967296 := by omega
      by_cases hd : Wd.exc (Bt.num L / 2 ^ f) (i + 1) = d
      · have HR : Hid (Pn.forth (Bt.num L) f g d = (q : Int)) := by
          have e : Wd.find (Bt.num L / 2 ^ f) (g - f) d = i + 1 := Wd.find_eq (.inl ⟨by omega, by omega, hd, fun j j1 j2 => HU.out j j1 (by omega)⟩)
          show _ = _
          unfold Pn.forth
          rw [e, if_neg (by omega)]
          omega
        rw [hs] at hd
        clear hcell hs ho hq hE he
        cases o
        · have hz : ((E - 1) == d) = true := by simpa using hd
          clear hd
          go_wp2_with fail
          go_ret
          exact ⟨ret_int HR.out.symm, rfl⟩
        · have hz : ((E + 1) == d) = true := by simpa using hd
          clear hd
          go_wp2_with fail
          go_ret
          exact ⟨ret_int HR.out.symm, rfl⟩
      · have HU2 : Hid (Pn.Unmet (Bt.num L / 2 ^ f) d (i + 1)) := fun j j1 j2 => by
          by_cases e : j = i + 1
          · subst e; exact hd
          · exact HU.out j j1 (by omega)
        rw [hs] at hd
        have HS := hidden hs
        have HQ := hidden hq
        clear hcell hs ho hq hE he
        cases o
        · have hz : ((E - 1) == d) = false := by simpa using hd
          clear hd
          go_wp2_with fail
          go_roundw
          case rel => exact ⟨i + 1, by omega, by rw [HS.out]; rfl, by have := HQ.out; go_num, HU2, trivial⟩
          case measure => simp [intOf]; omega
        · have hz : ((E + 1) == d) = false := by simpa using hd
          clear hd
          go_wp2_with fail
          go_roundw
          case rel => exact ⟨i + 1, by omega, by rw [HS.out]; rfl, by have := HQ.out; go_num, HU2, trivial⟩
          case measure => simp [intOf]; omega
    · obtain rfl : i = g - f := by omega
      have HR : Hid (Pn.forth (Bt.num L) f g d = -1) := by
        show _ = _
        unfold Pn.forth
        rw [HU.out.none, if_pos rfl]
      have hq1 : g ≤ f + (g - f) := by omega
      obtain ⟨q, hq⟩ : ∃ q, q = f + (g - f) := ⟨_, rfl⟩
      rw [← hq] at hq1 ⊢
      clear hq
      go_wp2_with fail
      go_ret
      exact ⟨ret_int HR.out.symm, rfl⟩
set_option maxHeartbeats 1000000 in
theorem rBack_any (L : List Bool) (v : Value) (a t d : Int) (w : World) (h : Bv w v L) (hL : L.length ≤ 4294967296) :
    Calls Try.prog 36 #[v, .int .i64 a, .int .i64 t, .int .i64 d] w fun e w' => e = .returned (.int .i64 (Pn.back (Bt.num L) (Pn.fr L.length a) (Pn.to L.length a t) d)) ∧ w' = w := by
  obtain ⟨hA, hB⟩ := Pn.fr_to L.length a t
  have HE := hidden (rEnds_any L v a t w h)
  generalize Pn.fr L.length a = f at *
  generalize Pn.to L.length a t = g at *
  obtain ⟨ao, cap, rfl, hcap, hc⟩ := h
  have HC := hidden hc
  clear hc
  go_enter Try.func36, Try.ntmps36
  go_wp2_with fail
  refine HE.out.mono ?_
  rintro e1 w1 ⟨rfl, rfl⟩
  go_wp2_with fail
  go_loopw [11, 12] (fun s9 s10 wr => ∃ i : Nat, i ≤ g - f ∧ s9 = .int .i64 (Wd.exc (Pn.rv (Bt.num L) g) i) ∧ s10 = .int .i64 ((g : Int) - 1 - (i : Int)) ∧ Hid (Pn.Unmet (Pn.rv (Bt.num L) g) d i) ∧ wr = w1) (fun _ s10 _ => (intOf s10 + 1).toNat)
  case atStart => exact ⟨0, by omega, rfl, by go_num, Pn.Unmet.zero _ _, rfl⟩
  case round =>
    obtain ⟨i, hi, rfl, rfl, HU, rfl⟩ := hrel
    by_cases hlt : i < g - f
    · obtain ⟨b, off, rfl, hb, hcell⟩ := HC.out (by omega)
      have he := Wd.exc_bounds (Pn.rv (Bt.num L) g) i
      have c0 := hcell (g - 1 - i) (by omega)
      obtain ⟨o, ho⟩ : ∃ o, o = L.getD (g - 1 - i) false := ⟨_, rfl⟩
      have hs := Pn.exc_bit_rv L g i o (by omega) ho
      rw [← ho] at c0
      have hq0 : (g : Int) - 1 - (i : Int) = ((g - 1 - i : Nat) : Int) := by omega
      have hq1 : f ≤ g - 1 - i := by omega
      have hq2 : g - 1 - i < L.length := by omega
      rw [hq0]
      obtain ⟨q, hq⟩ : ∃ q, q = g - 1 - i := ⟨_, rfl⟩
      rw [← hq] at c0 hq1 hq2 ⊢
      obtain ⟨E, hE⟩ : ∃ E, E = Wd.exc (Pn.rv (Bt.num L) g) i := ⟨_, rfl⟩
      rw [← hE] at he hs ⊢
      have hb2 : -4294967296 ≤ E ∧ E ≤ 4294967296 := by omega
      by_cases hd : Wd.exc (Pn.rv (Bt.num L) g) (i + 1) = d
      · have HR : Hid (Pn.back (Bt.num L) f g d = (q : Int)) := by
          have e : Wd.find (Pn.rv (Bt.num L) g) (g - f) d = i + 1 := Wd.find_eq (.inl ⟨by omega, by omega, hd, fun j j1 j2 => HU.out j j1 (by omega)⟩)
          show _ = _
          unfold Pn.back
          rw [e, if_neg (by omega)]
          omega
        rw [hs] at hd
        clear hcell hs ho hq hE he hq0
        cases o
        · have hz : ((E - 1) == d) = true := by simpa using hd
          clear hd
          go_wp2_with fail
          go_ret
          exact ⟨ret_int HR.out.symm, rfl⟩
        · have hz : ((E + 1) == d) = true := by simpa using hd
          clear hd
          go_wp2_with fail
          go_ret
          exact ⟨ret_int HR.out.symm, rfl⟩
      · have HU2 : Hid (Pn.Unmet (Pn.rv (Bt.num L) g) d (i + 1)) := fun j j1 j2 => by
          by_cases e : j = i + 1
          · subst e; exact hd
          · exact HU.out j j1 (by omega)
        rw [hs] at hd
        have HS := hidden hs
        have HQ := hidden hq
        clear hcell hs ho hq hE he hq0
        cases o
        · have hz : ((E - 1) == d) = false := by simpa using hd
          clear hd
          go_wp2_with fail
          go_roundw
          case rel => exact ⟨i + 1, by omega, by rw [HS.out]; rfl, by have := HQ.out; go_num, HU2, trivial⟩
          case measure => simp [intOf]
        · have hz : ((E + 1) == d) = false := by simpa using hd
          clear hd
          go_wp2_with fail
          go_roundw
          case rel => exact ⟨i + 1, by omega, by rw [HS.out]; rfl, by have := HQ.out; go_num, HU2, trivial⟩
          case measure => simp [intOf]
    · obtain rfl : i = g - f := by omega
      have HR : Hid (Pn.back (Bt.num L) f g d = -1) := by
        show _ = _
        unfold Pn.back
        rw [HU.out.none, if_pos rfl]
      have hq1 : (g : Int) - 1 - ((g - f : Nat) : Int) < (f : Int) := by omega
      obtain ⟨q, hq⟩ : ∃ q, q = (g : Int) - 1 - ((g - f : Nat) : Int) := ⟨_, rfl⟩
      rw [← hq] at hq1 ⊢
      clear hq
      go_wp2_with fail
      go_ret
      exact ⟨ret_int HR.out.symm, rfl⟩
theorem Pn.bal_at (X n i : Nat) (hi : i ≤ n) (hp : ∀ j, 1 ≤ j → j < i → 0 ≤ Wd.exc X j) (h : i = n ∨ Wd.exc X i < 0) : Pn.bal X n = (Wd.exc X i == 0) := by
  by_cases h0 : Wd.exc X i < 0
  · rw [show (Wd.exc X i == 0) = false from by simp; omega]
    rw [Bool.eq_false_iff]
    intro hb
    by_cases hz : i = 0
    · subst hz
      rw [Wd.exc_zero] at h0
      omega
    · have := ((Pn.bal_iff X n).1 hb).2 i (by omega) hi
      omega
  · obtain rfl : i = n := by omega
    by_cases hz : Wd.exc X i = 0
    · rw [hz]
      refine (Pn.bal_iff X i).2 ⟨hz, fun j j1 j2 => ?_⟩
      by_cases e : j = i
      · subst e; omega
      · exact hp j j1 (by omega)
    · rw [show (Wd.exc X i == 0) = false from by simpa using hz]
      rw [Bool.eq_false_iff]
      intro hb
      exact hz ((Pn.bal_iff X i).1 hb).1
set_option maxHeartbeats 1000000 in
theorem rBalanced_any (L : List Bool) (v : Value) (w : World) (h : Bv w v L) (hL : L.length ≤ 4294967296) :
    Calls Try.prog 21 #[v] w fun e w' => e = .returned (.bool (Pn.bal (Bt.num L) L.length)) ∧ w' = w := by
  obtain ⟨ao, cap, rfl, hcap, hc⟩ := h
  have HC := hidden hc
  clear hc
  go_enter Try.func21, Try.ntmps21
  go_wp2_with fail
  go_loopw [3, 4] (fun s9 s10 wr => ∃ i : Nat, i ≤ L.length ∧ s9 = .int .i64 (Wd.exc (Bt.num L) i) ∧ s10 = .int .i64 (i : Nat) ∧ Hid (∀ j, 1 ≤ j → j < i → 0 ≤ Wd.exc (Bt.num L) j) ∧ wr = w) (fun _ s10 _ => L.length - (intOf s10).toNat)
  case atStart => exact ⟨0, by omega, rfl, rfl, fun j j1 j2 => by omega, rfl⟩
  case round =>
    obtain ⟨i, hi, rfl, rfl, HU, rfl⟩ := hrel
    have he := Wd.exc_bounds (Bt.num L) i
    by_cases hst : i = L.length ∨ Wd.exc (Bt.num L) i < 0
    · have HB := hidden (Pn.bal_at (Bt.num L) L.length i hi HU.out hst)
      generalize Wd.exc (Bt.num L) i = E at *
      by_cases h1 : i = L.length
      · subst h1
        clear hst
        go_wp2_with fail
        go_ret
        exact ⟨ret_bool HB.out.symm, rfl⟩
      · have h2 : E < 0 := by omega
        have h3 : i < L.length := by omega
        clear hst h1
        go_wp2_with fail
        go_ret
        exact ⟨ret_bool HB.out.symm, rfl⟩
    · have h1 : i < L.length := by omega
      have h2 : 0 ≤ Wd.exc (Bt.num L) i := by omega
      have HU2 : Hid (∀ j, 1 ≤ j → j < i + 1 → 0 ≤ Wd.exc (Bt.num L) j) := fun j j1 j2 => by
        by_cases e : j = i
        · subst e; exact h2
        · exact HU.out j j1 (by omega)
      obtain ⟨b, off, rfl, hb, hcell⟩ := HC.out (by omega)
      have c0 := hcell i h1
      obtain ⟨o, ho⟩ : ∃ o, o = L.getD i false := ⟨_, rfl⟩
      have hs := Pn.exc_bit L 0 i o (by rw [Nat.zero_add]; exact ho)
      rw [Nat.pow_zero, Nat.div_one] at hs
      rw [← ho] at c0
      generalize hE : Wd.exc (Bt.num L) i = E at *
      have HS := hidden hs
      clear hcell hs ho hst hE
      cases o
      · go_wp2_with fail
        go_roundw
        case rel => exact ⟨i + 1, by omega, by rw [HS.out]; rfl, by go_num, HU2, trivial⟩
        case measure => simp [intOf]; omega
      · go_wp2_with fail
        go_roundw
        case rel => exact ⟨i + 1, by omega, by rw [HS.out]; rfl, by go_num, HU2, trivial⟩
        case measure => simp [intOf]; omega
end Go.Proofs.Ytdjhpfojbnikdaa
