/-
  The contracts of paren's ends and field, and of the two functions that read a stretch's bits from its beginning, or from its end, on: for every row; nothing in memory is changed.
  The contracts of paren's Excess, Reach and Balanced: for every row and stretch.
  The contracts of the reference's functions of layer 6 (the package laceworkref06), for every list of bits; nothing in memory is changed.
  What the laws of layer 6 share: awake, and a row made of a list of bits wherever it lies.
-/
import Derived.Shelf.Abstract
import Derived.WalkMore
import Derived.ScopeJumps
import Derived.Test.YtoipliflphbeiaaGreatDoorJBtList
import Derived.Test.YtoipliflphbeiaaGreatDoorJMath
import Derived.Test.YtoipliflphbeiaaGreatDoorJFlt
namespace Go.Proofs.YtoipliflphbeiaaGreatDoor
open Go.RowKit
set_option maxHeartbeats 400000 in
theorem ends_any (r n X : Nat) (a t : Int) (u : Value) (w : World) (h : Rw w r n X u) :
    Calls Tryz.prog 177 #[.pointer (some ⟨r, 0, none⟩), .int .i64 a, .int .i64 t] w fun e w' => e = .returned (.tuple #[.int .i64 (Pn.fr n a : Nat), .int .i64 (Pn.to n a t : Nat)]) ∧ w' = w := by
  have h1 := Pn.fr_cast n a
  have h2 := Pn.to_cast n a t
  generalize Pn.fr n a = f at *
  generalize Pn.to n a t = g at *
  have HR := hidden h
  have hl := h.len
  clear h
  go_enter Tryz.func177, Tryz.ntmps177
  go_wp2_with (go_at_call 83; refine (RLen_any r _ _ u _ HR.out).mono ?_; rintro e w1 ⟨rfl, rfl⟩)
  go_ret2
  exact ⟨rfl, rfl⟩
set_option maxHeartbeats 400000 in
/-- The n bits from a on, which are there. -/
theorem pfield_in (r m X a n : Nat) (u : Value) (w : World) (h : Rw w r m X u) (hn : n ≤ 64) (ha : a + n ≤ m) :
    Calls Tryz.prog 179 #[.pointer (some ⟨r, 0, none⟩), .int .i64 (a : Nat), .int .i64 (n : Nat)] w fun e w' => e = .returned (.int .u64 ((Bt.fd X a n : Nat) : Int)) ∧ w' = w := by
  have HR := hidden h
  have hl := h.len
  clear h
  go_enter Tryz.func179, Tryz.ntmps179
  go_wp2_with (go_at_call 135; refine (RField_in r m X a n u _ HR.out hn (by omega)).mono ?_; rintro e w1 ⟨rfl, rfl⟩)
  go_ret
  exact ⟨rfl, rfl⟩
theorem Pn.fd_forth (X a j k : Nat) : Bt.fd X (a + j) k = Bt.fd (X / 2 ^ a) j k := by
  unfold Bt.fd
  rw [Nat.pow_add, Nat.div_div_eq_div_mul]
end Go.Proofs.YtoipliflphbeiaaGreatDoor
namespace Go.Proofs.YtoipliflphbeiaaGreatDoor
open Go.RowKit
/-- One word on, of a stretch that is gone through by words. -/
theorem Pn.step_word (n j : Nat) (h : 64 * j < n) : ∃ k : Nat, 1 ≤ k ∧ k ≤ 64 ∧ min 64 ((n : Int) - 64 * (j : Int)) = (k : Int) ∧ 64 * j + k ≤ n ∧ min (64 * (j + 1)) n = 64 * j + k := by
  refine ⟨min 64 (n - 64 * j), by omega, by omega, by omega, by omega, by omega⟩
set_option maxHeartbeats 1000000 in
theorem PExcess_any (r n X : Nat) (a t : Int) (u : Value) (w : World) (h : Rw w r n X u) :
    Calls Tryz.prog 158 #[.pointer (some ⟨r, 0, none⟩), .int .i64 a, .int .i64 t] w fun e w' => e = .returned (.int .i64 (Wd.exc (X / 2 ^ Pn.fr n a) (Pn.to n a t - Pn.fr n a))) ∧ w' = w := by
  have HR := hidden h
  have hl := h.len
  obtain ⟨hA, hB⟩ := Pn.fr_to n a t
  have HE := hidden (ends_any r n X a t u w h)
  generalize Pn.fr n a = f at *
  generalize Pn.to n a t = g at *
  clear h
  go_enter Tryz.func158, Tryz.ntmps158
  go_wp2_with fail
  refine HE.out.mono ?_
  rintro e1 w1 ⟨rfl, rfl⟩
  go_wp2_with fail
  go_loopw [7, 8] (fun s7 s8 wr => ∃ j : Nat, 64 * j < g - f + 64 ∧ s7 = .int .i64 (Wd.exc (X / 2 ^ f) (min (64 * j) (g - f))) ∧ s8 = .int .i64 ((f + 64 * j : Nat) : Int) ∧ wr = w1) (fun _ s8 _ => g - (intOf s8).toNat)
  case atStart => exact ⟨0, by omega, by rw [show min (64 * 0) (g - f) = 0 from by omega]; rfl, rfl, rfl⟩
  case round =>
    obtain ⟨j, hj, rfl, rfl, rfl⟩ := hrel
    by_cases hlt : 64 * j < g - f
    · obtain ⟨k, hk1, hk2, hk3, hk4, hk5⟩ := Pn.step_word (g - f) j hlt
      have he := Wd.exc_bounds (X / 2 ^ f) (min (64 * j) (g - f))
      rw [show min (64 * j) (g - f) = 64 * j from by omega] at he ⊢
      have hF := Bt.fd_lt64 X (f + 64 * j) k hk2
      have hs : Wd.exc (X / 2 ^ f) (min (64 * (j + 1)) (g - f)) = Wd.exc (X / 2 ^ f) (64 * j) + Wd.exc (Bt.fd X (f + 64 * j) k) k := by
        rw [hk5, Pn.exc_on, Pn.fd_forth]
        rfl
      have hcl := Wd.cl_nat k hk2
      have hx := Wd.exc_bounds (Bt.fd X (f + 64 * j) k) k
      have HP := hidden (pfield_in r n X (f + 64 * j) k u wr HR.out hk2 (by omega))
      have hat : (f : Int) + 64 * (j : Int) = ((f + 64 * j : Nat) : Int) := by omega
      have hk6 : min 64 ((g : Int) - ((f + 64 * j : Nat) : Int)) = (k : Int) := by omega
      have hlt2 : f + 64 * j < g := by omega
      obtain ⟨q, hq⟩ : ∃ q, q = f + 64 * j := ⟨_, rfl⟩
      rw [← hq] at HP hF hs hx hat hk6 hlt2 ⊢
      obtain ⟨x, hxd⟩ : ∃ x, x = Wd.exc (Bt.fd X q k) k := ⟨_, rfl⟩
      obtain ⟨E, hE⟩ : ∃ E, E = Wd.exc (X / 2 ^ f) (64 * j) := ⟨_, rfl⟩
      rw [← hxd, ← hE] at hs
      rw [← hxd] at hx
      rw [← hE] at he ⊢
      have hb : -4294967296 ≤ E ∧ E ≤ 4294967296 := by omega
      have hb2 : -64 ≤ x ∧ x ≤ 64 := by omega
      have HS := hidden hs
      have HXD := hidden hxd
      have HCL := hidden hcl
      have HQ := hidden hq
      clear hs hxd hE hcl he hx hk3 hk5 hat hq
      go_wp2_with fail
      refine HP.out.mono ?_
      rintro e1 w2 ⟨rfl, rfl⟩
      go_wp2_with fail
      refine (Excess_any _ _ _ hF).mono ?_
      rintro e1 w2 ⟨rfl, rfl⟩
      rw [HCL.out, ← HXD.out]
      go_wp2_with fail
      go_roundw
      case rel => exact ⟨j + 1, by omega, by rw [HS.out], by have := HQ.out; go_num, trivial⟩
      case measure => simp [intOf]; omega
    · have hge : g ≤ f + 64 * j := by omega
      have hm : min (64 * j) (g - f) = g - f := by omega
      rw [hm]
      obtain ⟨q, hq⟩ : ∃ q, q = f + 64 * j := ⟨_, rfl⟩
      rw [← hq] at hge ⊢
      clear hm hq
      go_wp2_with fail
      go_ret
      exact ⟨rfl, rfl⟩
set_option maxHeartbeats 2000000 in
set_option maxRecDepth 100000 in
theorem PReach_any (r n X : Nat) (a t : Int) (u : Value) (w : World) (h : Rw w r n X u) :
    Calls Tryz.prog 159 #[.pointer (some ⟨r, 0, none⟩), .int .i64 a, .int .i64 t] w fun e w' => e = .returned (.complex .f64 (floatOfInt .f64 (Wd.lo (X / 2 ^ Pn.fr n a) (Pn.to n a t - Pn.fr n a))) (floatOfInt .f64 (Wd.hi (X / 2 ^ Pn.fr n a) (Pn.to n a t - Pn.fr n a)))) ∧ w' = w := by
  have HR := hidden h
  have hl := h.len
  obtain ⟨hA, hB⟩ := Pn.fr_to n a t
  have HE := hidden (ends_any r n X a t u w h)
  generalize Pn.fr n a = f at *
  generalize Pn.to n a t = g at *
  clear h
  obtain ⟨hl1, hh1⟩ := Pn.lo1_end (X / 2 ^ f) (g - f)
  rw [← hl1, ← hh1]
  clear hl1 hh1
  go_enter Tryz.func159, Tryz.ntmps159
  go_wp2_with fail
  refine HE.out.mono ?_
  rintro e1 w1 ⟨rfl, rfl⟩
  go_wp2_with fail
  go_loopw [7, 8, 9, 10] (fun s7 s8 s9 s10 wr => ∃ j : Nat, 64 * j < g - f + 64 ∧ s7 = .int .i64 (Wd.exc (X / 2 ^ f) (min (64 * j) (g - f))) ∧ s8 = .int .i64 (Pn.lo1 (X / 2 ^ f) (g - f) (min (64 * j) (g - f))) ∧ s9 = .int .i64 (Pn.hi1 (X / 2 ^ f) (g - f) (min (64 * j) (g - f))) ∧ s10 = .int .i64 ((f + 64 * j : Nat) : Int) ∧ wr = w1) (fun _ _ _ s10 _ => g - (intOf s10).toNat)
  case atStart =>
    refine ⟨0, by omega, by rw [show min (64 * 0) (g - f) = 0 from by omega]; rfl, ?_, ?_, rfl, rfl⟩
    · rw [show min (64 * 0) (g - f) = 0 from by omega]
      unfold Pn.lo1
      rw [if_pos rfl]
      go_num
    · rw [show min (64 * 0) (g - f) = 0 from by omega]
      unfold Pn.hi1
      rw [if_pos rfl]
      go_num
  case round =>
    obtain ⟨j, hj, rfl, rfl, rfl, rfl, rfl⟩ := hrel
    by_cases hlt : 64 * j < g - f
    · obtain ⟨k, hk1, hk2, hk3, hk4, hk5⟩ := Pn.step_word (g - f) j hlt
      rw [show min (64 * j) (g - f) = 64 * j from by omega]
      have he := Wd.exc_bounds (X / 2 ^ f) (64 * j)
      have hlb := Pn.lo1_bounds (X / 2 ^ f) (g - f) (64 * j) (by omega)
      have hF := Bt.fd_lt64 X (f + 64 * j) k hk2
      have hfd : Bt.fd X (f + 64 * j) k = X / 2 ^ f / 2 ^ (64 * j) % 2 ^ k := by rw [Pn.fd_forth]; rfl
      have hs : Wd.exc (X / 2 ^ f) (min (64 * (j + 1)) (g - f)) = Wd.exc (X / 2 ^ f) (64 * j) + Wd.exc (Bt.fd X (f + 64 * j) k) k := by
        rw [hk5, Pn.exc_on, hfd]
      obtain ⟨hon1, hon2⟩ := Pn.lo1_on (X / 2 ^ f) (g - f) (64 * j) k hk1 hk4
      rw [← hfd, ← hk5] at hon1 hon2
      have hcl := Wd.cl_nat k hk2
      have hx := Wd.exc_bounds (Bt.fd X (f + 64 * j) k) k
      have hlw := Wd.lo_bounds (Bt.fd X (f + 64 * j) k) k
      have hhw := Wd.hi_bounds (Bt.fd X (f + 64 * j) k) k
      have HP := hidden (pfield_in r n X (f + 64 * j) k u wr HR.out hk2 (by omega))
      have hk6 : min 64 ((g : Int) - ((f + 64 * j : Nat) : Int)) = (k : Int) := by omega
      have hlt2 : f + 64 * j < g := by omega
      obtain ⟨q, hq⟩ : ∃ q, q = f + 64 * j := ⟨_, rfl⟩
      rw [← hq] at HP hF hs hx hk6 hlt2 hlw hhw hon1 hon2 ⊢
      obtain ⟨x, hxd⟩ : ∃ x, x = Wd.exc (Bt.fd X q k) k := ⟨_, rfl⟩
      obtain ⟨lw, hlwd⟩ : ∃ x, x = Wd.lo (Bt.fd X q k) k := ⟨_, rfl⟩
      obtain ⟨hw, hhwd⟩ : ∃ x, x = Wd.hi (Bt.fd X q k) k := ⟨_, rfl⟩
      obtain ⟨E, hE⟩ : ∃ E, E = Wd.exc (X / 2 ^ f) (64 * j) := ⟨_, rfl⟩
      obtain ⟨lL, hlL⟩ : ∃ E, E = Pn.lo1 (X / 2 ^ f) (g - f) (64 * j) := ⟨_, rfl⟩
      obtain ⟨hH, hhH⟩ : ∃ E, E = Pn.hi1 (X / 2 ^ f) (g - f) (64 * j) := ⟨_, rfl⟩
      rw [← hxd, ← hE] at hs
      rw [← hxd] at hx
      rw [← hlwd, ← hE, ← hlL] at hon1
      rw [← hhwd, ← hE, ← hhH] at hon2
      rw [← hlwd] at hlw
      rw [← hhwd] at hhw
      rw [← hlL, ← hhH] at hlb
      rw [← hE] at he
      rw [← hE, ← hlL, ← hhH]
      have hb : -4294967296 ≤ E ∧ E ≤ 4294967296 := by omega
      have hb2 : -64 ≤ x ∧ x ≤ 64 := by omega
      have hb3 : -64 ≤ lw ∧ lw ≤ 64 := by omega
      have hb4 : -64 ≤ hw ∧ hw ≤ 64 := by omega
      have hb5 : -4294967296 ≤ lL ∧ lL ≤ 4294967296 := by omega
      have hb6 : -4294967296 ≤ hH ∧ hH ≤ 4294967296 := by omega
      have cv1 : ∀ w, (convert 82 3 (.float .f64 (floatOfInt .f64 lw))).run Tryz.prog w = .ok (.int .i64 lw) w := fun w => run_convert_float_int w 82 3 .f64 .i64 _ lw (by rw [Tryz.underlying82]; rfl) Tryz.underlying3 (Flt.back_int lw (by omega))
      have cv2 : ∀ w, (convert 82 3 (.float .f64 (floatOfInt .f64 hw))).run Tryz.prog w = .ok (.int .i64 hw) w := fun w => run_convert_float_int w 82 3 .f64 .i64 _ hw (by rw [Tryz.underlying82]; rfl) Tryz.underlying3 (Flt.back_int hw (by omega))
      have HS := hidden hs
      have HON1 := hidden hon1
      have HON2 := hidden hon2
      have HXD := hidden hxd
      have HLD := hidden hlwd
      have HHD := hidden hhwd
      have HCL := hidden hcl
      have HQ := hidden hq
      clear hs hxd hE hcl he hx hk3 hk5 hq hlwd hhwd hlL hhH hlw hhw hlb hon1 hon2 hfd
      go_wp2_with fail
      refine HP.out.mono ?_
      rintro e1 w2 ⟨rfl, rfl⟩
      go_wp2_with fail
      refine (Reach_any _ _ _ hF).mono ?_
      rintro e1 w2 ⟨rfl, rfl⟩
      rw [HCL.out, ← HLD.out, ← HHD.out]
      go_wp2_with fail
      refine (Excess_any _ _ _ hF).mono ?_
      rintro e1 w2 ⟨rfl, rfl⟩
      rw [HCL.out, ← HXD.out]
      go_wp2_with fail
      go_roundw
      case rel => exact ⟨j + 1, by omega, by rw [HS.out], by rw [← HON1.out], by rw [← HON2.out], by have := HQ.out; go_num, trivial⟩
      case measure => simp [intOf]; omega
    · have hge : g ≤ f + 64 * j := by omega
      have hm : min (64 * j) (g - f) = g - f := by omega
      rw [hm]
      obtain ⟨q, hq⟩ : ∃ q, q = f + 64 * j := ⟨_, rfl⟩
      rw [← hq] at hge ⊢
      clear hm hq
      go_wp2_with fail
      go_ret
      exact ⟨rfl, rfl⟩
end Go.Proofs.YtoipliflphbeiaaGreatDoor
namespace Go.Proofs.YtoipliflphbeiaaGreatDoor
open Go.RowKit
theorem Pn.exc_bit (L : List Bool) (f i : Nat) (o : Bool) (ho : o = L.getD (f + i) false) : Wd.exc (Bt.num L / 2 ^ f) (i + 1) = if o then Wd.exc (Bt.num L / 2 ^ f) i + 1 else Wd.exc (Bt.num L / 2 ^ f) i - 1 := by
  rw [Wd.exc_succ, Wd.bt_div, Bt.bt_num, ← ho]
  cases o
  · simp only [Bool.toNat_false, Bool.false_eq_true, if_false]; omega
  · simp only [Bool.toNat_true, if_true]; omega
theorem Pn.bal_at (X n i : Nat) (hi : i ≤ n) (hp : ∀ j, 1 ≤ j → j < i → 0 ≤ Wd.exc X j) (h : i = n ∨ Wd.exc X i < 0) : Pn.bal X n = (Wd.exc X i == 0) := by
  by_cases h0 : Wd.exc X i < 0
  · rw [show (Wd.exc X i == 0) = false from by simp; omega]
    rw [Bool.eq_false_iff]
    intro hb
    by_cases hz : i = 0
    · subst hz
      rw [Wd.exc_zero] at h0
      omega
    · have := ((Pn.bal_iff X n).1 hb).2 i (by omega) hi
      omega
  · obtain rfl : i = n := by omega
    by_cases hz : Wd.exc X i = 0
    · rw [hz]
      refine (Pn.bal_iff X i).2 ⟨hz, fun j j1 j2 => ?_⟩
      by_cases e : j = i
      · subst e; omega
      · exact hp j j1 (by omega)
    · rw [show (Wd.exc X i == 0) = false from by simpa using hz]
      rw [Bool.eq_false_iff]
      intro hb
      exact hz ((Pn.bal_iff X i).1 hb).1
set_option maxHeartbeats 1000000 in
theorem rBalanced_any (L : List Bool) (v : Value) (w : World) (h : Bv w v L) (hL : L.length ≤ 4294967296) :
    Calls Tryz.prog 33 #[v] w fun e w' => e = .returned (.bool (Pn.bal (Bt.num L) L.length)) ∧ w' = w := by
  obtain ⟨ao, cap, rfl, hcap, hc⟩ := h
  have HC := hidden hc
  clear hc
  go_enter Tryz.func33, Tryz.ntmps33
  go_wp2_with fail
  go_loopw [3, 4] (fun s9 s10 wr => ∃ i : Nat, i ≤ L.length ∧ s9 = .int .i64 (Wd.exc (Bt.num L) i) ∧ s10 = .int .i64 (i : Nat) ∧ Hid (∀ j, 1 ≤ j → j < i → 0 ≤ Wd.exc (Bt.num L) j) ∧ wr = w) (fun _ s10 _ => L.length - (intOf s10).toNat)
  case atStart => exact ⟨0, by omega, rfl, rfl, fun j j1 j2 => by omega, rfl⟩
  case round =>
    obtain ⟨i, hi, rfl, rfl, HU, rfl⟩ := hrel
    have he := Wd.exc_bounds (Bt.num L) i
    by_cases hst : i = L.length ∨ Wd.exc (Bt.num L) i < 0
    · have HB := hidden (Pn.bal_at (Bt.num L) L.length i hi HU.out hst)
      generalize Wd.exc (Bt.num L) i = E at *
      by_cases h1 : i = L.length
      · subst h1
        clear hst
        go_wp2_with fail
        go_ret
        exact ⟨ret_bool HB.out.symm, rfl⟩
      · have h2 : E < 0 := by omega
        have h3 : i < L.length := by omega
        clear hst h1
        go_wp2_with fail
        go_ret
        exact ⟨ret_bool HB.out.symm, rfl⟩
    · have h1 : i < L.length := by omega
      have h2 : 0 ≤ Wd.exc (Bt.num L) i := by omega
      have HU2 : Hid (∀ j, 1 ≤ j → j < i + 1 → 0 ≤ Wd.exc (Bt.num L) j) := fun j j1 j2 => by
        by_cases e : j = i
        · subst e; exact h2
        · exact HU.out j j1 (by omega)
      obtain ⟨b, off, rfl, hb, hcell⟩ := HC.out (by omega)
      have c0 := hcell i h1
      obtain ⟨o, ho⟩ : ∃ o, o = L.getD i false := ⟨_, rfl⟩
      have hs := Pn.exc_bit L 0 i o (by rw [Nat.zero_add]; exact ho)
      rw [Nat.pow_zero, Nat.div_one] at hs
      rw [← ho] at c0
      generalize hE : Wd.exc (Bt.num L) i = E at *
      have HS := hidden hs
      clear hcell hs ho hst hE
      cases o
      · go_wp2_with fail
        go_roundw
        case rel => exact ⟨i + 1, by omega, by rw [HS.out]; rfl, by go_num, HU2, trivial⟩
        case measure => simp [intOf]; omega
      · go_wp2_with fail
        go_roundw
        case rel => exact ⟨i + 1, by omega, by rw [HS.out]; rfl, by go_num, HU2, trivial⟩
        case measure => simp [intOf]; omega
end Go.Proofs.YtoipliflphbeiaaGreatDoor
namespace Go.Proofs.YtoipliflphbeiaaGreatDoor
open Go.RowKit
theorem Bv.below {w w' : World} {v : Value} {L : List Bool} {C : Nat} (h : Bv w v L) (hb : Below C w w') (hC : w.heap.size ≤ C) : Bv w' v L := by
  obtain ⟨ao, cap, hu, hc, hf⟩ := h
  refine ⟨ao, cap, hu, hc, fun h0 => ?_⟩
  obtain ⟨b, off, ha, hlt, hcell⟩ := hf h0
  refine ⟨b, off, ha, by have := hb.size; omega, fun i hi => ?_⟩
  exact (hb.cell (p := ⟨b, _, none⟩) (by show b < C; omega)).trans (hcell i hi)
end Go.Proofs.YtoipliflphbeiaaGreatDoor
