/-
  The contracts of layer 3's awake, and of its reference One and Zero: for every list of bits and every number.
-/
import Derived.Test.YtdphkenpjndklaaRkDir
namespace Go.Proofs.Ytdphkenpjndklaa
open Go.RowKit
theorem Bt.cf_nat (n : Nat) (i : Nat) (h : i ≤ n) : Bt.cf n (i : Int) = i := by unfold Bt.cf; omega
theorem Bt.cf_of (n : Nat) (i : Int) (p : Nat) (h : min (max i 0) (n : Int) = (p : Int)) : Bt.cf n i = p := by unfold Bt.cf; omega
theorem below_drewN {B : Nat} {w w' : World} (h : Below B w w') (m : Nat) : Below B w (w'.drewN m) := ⟨h.os, h.tape, h.output, h.size, h.block⟩
theorem Bv.drewN {w : World} {v : Value} {L : List Bool} (h : Bv w v L) (m : Nat) : Bv (w.drewN m) v L := h
theorem One_at (d g r n X : Nat) (i : Int) (p : Nat) (u : Value) (w : World) (h : Dr w d g r n X u) (hp : Bt.cf n i = p) :
    Calls Try.prog 12 #[.pointer (some ⟨d, 0, none⟩), .int .i64 i] w fun e w' => e = .returned (.int .i64 ((Wd.ones X p : Nat) : Int)) ∧ ∃ m, w' = w.drewN m := hp ▸ One_any d g r n X i u w h
theorem Zero_at (d g r n X : Nat) (i : Int) (p : Nat) (u : Value) (w : World) (h : Dr w d g r n X u) (hp : Bt.cf n i = p) :
    Calls Try.prog 14 #[.pointer (some ⟨d, 0, none⟩), .int .i64 i] w fun e w' => e = .returned (.int .i64 ((p : Int) - ((Wd.ones X p : Nat) : Int))) ∧ ∃ m, w' = w.drewN m := hp ▸ Zero_any d g r n X i u w h
set_option maxHeartbeats 1000000 in
theorem awake_any (w : World) :
    Calls Try.prog 8 #[] w fun e w' => e = .returned (.bool true) ∧ Below w.heap.size w w' := by
  go_enter Try.func8, Try.ntmps8
  go_wp2_with fail
  have HB : Hid (Bl (w.alloc (.cells #[.bool true, .bool false, .bool true, .bool true] 4)) (.slice (some ⟨w.heap.size, 0, none⟩) 4 4) [true, false, true, true]) :=
    World.ownsRow_lit w _ 4 (Nat.zero_le _) (by decide) rfl
  refine (Made_any [true, false, true, true] _ _ HB.out (by decide)).mono ?_
  rintro e' w1 ⟨r1, u1, rfl, hr1, hq1, _, _⟩
  have HR1 : Hid (Rw w1 r1 4 13 u1) := hr1
  have HL1 : Hid (Below w.heap.size w w1) := ((Below.refl _ _).alloc (Nat.le_refl _) _).trans (hq1.mono (by simp))
  clear hr1 hq1
  go_wp2_with fail
  refine (New_any r1 4 13 u1 _ HR1.out).mono ?_
  rintro e' w2 ⟨d2, g2, rfl, hd2, hq2⟩
  have HD2 := hidden hd2
  have HL2 : Hid (Below w.heap.size w w2) := HL1.out.trans (hq2.mono HL1.out.size)
  clear hd2 hq2
  go_wp2_with fail
  refine (One_any d2 g2 r1 4 13 3 u1 _ HD2.out).mono ?_
  rintro e' w3 ⟨rfl, m3, rfl⟩
  rw [show ((Wd.ones 13 (Bt.cf 4 3) : Nat) : Int) = 2 from by decide]
  go_wp2_with fail
  refine (Zero_any d2 g2 r1 4 13 3 u1 _ (HD2.out.drewN m3)).mono ?_
  rintro e' w3 ⟨rfl, m4, rfl⟩
  rw [show ((Bt.cf 4 3 : Nat) : Int) - ((Wd.ones 13 (Bt.cf 4 3) : Nat) : Int) = 1 from by decide]
  go_wp2_with fail
  go_ret
  exact ⟨rfl, below_drewN HL2.out _⟩
set_option maxHeartbeats 1000000 in
theorem rOne_any (L : List Bool) (v : Value) (i : Int) (w : World) (h : Bv w v L) (hL : L.length ≤ 4294967296) :
    Calls Try.prog 13 #[v, .int .i64 i] w fun e w' => e = .returned (.int .i64 ((Wd.ones (Bt.num L) (Bt.cf L.length i) : Nat) : Int)) ∧ w' = w := by
  obtain ⟨ao, cap, rfl, hcap, hc⟩ := h
  have HC := hidden hc
  have hpn : Bt.cf L.length i ≤ L.length := Nat.le_trans (Bt.cf_le L.length i 0).1 (Bt.cf_le L.length i 0).2
  obtain ⟨p, hp⟩ : ∃ p, p = Bt.cf L.length i := ⟨_, rfl⟩
  rw [← hp] at hpn ⊢
  have HP : Hid (min (max i 0) (L.length : Int) = (p : Int)) := by show _ = _; rw [hp]; unfold Bt.cf; omega
  clear hc hp
  go_enter Try.func13, Try.ntmps13
  go_wp2_with fail
  go_loopw [5, 6] (fun o j wr => ∃ k : Nat, k ≤ p ∧ j = .int .i64 k ∧ o = .int .i64 ((Wd.ones (Bt.num L) k : Nat) : Int) ∧ wr = w) (fun _ j _ => p - (intOf j).toNat)
  case atStart => exact ⟨0, by omega, rfl, rfl, rfl⟩
  case round =>
    obtain ⟨k, hk, rfl, rfl, hw⟩ := hrel
    subst hw
    have hok := Wd.ones_le (Bt.num L) k
    by_cases hlt : k < p
    · obtain ⟨b, off, rfl, hb, hcell⟩ := HC.out (by omega)
      have c0 := hcell k (by omega)
      have hki : (k : Int) < i := by have := HP.out; omega
      have hkl : (k : Int) < (L.length : Int) := by omega
      have hbt : Hid (Wd.bt (Bt.num L) k = (L.getD k false).toNat) := Bt.bt_num L k
      clear hcell
      obtain ⟨o, ho⟩ : ∃ o, o = L.getD k false := ⟨_, rfl⟩
      rw [← ho] at c0 hbt
      clear ho
      have HS := hidden (Wd.ones_succ (Bt.num L) k)
      cases o
      · go_wp2_with fail
        go_roundw
        case rel => exact ⟨k + 1, by omega, by go_num, int_eq (by rw [HS.out, hbt.out]; rfl), by trivial⟩
        case measure => simp [intOf]; omega
      · go_wp2_with fail
        go_roundw
        case rel => exact ⟨k + 1, by omega, by go_num, int_eq (by rw [HS.out, hbt.out]; rfl), by trivial⟩
        case measure => simp [intOf]; omega
    · obtain rfl : k = p := by omega
      by_cases hkl : k < L.length
      · have hki : i ≤ (k : Int) := by have := HP.out; omega
        go_wp2_with fail
        go_ret
        exact ⟨rfl, rfl⟩
      · obtain rfl : k = L.length := by omega
        go_wp2_with fail
        go_ret
        exact ⟨rfl, rfl⟩
set_option maxHeartbeats 400000 in
theorem rZero_any (L : List Bool) (v : Value) (i : Int) (w : World) (h : Bv w v L) (hL : L.length ≤ 4294967296) :
    Calls Try.prog 15 #[v, .int .i64 i] w fun e w' => e = .returned (.int .i64 (((Bt.cf L.length i : Nat) : Int) - ((Wd.ones (Bt.num L) (Bt.cf L.length i) : Nat) : Int))) ∧ w' = w := by
  have HV : Hid (Bv w v L) := h
  obtain ⟨ao, cap, rfl, hcap, _⟩ := h
  have hpn : Bt.cf L.length i ≤ L.length := Nat.le_trans (Bt.cf_le L.length i 0).1 (Bt.cf_le L.length i 0).2
  have ho := Wd.ones_le (Bt.num L) (Bt.cf L.length i)
  have HP : min (max i 0) (L.length : Int) = ((Bt.cf L.length i : Nat) : Int) := by unfold Bt.cf; omega
  go_enter Try.func15, Try.ntmps15
  go_wp2_with fail
  refine (rOne_any L _ i _ HV.out hL).mono ?_
  rintro e' w1 ⟨rfl, rfl⟩
  go_wp2_with fail
  go_ret
  exact ⟨rfl, rfl⟩
end Go.Proofs.Ytdphkenpjndklaa
