/-
  The contracts of layer 3's awake, and of its reference One and Zero: for every list of bits and every number.
-/
import Derived.Test.YtgpagellhfjmdaaDoorRkDir
namespace Go.Proofs.YtgpagellhfjmdaaDoor
open Go.RowKit
theorem Bt.cf_nat (n : Nat) (i : Nat) (h : i ≤ n) : Bt.cf n (i : Int) = i := by unfold Bt.cf; omega
theorem Bt.cf_of (n : Nat) (i : Int) (p : Nat) (h : min (max i 0) (n : Int) = (p : Int)) : Bt.cf n i = p := by unfold Bt.cf; omega
theorem below_drewN {B : Nat} {w w' : World} (h : Below B w w') (m : Nat) : Below B w (w'.drewN m) := ⟨h.os, h.tape, h.output, h.size, h.block⟩
theorem Bv.drewN {w : World} {v : Value} {L : List Bool} (h : Bv w v L) (m : Nat) : Bv (w.drewN m) v L := h
theorem One_at (d g r n X : Nat) (i : Int) (p : Nat) (u : Value) (w : World) (h : Dr w d g r n X u) (hp : Bt.cf n i = p) :
    Calls Tryd.prog 22 #[.pointer (some ⟨d, 0, none⟩), .int .i64 i] w fun e w' => e = .returned (.int .i64 ((Wd.ones X p : Nat) : Int)) ∧ ∃ m, w' = w.drewN m := hp ▸ One_any d g r n X i u w h
theorem Zero_at (d g r n X : Nat) (i : Int) (p : Nat) (u : Value) (w : World) (h : Dr w d g r n X u) (hp : Bt.cf n i = p) :
    Calls Tryd.prog 24 #[.pointer (some ⟨d, 0, none⟩), .int .i64 i] w fun e w' => e = .returned (.int .i64 ((p : Int) - ((Wd.ones X p : Nat) : Int))) ∧ ∃ m, w' = w.drewN m := hp ▸ Zero_any d g r n X i u w h
set_option maxHeartbeats 1000000 in
theorem rOne_any (L : List Bool) (v : Value) (i : Int) (w : World) (h : Bv w v L) (hL : L.length ≤ 4294967296) :
    Calls Tryd.prog 15 #[v, .int .i64 i] w fun e w' => e = .returned (.int .i64 ((Wd.ones (Bt.num L) (Bt.cf L.length i) : Nat) : Int)) ∧ w' = w := by
  obtain ⟨ao, cap, rfl, hcap, hc⟩ := h
  have HC := hidden hc
  have hpn : Bt.cf L.length i ≤ L.length := Nat.le_trans (Bt.cf_le L.length i 0).1 (Bt.cf_le L.length i 0).2
  obtain ⟨p, hp⟩ : ∃ p, p = Bt.cf L.length i := ⟨_, rfl⟩
  rw [← hp] at hpn ⊢
  have HP : Hid (min (max i 0) (L.length : Int) = (p : Int)) := by show _ = _; rw [hp]; unfold Bt.cf; omega
  clear hc hp
  go_enter Tryd.func15, Tryd.ntmps15
  go_wp2_with fail
  go_loopw [5, 6] (fun o j wr => ∃ k : Nat, k ≤ p ∧ j = .int .i64 k ∧ o = .int .i64 ((Wd.ones (Bt.num L) k : Nat) : Int) ∧ wr = w) (fun _ j _ => p - (intOf j).toNat)
  case atStart => exact ⟨0, by omega, rfl, rfl, rfl⟩
  case round =>
    obtain ⟨k, hk, rfl, rfl, hw⟩ := hrel
    subst hw
    have hok := Wd.ones_le (Bt.num L) k
    by_cases hlt : k < p
    · obtain ⟨b, off, rfl, hb, hcell⟩ := HC.out (by omega)
      have c0 := hcell k (by omega)
      have hki : (k : Int) < i := by have := HP.out; omega
      have hkl : (k : Int) < (L.length : Int) := by omega
      have hbt : Hid (Wd.bt (Bt.num L) k = (L.getD k false).toNat) := Bt.bt_num L k
      clear hcell
      obtain ⟨o, ho⟩ : ∃ o, o = L.getD k false := ⟨_, rfl⟩
      rw [← ho] at c0 hbt
      clear ho
      have HS := hidden (Wd.ones_succ (Bt.num L) k)
      cases o
      · go_wp2_with fail
        go_roundw
        case rel => exact ⟨k + 1, by omega, by go_num, int_eq (by rw [HS.out, hbt.out]; rfl), by trivial⟩
        case measure => simp [intOf]; omega
      · go_wp2_with fail
        go_roundw
        case rel => exact ⟨k + 1, by omega, by go_num, int_eq (by rw [HS.out, hbt.out]; rfl), by trivial⟩
        case measure => simp [intOf]; omega
    · obtain rfl : k = p := by omega
      by_cases hkl : k < L.length
      · have hki : i ≤ (k : Int) := by have := HP.out; omega
        go_wp2_with fail
        go_ret
        exact ⟨rfl, rfl⟩
      · obtain rfl : k = L.length := by omega
        go_wp2_with fail
        go_ret
        exact ⟨rfl, rfl⟩
end Go.Proofs.YtgpagellhfjmdaaDoor
