/-
  The contracts of the reference's Field and Word of layer 2: for every list of bits and all places that there are; nothing in memory is changed.
-/
import Derived.Test.YtfohldojcdhnhaaDoorBtList
import Derived.Test.YtfohldojcdhnhaaDoorBtClip
namespace Go.Proofs.YtfohldojcdhnhaaDoor
open Go.RowKit
namespace Bt
theorem fd_succ (X a k : Nat) : fd X a (k + 1) = fd X a k + Wd.bt X (a + k) * 2 ^ k := by
  unfold fd
  rw [Wd.mod_succ, Wd.bt_div]
theorem fd_zero (X a : Nat) : fd X a 0 = 0 := by unfold fd; simp [Nat.mod_one]
theorem fd_or (X a k : Nat) (hk : k < 64) : bits BinOp.or IntKind.u64 ((fd X a k : Nat) : Int) (IntKind.u64.wrap (2 ^ k)) = ((fd X a k + 2 ^ k : Nat) : Int) := by
  have h2 : ((2 : Int) ^ k) = ((2 ^ k : Nat) : Int) := by simp
  have hlt : 2 ^ k < 2 ^ 64 := Nat.pow_lt_pow_right (by decide) hk
  have hf := fd_lt X a k
  rw [h2, IntKind.wrap_u64, show (((2 ^ k : Nat) : Int) % 18446744073709551616) = ((2 ^ k : Nat) : Int) from by omega, bits_or_u64_nat _ _ (by omega) (by omega)]
  congr 1
  have := Nat.two_pow_add_eq_or_of_lt hf 1
  rw [Nat.mul_one] at this
  rw [Nat.or_comm, ← this, Nat.add_comm]
theorem wd_fd (X n j : Nat) (h : X < 2 ^ n) : wd X j = fd X (64 * j) (min 64 (n - 64 * j)) := by
  have e : X = cut X 0 n := by unfold cut; rw [Nat.pow_zero, Nat.div_one, Nat.mod_eq_of_lt h]
  have := wd_cut X 0 n j
  rw [← e, Nat.zero_add] at this
  exact this
end Bt
set_option maxHeartbeats 1000000 in
theorem rFld_any (L : List Bool) (v : Value) (a n : Nat) (w : World) (h : Bl w v L) (hL : L.length ≤ 4294967296) (han : a + n ≤ L.length) (hn : n ≤ 64) :
    Calls Tryd.prog 56 #[v, .int .i64 (a : Nat), .int .i64 (n : Nat)] w fun e w' => e = .returned (.int .u64 ((Bt.fd (Bt.num L) a n : Nat) : Int)) ∧ w' = w := by
  obtain ⟨ao, cap, rfl, hcap, hc⟩ := h.form
  have HC := hidden hc
  clear hc h
  go_enter Tryd.func56, Tryd.ntmps56
  go_wp2
  go_loop [7, 8] (fun s i => ∃ k : Nat, k ≤ n ∧ i = .int .i64 k ∧ s = .int .u64 ((Bt.fd (Bt.num L) a k : Nat) : Int)) (fun _ i => n - (intOf i).toNat)
  case atStart => exact ⟨0, by omega, rfl, by rw [Bt.fd_zero]; rfl⟩
  case round =>
    obtain ⟨k, hk, rfl, rfl⟩ := hrel
    by_cases hlt : k < n
    · obtain ⟨g, rfl, hg, hcell⟩ := HC.out (by omega)
      have c0 := hcell (a + k) (by omega)
      obtain ⟨o, ho⟩ : ∃ o, o = L.getD (a + k) false := ⟨_, rfl⟩
      rw [← ho] at c0
      have hs : Hid (Bt.fd (Bt.num L) a (k + 1) = Bt.fd (Bt.num L) a k + o.toNat * 2 ^ k) := by
        show _ = _
        rw [Bt.fd_succ, Bt.bt_num, ho]
      have hor := hidden (Bt.fd_or (Bt.num L) a k (by omega))
      clear hcell ho
      cases o with
      | true =>
        go_wp2
        go_round
        case rel => exact ⟨k + 1, by omega, by go_num, by rw [hor.out, hs.out]; simp⟩
        case measure => simp [intOf]; omega
      | false =>
        go_wp2
        go_round
        case rel => exact ⟨k + 1, by omega, by go_num, by rw [hs.out]; simp⟩
        case measure => simp [intOf]; omega
    · obtain rfl : k = n := by omega
      go_wp2
      go_ret
      exact ⟨rfl, rfl⟩
set_option maxHeartbeats 1000000 in
theorem rWord_in (L : List Bool) (v : Value) (i : Nat) (w : World) (h : Bl w v L) (hL : L.length ≤ 4294967296) (hi : i ≤ L.length / 64) :
    Calls Tryd.prog 81 #[v, .int .i64 (i : Nat)] w fun e w' => e = .returned (.int .u64 ((Bt.wd (Bt.num L) i : Nat) : Int)) ∧ w' = w := by
  obtain ⟨ao, cap, rfl, hcap, hc⟩ := h.form
  have HH : Hid (Bl w (.slice ao L.length cap) L) := h
  obtain ⟨A, hA⟩ : ∃ A : Nat, 64 * (i : Int) = (A : Int) := ⟨64 * i, by omega⟩
  obtain ⟨N, hN⟩ : ∃ N : Nat, min 64 ((L.length : Int) - (A : Int)) = (N : Int) := ⟨min 64 (L.length - A), by omega⟩
  have HV : Hid (Bt.wd (Bt.num L) i = Bt.fd (Bt.num L) A N) := by
    show _ = _
    rw [Bt.wd_fd _ L.length i (Bt.num_lt L), show A = 64 * i from by omega, show N = min 64 (L.length - 64 * i) from by omega]
  have h1 : A + N ≤ L.length := by omega
  have h2 : N ≤ 64 := by omega
  clear hc h
  go_enter Tryd.func81, Tryd.ntmps81
  go_wp2_with fail
  refine (rFld_any L _ A N _ HH.out hL h1 h2).mono ?_
  rintro e w1 ⟨rfl, rfl⟩
  go_wp2_with fail
  go_ret
  exact ⟨ret_int (by rw [HV.out]), rfl⟩
set_option maxHeartbeats 1000000 in
theorem rWord_out (L : List Bool) (v : Value) (i : Int) (w : World) (h : Bl w v L) (hL : L.length ≤ 4294967296) (hi : i < 0 ∨ ((L.length / 64 : Nat) : Int) < i) :
    Calls Tryd.prog 81 #[v, .int .i64 i] w fun e w' => e = .returned (.int .u64 0) ∧ w' = w := by
  obtain ⟨ao, cap, rfl, hcap, hc⟩ := h.form
  clear hc h
  rcases hi with hi | hi
  · go_enter Tryd.func81, Tryd.ntmps81
    go_wp2
    go_ret
    exact ⟨rfl, rfl⟩
  · have hi2 : (L.length : Int) / 64 < i := by omega
    go_enter Tryd.func81, Tryd.ntmps81
    go_wp2
    go_ret
    exact ⟨rfl, rfl⟩
theorem rWord_any (L : List Bool) (v : Value) (i : Int) (w : World) (h : Bl w v L) (hL : L.length ≤ 4294967296) :
    Calls Tryd.prog 81 #[v, .int .i64 i] w fun e w' => e = .returned (.int .u64 ((Bt.wdI (Bt.num L) i : Nat) : Int)) ∧ w' = w := by
  by_cases h0 : 0 ≤ i
  · obtain ⟨j, rfl⟩ := Int.eq_ofNat_of_zero_le h0
    rw [Bt.wdI_nat]
    by_cases hj : j ≤ L.length / 64
    · exact rWord_in L v j w h hL hj
    · rw [Bt.wd_big _ L.length j (Bt.num_lt L) (by omega)]
      exact rWord_out L v _ w h hL (.inr (by omega))
  · have e : Bt.wdI (Bt.num L) i = 0 := by unfold Bt.wdI; rw [if_neg h0]
    rw [e]
    exact rWord_out L v i w h hL (.inl (by omega))
end Go.Proofs.YtfohldojcdhnhaaDoor
