/-
  The walk of the law ScanAlive: it returns true for every string and every number; nothing that was there is changed.
-/
import Derived.Test.YtkjkjnkpncgdnaaJsAwake
namespace Go.Proofs.Ytkjkjnkpncgdnaa
open Go.RowKit
theorem ScanAlive_long (s : ByteArray) (n : Int) (w : World) (hl : 300 < s.size) (hm : s.size ≤ 9223372036854775807) :
    Calls Try.prog 4 #[.string s, .int .u16 n] w fun e w' => e = .returned (.bool true) ∧ Below w.heap.size w w' := by
  have hlt : (300 : Int) < (s.size : Int) := by omega
  go_enter Try.func4, Try.ntmps4
  go_wp2_with fail
  refine (awake12_any w).mono ?_
  rintro e w1 ⟨rfl, h1⟩
  have HB1 := hidden h1
  clear h1
  go_wp2_with fail
  refine (awake12_any w1).mono ?_
  rintro e w2 ⟨rfl, h2⟩
  have HB2 := hidden (Js.bel_then HB1.out h2)
  clear h2
  go_wp2_with fail
  go_ret
  exact ⟨rfl, HB2.out⟩
set_option maxHeartbeats 2000000 in
theorem ScanAlive_short (s : ByteArray) (n : Nat) (w : World) (hl : ¬ 300 < s.size) (hn : n ≤ 65535) :
    Calls Try.prog 4 #[.string s, .int .u16 (n : Nat)] w fun e w' => e = .returned (.bool true) ∧ Below w.heap.size w w' := by
  have hlt : ¬ (300 : Int) < (s.size : Int) := by omega
  have hlen : s.data.toList.length = s.size := rfl
  have HLEN := hidden hlen
  have hle := Js.out_le s.data.toList Js.c0
  rw [hlen] at hle
  clear hlen
  have HSV := hidden (fun w => sShort_any s w (by omega))
  have HCUT : Hid (∀ k w, k ≤ s.size → Calls Try.prog 10 #[.string (s.extract 0 k), .int .i64 4096] w fun e w' => ((∃ D : Nat, (Js.out Js.c0 (s.data.toList.take k)).1 = some D ∧ e = .returned (.tuple #[.int .i64 1, .int .i64 (D : Nat), .int .i64 0])) ∨ ((Js.out Js.c0 (s.data.toList.take k)).1 = none ∧ e = .returned (.tuple #[.int .i64 3, .int .i64 (((Js.out Js.c0 (s.data.toList.take k)).2 : Nat) : Int), .int .i64 0]))) ∧ Below w.heap.size w w') := hidden fun k w hk => by
    have := sShort_any (s.extract 0 k) w (by rw [ByteArray.size_extract]; omega)
    rw [Js.cut_bytes] at this
    exact this
  have HC : Hid (∀ k, k ≤ (Js.out Js.c0 s.data.toList).2 → (Js.out Js.c0 (s.data.toList.take k)).2 = k) := hidden fun k hk => Js.out_cut _ _ k hk
  have HDIE := hidden (Js.out_die s.data.toList Js.c0)
  have HALL := hidden (Js.out_all s.data.toList Js.c0)
  go_enter Try.func4, Try.ntmps4
  go_wp2_with fail
  refine (awake12_any w).mono ?_
  rintro e w1 ⟨rfl, h1⟩
  have HB1 := hidden h1
  clear h1
  go_wp2_with fail
  refine (HSV.out w1).mono ?_
  rintro e w2 ⟨⟨D, ho, rfl⟩ | ⟨ho, rfl⟩, h2⟩
  · have HB2 := hidden (Js.bel_then HB1.out h2)
    have hall := HALL.out D ho
    rw [HLEN.out] at hall
    have HAL := hidden hall
    obtain ⟨k, hk⟩ : ∃ k, k = n % (s.size + 1) := ⟨_, rfl⟩
    have hks : k ≤ s.size := by
      have := Nat.mod_lt n (show 0 < s.size + 1 by omega)
      omega
    have hmod : (n : Int).tmod ((s.size : Int) + 1) = (k : Int) := by
      rw [hk, Int.tmod_eq_emod_of_nonneg (by omega)]
      exact (Int.natCast_emod n (s.size + 1)).symm
    clear h2 ho hall hk hle
    go_wp2_with fail
    refine (HCUT.out k w2 hks).mono ?_
    rintro e w3 ⟨⟨D3, ho, rfl⟩ | ⟨ho, rfl⟩, h3⟩
    · have HB3 := hidden (Js.bel_then HB2.out h3)
      clear h3 ho
      go_wp2_with fail
      go_ret
      exact ⟨rfl, HB3.out⟩
    · have HB3 := hidden (Js.bel_then HB2.out h3)
      have hc := HC.out k (by rw [HAL.out]; exact hks)
      rw [hc]
      clear h3 ho hc
      go_wp2_with fail
      go_ret
      exact ⟨by simp, HB3.out⟩
  · have HB2 := hidden (Js.bel_then HB1.out h2)
    have HO := hidden ho
    obtain ⟨k, hk⟩ : ∃ k, k = (Js.out Js.c0 s.data.toList).2 := ⟨_, rfl⟩
    rw [← hk] at hle HC HDIE ⊢
    have HK := hidden hk
    clear h2 ho hk
    by_cases hks : k < s.size
    · have HX : Hid (Js.out Js.c0 (s.data.toList.take (k + 1)) = (none, k)) := hidden (HDIE.out (by rw [HLEN.out]; exact hks))
      have HCX : Hid (∀ w, Calls Try.prog 10 #[.string (s.extract 0 (k + 1)), .int .i64 4096] w fun e w' => e = .returned (.tuple #[.int .i64 3, .int .i64 (k : Nat), .int .i64 0]) ∧ Below w.heap.size w w') := hidden fun w => by
        refine (HCUT.out (k + 1) w hks).mono ?_
        rintro e w' ⟨⟨D, h1, _⟩ | ⟨_, h1⟩, hb⟩
        · rw [HX.out] at h1
          cases h1
        · rw [HX.out] at h1
          exact ⟨h1, hb⟩
      go_wp2_with fail
      refine (HCUT.out k w2 hle).mono ?_
      rintro e w3 ⟨⟨D3, ho3, rfl⟩ | ⟨ho3, rfl⟩, h3⟩
      · have HB3 := hidden (Js.bel_then HB2.out h3)
        clear h3 ho3
        go_wp2_with fail
        refine (HCX.out w3).mono ?_
        rintro e w4 ⟨rfl, h4⟩
        have HB4 := hidden (Js.bel_then HB3.out h4)
        clear h4
        go_wp2_with fail
        go_ret
        exact ⟨by simp, HB4.out⟩
      · have HB3 := hidden (Js.bel_then HB2.out h3)
        have hc := HC.out k (Nat.le_refl _)
        rw [hc]
        clear h3 ho3 hc
        go_wp2_with fail
        refine (HCX.out w3).mono ?_
        rintro e w4 ⟨rfl, h4⟩
        have HB4 := hidden (Js.bel_then HB3.out h4)
        clear h4
        go_wp2_with fail
        go_ret
        exact ⟨by simp, HB4.out⟩
    · have HCX : Hid (∀ w, Calls Try.prog 10 #[.string s, .int .i64 4096] w fun e w' => e = .returned (.tuple #[.int .i64 3, .int .i64 (k : Nat), .int .i64 0]) ∧ Below w.heap.size w w') := hidden fun w => by
        refine (HSV.out w).mono ?_
        rintro e w' ⟨⟨D, h1, _⟩ | ⟨_, h1⟩, hb⟩
        · rw [HO.out] at h1
          cases h1
        · rw [HK.out]
          exact ⟨h1, hb⟩
      go_wp2_with fail
      refine (HCUT.out k w2 hle).mono ?_
      rintro e w3 ⟨⟨D3, ho3, rfl⟩ | ⟨ho3, rfl⟩, h3⟩
      · have HB3 := hidden (Js.bel_then HB2.out h3)
        clear h3 ho3
        go_wp2_with fail
        refine (HCX.out w3).mono ?_
        rintro e w4 ⟨rfl, h4⟩
        have HB4 := hidden (Js.bel_then HB3.out h4)
        clear h4
        go_wp2_with fail
        go_ret
        exact ⟨by simp, HB4.out⟩
      · have HB3 := hidden (Js.bel_then HB2.out h3)
        have hc := HC.out k (Nat.le_refl _)
        rw [hc]
        clear h3 ho3 hc
        go_wp2_with fail
        refine (HCX.out w3).mono ?_
        rintro e w4 ⟨rfl, h4⟩
        have HB4 := hidden (Js.bel_then HB3.out h4)
        clear h4
        go_wp2_with fail
        go_ret
        exact ⟨by simp, HB4.out⟩
theorem ScanAlive_walk (s : ByteArray) (n : Int) (w : World) (hm : s.size ≤ 9223372036854775807) (hn0 : 0 ≤ n) (hn1 : n ≤ 65535) :
    Calls Try.prog 4 #[.string s, .int .u16 n] w fun e w' => e = .returned (.bool true) ∧ Below w.heap.size w w' := by
  obtain ⟨n, rfl⟩ := Int.eq_ofNat_of_zero_le hn0
  by_cases hl : 300 < s.size
  · exact ScanAlive_long s n w hl hm
  · exact ScanAlive_short s n w hl (by omega)
end Go.Proofs.Ytkjkjnkpncgdnaa
