/-
  The law NumWhole: its walk.
-/
import Derived.Test.YthimbaflodphmaaDoorNuLit
namespace Go.Proofs.YthimbaflodphmaaDoor
open Go.RowKit
open Nu
namespace Nu
theorem cat_point (l : List UInt8) : str l ++ (⟨#[46]⟩ : ByteArray) = str (l ++ [46]) := by
  apply ByteArray.ext
  simp [str]
theorem cat_nought (l : List UInt8) (k : Nat) : str (l ++ List.replicate k 48) ++ (⟨#[48]⟩ : ByteArray) = str (l ++ List.replicate (k + 1) 48) := by
  apply ByteArray.ext
  rw [List.replicate_succ']
  simp [str]
theorem txt_length (n : Int) (h0 : -9223372036854775808 ≤ n) (h1 : n ≤ 9223372036854775807) : (txt n).length ≤ 21 := by
  have h20 : Lib.nDigits n.natAbs ≤ 20 := by
    by_cases h1u : 1 ≤ n.natAbs
    · have := Lib.numDigits_eq n.natAbs h1u (by omega)
      split at this <;> omega
    · rw [Lib.nDigits_small (by omega)]
      omega
  unfold txt
  rw [List.length_append, Lib.decDigits_length]
  split <;> simp <;> omega
end Nu
set_option maxHeartbeats 4000000 in
set_option maxRecDepth 100000 in
theorem NumWhole_walk (n m zz : Int) (W : World) (h0 : -9223372036854775808 ≤ n) (h1 : n ≤ 9223372036854775807) (m0 : -9223372036854775808 ≤ m) (m1 : m ≤ 9223372036854775807) (z0 : 0 ≤ zz) (z1 : zz ≤ 255) (hT : Ten W) :
    Calls Tryd.prog 5 #[.int .i64 n, .int .i64 m, .int .u8 zz] W fun e w' => e = .returned (.bool true) ∧ Below W.heap.size W w' := by
  obtain ⟨z, rfl⟩ : ∃ z : Nat, zz = (z : Int) := ⟨zz.toNat, by omega⟩
  have htl := txt_length n h0 h1
  have hnl : (noughts z).length ≤ 256 := by
    unfold noughts
    split <;> simp <;> omega
  have hfl : (txt n ++ noughts z).length ≤ 1000000 := by rw [List.length_append]; omega
  have hW := fun v hv => Whole_any (txt n ++ noughts z) v hfl hv
  have hC := fun v hv => Cmp_any (txt n ++ noughts z) m m0 m1 v hfl hv
  simp only [whole_whole n z h0 h1] at hW
  simp only [cmp_whole n m z h0 h1] at hC
  have hn1 : z = 0 → txt n ++ noughts z = txt n := fun e => by rw [e]; exact List.append_nil _
  have hn2 : z ≠ 0 → txt n ++ noughts z = (txt n ++ [46]) ++ List.replicate z 48 := fun e => by
    unfold noughts
    rw [if_neg e, List.append_assoc]
    rfl
  obtain ⟨L, hL⟩ : ∃ L, L = txt n ++ noughts z := ⟨_, rfl⟩
  rw [← hL] at hn1 hn2
  simp only [← hL] at hW hC
  obtain ⟨T, hTx⟩ : ∃ T, T = txt n := ⟨_, rfl⟩
  have htext := fun v => text_any n h0 h1 v
  simp only [← hTx] at htext
  rw [← hTx] at hn1 hn2 htl
  have hTlen := str_size T
  have hcp := cat_point T
  have hcn := fun k => cat_nought (T ++ [46]) k
  have hfs : ∀ k, k ≤ 255 → (str ((T ++ [46]) ++ List.replicate k 48)).size ≤ 400 := fun k hk => by rw [str_size]; simp; omega
  obtain ⟨fa, hfa⟩ : ∃ fa : Nat → List UInt8, ∀ k, fa k = (T ++ [46]) ++ List.replicate k 48 := ⟨_, fun _ => rfl⟩
  simp only [← hfa] at hcn hfs
  have hf0 : str T ++ (⟨#[46]⟩ : ByteArray) = str (fa 0) := by rw [hfa, List.replicate_zero, List.append_nil, hcp]
  have HFS := hidden hfs
  replace hn2 : z ≠ 0 → L = fa z := fun e => by rw [hn2 e, hfa]
  have HN1 := hidden hn1
  have HN2 := hidden hn2
  have HW := hidden hW
  have HC := hidden hC
  have HTX := hidden htext
  have HCN := hidden hcn
  have HT := hidden hT
  clear hn1 hn2 hW hC htext hcn hT hfl hnl hL hTx hcp hfa hfs
  go_enter Tryd.func5, Tryd.ntmps5
  go_wp2_with fail
  refine (awake10_any _ HT.out).mono ?_
  rintro e w1 ⟨rfl, hB1⟩
  have HB1 := hidden hB1
  clear hB1
  go_wp2_with fail
  refine (HTX.out _).mono ?_
  rintro e w2 ⟨rfl, hB2⟩
  have HB2 := hidden (below_after HB1.out hB2)
  have HT2 := hidden (HT.out.below HB2.out (Nat.le_refl _))
  clear hB2
  have hwant : (n < m ∧ cmp3 n m = -1) ∨ (n = m ∧ cmp3 n m = 0) ∨ (m < n ∧ cmp3 n m = 1) := by
    unfold cmp3
    rcases Int.lt_trichotomy n m with h | h | h
    · exact .inl ⟨h, by rw [if_pos h]⟩
    · exact .inr (.inl ⟨h, by rw [if_neg (by omega), if_neg (by omega)]⟩)
    · exact .inr (.inr ⟨h, by rw [if_neg (by omega), if_pos h]⟩)
  have HWA := hidden hwant
  clear hwant
  by_cases hz : z = 0
  · have e1 := HN1.out hz
    subst hz
    rw [e1] at HW HC
    clear e1
    by_cases hin : -9007199254740991 ≤ n ∧ n ≤ 9007199254740991
    · have hv := HW.out
      simp only [if_pos hin] at hv
      have HV := hidden hv
      obtain ⟨hin1, hin2⟩ := hin
      clear hv
      rcases HWA.out with ⟨hc, hcv⟩ | ⟨hc, hcv⟩ | ⟨hc, hcv⟩
      all_goals (
        have hcc := HC.out
        simp only [hcv] at hcc
        have HCC := hidden hcc
        clear hcc hcv
        try subst hc
        go_wp2_with fail
        refine (HV.out _ HT2.out).mono ?_
        rintro e w3 ⟨rfl, hB3⟩
        have HB3 := hidden (below_after HB2.out hB3)
        have HT3 := hidden (HT.out.below HB3.out (Nat.le_refl _))
        clear hB3
        go_wp2_with fail
        refine (HCC.out _ HT3.out).mono ?_
        rintro e w4 ⟨rfl, hB4⟩
        have HB4 := hidden (below_after HB3.out hB4)
        clear hB4
        go_wp2_with fail
        go_ret
        first | exact ⟨rfl, HB4.out⟩ | exact ⟨ret_bool (by simp; omega), HB4.out⟩)
    · have hv := HW.out
      simp only [if_neg hin] at hv
      have HV := hidden hv
      have hout : n < -9007199254740991 ∨ 9007199254740991 < n := by omega
      have hnz : ((0 : Int) == n) = false := by rw [beq_eq_false_iff_ne]; omega
      clear hv hin
      rcases HWA.out with ⟨hc, hcv⟩ | ⟨hc, hcv⟩ | ⟨hc, hcv⟩ <;> rcases hout with ho | ho
      all_goals (
        have hcc := HC.out
        simp only [hcv] at hcc
        have HCC := hidden hcc
        clear hcc hcv
        try subst hc
        go_wp2_with fail
        refine (HV.out _ HT2.out).mono ?_
        rintro e w3 ⟨rfl, hB3⟩
        have HB3 := hidden (below_after HB2.out hB3)
        have HT3 := hidden (HT.out.below HB3.out (Nat.le_refl _))
        clear hB3
        go_wp2_with fail
        refine (HCC.out _ HT3.out).mono ?_
        rintro e w4 ⟨rfl, hB4⟩
        have HB4 := hidden (below_after HB3.out hB4)
        clear hB4
        go_wp2_with fail
        go_ret
        first | exact ⟨rfl, HB4.out⟩ | exact ⟨ret_bool (by simp; omega), HB4.out⟩)
  · have hzp : 0 < z := by omega
    have e2 := HN2.out hz
    have HE2 := hidden e2.symm
    clear e2
    go_wp2_with fail
    go_loop [7, 8] (fun s i => ∃ k : Nat, k ≤ z ∧ i = .int .i64 k ∧ s = .string (str (fa k))) (fun _ i => z - (intOf i).toNat)
    case atStart => exact ⟨0, by omega, rfl, rfl⟩
    case round =>
      obtain ⟨k, hk, rfl, rfl⟩ := hrel
      by_cases hlt : k < z
      · have hx := HCN.out k
        have hks := HFS.out k (by omega)
        go_wp2_with fail
        go_round
        case rel => exact ⟨k + 1, by omega, by go_num, rfl⟩
        case measure => simp [intOf]; omega
      · obtain rfl : k = z := by omega
        rw [HE2.out]
        clear HE2 HN1 HN2
        by_cases hin : -9007199254740991 ≤ n ∧ n ≤ 9007199254740991
        · have hv := HW.out
          simp only [if_pos hin] at hv
          have HV := hidden hv
          obtain ⟨hin1, hin2⟩ := hin
          clear hv
          rcases HWA.out with ⟨hc, hcv⟩ | ⟨hc, hcv⟩ | ⟨hc, hcv⟩
          all_goals (
            have hcc := HC.out
            simp only [hcv] at hcc
            have HCC := hidden hcc
            clear hcc hcv
            try subst hc
            go_wp2_with fail
            refine (HV.out _ HT2.out).mono ?_
            rintro e w3 ⟨rfl, hB3⟩
            have HB3 := hidden (below_after HB2.out hB3)
            have HT3 := hidden (HT.out.below HB3.out (Nat.le_refl _))
            clear hB3
            go_wp2_with fail
            refine (HCC.out _ HT3.out).mono ?_
            rintro e w4 ⟨rfl, hB4⟩
            have HB4 := hidden (below_after HB3.out hB4)
            clear hB4
            go_wp2_with fail
            go_ret
            first | exact ⟨rfl, HB4.out⟩ | exact ⟨ret_bool (by simp; omega), HB4.out⟩)
        · have hv := HW.out
          simp only [if_neg hin] at hv
          have HV := hidden hv
          have hout : n < -9007199254740991 ∨ 9007199254740991 < n := by omega
          have hnz : ((0 : Int) == n) = false := by rw [beq_eq_false_iff_ne]; omega
          clear hv hin
          rcases HWA.out with ⟨hc, hcv⟩ | ⟨hc, hcv⟩ | ⟨hc, hcv⟩ <;> rcases hout with ho | ho
          all_goals (
            have hcc := HC.out
            simp only [hcv] at hcc
            have HCC := hidden hcc
            clear hcc hcv
            try subst hc
            go_wp2_with fail
            refine (HV.out _ HT2.out).mono ?_
            rintro e w3 ⟨rfl, hB3⟩
            have HB3 := hidden (below_after HB2.out hB3)
            have HT3 := hidden (HT.out.below HB3.out (Nat.le_refl _))
            clear hB3
            go_wp2_with fail
            refine (HCC.out _ HT3.out).mono ?_
            rintro e w4 ⟨rfl, hB4⟩
            have HB4 := hidden (below_after HB3.out hB4)
            clear hB4
            go_wp2_with fail
            go_ret
            first | exact ⟨rfl, HB4.out⟩ | exact ⟨ret_bool (by simp; omega), HB4.out⟩)
end Go.Proofs.YthimbaflodphmaaDoor
