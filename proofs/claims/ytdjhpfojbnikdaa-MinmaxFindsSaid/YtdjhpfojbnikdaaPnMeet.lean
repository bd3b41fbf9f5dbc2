/-
  The contract of paren's meet: at a function that reads the bits of a number, for every number and every excess; nothing in memory is changed.
-/
import Derived.Test.YtdjhpfojbnikdaaPnBase
import Derived.Test.YtdjhpfojbnikdaaScopeTwo
namespace Go.Proofs.Ytdjhpfojbnikdaa
open Go.RowKit
/-- Where the search stands at a label: behind the first i bits, none of whose beginnings has the excess. -/
def MeetAt (n Y : Nat) (d : Int) (f : Value) (w : World) (a' : Act) (w' : World) : Prop :=
  w' = w ∧ ∃ (i : Nat) (u8 u9 u10 u11 u12 u13 u14 u15 u16 u17 u18 u19 u20 u21 u22 u23 u24 u25 u26 u27 u28 u29 u30 u31 u32 u33 u34 u35 u36 u37 u38 u39 u40 u41 u42 u43 u44 u45 u46 u47 u48 u49 u50 u51 u52 u53 u54 u55 u56 u57 u58 u59 u60 u61 u62 u63 u64 u65 u66 u67 u68 u69 u70 u71 : Value), a' = { tmps := #[.int .i64 (n : Nat), .int .i64 (d - Wd.exc Y i), f, undef, undef, undef, .int .i64 0, .int .i64 (i : Nat), u8, u9, u10, u11, u12, u13, u14, u15, u16, u17, u18, u19, u20, u21, u22, u23, u24, u25, u26, u27, u28, u29, u30, u31, u32, u33, u34, u35, u36, u37, u38, u39, u40, u41, u42, u43, u44, u45, u46, u47, u48, u49, u50, u51, u52, u53, u54, u55, u56, u57, u58, u59, u60, u61, u62, u63, u64, u65, u66, u67, u68, u69, u70, u71], defers := [] } ∧ i ≤ n ∧ Pn.Unmet Y d i
theorem MeetAt.mk {n Y i : Nat} {d dd : Int} {f : Value} {w : World} {u8 u9 u10 u11 u12 u13 u14 u15 u16 u17 u18 u19 u20 u21 u22 u23 u24 u25 u26 u27 u28 u29 u30 u31 u32 u33 u34 u35 u36 u37 u38 u39 u40 u41 u42 u43 u44 u45 u46 u47 u48 u49 u50 u51 u52 u53 u54 u55 u56 u57 u58 u59 u60 u61 u62 u63 u64 u65 u66 u67 u68 u69 u70 u71 : Value} (hi : i ≤ n) (hu : Pn.Unmet Y d i) (hd : dd = d - Wd.exc Y i) : MeetAt n Y d f w { tmps := #[.int .i64 (n : Nat), .int .i64 dd, f, undef, undef, undef, .int .i64 0, .int .i64 (i : Nat), u8, u9, u10, u11, u12, u13, u14, u15, u16, u17, u18, u19, u20, u21, u22, u23, u24, u25, u26, u27, u28, u29, u30, u31, u32, u33, u34, u35, u36, u37, u38, u39, u40, u41, u42, u43, u44, u45, u46, u47, u48, u49, u50, u51, u52, u53, u54, u55, u56, u57, u58, u59, u60, u61, u62, u63, u64, u65, u66, u67, u68, u69, u70, u71], defers := [] } w := by
  subst hd
  exact ⟨rfl, i, u8, u9, u10, u11, u12, u13, u14, u15, u16, u17, u18, u19, u20, u21, u22, u23, u24, u25, u26, u27, u28, u29, u30, u31, u32, u33, u34, u35, u36, u37, u38, u39, u40, u41, u42, u43, u44, u45, u46, u47, u48, u49, u50, u51, u52, u53, u54, u55, u56, u57, u58, u59, u60, u61, u62, u63, u64, u65, u66, u67, u68, u69, u70, u71, rfl, hi, hu⟩
set_option maxHeartbeats 2000000 in
set_option maxRecDepth 100000 in
theorem meet_any (g n Y : Nat) (d : Int) (cb : Array Value) (w : World) (hg : Rd g n Y cb w) (hn : n ≤ 4294967296) :
    Calls Try.prog 45 #[.int .i64 (n : Nat), .int .i64 d, .func (.func g) #[] cb] w fun e w' => e = .returned (.int .i64 (Wd.find Y n d : Nat)) ∧ w' = w := by
  have eg := hg.enters
  have HG := hidden hg.reads
  clear hg
  by_cases hd : d ≤ (n : Int) ∧ -(n : Int) ≤ d
  · obtain ⟨hd1, hd2⟩ := hd
    go_enter Try.func45, Try.ntmps45
    go_wp2_with fail
    refine wp_scope_two 0 1 (MeetAt n Y d (.func (.func g) #[] cb) w) (MeetAt n Y d (.func (.func g) #[] cb) w) (fun a' _ => n - (intOf (a'.tmps.getD 7 undef)).toNat) rfl rfl ?_ ?_ ?_
    · go_wp2_with fail
      exact MeetAt.mk (Nat.zero_le n) (Pn.Unmet.zero Y d) (by rw [Wd.exc_zero, Int.sub_zero])
    · rintro a' w' ⟨rfl, i0, u8, u9, u10, u11, u12, u13, u14, u15, u16, u17, u18, u19, u20, u21, u22, u23, u24, u25, u26, u27, u28, u29, u30, u31, u32, u33, u34, u35, u36, u37, u38, u39, u40, u41, u42, u43, u44, u45, u46, u47, u48, u49, u50, u51, u52, u53, u54, u55, u56, u57, u58, u59, u60, u61, u62, u63, u64, u65, u66, u67, u68, u69, u70, u71, rfl, hi0, hu0⟩
      have HU0 := hidden hu0
      clear hu0
      have hm0 : (intOf (Value.int .i64 (i0 : Int))).toNat = i0 := by simp [intOf]
      go_hide hQ
      go_wp2_with fail
      go_loopw [1, 7] (fun s1 s7 wr => ∃ i : Nat, i0 ≤ i ∧ i ≤ n ∧ s1 = .int .i64 (d - Wd.exc Y i) ∧ s7 = .int .i64 (i : Nat) ∧ Hid (Pn.Unmet Y d i) ∧ wr = w') (fun _ s7 _ => n - (intOf s7).toNat)
      case atStart => exact ⟨i0, by omega, hi0, rfl, rfl, HU0.out, rfl⟩
      case round =>
        obtain ⟨i, hi1, hi2, rfl, rfl, HU, rfl⟩ := hrel
        have hb := Wd.exc_bounds Y i
        obtain ⟨dd, hdd⟩ : ∃ dd, dd = d - Wd.exc Y i := ⟨_, rfl⟩
        rw [← hdd]
        have hdb : -8589934592 ≤ dd ∧ dd ≤ 8589934592 := by omega
        have HDD := hidden hdd
        have HI1 := hidden hi1
        clear hdd hb hi1
        by_cases hlt : i + 64 ≤ n
        · have hge : (64 : Int) ≤ (n : Int) - (i : Int) := by omega
          have hF := Bt.fd_lt64 Y i 64 (by omega)
          obtain ⟨F, hFd⟩ : ∃ F, F = Bt.fd Y i 64 := ⟨_, rfl⟩
          rw [← hFd] at hF
          have HFD := hidden hFd
          have ho := Wd.ones_le F 64
          obtain ⟨o, hod⟩ : ∃ o, o = Wd.ones F 64 := ⟨_, rfl⟩
          rw [← hod] at ho
          have HOD := hidden hod
          clear hFd hod
          have HLT := hidden hlt
          clear hlt
          by_cases hc : dd ≤ (o : Int) ∧ (o : Int) - 64 ≤ dd
          · obtain ⟨hc1, hc2⟩ := hc
            go_wp2_with fail
            refine (HG.out i 64 (by omega) HLT.out).mono ?_
            rintro e1 w1 ⟨rfl, rfl⟩
            rw [← HFD.out]
            go_wp2_with fail
            refine (Ones_any F 64 _ hF).mono ?_
            rintro e1 w1 ⟨rfl, rfl⟩
            rw [show Wd.cl 64 = 64 from rfl, ← HOD.out]
            go_wp2_with fail
            go_step3
            subst hQ
            show _ ∧ _ ∧ _
            exact ⟨rfl, MeetAt.mk hi2 HU.out HDD.out, Nat.sub_le_sub_left HI1.out n⟩
          · have hc' : (o : Int) < dd ∨ (dd ≤ (o : Int) ∧ dd < (o : Int) - 64) := by omega
            have HC := hidden hc
            clear hc
            rcases hc' with hc1 | ⟨hc1, hc2⟩
            · go_wp2_with fail
              refine (HG.out i 64 (by omega) HLT.out).mono ?_
              rintro e1 w1 ⟨rfl, rfl⟩
              rw [← HFD.out]
              go_wp2_with fail
              refine (Ones_any F 64 _ hF).mono ?_
              rintro e1 w1 ⟨rfl, rfl⟩
              rw [show Wd.cl 64 = 64 from rfl, ← HOD.out]
              go_wp2_with fail
              go_roundw
              case rel =>
                have h1 := HC.out
                have h2 := HOD.out
                have h3 := HDD.out
                have h4 := HLT.out
                rw [HFD.out] at h2
                refine ⟨i + 64, by have := HI1.out; omega, h4, ?_, by go_num, HU.out.far (by rw [← h3]; unfold Bt.fd at h2; rw [← h2]; omega), trivial⟩
                rw [← Pn.far_on, ← h3]
                unfold Bt.fd at h2
                rw [← h2]
              case measure => have := HLT.out; simp [intOf]; omega
            · go_wp2_with fail
              refine (HG.out i 64 (by omega) HLT.out).mono ?_
              rintro e1 w1 ⟨rfl, rfl⟩
              rw [← HFD.out]
              go_wp2_with fail
              refine (Ones_any F 64 _ hF).mono ?_
              rintro e1 w1 ⟨rfl, rfl⟩
              rw [show Wd.cl 64 = 64 from rfl, ← HOD.out]
              go_wp2_with fail
              go_roundw
              case rel =>
                have h1 := HC.out
                have h2 := HOD.out
                have h3 := HDD.out
                have h4 := HLT.out
                rw [HFD.out] at h2
                refine ⟨i + 64, by have := HI1.out; omega, h4, ?_, by go_num, HU.out.far (by rw [← h3]; unfold Bt.fd at h2; rw [← h2]; omega), trivial⟩
                rw [← Pn.far_on, ← h3]
                unfold Bt.fd at h2
                rw [← h2]
              case measure => have := HLT.out; simp [intOf]; omega
        · have hge : (n : Int) - (i : Int) < 64 := by omega
          have HLT := hidden hlt
          clear hlt
          go_wp2_with fail
          subst hQ
          show _ ∧ _
          exact ⟨MeetAt.mk hi2 HU.out HDD.out, Nat.sub_le_sub_left HI1.out n⟩
    · rintro a' w' ⟨rfl, i, u8, u9, u10, u11, u12, u13, u14, u15, u16, u17, u18, u19, u20, u21, u22, u23, u24, u25, u26, u27, u28, u29, u30, u31, u32, u33, u34, u35, u36, u37, u38, u39, u40, u41, u42, u43, u44, u45, u46, u47, u48, u49, u50, u51, u52, u53, u54, u55, u56, u57, u58, u59, u60, u61, u62, u63, u64, u65, u66, u67, u68, u69, u70, u71, rfl, hi, hu⟩
      have HU := hidden hu
      clear hu
      have hb := Wd.exc_bounds Y i
      obtain ⟨dd, hdd⟩ : ∃ dd, dd = d - Wd.exc Y i := ⟨_, rfl⟩
      rw [← hdd]
      have hdb : -8589934592 ≤ dd ∧ dd ≤ 8589934592 := by omega
      have HDD := hidden hdd
      clear hdd hb
      go_hide hQ
      obtain ⟨m, hm⟩ : ∃ m : Nat, min 64 ((n : Int) - (i : Int)) = (m : Int) := ⟨(min 64 ((n : Int) - (i : Int))).toNat, by omega⟩
      have hm1 : m ≤ 64 ∧ i + m ≤ n ∧ (m < 64 → i + m = n) := by omega
      obtain ⟨hm1, hm2, hm3⟩ := hm1
      have HM2 := hidden hm2
      have HM3 := hidden hm3
      have hF := Bt.fd_lt64 Y i m hm1
      have hcl := Wd.cl_nat m hm1
      obtain ⟨F, hFd⟩ : ∃ F, F = Bt.fd Y i m := ⟨_, rfl⟩
      rw [← hFd] at hF
      have HFD := hidden hFd
      have hkl := Wd.find_le F m dd
      obtain ⟨k, hkd⟩ : ∃ k, k = Wd.find F m dd := ⟨_, rfl⟩
      rw [← hkd] at hkl
      have HKD := hidden hkd
      have HCL := hidden hcl
      clear hFd hkd hcl hm2 hm3
      go_wp2_with fail
      refine (HG.out i m hm1 HM2.out).mono ?_
      rintro e1 w1 ⟨rfl, rfl⟩
      rw [← HFD.out]
      go_wp2_with fail
      refine (Find_any F m dd _ hF).mono ?_
      rintro e1 w1 ⟨rfl, rfl⟩
      rw [HCL.out, ← HKD.out]
      by_cases hk : 0 < k
      · have hk' : (0 : Int) < (k : Int) := by omega
        go_wp2_with fail
        subst hQ
        simp only [Exit.jump]
        go_ret
        refine ⟨ret_int ?_, rfl⟩
        have h1 := HKD.out
        rw [HFD.out, HDD.out] at h1
        rw [HU.out.found HM2.out h1.symm hk]
        omega
      · obtain rfl : k = 0 := by omega
        have hu1 : Hid (Pn.Unmet Y d (i + m)) := HU.out.on (by have h1 := HKD.out; rw [HFD.out, HDD.out] at h1; exact h1.symm)
        by_cases hm64 : m < 64
        · have hm' : (m : Int) < 64 := by omega
          have HZ : Hid (Wd.find Y n d = 0) := Pn.Unmet.none (by rw [← HM3.out hm64]; exact hu1.out)
          go_wp2_with fail
          subst hQ
          simp only [Exit.jump]
          go_ret
          exact ⟨ret_int (by rw [HZ.out]; rfl), rfl⟩
        · obtain rfl : m = 64 := by omega
          have he : -64 ≤ Wd.exc F 64 ∧ Wd.exc F 64 ≤ 64 := Wd.exc_bounds F 64
          obtain ⟨x, hx⟩ : ∃ x, x = Wd.exc F 64 := ⟨_, rfl⟩
          rw [← hx] at he
          have HX := hidden hx
          clear hx hm64
          go_wp2_with fail
          refine (Excess_any F _ _ hF).mono ?_
          rintro e1 w1 ⟨rfl, rfl⟩
          rw [show Wd.cl 64 = 64 from rfl, ← HX.out]
          go_wp2_with fail
          go_step3
          subst hQ
          show _ ∧ _ ∧ _
          refine ⟨rfl, MeetAt.mk HM2.out hu1.out ?_, ?_⟩
          · rw [Pn.exc_on Y i 64, HX.out, HFD.out, HDD.out]
            unfold Bt.fd
            omega
          · have := HM2.out
            show n - (i + 64) < n - i
            omega
  · have HZ : Hid (Wd.find Y n d = 0) := Wd.find_eq (.inr ⟨rfl, fun j j1 j2 => by have := Wd.exc_bounds Y j; omega⟩)
    have hor : (n : Int) < d ∨ (d ≤ (n : Int) ∧ d < -(n : Int)) := by omega
    clear hd
    rcases hor with h | ⟨h1, h2⟩
    · go_enter Try.func45, Try.ntmps45
      go_wp2_with fail
      go_step3
      go_wp2_with fail
      rw [Exit.noGoto_ret]
      go_ret
      exact ⟨ret_int (by rw [HZ.out]; rfl), rfl⟩
    · go_enter Try.func45, Try.ntmps45
      go_wp2_with fail
      go_step3
      go_wp2_with fail
      rw [Exit.noGoto_ret]
      go_ret
      exact ⟨ret_int (by rw [HZ.out]; rfl), rfl⟩
end Go.Proofs.Ytdjhpfojbnikdaa
