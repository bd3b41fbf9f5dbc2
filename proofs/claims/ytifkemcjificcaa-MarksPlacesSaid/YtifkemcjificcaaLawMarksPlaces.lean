/-
  The walk of the law MarksPlaces: it returns true for every string; nothing that was there is changed.
-/
import Derived.Test.YtifkemcjificcaaMkAwake
namespace Go.Proofs.Ytifkemcjificcaa
open Go.RowKit
theorem MarksPlaces_long (s : ByteArray) (w : World) (hl : 600 < s.size) (hm : s.size ≤ 9223372036854775807) :
    Calls Try.prog 3 #[.string s] w fun e w' => e = .returned (.bool true) ∧ Below w.heap.size w w' := by
  have hlt : (600 : Int) < (s.size : Int) := by omega
  go_enter Try.func3, Try.ntmps3
  go_wp2_with fail
  refine (awake13_any w).mono ?_
  rintro e w1 ⟨rfl, h1⟩
  have HB1 := hidden h1
  clear h1
  go_wp2_with fail
  refine (awake13_any w1).mono ?_
  rintro e w2 ⟨rfl, h2⟩
  have HB2 := hidden (Mk.bel_then HB1.out h2)
  clear h2
  go_wp2_with fail
  go_ret
  exact ⟨rfl, HB2.out⟩
set_option maxHeartbeats 2000000 in
theorem MarksPlaces_short (s : ByteArray) (w : World) (hl : ¬ 600 < s.size) :
    Calls Try.prog 3 #[.string s] w fun e w' => e = .returned (.bool true) ∧ Below w.heap.size w w' := by
  have hlt : ¬ (600 : Int) < (s.size : Int) := by omega
  have HKP := hidden (fun w => kPlaces_any s w (by omega))
  have HKB := hidden (fun w => kParens_any s w (by omega))
  have HRP := hidden (fun w => mrPlaces_any s w (by omega))
  have HRB := hidden (fun w => mrParens_any s w (by omega))
  have HPL : Hid ((Mk.pl 0 0 s.data.toList).length ≤ 600) := hidden (by
    have h1 := Mk.pl_le s.data.toList 0 0
    have h2 : s.data.toList.length = s.size := rfl
    omega)
  have HBL : Hid ((Mk.bs 0 s.data.toList).length ≤ 1200) := hidden (by
    have h1 := Mk.bs_len s.data.toList 0 0
    have h2 := HPL.out
    omega)
  go_enter Try.func3, Try.ntmps3
  go_wp2_with fail
  refine (awake13_any w).mono ?_
  rintro e w1 ⟨rfl, h1⟩
  have HB1 := hidden h1
  clear h1
  go_wp2_with fail
  go_loopw [3] (fun i wr => ∃ j : Nat, j ≤ 256 ∧ i = .int .i64 (j : Nat) ∧ Below w.heap.size w wr) (fun i _ => 256 - (intOf i).toNat)
  case atStart => exact ⟨0, Nat.zero_le _, rfl, HB1.out⟩
  case round =>
    obtain ⟨j, hj, rfl, hb⟩ := hrel
    have HB := hidden hb
    clear hb
    by_cases hlt3 : j < 256
    · have hlt2 : decide ((j : Int) < 256) = true := decide_eq_true (by omega)
      have hw8 : IntKind.u8.wrap (j : Int) = (j : Int) := by rw [IntKind.wrap_u8]; omega
      have HI := hidden (fun w => kIs_any j w (by omega))
      have HR := hidden (fun w => mrIs_any j w)
      generalize Mk.isM j = o at HI HR
      cases o
      all_goals (
        go_wp2_with fail
        refine (HI.out _).mono ?_
        rintro e w2 ⟨rfl, h2⟩
        have HB2 := hidden (Mk.bel_then HB.out h2)
        clear h2
        go_wp2_with fail
        refine (HR.out _).mono ?_
        rintro e w3 ⟨rfl, hw⟩
        have hw := hw.symm
        subst hw
        go_wp2_with fail
        go_roundw
        case rel => exact ⟨j + 1, by omega, by go_num, HB2.out⟩
        case measure => simp [intOf]; omega)
    · have hlt2 : decide ((j : Int) < 256) = false := decide_eq_false (by omega)
      go_wp2_with fail
      refine (HKP.out _).mono ?_
      rintro e w2 ⟨⟨v2, rfl, hv2⟩, h2⟩
      have HV2 := hidden hv2
      have HB2 := hidden (Mk.bel_then HB.out h2)
      clear h2 hv2
      go_wp2_with fail
      refine (HRP.out _).mono ?_
      rintro e w3 ⟨⟨v3, rfl, hv3⟩, h3⟩
      have HV3 := hidden hv3
      have HV2b := hidden (HV2.out.kept h3)
      have HB3 := hidden (Mk.bel_then HB2.out h3)
      clear h3 hv3
      go_wp2_with fail
      refine (mSameInts_any _ _ v2 v3 _ _ w3 HV2b.out HV3.out (by have := HPL.out; omega) (by have := HPL.out; omega)).mono ?_
      rintro e w4 ⟨rfl, h4⟩
      have HB4 := hidden (Mk.bel_then HB3.out h4)
      rw [decide_eq_true rfl]
      clear h4
      go_wp2_with fail
      refine (HKB.out _).mono ?_
      rintro e w5 ⟨⟨v5, rfl, hv5⟩, h5⟩
      have HV5 := hidden hv5
      have HB5 := hidden (Mk.bel_then HB4.out h5)
      clear h5 hv5
      go_wp2_with fail
      refine (HRB.out _).mono ?_
      rintro e w6 ⟨⟨v6, rfl, hv6⟩, h6⟩
      have HV6 := hidden hv6
      have HV5b := hidden (HV5.out.kept h6)
      have HB6 := hidden (Mk.bel_then HB5.out h6)
      clear h6 hv6
      go_wp2_with fail
      refine (mSameBits_any _ _ v5 v6 _ _ w6 HV5b.out HV6.out (by have := HBL.out; omega) (by have := HBL.out; omega)).mono ?_
      rintro e w7 ⟨rfl, h7⟩
      have HB7 := hidden (Mk.bel_then HB6.out h7)
      rw [decide_eq_true rfl]
      clear h7
      go_wp2_with fail
      go_ret
      exact ⟨rfl, HB7.out⟩
theorem MarksPlaces_walk (s : ByteArray) (w : World) (hm : s.size ≤ 9223372036854775807) :
    Calls Try.prog 3 #[.string s] w fun e w' => e = .returned (.bool true) ∧ Below w.heap.size w w' := by
  by_cases hl : 600 < s.size
  · exact MarksPlaces_long s w hl hm
  · exact MarksPlaces_short s w hl
end Go.Proofs.Ytifkemcjificcaa
