/-
  The contract of scan.Validate: of every string and every deep; nothing that was there is changed.
-/
import Derived.Test.YtkjkjnkpncgdnaaScWalk
import Derived.Test.YtkjkjnkpncgdnaaScUtf
namespace Go.Proofs.Ytkjkjnkpncgdnaa
open Go.RowKit
namespace Js
/-- What scan.Validate answers: the verdict, the place or the depth, the error. -/
def ansV (l : List UInt8) (z : Int) : Int := if 1 ≤ z ∧ z ≤ 4096 then (val l z).1 else 0
def ansP (l : List UInt8) (z : Int) : Int := if 1 ≤ z ∧ z ≤ 4096 then (val l z).2 else 0
def ansE (z : Int) : Int := if 1 ≤ z ∧ z ≤ 4096 then 0 else 1
theorem ansV_in (l : List UInt8) (z : Int) (h : 1 ≤ z) (h2 : z ≤ 4096) : ansV l z = (val l z).1 := if_pos ⟨h, h2⟩
theorem ansP_in (l : List UInt8) (z : Int) (h : 1 ≤ z) (h2 : z ≤ 4096) : ansP l z = (val l z).2 := if_pos ⟨h, h2⟩
theorem ansE_in (z : Int) (h : 1 ≤ z) (h2 : z ≤ 4096) : ansE z = 0 := if_pos ⟨h, h2⟩
theorem ansV_out (l : List UInt8) (z : Int) (h : ¬ (1 ≤ z ∧ z ≤ 4096)) : ansV l z = 0 := if_neg h
theorem ansP_out (l : List UInt8) (z : Int) (h : ¬ (1 ≤ z ∧ z ≤ 4096)) : ansP l z = 0 := if_neg h
theorem ansE_out (z : Int) (h : ¬ (1 ≤ z ∧ z ≤ 4096)) : ansE z = 1 := if_neg h
theorem val_bounds (l : List UInt8) (z : Int) : 1 ≤ (val l z).1 ∧ (val l z).1 ≤ 4 ∧ 0 ≤ (val l z).2 := by
  unfold val
  split
  · exact ⟨by decide, by decide, by decide⟩
  split
  · exact ⟨by show (1 : Int) ≤ 3; decide, by show (3 : Int) ≤ 4; decide, Int.natCast_nonneg _⟩
  · split
    · exact ⟨by show (1 : Int) ≤ 2; decide, by show (2 : Int) ≤ 4; decide, Int.natCast_nonneg _⟩
    · exact ⟨by show (1 : Int) ≤ 1; decide, by show (1 : Int) ≤ 4; decide, Int.natCast_nonneg _⟩
end Js
/-- What read tells. -/
def ReadPost (l : List UInt8) (e : Ending) : Prop :=
  (∃ D n : Nat, e = .returned (.tuple #[.int .i64 (n : Nat), .int .i64 (D : Nat), .bool true]) ∧ (Js.out Js.c0 l).1 = some D)
  ∨ ∃ D n : Nat, e = .returned (.tuple #[.int .i64 (n : Nat), .int .i64 (D : Nat), .bool false]) ∧ Js.out Js.c0 l = (none, n)
set_option maxHeartbeats 1000000 in
theorem sRead_any (s : ByteArray) (w : World) (hs : s.size ≤ 1000000) :
    Calls Try.prog 12 #[.string s] w fun e w' => ReadPost s.data.toList e ∧ Below w.heap.size w w' := by
  have hlen : s.data.toList.length = s.size := rfl
  have HL := hidden (fun w => Live_any s w (by omega))
  have hle := Ut.alive_le 0 s.data.toList
  have hsh := Js.out_short s.data.toList
  have hal := Js.alive_al s.data.toList
  obtain ⟨k, hk⟩ : ∃ k, k = Ut.alive 0 s.data.toList := ⟨_, rfl⟩
  rw [← hk] at HL hle hsh hal
  rw [hlen] at hle hsh
  have hcut : (s.extract 0 k).data.toList = s.data.toList.take k := by
    obtain ⟨⟨l⟩⟩ := s
    rw [ByteArray.extract_mk]
    simp
  have HW := hidden (fun w => sWalk_any (s.extract 0 k) w (by rw [ByteArray.size_extract]; omega) (by rw [hcut]; exact hal))
  rw [hcut] at HW
  have HSH := hidden hsh
  have HALL : Hid (k = s.size → s.data.toList.take k = s.data.toList) := hidden fun h => by rw [h]; exact take_all s
  clear hk hsh hal hcut hlen
  go_enter Try.func12, Try.ntmps12
  go_wp2_with fail
  refine (HL.out _).mono ?_
  rintro e w1 ⟨rfl, hw⟩
  have hw := hw.symm
  subst hw
  by_cases hks : k = s.size
  · have HKS := hidden hks
    have e1 : ((k : Int) == (s.size : Int)) = true := by rw [hks]; exact beq_self_eq_true _
    have e1n : (k == s.size) = true := by rw [hks]; exact beq_self_eq_true _
    clear hks
    go_wp2_with fail
    refine (HW.out _).mono ?_
    rintro e w2 ⟨hq, hb⟩
    have HB := hidden hb
    clear hb
    rcases hq with ⟨D, n, rfl, hn, hT⟩ | ⟨D, n, rfl, hn, hT⟩
    · have HX : Hid ((Js.out Js.c0 s.data.toList).1 = some D) := by
        rw [HALL.out HKS.out] at hT
        exact congrArg Prod.fst hT
      clear hn hT
      go_wp2_with fail
      refine bodyPost_ret (results_tmp3 rfl _ _ _) rfl ?_
      exact ⟨.inl ⟨D, n, rfl, HX.out⟩, HB.out⟩
    · have HX : Hid (Js.out Js.c0 s.data.toList = (none, n)) := by
        rw [HALL.out HKS.out] at hT
        exact hT
      clear hn hT
      go_wp2_with fail
      refine bodyPost_ret (results_tmp3 rfl _ _ _) rfl ?_
      exact ⟨.inr ⟨D, n, rfl, HX.out⟩, HB.out⟩
  · have HS2 := hidden (HSH.out (by omega))
    have e1 : ((k : Int) == (s.size : Int)) = false := by rw [beq_eq_false_iff_ne]; omega
    have e1n : (k == s.size) = false := by rw [beq_eq_false_iff_ne]; exact hks
    clear hks
    go_wp2_with fail
    refine (HW.out _).mono ?_
    rintro e w2 ⟨hq, hb⟩
    have HB := hidden hb
    clear hb
    rcases hq with ⟨D, n, rfl, hn, hT⟩ | ⟨D, n, rfl, hn, hT⟩
    all_goals (
      have HX : Hid (Js.out Js.c0 s.data.toList = (none, n)) := by
        have h2 : (Js.out Js.c0 (s.data.toList.take k)).2 = n := congrArg Prod.snd hT
        have h1 := HS2.out
        rw [h2] at h1
        exact h1
      clear hn hT
      go_wp2_with fail
      refine bodyPost_ret (results_tmp3 rfl _ _ _) rfl ?_
      exact ⟨.inr ⟨D, n, rfl, HX.out⟩, HB.out⟩)
set_option maxHeartbeats 1000000 in
theorem sValidate_any (s : ByteArray) (z : Int) (w : World) (hs : s.size ≤ 9223372036854775807) :
    Calls Try.prog 10 #[.string s, .int .i64 z] w fun e w' => e = .returned (.tuple #[.int .i64 (Js.ansV s.data.toList z), .int .i64 (Js.ansP s.data.toList z), .int .i64 (Js.ansE z)]) ∧ Below w.heap.size w w' := by
  by_cases h1 : 1 ≤ z
  · by_cases h2 : z ≤ 4096
    · have HV := hidden (Js.ansV_in s.data.toList z h1 h2)
      have HP := hidden (Js.ansP_in s.data.toList z h1 h2)
      have HE := hidden (Js.ansE_in z h1 h2)
      have d1 : ¬ z < 1 := by omega
      have d2 : ¬ 4096 < z := by omega
      have hlen : s.data.toList.length = s.size := rfl
      have HLEN := hidden hlen
      clear h1 h2 hlen
      by_cases hl : 65536 < s.size
      · have HX := hidden (Js.val_long s.data.toList z (by rw [HLEN.out]; exact hl))
        have d3 : (65536 : Int) < (s.size : Int) := by omega
        clear hl
        go_enter Try.func10, Try.ntmps10
        go_wp2_with fail
        refine bodyPost_ret (results_tmp3 rfl _ _ _) rfl ?_
        rw [HV.out, HP.out, HE.out, HX.out]
        exact ⟨rfl, Below.refl _ _⟩
      · have d3 : ¬ (65536 : Int) < (s.size : Int) := by omega
        have HLE : Hid (¬ 65536 < s.data.toList.length) := hidden (by rw [HLEN.out]; exact hl)
        have HR := hidden (fun w => sRead_any s w (by omega))
        clear hl
        go_enter Try.func10, Try.ntmps10
        go_wp2_with fail
        refine (HR.out _).mono ?_
        rintro e w1 ⟨hq, hb⟩
        have HB := hidden hb
        clear hb
        rcases hq with ⟨D, n, rfl, ho⟩ | ⟨D, n, rfl, ho⟩
        · by_cases hz : z < (D : Int)
          · have HX := hidden (Js.val_deep s.data.toList z D HLE.out ho hz)
            have e1 : decide (z < (D : Int)) = true := decide_eq_true hz
            clear ho
            go_wp2_with fail
            refine bodyPost_ret (results_tmp3 rfl _ _ _) rfl ?_
            rw [HV.out, HP.out, HE.out, HX.out]
            exact ⟨rfl, HB.out⟩
          · have HX := hidden (Js.val_yes s.data.toList z D HLE.out ho hz)
            have e1 : decide (z < (D : Int)) = false := decide_eq_false hz
            clear ho
            go_wp2_with fail
            refine bodyPost_ret (results_tmp3 rfl _ _ _) rfl ?_
            rw [HV.out, HP.out, HE.out, HX.out]
            exact ⟨rfl, HB.out⟩
        · have HX := hidden (Js.val_no s.data.toList z n HLE.out ho)
          clear ho
          go_wp2_with fail
          refine bodyPost_ret (results_tmp3 rfl _ _ _) rfl ?_
          rw [HV.out, HP.out, HE.out, HX.out]
          exact ⟨rfl, HB.out⟩
    · have HV := hidden (Js.ansV_out s.data.toList z (fun h => h2 h.2))
      have HP := hidden (Js.ansP_out s.data.toList z (fun h => h2 h.2))
      have HE := hidden (Js.ansE_out z (fun h => h2 h.2))
      have d1 : ¬ z < 1 := by omega
      have d2 : 4096 < z := by omega
      clear h1 h2
      go_enter Try.func10, Try.ntmps10
      go_wp2_with fail
      refine bodyPost_ret (results_tmp3 rfl _ _ _) rfl ?_
      rw [HV.out, HP.out, HE.out]
      exact ⟨rfl, Below.refl _ _⟩
  · have HV := hidden (Js.ansV_out s.data.toList z (fun h => h1 h.1))
    have HP := hidden (Js.ansP_out s.data.toList z (fun h => h1 h.1))
    have HE := hidden (Js.ansE_out z (fun h => h1 h.1))
    have d1 : z < 1 := by omega
    clear h1
    go_enter Try.func10, Try.ntmps10
    go_wp2_with fail
    refine bodyPost_ret (results_tmp3 rfl _ _ _) rfl ?_
    rw [HV.out, HP.out, HE.out]
    exact ⟨rfl, Below.refl _ _⟩
end Go.Proofs.Ytkjkjnkpncgdnaa
