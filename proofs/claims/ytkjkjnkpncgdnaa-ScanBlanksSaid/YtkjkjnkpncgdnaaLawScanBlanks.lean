/-
  The walk of the law ScanBlanks: it returns true for every string and every two bytes; nothing that was there is changed.
-/
import Derived.Test.YtkjkjnkpncgdnaaJsFive
import Derived.Test.YtkjkjnkpncgdnaaJsAwake
namespace Go.Proofs.Ytkjkjnkpncgdnaa
open Go.RowKit
theorem ScanBlanks_long (s : ByteArray) (n m : Int) (w : World) (hl : 250 < s.size) (hm : s.size ≤ 9223372036854775807) :
    Calls Try.prog 8 #[.string s, .int .u8 n, .int .u8 m] w fun e w' => e = .returned (.bool true) ∧ Below w.heap.size w w' := by
  have hlt : (250 : Int) < (s.size : Int) := by omega
  go_enter Try.func8, Try.ntmps8
  go_wp2_with fail
  refine (awake12_any w).mono ?_
  rintro e w1 ⟨rfl, h1⟩
  have HB1 := hidden h1
  clear h1
  go_wp2_with fail
  refine (awake12_any w1).mono ?_
  rintro e w2 ⟨rfl, h2⟩
  have HB2 := hidden (Js.bel_then HB1.out h2)
  clear h2
  go_wp2_with fail
  go_ret
  exact ⟨rfl, HB2.out⟩
namespace Js
/-- The law's blanks. -/
def bls : ByteArray := ⟨#[32, 9, 10, 13, 32, 32, 13, 10, 9, 32, 9, 10, 13, 32, 32, 13, 10, 9, 32]⟩
theorem bls_all : ∀ x ∈ bls.data.toList, isB x.toNat = true := by
  show ∀ x ∈ ([32, 9, 10, 13, 32, 32, 13, 10, 9, 32, 9, 10, 13, 32, 32, 13, 10, 9, 32] : List UInt8), isB x.toNat = true
  decide
theorem bls_cut (k : Nat) (hk : k ≤ 10) : (bls.extract 0 k).size = k ∧ ∀ x ∈ (bls.extract 0 k).data.toList, isB x.toNat = true := by
  refine ⟨by rw [ByteArray.size_extract]; show min k 19 - 0 = k; omega, fun x hx => bls_all x ?_⟩
  rw [show (bls.extract 0 k).data.toList = bls.data.toList.take k from by
    show (bls.extract 0 k).data.toList = _
    generalize bls = s
    obtain ⟨⟨l⟩⟩ := s
    rw [ByteArray.extract_mk]
    simp] at hx
  exact List.mem_of_mem_take hx
end Js
set_option maxHeartbeats 2000000 in
theorem ScanBlanks_short (s : ByteArray) (n m : Nat) (w : World) (hl : ¬ 250 < s.size) (hn : n ≤ 255) (hm : m ≤ 255) :
    Calls Try.prog 8 #[.string s, .int .u8 (n : Nat), .int .u8 (m : Nat)] w fun e w' => e = .returned (.bool true) ∧ Below w.heap.size w w' := by
  have hlt : ¬ (250 : Int) < (s.size : Int) := by omega
  obtain ⟨i, hi⟩ : ∃ i, i = n % 11 := ⟨_, rfl⟩
  obtain ⟨j, hj⟩ : ∃ j, j = m % 11 := ⟨_, rfl⟩
  have hi10 : i ≤ 10 := by omega
  have hj10 : j ≤ 10 := by omega
  have hni : (n : Int) % 11 = (i : Int) := by omega
  have hmj : (m : Int) % 11 = (j : Int) := by omega
  have hni2 : (n : Int).tmod 11 = (i : Int) := by rw [Int.tmod_eq_emod_of_nonneg (by omega)]; exact hni
  have hmj2 : (m : Int).tmod 11 = (j : Int) := by rw [Int.tmod_eq_emod_of_nonneg (by omega)]; exact hmj
  have ha := Js.bls_cut i hi10
  have hb := Js.bls_cut j hj10
  have hsa : ((⟨#[32, 9, 10, 13, 32, 32, 13, 10, 9, 32, 9, 10, 13, 32, 32, 13, 10, 9, 32]⟩ : ByteArray).extract 0 i).size = i := ha.1
  have hsb : ((⟨#[32, 9, 10, 13, 32, 32, 13, 10, 9, 32, 9, 10, 13, 32, 32, 13, 10, 9, 32]⟩ : ByteArray).extract 0 j).size = j := hb.1
  have HSV := hidden (fun w => sValidate_any s 5 w (by omega))
  have HSV2 : Hid (∀ w, Calls Try.prog 10 #[.string ((⟨#[32, 9, 10, 13, 32, 32, 13, 10, 9, 32, 9, 10, 13, 32, 32, 13, 10, 9, 32]⟩ : ByteArray).extract 0 i ++ s ++ (⟨#[32, 9, 10, 13, 32, 32, 13, 10, 9, 32, 9, 10, 13, 32, 32, 13, 10, 9, 32]⟩ : ByteArray).extract 0 j), .int .i64 5] w fun e w' => e = .returned (.tuple #[.int .i64 (Js.ansV ((Js.bls.extract 0 i).data.toList ++ (s.data.toList ++ (Js.bls.extract 0 j).data.toList)) 5), .int .i64 (Js.ansP ((Js.bls.extract 0 i).data.toList ++ (s.data.toList ++ (Js.bls.extract 0 j).data.toList)) 5), .int .i64 (Js.ansE 5)]) ∧ Below w.heap.size w w') := hidden (fun w => by
    have h := sValidate_any (Js.bls.extract 0 i ++ s ++ Js.bls.extract 0 j) 5 w (by rw [ByteArray.size_append, ByteArray.size_append, ha.1, hb.1]; omega)
    rw [Js.app_bytes, Js.app_bytes, List.append_assoc] at h
    exact h)
  have HLAW := hidden (Js.blanks_law s.data.toList (Js.bls.extract 0 i).data.toList (Js.bls.extract 0 j).data.toList (by
    rw [show (Js.bls.extract 0 i).data.toList.length = i from ha.1, show (Js.bls.extract 0 j).data.toList.length = j from hb.1, show s.data.toList.length = s.size from rfl]
    omega) ha.2 hb.2)
  rw [show (Js.bls.extract 0 i).data.toList.length = i from ha.1, show s.data.toList.length = s.size from rfl] at HLAW
  rw [show Js.ansE 5 = 0 from by decide] at HSV HSV2
  have HPB : Hid (0 ≤ Js.ansP s.data.toList 5 ∧ Js.ansP s.data.toList 5 ≤ 1000) := hidden (by
    have hlen : s.data.toList.length = s.size := rfl
    cases ho : (Js.out Js.c0 s.data.toList).1 with
    | some D =>
      have h1 := Js.out_deep s.data.toList Js.c0 Js.ok_c0 D ho
      have hc : Js.c0.d = 0 := rfl
      rw [(Js.five_yes s.data.toList D (by omega) ho).2]
      omega
    | none =>
      have h1 := Js.out_le s.data.toList Js.c0
      rw [(Js.five_no s.data.toList (by omega) ho).2]
      omega)
  generalize Js.ansV ((Js.bls.extract 0 i).data.toList ++ (s.data.toList ++ (Js.bls.extract 0 j).data.toList)) 5 = V2 at HSV2 HLAW
  generalize Js.ansP ((Js.bls.extract 0 i).data.toList ++ (s.data.toList ++ (Js.bls.extract 0 j).data.toList)) 5 = P2 at HSV2 HLAW
  generalize Js.ansV s.data.toList 5 = V at HSV HLAW
  generalize Js.ansP s.data.toList 5 = P at HSV HLAW HPB
  clear hi hj ha hb
  go_enter Try.func8, Try.ntmps8
  go_wp2_with fail
  refine (awake12_any w).mono ?_
  rintro e w1 ⟨rfl, h1⟩
  have HB1 := hidden h1
  clear h1
  go_wp2_with fail
  go_quiet (fail)
  go_wp2_with fail
  refine (HSV.out _).mono ?_
  rintro e w2 ⟨rfl, h2⟩
  have HB2 := hidden (Js.bel_then (sc_drewN HB1.out _) h2)
  clear h2
  go_wp2_with fail
  refine (HSV2.out _).mono ?_
  rintro e w3 ⟨rfl, h3⟩
  have HB3 := hidden (Js.bel_then HB2.out h3)
  clear h3
  rcases HLAW.out with ⟨hv, rfl, rfl⟩ | ⟨rfl, rfl, hat, hge⟩
  · have ev : (V2 != 3) = true := by rw [bne_iff_ne]; exact hv
    have evv : (V2 == V2) = true := beq_self_eq_true _
    have epp : (P2 == P2) = true := beq_self_eq_true _
    clear hv
    go_wp2_with fail
    go_ret
    exact ⟨by simp, HB3.out⟩
  · by_cases hp : P < (s.size : Int)
    · have h5 := hat hp
      have e1 : decide (P < (s.size : Int)) = true := decide_eq_true hp
      have epp : (P2 == P + (i : Int)) = true := by rw [h5]; exact beq_self_eq_true _
      have hpb := HPB.out
      have hw1 : IntKind.i64.wrap (P + (i : Int)) = P + (i : Int) := by rw [IntKind.wrap_i64]; omega
      have H5 := hidden h5
      clear hat hge h5 HLAW hpb
      go_wp2_with fail
      go_ret
      exact ⟨by simp, HB3.out⟩
    · have e1 : decide (P < (s.size : Int)) = false := decide_eq_false hp
      have epp : decide (P + (i : Int) ≤ P2) = true := decide_eq_true hge
      have hpb := HPB.out
      have hw1 : IntKind.i64.wrap (P + (i : Int)) = P + (i : Int) := by rw [IntKind.wrap_i64]; omega
      clear hat HLAW hpb
      go_wp2_with fail
      go_ret
      exact ⟨by simp, HB3.out⟩
theorem ScanBlanks_walk (s : ByteArray) (n m : Int) (w : World) (hm : s.size ≤ 9223372036854775807) (hn0 : 0 ≤ n) (hn1 : n ≤ 255) (hm0 : 0 ≤ m) (hm1 : m ≤ 255) :
    Calls Try.prog 8 #[.string s, .int .u8 n, .int .u8 m] w fun e w' => e = .returned (.bool true) ∧ Below w.heap.size w w' := by
  obtain ⟨n, rfl⟩ := Int.eq_ofNat_of_zero_le hn0
  obtain ⟨m, rfl⟩ := Int.eq_ofNat_of_zero_le hm0
  by_cases hl : 250 < s.size
  · exact ScanBlanks_long s n m w hl hm
  · exact ScanBlanks_short s n m w hl (by omega) (by omega)
end Go.Proofs.Ytkjkjnkpncgdnaa
