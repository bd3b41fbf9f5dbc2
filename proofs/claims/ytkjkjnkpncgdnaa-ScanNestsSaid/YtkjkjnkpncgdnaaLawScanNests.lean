/-
  The walk of the law ScanNests: it returns true for every two strings, with arrays or objects; nothing that was there is changed.
-/
import Derived.Test.YtkjkjnkpncgdnaaJsFive
import Derived.Test.YtkjkjnkpncgdnaaJsAwake
namespace Go.Proofs.Ytkjkjnkpncgdnaa
open Go.RowKit
theorem ScanNests_long (s t : ByteArray) (o : Bool) (w : World) (hl : 140 < s.size ∨ (¬ 140 < s.size ∧ 140 < t.size)) (hm : s.size ≤ 9223372036854775807) (hm2 : t.size ≤ 9223372036854775807) :
    Calls Try.prog 5 #[.string s, .string t, .bool o] w fun e w' => e = .returned (.bool true) ∧ Below w.heap.size w w' := by
  rcases hl with hl | ⟨hl, hl2⟩
  · have hlt : (140 : Int) < (s.size : Int) := by omega
    go_enter Try.func5, Try.ntmps5
    go_wp2_with fail
    refine (awake12_any w).mono ?_
    rintro e w1 ⟨rfl, h1⟩
    have HB1 := hidden h1
    clear h1
    go_wp2_with fail
    refine (awake12_any w1).mono ?_
    rintro e w2 ⟨rfl, h2⟩
    have HB2 := hidden (Js.bel_then HB1.out h2)
    clear h2
    go_wp2_with fail
    go_ret
    exact ⟨rfl, HB2.out⟩
  · have hlt : ¬ (140 : Int) < (s.size : Int) := by omega
    have hlt2 : (140 : Int) < (t.size : Int) := by omega
    go_enter Try.func5, Try.ntmps5
    go_wp2_with fail
    refine (awake12_any w).mono ?_
    rintro e w1 ⟨rfl, h1⟩
    have HB1 := hidden h1
    clear h1
    go_wp2_with fail
    refine (awake12_any w1).mono ?_
    rintro e w2 ⟨rfl, h2⟩
    have HB2 := hidden (Js.bel_then HB1.out h2)
    clear h2
    go_wp2_with fail
    go_ret
    exact ⟨rfl, HB2.out⟩
namespace Js
/-- What is told of a text that nests k deep: with k, and with one less, between blanks. -/
theorem at_depth (l : List UInt8) (k : Nat) (hl : l.length ≤ 1002) (hk : 1 ≤ k) (hk2 : k ≤ 4096) (ho : (out c0 l).1 = some k) : ansV l (k : Nat) = 1 ∧ ansP l (k : Nat) = (k : Int) ∧ ansE (k : Nat) = 0 := by
  rw [ansV_in l k (by omega) (by omega), ansP_in l k (by omega) (by omega), ansE_in k (by omega) (by omega), val_yes l k k (by omega) ho (by omega)]
  exact ⟨rfl, rfl, rfl⟩
theorem in_blanks (l : List UInt8) (k : Nat) (ho : (out c0 l).1 = some k) : (out c0 (32 :: (l ++ [10]))).1 = some k := by
  have h1 := out_ahead [32] c0 (l ++ [10]) (sp_V [] 0) (by decide)
  have h2 := (out_behind l [10] c0 ok_c0 (by decide)).1 k ho
  rw [show (32 : UInt8) :: (l ++ [10]) = [32] ++ (l ++ [10]) from rfl, h1, h2]
theorem beyond (l : List UInt8) (k z : Nat) (hl : l.length ≤ 1002) (hz : 1 ≤ z) (hzk : z < k) (hk2 : k ≤ 4096) (ho : (out c0 l).1 = some k) : ansV l (z : Nat) = 2 ∧ ansP l (z : Nat) = (k : Int) ∧ ansE (z : Nat) = 0 := by
  rw [ansV_in l z (by omega) (by omega), ansP_in l z (by omega) (by omega), ansE_in z (by omega) (by omega), val_deep l z k (by omega) ho (by omega)]
  exact ⟨rfl, rfl, rfl⟩
end Js
set_option maxHeartbeats 2000000 in
theorem ScanNests_short (s t : ByteArray) (o : Bool) (w : World) (hl : ¬ 140 < s.size) (hl2 : ¬ 140 < t.size) :
    Calls Try.prog 5 #[.string s, .string t, .bool o] w fun e w' => e = .returned (.bool true) ∧ Below w.heap.size w w' := by
  have hlt : ¬ (140 : Int) < (s.size : Int) := by omega
  have hlt2 : ¬ (140 : Int) < (t.size : Int) := by omega
  have HS := hidden (fun w => sShort_any s w (by omega))
  have HT := hidden (fun w => sShort_any t w (by omega))
  go_enter Try.func5, Try.ntmps5
  go_wp2_with fail
  refine (awake12_any w).mono ?_
  rintro e w1 ⟨rfl, h1⟩
  have HB1 := hidden h1
  clear h1
  go_wp2_with fail
  refine (HS.out w1).mono ?_
  rintro e w2 ⟨⟨d, ho, rfl⟩ | ⟨ho, rfl⟩, h2⟩
  · have HB2 := hidden (Js.bel_then HB1.out h2)
    have HOS := hidden ho
    clear h2 ho
    go_wp2_with fail
    refine (HT.out w2).mono ?_
    rintro e w3 ⟨⟨c, ho, rfl⟩ | ⟨ho, rfl⟩, h3⟩
    · have HB3 := hidden (Js.bel_then HB2.out h3)
      have HOT := hidden ho
      clear h3 ho
      have hd : d ≤ 140 := by
        have h1 := Js.out_deep s.data.toList Js.c0 Js.ok_c0 d HOS.out
        have h2 : Js.c0.d = 0 := rfl
        have h3 : s.data.toList.length = s.size := rfl
        omega
      have hc : c ≤ 140 := by
        have h1 := Js.out_deep t.data.toList Js.c0 Js.ok_c0 c HOT.out
        have h2 : Js.c0.d = 0 := rfl
        have h3 : t.data.toList.length = t.size := rfl
        omega
      cases o with
      | true =>
        have hXL : ((⟨#[123, 34, 97, 34, 58]⟩ : ByteArray) ++ s ++ (⟨#[44, 34, 34, 58]⟩ : ByteArray) ++ t ++ (⟨#[125]⟩ : ByteArray)).data.toList = (123 :: 34 :: 97 :: 34 :: 58 :: (s.data.toList ++ 44 :: 34 :: 34 :: 58 :: (t.data.toList ++ [125]))) := by
          rw [Js.app_bytes, Js.app_bytes, Js.app_bytes, Js.app_bytes]
          simp
        have hXs : ((⟨#[123, 34, 97, 34, 58]⟩ : ByteArray) ++ s ++ (⟨#[44, 34, 34, 58]⟩ : ByteArray) ++ t ++ (⟨#[125]⟩ : ByteArray)).size ≤ 1000 := by
          rw [ByteArray.size_append, ByteArray.size_append, ByteArray.size_append, ByteArray.size_append]
          show 5 + s.size + 4 + t.size + 1 ≤ 1000
          omega
        have hXo := Js.nest_object s.data.toList t.data.toList d c HOS.out HOT.out
        rw [← hXL] at hXo
        have HXO := hidden hXo
        have HXS := hidden hXs
        clear hXo hXL
        by_cases hcd : c ≤ d
        · have hmx : max d c = d := Nat.max_eq_left hcd
          obtain ⟨K, hK⟩ : ∃ K, K = d + 1 := ⟨_, rfl⟩
          have hk2 : (d : Int) + 1 = (K : Int) := by omega
          have hk3 : 1 ≤ K := by omega
          have hk4 : K ≤ 141 := by omega
          have HO : Hid ((Js.out Js.c0 ((⟨#[123, 34, 97, 34, 58]⟩ : ByteArray) ++ s ++ (⟨#[44, 34, 34, 58]⟩ : ByteArray) ++ t ++ (⟨#[125]⟩ : ByteArray)).data.toList).1 = some K) := by
            have := HXO.out
            rw [hmx, ← hK] at this
            exact this
          have HV := hidden (fun w => sValidate_any ((⟨#[123, 34, 97, 34, 58]⟩ : ByteArray) ++ s ++ (⟨#[44, 34, 34, 58]⟩ : ByteArray) ++ t ++ (⟨#[125]⟩ : ByteArray)) (K : Nat) w (by have := HXS.out; omega))
          have h3 := Js.at_depth ((⟨#[123, 34, 97, 34, 58]⟩ : ByteArray) ++ s ++ (⟨#[44, 34, 34, 58]⟩ : ByteArray) ++ t ++ (⟨#[125]⟩ : ByteArray)).data.toList K (Nat.le_trans (show _ ≤ 1000 from HXS.out) (by decide)) hk3 (by omega) HO.out
          rw [h3.1, h3.2.1, h3.2.2] at HV
          have hYL : ((⟨#[32]⟩ : ByteArray) ++ ((⟨#[123, 34, 97, 34, 58]⟩ : ByteArray) ++ s ++ (⟨#[44, 34, 34, 58]⟩ : ByteArray) ++ t ++ (⟨#[125]⟩ : ByteArray)) ++ (⟨#[10]⟩ : ByteArray)).data.toList = 32 :: (((⟨#[123, 34, 97, 34, 58]⟩ : ByteArray) ++ s ++ (⟨#[44, 34, 34, 58]⟩ : ByteArray) ++ t ++ (⟨#[125]⟩ : ByteArray)).data.toList ++ [10]) := by
            rw [Js.app_bytes, Js.app_bytes]
            rfl
          have hYs : ((⟨#[32]⟩ : ByteArray) ++ ((⟨#[123, 34, 97, 34, 58]⟩ : ByteArray) ++ s ++ (⟨#[44, 34, 34, 58]⟩ : ByteArray) ++ t ++ (⟨#[125]⟩ : ByteArray)) ++ (⟨#[10]⟩ : ByteArray)).size ≤ 1002 := by
            rw [ByteArray.size_append, ByteArray.size_append]
            have := HXS.out
            show 1 + ((⟨#[123, 34, 97, 34, 58]⟩ : ByteArray) ++ s ++ (⟨#[44, 34, 34, 58]⟩ : ByteArray) ++ t ++ (⟨#[125]⟩ : ByteArray)).size + 1 ≤ 1002
            omega
          have hYo : (Js.out Js.c0 ((⟨#[32]⟩ : ByteArray) ++ ((⟨#[123, 34, 97, 34, 58]⟩ : ByteArray) ++ s ++ (⟨#[44, 34, 34, 58]⟩ : ByteArray) ++ t ++ (⟨#[125]⟩ : ByteArray)) ++ (⟨#[10]⟩ : ByteArray)).data.toList).1 = some K := by
            rw [hYL]
            exact Js.in_blanks _ K HO.out
          clear h3 hYL hmx hK
          by_cases h1 : K = 1
          · have HV2 := hidden (fun w => sValidate_any ((⟨#[32]⟩ : ByteArray) ++ ((⟨#[123, 34, 97, 34, 58]⟩ : ByteArray) ++ s ++ (⟨#[44, 34, 34, 58]⟩ : ByteArray) ++ t ++ (⟨#[125]⟩ : ByteArray)) ++ (⟨#[10]⟩ : ByteArray)) ((1 : Nat) : Int) w (by omega))
            have h3 := Js.at_depth ((⟨#[32]⟩ : ByteArray) ++ ((⟨#[123, 34, 97, 34, 58]⟩ : ByteArray) ++ s ++ (⟨#[44, 34, 34, 58]⟩ : ByteArray) ++ t ++ (⟨#[125]⟩ : ByteArray)) ++ (⟨#[10]⟩ : ByteArray)).data.toList 1 (show _ ≤ 1002 from hYs) (by decide) (by decide) (by rw [hYo, h1])
            rw [h3.1, h3.2.1, h3.2.2] at HV2
            have hd0 : d = 0 := by omega
            have hc0 : c = 0 := by omega
            subst h1
            clear h3 hYo hYs hk2 hk3 hk4 hcd hd hc
            subst hd0
            subst hc0
            go_wp2_with fail
            refine (HV.out _).mono ?_
            rintro e w4 ⟨rfl, h4⟩
            have HB4 := hidden (Js.bel_then HB3.out h4)
            clear h4
            go_wp2_with fail
            refine (HV2.out _).mono ?_
            rintro e w5 ⟨rfl, h5⟩
            have HB5 := hidden (Js.bel_then HB4.out h5)
            clear h5
            go_wp2_with fail
            go_ret
            exact ⟨by simp, HB5.out⟩
          · obtain ⟨z, hz⟩ : ∃ z, z = K - 1 := ⟨_, rfl⟩
            have hz1 : 1 ≤ z := by omega
            have hz2 : (K : Int) - 1 = (z : Int) := by omega
            have e1 : ((K : Int) == 1) = false := by rw [beq_eq_false_iff_ne]; omega
            have HV2 := hidden (fun w => sValidate_any ((⟨#[32]⟩ : ByteArray) ++ ((⟨#[123, 34, 97, 34, 58]⟩ : ByteArray) ++ s ++ (⟨#[44, 34, 34, 58]⟩ : ByteArray) ++ t ++ (⟨#[125]⟩ : ByteArray)) ++ (⟨#[10]⟩ : ByteArray)) ((z : Nat) : Int) w (by omega))
            have h3 := Js.beyond ((⟨#[32]⟩ : ByteArray) ++ ((⟨#[123, 34, 97, 34, 58]⟩ : ByteArray) ++ s ++ (⟨#[44, 34, 34, 58]⟩ : ByteArray) ++ t ++ (⟨#[125]⟩ : ByteArray)) ++ (⟨#[10]⟩ : ByteArray)).data.toList K z (show _ ≤ 1002 from hYs) hz1 (by omega) (by omega) hYo
            rw [h3.1, h3.2.1, h3.2.2] at HV2
            clear h3 hYo hYs hz
            have ekk : ((K : Int) == (K : Int)) = true := beq_self_eq_true _
            go_wp2_with fail
            refine (HV.out _).mono ?_
            rintro e w4 ⟨rfl, h4⟩
            have HB4 := hidden (Js.bel_then HB3.out h4)
            clear h4
            go_wp2_with fail
            refine (HV2.out _).mono ?_
            rintro e w5 ⟨rfl, h5⟩
            have HB5 := hidden (Js.bel_then HB4.out h5)
            clear h5
            go_wp2_with fail
            go_ret
            exact ⟨by simp, HB5.out⟩
        
        · have hmx : max d c = c := Nat.max_eq_right (by omega)
          obtain ⟨K, hK⟩ : ∃ K, K = c + 1 := ⟨_, rfl⟩
          have hk2 : (c : Int) + 1 = (K : Int) := by omega
          have hk3 : 1 ≤ K := by omega
          have hk4 : K ≤ 141 := by omega
          have HO : Hid ((Js.out Js.c0 ((⟨#[123, 34, 97, 34, 58]⟩ : ByteArray) ++ s ++ (⟨#[44, 34, 34, 58]⟩ : ByteArray) ++ t ++ (⟨#[125]⟩ : ByteArray)).data.toList).1 = some K) := by
            have := HXO.out
            rw [hmx, ← hK] at this
            exact this
          have HV := hidden (fun w => sValidate_any ((⟨#[123, 34, 97, 34, 58]⟩ : ByteArray) ++ s ++ (⟨#[44, 34, 34, 58]⟩ : ByteArray) ++ t ++ (⟨#[125]⟩ : ByteArray)) (K : Nat) w (by have := HXS.out; omega))
          have h3 := Js.at_depth ((⟨#[123, 34, 97, 34, 58]⟩ : ByteArray) ++ s ++ (⟨#[44, 34, 34, 58]⟩ : ByteArray) ++ t ++ (⟨#[125]⟩ : ByteArray)).data.toList K (Nat.le_trans (show _ ≤ 1000 from HXS.out) (by decide)) hk3 (by omega) HO.out
          rw [h3.1, h3.2.1, h3.2.2] at HV
          have hYL : ((⟨#[32]⟩ : ByteArray) ++ ((⟨#[123, 34, 97, 34, 58]⟩ : ByteArray) ++ s ++ (⟨#[44, 34, 34, 58]⟩ : ByteArray) ++ t ++ (⟨#[125]⟩ : ByteArray)) ++ (⟨#[10]⟩ : ByteArray)).data.toList = 32 :: (((⟨#[123, 34, 97, 34, 58]⟩ : ByteArray) ++ s ++ (⟨#[44, 34, 34, 58]⟩ : ByteArray) ++ t ++ (⟨#[125]⟩ : ByteArray)).data.toList ++ [10]) := by
            rw [Js.app_bytes, Js.app_bytes]
            rfl
          have hYs : ((⟨#[32]⟩ : ByteArray) ++ ((⟨#[123, 34, 97, 34, 58]⟩ : ByteArray) ++ s ++ (⟨#[44, 34, 34, 58]⟩ : ByteArray) ++ t ++ (⟨#[125]⟩ : ByteArray)) ++ (⟨#[10]⟩ : ByteArray)).size ≤ 1002 := by
            rw [ByteArray.size_append, ByteArray.size_append]
            have := HXS.out
            show 1 + ((⟨#[123, 34, 97, 34, 58]⟩ : ByteArray) ++ s ++ (⟨#[44, 34, 34, 58]⟩ : ByteArray) ++ t ++ (⟨#[125]⟩ : ByteArray)).size + 1 ≤ 1002
            omega
          have hYo : (Js.out Js.c0 ((⟨#[32]⟩ : ByteArray) ++ ((⟨#[123, 34, 97, 34, 58]⟩ : ByteArray) ++ s ++ (⟨#[44, 34, 34, 58]⟩ : ByteArray) ++ t ++ (⟨#[125]⟩ : ByteArray)) ++ (⟨#[10]⟩ : ByteArray)).data.toList).1 = some K := by
            rw [hYL]
            exact Js.in_blanks _ K HO.out
          clear h3 hYL hmx hK
          have hcd2 : d ≤ c := by omega
          have hcd3 : d < c := by omega
          obtain ⟨z, hz⟩ : ∃ z, z = K - 1 := ⟨_, rfl⟩
          have hz1 : 1 ≤ z := by omega
          have hz2 : (K : Int) - 1 = (z : Int) := by omega
          have e1 : ((K : Int) == 1) = false := by rw [beq_eq_false_iff_ne]; omega
          have HV2 := hidden (fun w => sValidate_any ((⟨#[32]⟩ : ByteArray) ++ ((⟨#[123, 34, 97, 34, 58]⟩ : ByteArray) ++ s ++ (⟨#[44, 34, 34, 58]⟩ : ByteArray) ++ t ++ (⟨#[125]⟩ : ByteArray)) ++ (⟨#[10]⟩ : ByteArray)) ((z : Nat) : Int) w (by omega))
          have h3 := Js.beyond ((⟨#[32]⟩ : ByteArray) ++ ((⟨#[123, 34, 97, 34, 58]⟩ : ByteArray) ++ s ++ (⟨#[44, 34, 34, 58]⟩ : ByteArray) ++ t ++ (⟨#[125]⟩ : ByteArray)) ++ (⟨#[10]⟩ : ByteArray)).data.toList K z (show _ ≤ 1002 from hYs) hz1 (by omega) (by omega) hYo
          rw [h3.1, h3.2.1, h3.2.2] at HV2
          clear h3 hYo hYs hz
          have ekk : ((K : Int) == (K : Int)) = true := beq_self_eq_true _
          go_wp2_with fail
          refine (HV.out _).mono ?_
          rintro e w4 ⟨rfl, h4⟩
          have HB4 := hidden (Js.bel_then HB3.out h4)
          clear h4
          go_wp2_with fail
          refine (HV2.out _).mono ?_
          rintro e w5 ⟨rfl, h5⟩
          have HB5 := hidden (Js.bel_then HB4.out h5)
          clear h5
          go_wp2_with fail
          go_ret
          exact ⟨by simp, HB5.out⟩
      | false =>
        have hXL : ((⟨#[91]⟩ : ByteArray) ++ s ++ (⟨#[44]⟩ : ByteArray) ++ t ++ (⟨#[93]⟩ : ByteArray)).data.toList = (91 :: (s.data.toList ++ 44 :: (t.data.toList ++ [93]))) := by
          rw [Js.app_bytes, Js.app_bytes, Js.app_bytes, Js.app_bytes]
          simp
        have hXs : ((⟨#[91]⟩ : ByteArray) ++ s ++ (⟨#[44]⟩ : ByteArray) ++ t ++ (⟨#[93]⟩ : ByteArray)).size ≤ 1000 := by
          rw [ByteArray.size_append, ByteArray.size_append, ByteArray.size_append, ByteArray.size_append]
          show 1 + s.size + 1 + t.size + 1 ≤ 1000
          omega
        have hXo := Js.nest_array s.data.toList t.data.toList d c HOS.out HOT.out
        rw [← hXL] at hXo
        have HXO := hidden hXo
        have HXS := hidden hXs
        clear hXo hXL
        by_cases hcd : c ≤ d
        · have hmx : max d c = d := Nat.max_eq_left hcd
          obtain ⟨K, hK⟩ : ∃ K, K = d + 1 := ⟨_, rfl⟩
          have hk2 : (d : Int) + 1 = (K : Int) := by omega
          have hk3 : 1 ≤ K := by omega
          have hk4 : K ≤ 141 := by omega
          have HO : Hid ((Js.out Js.c0 ((⟨#[91]⟩ : ByteArray) ++ s ++ (⟨#[44]⟩ : ByteArray) ++ t ++ (⟨#[93]⟩ : ByteArray)).data.toList).1 = some K) := by
            have := HXO.out
            rw [hmx, ← hK] at this
            exact this
          have HV := hidden (fun w => sValidate_any ((⟨#[91]⟩ : ByteArray) ++ s ++ (⟨#[44]⟩ : ByteArray) ++ t ++ (⟨#[93]⟩ : ByteArray)) (K : Nat) w (by have := HXS.out; omega))
          have h3 := Js.at_depth ((⟨#[91]⟩ : ByteArray) ++ s ++ (⟨#[44]⟩ : ByteArray) ++ t ++ (⟨#[93]⟩ : ByteArray)).data.toList K (Nat.le_trans (show _ ≤ 1000 from HXS.out) (by decide)) hk3 (by omega) HO.out
          rw [h3.1, h3.2.1, h3.2.2] at HV
          have hYL : ((⟨#[32]⟩ : ByteArray) ++ ((⟨#[91]⟩ : ByteArray) ++ s ++ (⟨#[44]⟩ : ByteArray) ++ t ++ (⟨#[93]⟩ : ByteArray)) ++ (⟨#[10]⟩ : ByteArray)).data.toList = 32 :: (((⟨#[91]⟩ : ByteArray) ++ s ++ (⟨#[44]⟩ : ByteArray) ++ t ++ (⟨#[93]⟩ : ByteArray)).data.toList ++ [10]) := by
            rw [Js.app_bytes, Js.app_bytes]
            rfl
          have hYs : ((⟨#[32]⟩ : ByteArray) ++ ((⟨#[91]⟩ : ByteArray) ++ s ++ (⟨#[44]⟩ : ByteArray) ++ t ++ (⟨#[93]⟩ : ByteArray)) ++ (⟨#[10]⟩ : ByteArray)).size ≤ 1002 := by
            rw [ByteArray.size_append, ByteArray.size_append]
            have := HXS.out
            show 1 + ((⟨#[91]⟩ : ByteArray) ++ s ++ (⟨#[44]⟩ : ByteArray) ++ t ++ (⟨#[93]⟩ : ByteArray)).size + 1 ≤ 1002
            omega
          have hYo : (Js.out Js.c0 ((⟨#[32]⟩ : ByteArray) ++ ((⟨#[91]⟩ : ByteArray) ++ s ++ (⟨#[44]⟩ : ByteArray) ++ t ++ (⟨#[93]⟩ : ByteArray)) ++ (⟨#[10]⟩ : ByteArray)).data.toList).1 = some K := by
            rw [hYL]
            exact Js.in_blanks _ K HO.out
          clear h3 hYL hmx hK
          by_cases h1 : K = 1
          · have HV2 := hidden (fun w => sValidate_any ((⟨#[32]⟩ : ByteArray) ++ ((⟨#[91]⟩ : ByteArray) ++ s ++ (⟨#[44]⟩ : ByteArray) ++ t ++ (⟨#[93]⟩ : ByteArray)) ++ (⟨#[10]⟩ : ByteArray)) ((1 : Nat) : Int) w (by omega))
            have h3 := Js.at_depth ((⟨#[32]⟩ : ByteArray) ++ ((⟨#[91]⟩ : ByteArray) ++ s ++ (⟨#[44]⟩ : ByteArray) ++ t ++ (⟨#[93]⟩ : ByteArray)) ++ (⟨#[10]⟩ : ByteArray)).data.toList 1 (show _ ≤ 1002 from hYs) (by decide) (by decide) (by rw [hYo, h1])
            rw [h3.1, h3.2.1, h3.2.2] at HV2
            have hd0 : d = 0 := by omega
            have hc0 : c = 0 := by omega
            subst h1
            clear h3 hYo hYs hk2 hk3 hk4 hcd hd hc
            subst hd0
            subst hc0
            go_wp2_with fail
            refine (HV.out _).mono ?_
            rintro e w4 ⟨rfl, h4⟩
            have HB4 := hidden (Js.bel_then HB3.out h4)
            clear h4
            go_wp2_with fail
            refine (HV2.out _).mono ?_
            rintro e w5 ⟨rfl, h5⟩
            have HB5 := hidden (Js.bel_then HB4.out h5)
            clear h5
            go_wp2_with fail
            go_ret
            exact ⟨by simp, HB5.out⟩
          · obtain ⟨z, hz⟩ : ∃ z, z = K - 1 := ⟨_, rfl⟩
            have hz1 : 1 ≤ z := by omega
            have hz2 : (K : Int) - 1 = (z : Int) := by omega
            have e1 : ((K : Int) == 1) = false := by rw [beq_eq_false_iff_ne]; omega
            have HV2 := hidden (fun w => sValidate_any ((⟨#[32]⟩ : ByteArray) ++ ((⟨#[91]⟩ : ByteArray) ++ s ++ (⟨#[44]⟩ : ByteArray) ++ t ++ (⟨#[93]⟩ : ByteArray)) ++ (⟨#[10]⟩ : ByteArray)) ((z : Nat) : Int) w (by omega))
            have h3 := Js.beyond ((⟨#[32]⟩ : ByteArray) ++ ((⟨#[91]⟩ : ByteArray) ++ s ++ (⟨#[44]⟩ : ByteArray) ++ t ++ (⟨#[93]⟩ : ByteArray)) ++ (⟨#[10]⟩ : ByteArray)).data.toList K z (show _ ≤ 1002 from hYs) hz1 (by omega) (by omega) hYo
            rw [h3.1, h3.2.1, h3.2.2] at HV2
            clear h3 hYo hYs hz
            have ekk : ((K : Int) == (K : Int)) = true := beq_self_eq_true _
            go_wp2_with fail
            refine (HV.out _).mono ?_
            rintro e w4 ⟨rfl, h4⟩
            have HB4 := hidden (Js.bel_then HB3.out h4)
            clear h4
            go_wp2_with fail
            refine (HV2.out _).mono ?_
            rintro e w5 ⟨rfl, h5⟩
            have HB5 := hidden (Js.bel_then HB4.out h5)
            clear h5
            go_wp2_with fail
            go_ret
            exact ⟨by simp, HB5.out⟩
        
        · have hmx : max d c = c := Nat.max_eq_right (by omega)
          obtain ⟨K, hK⟩ : ∃ K, K = c + 1 := ⟨_, rfl⟩
          have hk2 : (c : Int) + 1 = (K : Int) := by omega
          have hk3 : 1 ≤ K := by omega
          have hk4 : K ≤ 141 := by omega
          have HO : Hid ((Js.out Js.c0 ((⟨#[91]⟩ : ByteArray) ++ s ++ (⟨#[44]⟩ : ByteArray) ++ t ++ (⟨#[93]⟩ : ByteArray)).data.toList).1 = some K) := by
            have := HXO.out
            rw [hmx, ← hK] at this
            exact this
          have HV := hidden (fun w => sValidate_any ((⟨#[91]⟩ : ByteArray) ++ s ++ (⟨#[44]⟩ : ByteArray) ++ t ++ (⟨#[93]⟩ : ByteArray)) (K : Nat) w (by have := HXS.out; omega))
          have h3 := Js.at_depth ((⟨#[91]⟩ : ByteArray) ++ s ++ (⟨#[44]⟩ : ByteArray) ++ t ++ (⟨#[93]⟩ : ByteArray)).data.toList K (Nat.le_trans (show _ ≤ 1000 from HXS.out) (by decide)) hk3 (by omega) HO.out
          rw [h3.1, h3.2.1, h3.2.2] at HV
          have hYL : ((⟨#[32]⟩ : ByteArray) ++ ((⟨#[91]⟩ : ByteArray) ++ s ++ (⟨#[44]⟩ : ByteArray) ++ t ++ (⟨#[93]⟩ : ByteArray)) ++ (⟨#[10]⟩ : ByteArray)).data.toList = 32 :: (((⟨#[91]⟩ : ByteArray) ++ s ++ (⟨#[44]⟩ : ByteArray) ++ t ++ (⟨#[93]⟩ : ByteArray)).data.toList ++ [10]) := by
            rw [Js.app_bytes, Js.app_bytes]
            rfl
          have hYs : ((⟨#[32]⟩ : ByteArray) ++ ((⟨#[91]⟩ : ByteArray) ++ s ++ (⟨#[44]⟩ : ByteArray) ++ t ++ (⟨#[93]⟩ : ByteArray)) ++ (⟨#[10]⟩ : ByteArray)).size ≤ 1002 := by
            rw [ByteArray.size_append, ByteArray.size_append]
            have := HXS.out
            show 1 + ((⟨#[91]⟩ : ByteArray) ++ s ++ (⟨#[44]⟩ : ByteArray) ++ t ++ (⟨#[93]⟩ : ByteArray)).size + 1 ≤ 1002
            omega
          have hYo : (Js.out Js.c0 ((⟨#[32]⟩ : ByteArray) ++ ((⟨#[91]⟩ : ByteArray) ++ s ++ (⟨#[44]⟩ : ByteArray) ++ t ++ (⟨#[93]⟩ : ByteArray)) ++ (⟨#[10]⟩ : ByteArray)).data.toList).1 = some K := by
            rw [hYL]
            exact Js.in_blanks _ K HO.out
          clear h3 hYL hmx hK
          have hcd2 : d ≤ c := by omega
          have hcd3 : d < c := by omega
          obtain ⟨z, hz⟩ : ∃ z, z = K - 1 := ⟨_, rfl⟩
          have hz1 : 1 ≤ z := by omega
          have hz2 : (K : Int) - 1 = (z : Int) := by omega
          have e1 : ((K : Int) == 1) = false := by rw [beq_eq_false_iff_ne]; omega
          have HV2 := hidden (fun w => sValidate_any ((⟨#[32]⟩ : ByteArray) ++ ((⟨#[91]⟩ : ByteArray) ++ s ++ (⟨#[44]⟩ : ByteArray) ++ t ++ (⟨#[93]⟩ : ByteArray)) ++ (⟨#[10]⟩ : ByteArray)) ((z : Nat) : Int) w (by omega))
          have h3 := Js.beyond ((⟨#[32]⟩ : ByteArray) ++ ((⟨#[91]⟩ : ByteArray) ++ s ++ (⟨#[44]⟩ : ByteArray) ++ t ++ (⟨#[93]⟩ : ByteArray)) ++ (⟨#[10]⟩ : ByteArray)).data.toList K z (show _ ≤ 1002 from hYs) hz1 (by omega) (by omega) hYo
          rw [h3.1, h3.2.1, h3.2.2] at HV2
          clear h3 hYo hYs hz
          have ekk : ((K : Int) == (K : Int)) = true := beq_self_eq_true _
          go_wp2_with fail
          refine (HV.out _).mono ?_
          rintro e w4 ⟨rfl, h4⟩
          have HB4 := hidden (Js.bel_then HB3.out h4)
          clear h4
          go_wp2_with fail
          refine (HV2.out _).mono ?_
          rintro e w5 ⟨rfl, h5⟩
          have HB5 := hidden (Js.bel_then HB4.out h5)
          clear h5
          go_wp2_with fail
          go_ret
          exact ⟨by simp, HB5.out⟩
    · have HB3 := hidden (Js.bel_then HB2.out h3)
      clear h3 ho
      go_wp2_with fail
      go_ret
      exact ⟨rfl, HB3.out⟩
  · have HB2 := hidden (Js.bel_then HB1.out h2)
    clear h2 ho
    go_wp2_with fail
    refine (HT.out w2).mono ?_
    rintro e w3 ⟨⟨c, ho, rfl⟩ | ⟨ho, rfl⟩, h3⟩
    · have HB3 := hidden (Js.bel_then HB2.out h3)
      clear h3 ho
      go_wp2_with fail
      go_ret
      exact ⟨rfl, HB3.out⟩
    · have HB3 := hidden (Js.bel_then HB2.out h3)
      clear h3 ho
      go_wp2_with fail
      go_ret
      exact ⟨rfl, HB3.out⟩
theorem ScanNests_walk (s t : ByteArray) (o : Bool) (w : World) (hm : s.size ≤ 9223372036854775807) (hm2 : t.size ≤ 9223372036854775807) :
    Calls Try.prog 5 #[.string s, .string t, .bool o] w fun e w' => e = .returned (.bool true) ∧ Below w.heap.size w w' := by
  by_cases hl : 140 < s.size
  · exact ScanNests_long s t o w (.inl hl) hm hm2
  · by_cases hl2 : 140 < t.size
    · exact ScanNests_long s t o w (.inr ⟨hl, hl2⟩) hm hm2
    · exact ScanNests_short s t o w hl hl2
end Go.Proofs.Ytkjkjnkpncgdnaa
