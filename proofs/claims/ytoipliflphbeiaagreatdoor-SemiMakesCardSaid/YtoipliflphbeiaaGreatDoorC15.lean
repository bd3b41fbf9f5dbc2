/-
  The contract of laceworkref14's Bytes: of every record of at most 4000 bytes the bytes of its index; nothing that was there is changed.
-/
import Derived.Test.YtoipliflphbeiaaGreatDoorC14
import Derived.Test.YtoipliflphbeiaaGreatDoorSmTells
import Derived.Test.YtoipliflphbeiaaGreatDoorJFnNum
namespace Go.Proofs.YtoipliflphbeiaaGreatDoor
open Go.RowKit
namespace Sm
theorem li_ints {w : World} {B : Nat} {v : Value} {l : List Nat} (h : Mk.Li w B v l) : Ints w v (Fn.ints l) := by
  refine Ints.of_nown (B := B) (n := l.length) ?_ (Fn.ints_length l).symm
  have e : Fn.nvals (Fn.ints l) = Mk.vi l := by
    unfold Fn.nvals Fn.ints Mk.vi
    rw [List.map_map]
    rfl
  rw [e]
  exact h
theorem lb_bl {w : World} {B : Nat} {v : Value} {l : List Bool} (h : Mk.Lb w B v l) : Bl w v l := Mk.ow_base h (Nat.zero_le _)
theorem fit_small (l : List UInt8) (hl : l.length ≤ 4000) : 65 + Fn.lows (P l).length (bd l) + Fn.highs (P l).length (bd l) ≤ 200000 := by
  have h1 := Fn.wdt_le (n := (P l).length) (u := bd l) (by have := bd_le l (by omega); omega)
  have h2 := len_le l
  have h3 := top_le (P l).length (bd l)
  have h4 : bd l ≤ 4000 := by unfold bd; split <;> omega
  have h5 : (P l).length * Fn.wdt (P l).length (bd l) ≤ 4000 * 40 := Nat.mul_le_mul (by omega) h1
  unfold Fn.lows Fn.highs
  omega
theorem str_three (a b c : List UInt8) : ((⟨a.toArray⟩ : ByteArray) ++ (⟨b.toArray⟩ : ByteArray)) ++ (⟨c.toArray⟩ : ByteArray) = (⟨(a ++ (b ++ c)).toArray⟩ : ByteArray) := by
  rw [ByteArray.mk_append_mk, ByteArray.mk_append_mk, List.append_assoc]
end Sm
set_option maxHeartbeats 1000000 in
theorem rBytes14_any (s : ByteArray) (w : World) (hs : s.size ≤ 4000) :
    Calls Tryz.prog 15 #[.string s] w fun e w' => e = .returned (.string ⟨(Sm.ixB s.data.toList).toArray⟩) ∧ Below w.heap.size w w' := by
  have hl : s.data.toList.length ≤ 4000 := hs
  have hok := Sm.ok s.data.toList (by omega)
  have hfit := Sm.fit_small s.data.toList hl
  have hsl : (Sm.seqB s.data.toList).length ≤ 100000 := by
    unfold Sm.seqB
    rw [Sm.rowB_len, hok.all_length]
    omega
  have hbl : (Sm.bitB s.data.toList).length ≤ 100000 := by
    unfold Sm.bitB
    rw [Sm.rowB_len, Sm.B_len]
    have := Sm.len_le s.data.toList
    omega
  have HP := hidden (fun w => mrPlaces_any s w (by omega))
  have HQ := hidden (fun w => mrParens_any s w (by omega))
  have HD := hidden (fun w => rBound14_any s w (by omega))
  have HF := hidden (fun w B v (h : Mk.Li w B v (Sm.P s.data.toList)) => rFBytes_any (Sm.P s.data.toList) (Sm.bd s.data.toList) v w (Sm.li_ints h) hok (by omega))
  have HG := hidden (fun w B v (h : Mk.Lb w B v (Sm.B s.data.toList)) => rBytes_any (Sm.B s.data.toList) v w (Sm.lb_bl h) (by rw [Sm.B_len]; have := Sm.len_le s.data.toList; omega))
  have HE := hidden (fun w => reight14_any (Sm.seqB s.data.toList).length w (by omega))
  have HR : Hid (((⟨(Bt.eightB (Sm.seqB s.data.toList).length).toArray⟩ : ByteArray) ++ (⟨(Sm.seqB s.data.toList).toArray⟩ : ByteArray)) ++ (⟨(Sm.bitB s.data.toList).toArray⟩ : ByteArray) = (⟨(Sm.ixB s.data.toList).toArray⟩ : ByteArray)) := hidden (Sm.str_three _ _ _)
  obtain ⟨u, hu⟩ : ∃ u, u = Sm.bd s.data.toList := ⟨_, rfl⟩
  have hu5 : u ≤ 65536 := by rw [hu]; exact Sm.bd_le _ (by omega)
  obtain ⟨T, hT⟩ : ∃ T, T = (⟨(Sm.seqB s.data.toList).toArray⟩ : ByteArray) := ⟨_, rfl⟩
  obtain ⟨U, hU⟩ : ∃ U, U = (⟨(Sm.bitB s.data.toList).toArray⟩ : ByteArray) := ⟨_, rfl⟩
  obtain ⟨X, hX⟩ : ∃ X, X = (⟨(Bt.eightB (Sm.seqB s.data.toList).length).toArray⟩ : ByteArray) := ⟨_, rfl⟩
  have hTs : T.size = (Sm.seqB s.data.toList).length := by rw [hT]; rfl
  have hUs : U.size ≤ 100000 := by rw [hU]; exact hbl
  have hXs : X.size = 8 := by rw [hX]; exact Bt.eightB_length _
  have HF2 : Hid (∀ w B v, Mk.Li w B v (Sm.P s.data.toList) → Calls Tryz.prog 37 #[v, .int .i64 (u : Nat)] w fun e w' => e = .returned (.string T) ∧ Below w.heap.size w w') := hidden (by
    rw [hT, hu]
    exact HF.out)
  have HG2 : Hid (∀ w B v, Mk.Lb w B v (Sm.B s.data.toList) → Calls Tryz.prog 40 #[v] w fun e w' => e = .returned (.string U) ∧ Below w.heap.size w w') := hidden (by
    rw [hU]
    exact HG.out)
  rw [← hX, ← hTs] at HE
  rw [← hX, ← hT, ← hU] at HR
  rw [← hu] at HD
  rw [← HR.out]
  have hT5 : T.size ≤ 100000 := by rw [hTs]; exact hsl
  clear hTs hX hT hU HF HG hl hok hfit hsl hbl hu HR
  go_enter Tryz.func15, Tryz.ntmps15
  go_wp2_with fail
  refine (HP.out w).mono ?_
  rintro e w1 ⟨⟨v1, rfl, hv1⟩, h1⟩
  have HB1 := hidden h1
  have HV1 := hidden hv1
  clear h1 hv1
  go_wp2_with fail
  refine (HD.out w1).mono ?_
  rintro e w2 ⟨rfl, h2⟩
  have HB2 := hidden (Sm.on2 HB1.out h2)
  have HV2 := hidden (Mk.ow_kept HV1.out h2 (Nat.le_refl _))
  clear h2
  go_wp2_with fail
  refine (HF2.out w2 _ _ HV2.out).mono ?_
  rintro e w3 ⟨rfl, h3⟩
  have HB3 := hidden (Sm.on2 HB2.out h3)
  clear h3
  go_wp2_with fail
  refine (HE.out _).mono ?_
  rintro e w4 ⟨rfl, h4⟩
  have HB4 := hidden (Sm.on2 HB3.out h4)
  clear h4
  go_wp2_with fail
  refine (HQ.out _).mono ?_
  rintro e w5 ⟨⟨v5, rfl, hv5⟩, h5⟩
  have HB5 := hidden (Sm.on2 HB4.out h5)
  have HV5 := hidden hv5
  clear h5 hv5
  go_wp2_with fail
  refine (HG2.out w5 _ _ HV5.out).mono ?_
  rintro e w6 ⟨rfl, h6⟩
  have HB6 := hidden (Sm.on2 HB5.out h6)
  clear h6
  go_wp2_with fail
  go_ret
  exact ⟨rfl, HB6.out⟩
end Go.Proofs.YtoipliflphbeiaaGreatDoor
