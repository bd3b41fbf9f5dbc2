/-
  The contracts of laceworkref14's Error, Bound, eight, Bytes and Bits: nothing that was there is changed.
-/
import Derived.Maps.AppendAt
import Derived.Test.YtoipliflphbeiaaGreatDoorC06
import Derived.Test.YtoipliflphbeiaaGreatDoorJJsRef
import Derived.Test.YtoipliflphbeiaaGreatDoorC02
import Derived.Test.YtoipliflphbeiaaGreatDoorJFnRefR
import Derived.Test.YtoipliflphbeiaaGreatDoorJBtMem
namespace Go.Proofs.YtoipliflphbeiaaGreatDoor
open Go.RowKit
theorem rError14_any (s : ByteArray) (w : World) (hs : s.size ≤ 9223372036854775807) :
    Calls Tryz.prog 10 #[.string s] w fun e w' => e = .returned (.int .i64 (Sm.er s.data.toList)) ∧ Below w.heap.size w w' := by
  have HV := hidden (fun w => jValidate_any s 4096 w hs)
  obtain ⟨x, hx⟩ : ∃ x, x = (Js.val s.data.toList 4096).2 := ⟨_, rfl⟩
  rw [← hx] at HV
  clear hx
  rcases Sm.er_val s.data.toList with ⟨h1, h2⟩ | ⟨h1, h2⟩ | ⟨h1, h2⟩ | ⟨h1, h2⟩ <;>
  · rw [h1] at HV
    rw [h2]
    clear h1 h2
    go_enter Tryz.func10, Tryz.ntmps10
    go_wp2_with fail
    refine (HV.out w).mono ?_
    rintro e w1 ⟨rfl, h1⟩
    have HB1 := hidden h1
    have hsz := h1.size
    clear h1
    go_wp2_with fail
    go_ret
    exact ⟨rfl, HB1.out.alloc hsz _⟩
theorem rBound14_any (s : ByteArray) (w : World) (hs : s.size ≤ 1000000) :
    Calls Tryz.prog 38 #[.string s] w fun e w' => e = .returned (.int .i64 (Sm.bd s.data.toList : Nat)) ∧ Below w.heap.size w w' := by
  have HP := hidden (fun w => mrPlaces_any s w hs)
  obtain ⟨n, hn⟩ : ∃ n, n = (Sm.P s.data.toList).length := ⟨_, rfl⟩
  have hlen : s.data.toList.length = s.size := rfl
  by_cases h0 : n = 0
  · have HR : Hid (Sm.bd s.data.toList = 1) := hidden (Sm.bd_none (by rw [← hn]; exact h0))
    rw [HR.out]
    subst h0
    have HN := hidden hn
    clear hn hlen
    go_enter Tryz.func38, Tryz.ntmps38
    go_wp2_with fail
    refine (HP.out w).mono ?_
    rintro e w1 ⟨⟨v, rfl, hv⟩, h1⟩
    obtain ⟨ao, ca, rfl, hca, _⟩ := hv.get HN.out.symm
    have HB1 := hidden h1
    clear h1 hv
    go_wp2_with fail
    go_ret
    exact ⟨rfl, HB1.out⟩
  · have HR : Hid (Sm.bd s.data.toList = s.size) := hidden (Sm.bd_some (by rw [← hn]; omega))
    rw [HR.out]
    have HN := hidden hn
    have e1 : ((n : Int) == 0) = false := by rw [beq_eq_false_iff_ne]; omega
    have e2 : (n == 0) = false := by rw [beq_eq_false_iff_ne]; exact h0
    clear hn hlen
    go_enter Tryz.func38, Tryz.ntmps38
    go_wp2_with fail
    refine (HP.out w).mono ?_
    rintro e w1 ⟨⟨v, rfl, hv⟩, h1⟩
    obtain ⟨ao, ca, rfl, hca, _⟩ := hv.get HN.out.symm
    have HB1 := hidden h1
    clear h1 hv
    go_wp2_with fail
    go_ret
    exact ⟨rfl, HB1.out⟩
set_option maxRecDepth 100000 in
set_option maxHeartbeats 1000000 in
theorem reight14_any (v : Nat) (w : World) (_ : v < 9223372036854775808) :
    Calls Tryz.prog 39 #[.int .i64 (v : Nat)] w fun e w' => e = .returned (.string ⟨(Bt.eightB v).toArray⟩) ∧ Below w.heap.size w w' := by
  obtain ⟨i0, hi, hz0, hz1, hz2⟩ := info_parts Tryz.infoByte
  go_enter Tryz.func39, Tryz.ntmps39
  go_wp2
  go_loopw [3, 4] (fun vb i wr => ∃ k : Nat, k ≤ 8 ∧ i = .int .i64 k ∧ wr.ownsRow w.heap.size 5 1 vb k (Lib.byteCells ((Bt.eightB v).take k)) ∧ Below w.heap.size w wr) (fun _ i _ => 8 - (intOf i).toNat)
  case atStart => exact ⟨0, by omega, rfl, World.ownsRow_nil _ _ _ _, Below.refl _ _⟩
  case round =>
    obtain ⟨k, hk, rfl, hown, hbel⟩ := hrel
    have hsz := hbel.size
    have HW := hidden hown
    have HBL := hidden hbel
    by_cases hlt : k < 8
    · clear hown hbel
      go_wp2_with (at_builtin; refine wpList_append_one _ rfl (.tmp 9) (.tmp 15) 38 rfl w.heap.size 5 i0 (.int .u8 0) 1 Tryz.underlying38 hi hz0 hz1 hz2 rfl u3 k (Lib.byteCells ((Bt.eightB v).take k)) rfl (by exact HW.out.alloc _) _ 1 _ _ rfl (by exact heap_alloc_new _ _) rfl (by unfold maxLen; omega) (by omega) (by simp; omega) ?_; intro v2 w2 hown2 hgrow2; have HO2 := hidden hown2; have HG2 := hidden hgrow2; clear hown2 hgrow2)
      go_roundw
      case rel => exact ⟨k + 1, by omega, by go_num, eight_next hlt (by rw [Wd.div_pow]; rfl) HO2.out, (HBL.out.alloc (by omega) _).grown HG2.out (by simp; omega) (fun j hj => (HW.out.lt j hj).1)⟩
      case measure => simp [intOf]; omega
    · obtain rfl : k = 8 := by omega
      have hcv := conv_bytes hown (by omega) (by rw [List.length_take, Bt.eightB_length]; rfl)
      rw [List.take_of_length_le (by rw [Bt.eightB_length]; omega)] at hcv
      clear hown hbel
      go_wp2
      go_ret
      exact ⟨rfl, HBL.out⟩
/-- The size that an index may have: for some width that is wide enough. -/
def Sm.BitsPost (n k : Nat) (e : Ending) : Prop := ∃ W R, (k = 0 ∨ n ≤ k * 2 ^ W) ∧ R = k * W ∧ R ≤ 20000000 ∧ e = .returned (.int .i64 (4 * (k : Int) + (R : Int) + 10 * (k : Int) + 8192))
set_option maxHeartbeats 1000000 in
theorem rBits14_any (n k : Nat) (w : World) (hn : n ≤ 1000000) (hk : k ≤ 1000000) :
    Calls Tryz.prog 21 #[.int .i64 (n : Nat), .int .i64 (k : Nat)] w fun e w' => Sm.BitsPost n k e ∧ w' = w := by
  go_enter Tryz.func21, Tryz.ntmps21
  go_wp2_with fail
  go_loop [5] (fun i => ∃ W : Nat, W ≤ 20 ∧ i = .int .i64 (W : Nat)) (fun i => 20 - (intOf i).toNat)
  case atStart => exact ⟨0, by omega, rfl⟩
  case round =>
    obtain ⟨W, hW, rfl⟩ := hrel
    obtain ⟨R, hR⟩ : ∃ R, R = k * W := ⟨_, rfl⟩
    have hR2 : R ≤ 20000000 := by
      rw [hR]
      have := Nat.mul_le_mul hk hW
      omega
    have hmul : (k : Int) * (W : Int) = (R : Int) := by rw [hR, Int.natCast_mul]
    have HR : Hid (R = k * W) := hidden hR
    clear hR
    by_cases h0 : k = 0
    · have hk0 : ¬ 0 < k := by omega
      have HK : Hid (k = 0) := hidden h0
      clear h0
      go_wp2_with fail
      go_ret
      exact ⟨⟨W, R, .inl HK.out, HR.out, hR2, rfl⟩, rfl⟩
    · have hk0 : decide ((0 : Int) < (k : Int)) = true := decide_eq_true (by omega)
      obtain ⟨V, hV⟩ : ∃ V, V = k * 2 ^ W := ⟨_, rfl⟩
      have hp : 2 ^ W ≤ 1048576 := Nat.pow_le_pow_right (by omega) hW
      have hV2 : V ≤ 1048576000000 := by
        rw [hV]
        exact Nat.mul_le_mul hk hp
      have hshl : IntKind.i64.wrap ((k : Int) * 2 ^ W) = (V : Int) := by
        have e : (k : Int) * 2 ^ W = (V : Int) := by rw [hV, Int.natCast_mul]; simp
        rw [e, IntKind.wrap_i64]
        omega
      have HV : Hid (V = k * 2 ^ W) := hidden hV
      have hkv : 2 ^ W ≤ V := by rw [hV]; exact Nat.le_mul_of_pos_left _ (by omega)
      by_cases hlt : V < n
      · have hlt2 : decide ((V : Int) < (n : Int)) = true := decide_eq_true (by omega)
        have hW2 : W < 20 := by
          rcases Nat.lt_or_ge W 20 with h | h
          · exact h
          · obtain rfl : W = 20 := by omega
            have : (2 : Nat) ^ 20 = 1048576 := rfl
            omega
        clear hV hp hkv
        go_wp2_with fail
        go_round
        case rel => exact ⟨W + 1, by omega, by go_num⟩
        case measure => simp [intOf]; omega
      · have hlt2 : decide ((V : Int) < (n : Int)) = false := decide_eq_false (by omega)
        have HN : Hid (n ≤ V) := hidden (by omega)
        clear hV hp hkv
        go_wp2_with fail
        go_ret
        exact ⟨⟨W, R, .inr (Nat.le_trans HN.out (Nat.le_of_eq HV.out)), HR.out, hR2, rfl⟩, rfl⟩
end Go.Proofs.YtoipliflphbeiaaGreatDoor
