/-
  The walk of the law NestDeep: it returns true for every two numbers; nothing that was there is changed.
-/
import Derived.Test.YtmeclkmmgbndkaaDoorJNsAsk
import Derived.Test.YtmeclkmmgbndkaaDoorJMxBits
namespace Go.Proofs.YtmeclkmmgbndkaaDoor
open Go.RowKit
namespace Ns
open Wd
theorem nest_bt (k i : Nat) : bt (Bt.num (Mx.nest k)) i = if i < k then 1 else 0 := by
  rw [Bt.bt_num, Mx.nest_get]
  by_cases h : i < k <;> simp [h]
theorem nest_ok (k : Nat) : Ok (Bt.num (Mx.nest k)) (2 * k) := by
  refine Ok.of ?_ (Mx.nest_bal k)
  have := Bt.num_lt (Mx.nest k)
  rw [Mx.nest_len] at this
  exact this
theorem nest_nd (k a : Nat) (ha : a < k) : Nd (Bt.num (Mx.nest k)) (2 * k) a := ⟨by omega, by rw [nest_bt, if_pos ha]⟩
theorem nest_cl (k a : Nat) (ha : a < k) : ((cl (Bt.num (Mx.nest k)) (2 * k) a : Nat) : Int) = 2 * (k : Int) - 1 - a := by
  unfold cl
  rw [Mx.nest_forth k a ha]
  omega
theorem nest_par (k a : Nat) (ha : a + 1 < k) : Par (Bt.num (Mx.nest k)) (a + 1) a := by
  have h1 := Mx.nest_lo k a (by omega)
  have h2 := Mx.nest_lo k (a + 1) (by omega)
  refine ⟨by omega, by omega, by rw [nest_bt, if_pos (by omega)], fun j j1 j2 => ?_⟩
  obtain rfl : j = a + 1 := by omega
  exact Int.le_refl _
end Ns
set_option maxHeartbeats 2000000 in
set_option maxRecDepth 100000 in
theorem NestDeep_walk (a0 a1 : Int) (w : World) (h0 : 0 ≤ a0) (h1 : a0 ≤ 65535) (h2 : 0 ≤ a1) (h3 : a1 ≤ 65535) (hT : Tab w) :
    Calls Tryd.prog 4 #[.int .u16 a0, .int .u16 a1] w fun e w' => e = .returned (.bool true) ∧ Below w.heap.size w w' := by
  have HTab := hidden hT
  clear hT
  obtain ⟨k, hk⟩ : ∃ k : Nat, (k : Int) = 2 + a0 % 1900 := ⟨(2 + a0 % 1900).toNat, by omega⟩
  have hk1 : 2 ≤ k ∧ k ≤ 1901 := by omega
  obtain ⟨b, hb⟩ : ∃ b : Nat, (b : Int) = a1 % ((k : Int) - 1) := ⟨(a1 % ((k : Int) - 1)).toNat, by have := Int.emod_nonneg a1 (show (k : Int) - 1 ≠ 0 by omega); omega⟩
  have hbk : b + 1 < k := by have := Int.emod_lt_of_pos a1 (show (0 : Int) < (k : Int) - 1 by omega); omega
  obtain ⟨a, ha⟩ : ∃ a : Nat, a = b + 1 := ⟨_, rfl⟩
  have hk' : 2 + a0 % 1900 = (k : Int) := hk.symm
  have hb' : a1 % ((k : Int) - 1) = (b : Int) := hb.symm
  have ha' : 1 + (b : Int) = (a : Int) := by omega
  have HK : Hid (((k : Int) - 1) ≠ 0) := by show _ ≠ _; omega
  have hkz : ((k : Int) - 1 == 0) = false := by simp; omega
  have HA := hidden ha
  clear hk hb ha
  go_enter Tryd.func4, Tryd.ntmps4
  go_wp2_with fail
  refine (awake8_any w HTab.out).mono ?_
  rintro e' w1 ⟨rfl, hq1⟩
  have HQ1 := hidden hq1
  clear hq1
  go_wp2_with fail
  have HPC : Hid (Pcs (w1.alloc (.cells #[.bool true, .int .u16 (k : Int), .bool false, .int .u16 (k : Int)] 38)) (.slice (some ⟨w1.heap.size, 0, none⟩) 2 2) [(true, k), (false, k)]) := by
    have hg := heap_alloc_new w1 (.cells #[.bool true, .int .u16 (k : Int), .bool false, .int .u16 (k : Int)] 38)
    refine ⟨fun i hi => ?_, _, _, rfl, Nat.le_refl _, fun _ => ⟨_, 0, rfl, by simp, fun i hi => ?_⟩⟩
    · simp only [List.length_cons, List.length_nil] at hi
      rcases (show i = 0 ∨ i = 1 by omega) with rfl | rfl
      · show k < 65536; omega
      · show k < 65536; omega
    · simp only [List.length_cons, List.length_nil] at hi
      rcases (show i = 0 ∨ i = 1 by omega) with rfl | rfl
      · exact ⟨Lib.cell_of_heap hg 0, Lib.cell_of_heap hg 1⟩
      · exact ⟨Lib.cell_of_heap hg 2, Lib.cell_of_heap hg 3⟩
  have hbt := Bits7_any [(true, k), (false, k)] _ _ HPC.out (by simp)
  rw [Mx.nest_bits k (by omega)] at hbt
  refine hbt.mono ?_
  rintro e' w2 ⟨v2, rfl, hb2, hq2⟩
  have HB2 : Hid (Bl w2 v2 (Mx.nest k)) := hb2
  have HQ2 : Hid (Below w.heap.size w w2) := (HQ1.out.alloc HQ1.out.size _).trans (hq2.mono (by have := HQ1.out.size; simp; omega))
  have hlen := Mx.nest_len k
  have HM := hidden (Made_any (Mx.nest k) v2 w2 HB2.out (by omega))
  clear hb2 hq2 hbt hk' hb'
  go_wp2_with fail
  refine HM.out.mono ?_
  rintro e' w3 ⟨r3, u3, rfl, hr3, hq3, _, _⟩
  rw [hlen] at hr3
  have HR3 := hidden hr3
  have HQ3 := hidden (HQ2.out.trans (hq3.mono HQ2.out.size))
  have hak : a < k := by have := HA.out; omega
  have HND := hidden (Ns.nest_nd k a hak)
  have HCL := hidden (Ns.nest_cl k a hak)
  have HBT1 := hidden (Ns.nest_bt k)
  have hpp := Ns.nest_par k b hbk
  rw [← HA.out] at hpp
  have HPP := hidden hpp
  have HLO := hidden (Mx.nest_lo k a (by omega))
  have HBAL := hidden (Mx.nest_bal k)
  have HBK := hidden hbk
  clear hr3 hq3 hlen hpp hbk h0 h1 h2 h3
  generalize Bt.num (Mx.nest k) = X at *
  go_wp2_with fail
  refine (NNew_any r3 _ _ u3 _ HR3.out (HTab.out.below HQ3.out (Nat.le_refl _)) HBAL.out).mono ?_
  rintro e' w4 ⟨z, kk, rfl, hz4, hq4⟩
  have HN4 := hidden hz4
  have HQ4 := hidden (HQ3.out.trans (hq4.mono HQ3.out.size))
  clear hz4 hq4
  obtain ⟨E, hE⟩ : ∃ E : Int, E = 2 * (k : Int) - 1 - a := ⟨_, rfl⟩
  rw [← hE] at HCL
  have HE := hidden hE
  clear hE
  have hc4 := Close_node z _ X a kk w4 HN4.out HND.out
  rw [HCL.out] at hc4
  have HC4 := hidden hc4
  clear hc4
  go_wp2_with fail
  refine HC4.out.mono ?_
  rintro e' w5 ⟨rfl, hb5⟩
  have HN5 := hidden (HN4.out.below hb5 (Nat.le_refl _))
  have HQ5 := hidden (HQ4.out.trans (hb5.mono HQ4.out.size))
  clear hb5
  go_wp2_with fail
  refine (Parent_some z _ X a b kk w5 HN5.out HND.out HPP.out).mono ?_
  rintro e' w6 ⟨rfl, hb6⟩
  have HN6 := hidden (HN5.out.below hb6 (Nat.le_refl _))
  have HQ6 := hidden (HQ5.out.trans (hb6.mono HQ5.out.size))
  clear hb6
  have hd6 := Depth_any z _ X a kk w6 HN6.out HND.out
  rw [HLO.out] at hd6
  have HD6 := hidden hd6
  clear hd6
  go_wp2_with fail
  refine HD6.out.mono ?_
  rintro e' w7 ⟨rfl, rfl⟩
  have hx7 := Next_any z _ X a kk _ HN6.out HND.out
  rw [Ns.on_nat, HBT1.out, if_neg (by have := HCL.out; have := HE.out; omega)] at hx7
  have HX7 : Hid (Calls Tryd.prog 18 #[.pointer (some ⟨z, 0, none⟩), .int .i64 (a : Nat)] w7 fun e w' => e = .returned (.tuple #[.int .i64 0, .int .i64 7]) ∧ Below w7.heap.size w7 w') := hx7
  clear hx7
  go_wp2_with fail
  refine HX7.out.mono ?_
  rintro e' w8 ⟨rfl, hb8⟩
  have HQ8 := hidden (HQ6.out.trans (hb8.mono HQ6.out.size))
  clear hb8
  have hab : (b : Int) = (a : Int) - 1 := by have := HA.out; omega
  clear ha'
  have hE : 2 * (k : Int) - 1 - a = E := HE.out.symm
  go_wp2_with fail
  go_ret
  exact ⟨rfl, HQ8.out⟩
end Go.Proofs.YtmeclkmmgbndkaaDoor
