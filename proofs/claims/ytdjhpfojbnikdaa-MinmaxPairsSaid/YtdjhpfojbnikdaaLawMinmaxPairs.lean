/-
  The walk of the law MinmaxPairs: it returns true for every two numbers; nothing that was there is changed.
-/
import Derived.Test.YtdjhpfojbnikdaaLawMinmaxBack
namespace Go.Proofs.Ytdjhpfojbnikdaa
open Go.RowKit
namespace Mx
open Wd
/-- So many ( and as many ). -/
def nest (k : Nat) : List Bool := List.replicate k true ++ List.replicate k false
theorem nest_len (k : Nat) : (nest k).length = 2 * k := by
  unfold nest
  simp
  omega
theorem nest_get (k i : Nat) : (nest k).getD i false = decide (i < k) := by
  unfold nest
  rw [List.getD_eq_getElem?_getD]
  by_cases h : i < k
  · rw [List.getElem?_append_left (by simpa using h), List.getElem?_replicate, if_pos h]
    simp [h]
  · rw [List.getElem?_append_right (by simpa using h), List.getElem?_replicate]
    simp [h]
    split <;> rfl
theorem nest_lo (k : Nat) : ∀ j, j ≤ k → exc (Bt.num (nest k)) j = (j : Int) := by
  intro j
  induction j with
  | zero => intro _; rw [exc_zero]; rfl
  | succ j ih =>
    intro hj
    rw [exc_one (nest k) j (by rw [nest_get]; simp; omega), ih (by omega)]
    omega
theorem nest_hi (k : Nat) : ∀ i, i ≤ k → exc (Bt.num (nest k)) (k + i) = (k : Int) - i := by
  intro i
  induction i with
  | zero => intro _; rw [Nat.add_zero, nest_lo k k (Nat.le_refl _)]; simp
  | succ i ih =>
    intro hi
    rw [← Nat.add_assoc, exc_none (nest k) (k + i) (by rw [nest_get]; simp), ih (by omega)]
    omega
theorem nest_exc (k j : Nat) (h : j ≤ 2 * k) : (j ≤ k ∧ exc (Bt.num (nest k)) j = (j : Int)) ∨ (k < j ∧ exc (Bt.num (nest k)) j = 2 * (k : Int) - j) := by
  by_cases hj : j ≤ k
  · exact .inl ⟨hj, nest_lo k j hj⟩
  · refine .inr ⟨by omega, ?_⟩
    have := nest_hi k (j - k) (by omega)
    rw [show k + (j - k) = j from by omega] at this
    omega
theorem nest_forth (k a : Nat) (ha : a < k) : Pn.forth (Bt.num (nest k)) a (2 * k) 0 = 2 * (k : Int) - 1 - a := by
  refine (forth_spec (Bt.num (nest k)) a (2 * k) 0 (by omega)).unique (.inr ⟨2 * k - 1 - a, by omega, by omega, by omega, ?_, fun j j1 j2 => ?_⟩)
  · have h1 := nest_lo k a (by omega)
    have h2 := nest_exc k (2 * k - 1 - a + 1) (by omega)
    omega
  · have h1 := nest_lo k a (by omega)
    have h2 := nest_exc k j (by omega)
    omega
theorem nest_back (k a : Nat) (ha : a < k) : Pn.back (Bt.num (nest k)) 0 (2 * k - a) 0 = (a : Int) := by
  refine (back_spec (Bt.num (nest k)) 0 (2 * k - a) 0 (by omega)).unique (.inr ⟨a, rfl, by omega, by omega, ?_, fun j j1 j2 => ?_⟩)
  · have h1 := nest_lo k a (by omega)
    have h2 := nest_exc k (2 * k - a) (by omega)
    omega
  · have h1 := nest_exc k j (by omega)
    have h2 := nest_exc k (2 * k - a) (by omega)
    omega
theorem nest_far (k a : Nat) (ha : a < k) : Pn.forth (Bt.num (nest k)) a (2 * k) ((k : Int) + 1) = -1 := by
  refine (forth_spec (Bt.num (nest k)) a (2 * k) _ (by omega)).unique (.inl ⟨rfl, fun j j1 j2 => ?_⟩)
  have h1 := nest_lo k a (by omega)
  have h2 := nest_exc k j (by omega)
  omega
theorem nest_bal (k : Nat) : Pn.bal (Bt.num (nest k)) (2 * k) = true := by
  refine (Pn.bal_iff _ _).2 ⟨?_, fun j j1 j2 => ?_⟩
  · have h2 := nest_exc k (2 * k) (by omega)
    omega
  · have h2 := nest_exc k j (by omega)
    omega
theorem nest_bits (k : Nat) (h : k ≤ 2000) : allOf [(true, k), (false, k)] = nest k := by
  show ([] ++ List.replicate (min k (4000 - 0)) true) ++ List.replicate (min k (4000 - ([] ++ List.replicate (min k (4000 - 0)) true : List Bool).length)) false = nest k
  rw [List.nil_append, List.length_replicate]
  rw [show min k (4000 - 0) = k from by omega, show min k (4000 - k) = k from by omega]
  rfl
end Mx
set_option maxHeartbeats 2000000 in
set_option maxRecDepth 100000 in
theorem MinmaxPairs_walk (a0 a1 : Int) (w : World) (h0 : 0 ≤ a0) (h1 : a0 ≤ 65535) (h2 : 0 ≤ a1) (h3 : a1 ≤ 65535) :
    Calls Try.prog 5 #[.int .u16 a0, .int .u16 a1] w fun e w' => e = .returned (.bool true) ∧ Below w.heap.size w w' := by
  obtain ⟨k, hk⟩ : ∃ k : Nat, (k : Int) = 1 + a0 % 2000 := ⟨(1 + a0 % 2000).toNat, by omega⟩
  have hk1 : 1 ≤ k ∧ k ≤ 2000 := by omega
  obtain ⟨a, ha⟩ : ∃ a : Nat, (a : Int) = a1 % (k : Int) := ⟨(a1 % (k : Int)).toNat, by have := Int.emod_nonneg a1 (show (k : Int) ≠ 0 by omega); omega⟩
  have hak : a < k := by have := Int.emod_lt_of_pos a1 (show (0 : Int) < (k : Int) by omega); omega
  have hk' : 1 + a0 % 2000 = (k : Int) := hk.symm
  have ha' : a1 % (k : Int) = (a : Int) := ha.symm
  clear hk ha
  go_enter Try.func5, Try.ntmps5
  go_wp2_with fail
  refine (awake7_any w).mono ?_
  rintro e' w1 ⟨rfl, hq1⟩
  have HQ1 := hidden hq1
  clear hq1
  go_wp2_with fail
  rw [ha']
  have HPC : Hid (Pcs (w1.alloc (.cells #[.bool true, .int .u16 (k : Int), .bool false, .int .u16 (k : Int)] 44)) (.slice (some ⟨w1.heap.size, 0, none⟩) 2 2) [(true, k), (false, k)]) := by
    have hg := heap_alloc_new w1 (.cells #[.bool true, .int .u16 (k : Int), .bool false, .int .u16 (k : Int)] 44)
    refine ⟨fun i hi => ?_, _, _, rfl, Nat.le_refl _, fun _ => ⟨_, 0, rfl, by simp, fun i hi => ?_⟩⟩
    · simp only [List.length_cons, List.length_nil] at hi
      rcases (show i = 0 ∨ i = 1 by omega) with rfl | rfl
      · show k < 65536; omega
      · show k < 65536; omega
    · simp only [List.length_cons, List.length_nil] at hi
      rcases (show i = 0 ∨ i = 1 by omega) with rfl | rfl
      · exact ⟨Lib.cell_of_heap hg 0, Lib.cell_of_heap hg 1⟩
      · exact ⟨Lib.cell_of_heap hg 2, Lib.cell_of_heap hg 3⟩
  have hbt := Bits7_any [(true, k), (false, k)] _ _ HPC.out (by simp)
  rw [Mx.nest_bits k hk1.2] at hbt
  refine hbt.mono ?_
  rintro e' w2 ⟨v2, rfl, hb2, hq2⟩
  have HB2 : Hid (Bl w2 v2 (Mx.nest k)) := hb2
  have HQ2 : Hid (Below w.heap.size w w2) := (HQ1.out.alloc HQ1.out.size _).trans (hq2.mono (by have := HQ1.out.size; simp; omega))
  have hlen := Mx.nest_len k
  have HM := hidden (Made_any (Mx.nest k) v2 w2 HB2.out (by omega))
  clear hb2 hq2 hbt hk' ha'
  go_wp2_with fail
  refine HM.out.mono ?_
  rintro e' w3 ⟨r3, u3, rfl, hr3, hq3, _, _⟩
  rw [hlen] at hr3
  have HR3 := hidden hr3
  have HQ3 := hidden (HQ2.out.trans (hq3.mono HQ2.out.size))
  have HF1 := hidden (Mx.nest_forth k a hak)
  have HF2 := hidden (Mx.nest_back k a hak)
  have HF3 := hidden (Mx.nest_bal k)
  have HF4 := hidden (Mx.nest_lo k a (by omega))
  have HF5 := hidden (Mx.nest_far k a hak)
  clear hr3 hq3 hlen
  generalize Bt.num (Mx.nest k) = X at *
  go_wp2_with fail
  refine (MNew_any r3 _ _ u3 _ HR3.out).mono ?_
  rintro e' w4 ⟨t, gs, m, rfl, ht4, hq4⟩
  have HT4 := hidden ht4
  have HQ4 := hidden (HQ3.out.trans (hq4.mono HQ3.out.size))
  clear ht4 hq4
  have hf1 := TForth_any t r3 _ _ u3 gs m (a : Int) 0 _ HT4.out
  rw [Pn.fr_nat _ a (by omega), HF1.out] at hf1
  have HFA := hidden hf1
  clear hf1
  go_wp2_with fail
  refine HFA.out.mono ?_
  rintro e' w5 ⟨rfl, hb5⟩
  have HT5 := hidden (HT4.out.below hb5 (Nat.le_refl _))
  have HQ5 := hidden (HQ4.out.trans (hb5.mono HQ4.out.size))
  clear hb5
  have hf2 := TBack_any t r3 _ _ u3 gs m ((2 * k - a : Nat) : Int) 0 _ HT5.out
  rw [Pn.fr_nat _ _ (by omega), HF2.out] at hf2
  obtain ⟨q, hq⟩ : ∃ q, q = 2 * k - a := ⟨_, rfl⟩
  rw [← hq] at hf2
  have hq' : 2 * (k : Int) - (a : Int) = (q : Int) := by omega
  have HFB := hidden hf2
  clear hf2 hq
  go_wp2_with fail
  refine HFB.out.mono ?_
  rintro e' w6 ⟨rfl, hb6⟩
  have HT6 := hidden (HT5.out.below hb6 (Nat.le_refl _))
  have HQ6 := hidden (HQ5.out.trans (hb6.mono HQ5.out.size))
  clear hb6
  have hf3 := TBalanced_any t r3 _ _ u3 gs m _ HT6.out
  rw [HF3.out] at hf3
  have HFC := hidden hf3
  clear hf3 hq'
  go_wp2_with fail
  refine HFC.out.mono ?_
  rintro e' w7 ⟨rfl, hb7⟩
  have HT7 := hidden (HT6.out.below hb7 (Nat.le_refl _))
  have HQ7 := hidden (HQ6.out.trans (hb7.mono HQ6.out.size))
  clear hb7
  have hf4 := TExcess_any t r3 _ _ u3 gs m (a : Int) _ HT7.out
  rw [Pn.fr_nat _ a (by omega), HF4.out] at hf4
  have HFD := hidden hf4
  clear hf4
  go_wp2_with fail
  refine HFD.out.mono ?_
  rintro e' w8 ⟨rfl, rfl⟩
  have hf5 := TForth_any t r3 _ _ u3 gs m (a : Int) ((k : Int) + 1) _ HT7.out
  rw [Pn.fr_nat _ a (by omega), HF5.out] at hf5
  have HFE := hidden hf5
  clear hf5
  go_wp2_with fail
  refine HFE.out.mono ?_
  rintro e' w9 ⟨rfl, hb9⟩
  have HQ9 := hidden (HQ7.out.trans (hb9.mono HQ7.out.size))
  clear hb9
  go_wp2_with fail
  go_ret
  exact ⟨rfl, HQ9.out⟩
end Go.Proofs.Ytdjhpfojbnikdaa
