/-
  The walk of the law ChooseLong: it returns true for every three numbers of 16 bits; nothing that was there is changed.
-/
import Derived.Test.YtgpagellhfjmdaaDoorCkRef
namespace Go.Proofs.YtgpagellhfjmdaaDoor
open Go.RowKit
theorem Bt.fill_skip (F : List Bool) (a : Nat) : ∀ b, a ≤ b → b ≤ F.length → (∀ t, a ≤ t → t < b → F.getD t false = false) → Bt.fill F b = Bt.fill F a := by
  intro b
  induction b with
  | zero => intro h _ _; obtain rfl : a = 0 := by omega
            rfl
  | succ b ih =>
    intro h1 h2 h3
    by_cases e : a = b + 1
    · subst e; rfl
    · have h4 := Bt.fill_next F b (by omega)
      have h5 := Bt.fill_at F b (by omega)
      rw [h3 b (by omega) (by omega)] at h4
      rw [← h4, ← ih (by omega) (by omega) fun t ht1 ht2 => h3 t ht1 (by omega)]
      apply Array.ext_getElem?
      intro i
      rw [Array.getElem?_setIfInBounds]
      by_cases e2 : b = i
      · subst e2
        obtain ⟨hlt, _⟩ := Array.getElem?_eq_some_iff.1 h5
        rw [if_pos rfl, if_pos hlt, h5]
      · rw [if_neg e2]
/-- A 1 at each s-th place. -/
def Ck.step (n s : Nat) : List Bool := (List.range n).map fun i => decide (i % s = 0)
theorem Ck.step_length (n s : Nat) : (Ck.step n s).length = n := by simp [Ck.step]
theorem Ck.step_get (n s i : Nat) (h : i < n) : (Ck.step n s).getD i false = decide (i % s = 0) := by
  simp [Ck.step, List.getD_eq_getElem?_getD, h]
theorem Ck.step_ones (n s p : Nat) (hs : 0 < s) (hp : p ≤ n) : p ≤ s * Wd.ones (Bt.num (Ck.step n s)) p ∧ s * Wd.ones (Bt.num (Ck.step n s)) p < p + s := by
  induction p with
  | zero => rw [Wd.ones_zero]; omega
  | succ p ih =>
    obtain ⟨h1, h2⟩ := ih (by omega)
    rw [Wd.ones_succ, Bt.bt_num, Ck.step_get n s p (by omega)]
    obtain ⟨c, hc⟩ : ∃ c, c = Wd.ones (Bt.num (Ck.step n s)) p := ⟨_, rfl⟩
    rw [← hc] at h1 h2 ⊢
    by_cases e : p % s = 0
    · have h3 : s * (p / s) = p := by have := Nat.div_add_mod p s; omega
      have h4 : s * c = p := by
        rcases Nat.lt_trichotomy c (p / s) with h | h | h
        · have := Nat.mul_le_mul_left s (show c + 1 ≤ p / s from h); rw [Nat.mul_add] at this; omega
        · rw [h]; exact h3
        · have := Nat.mul_le_mul_left s (show p / s + 1 ≤ c from h); rw [Nat.mul_add] at this; omega
      rw [decide_eq_true e, Nat.mul_add]
      simp
      omega
    · rw [decide_eq_false e]
      have h4 : s * c ≠ p := fun h => e (by rw [← h]; exact Nat.mul_mod_right s c)
      simp
      omega
theorem Ck.step_many (n s : Nat) (hs : 0 < s) : (n + s - 1) / s = Wd.ones (Bt.num (Ck.step n s)) n := by
  obtain ⟨h1, h2⟩ := Ck.step_ones n s n hs (Nat.le_refl _)
  obtain ⟨c, hc⟩ : ∃ c, c = Wd.ones (Bt.num (Ck.step n s)) n := ⟨_, rfl⟩
  rw [← hc] at h1 h2 ⊢
  apply Nat.div_eq_of_lt_le
  · rw [Nat.mul_comm]; omega
  · rw [Nat.mul_comm, Nat.mul_add]; omega
theorem Ck.step_at (n s k : Nat) (hs : 0 < s) (hk : k < Wd.ones (Bt.num (Ck.step n s)) n) : Ck.At (Bt.num (Ck.step n s)) n k (k * s) := by
  obtain ⟨h1, h2⟩ := Ck.step_ones n s n hs (Nat.le_refl _)
  have h3 := Nat.mul_le_mul_left s (show k + 1 ≤ _ from hk)
  rw [Nat.mul_add, Nat.mul_comm s k] at h3
  have hlt : k * s < n := by omega
  refine ⟨hlt, ?_, ?_⟩
  · rw [Bt.bt_num, Ck.step_get n s _ hlt, Nat.mul_mod_left]
    rfl
  · obtain ⟨h4, h5⟩ := Ck.step_ones n s (k * s) hs (by omega)
    obtain ⟨c, hc⟩ : ∃ c, c = Wd.ones (Bt.num (Ck.step n s)) (k * s) := ⟨_, rfl⟩
    rw [← hc] at h4 h5 ⊢
    rw [Nat.mul_comm k s] at h4 h5
    rcases Nat.lt_trichotomy c k with h | h | h
    · have := Nat.mul_le_mul_left s (show c + 1 ≤ k from h); rw [Nat.mul_add] at this; omega
    · exact h
    · have := Nat.mul_le_mul_left s (show k + 1 ≤ c from h); rw [Nat.mul_add] at this; omega
theorem Ck.step_next (n s i : Nat) (hs : 0 < s) (hi : i < n) (hm : i % s = 0) : (Bt.fill (Ck.step n s) i).setIfInBounds i (.bool true) = Bt.fill (Ck.step n s) (min (i + s) n) := by
  have h1 := Bt.fill_next (Ck.step n s) i (by rw [Ck.step_length]; exact hi)
  rw [Ck.step_get n s i hi, decide_eq_true hm] at h1
  rw [h1]
  refine (Bt.fill_skip (Ck.step n s) (i + 1) (min (i + s) n) (by omega) (by rw [Ck.step_length]; omega) fun t h2 h3 => ?_).symm
  rw [Ck.step_get n s t (by omega)]
  refine decide_eq_false fun h => ?_
  have h4 := Nat.div_add_mod i s
  have h5 := Nat.div_add_mod t s
  rw [h] at h5
  rw [hm] at h4
  rcases Nat.lt_or_ge (i / s) (t / s) with h6 | h6
  · have := Nat.mul_le_mul_left s (show i / s + 1 ≤ t / s from h6); rw [Nat.mul_add] at this; omega
  · have := Nat.mul_le_mul_left s h6; omega
set_option maxHeartbeats 4000000 in
theorem ChooseLong_walk (a b k : Int) (w : World) (ha0 : 0 ≤ a) (ha1 : a ≤ 65535) (hb0 : 0 ≤ b) (hb1 : b ≤ 65535) (hk0 : 0 ≤ k) (hk1 : k ≤ 65535) (hT : Tab w) :
    Calls Tryd.prog 5 #[.int .u16 a, .int .u16 b, .int .u16 k] w fun e w' => e = .returned (.bool true) ∧ Below w.heap.size w w' := by
  obtain ⟨n, hn⟩ : ∃ n : Nat, 4000 + a % 16000 = (n : Int) := ⟨(4000 + a % 16000).toNat, by omega⟩
  have hn1 : n ≤ 20000 := by omega
  obtain ⟨s, hs⟩ : ∃ s : Nat, 1 + b % 700 = (s : Int) := ⟨(1 + b % 700).toNat, by omega⟩
  have hs0 : 0 < s := by omega
  have hs1 : s ≤ 700 := by omega
  have hmk := mk_bools n (by omega)
  have HT := hidden hT
  have HFL := hidden (Ck.step_length n s)
  have HON := hidden (Ck.step_many n s hs0)
  have HAT := fun k h => hidden (Ck.step_at n s k hs0 h)
  have HNX := fun i h1 h2 => hidden (Ck.step_next n s i hs0 h1 h2)
  have HSZ := hidden (Ck.sz_le (Bt.num (Ck.step n s)) n (by have := Bt.num_lt (Ck.step n s); rw [Ck.step_length] at this; exact this))
  generalize Ck.step n s = F at *
  have hz : ((s : Int) == 0) = false := by rw [beq_eq_false_iff_ne]; omega
  clear hT
  go_enter Tryd.func5, Tryd.ntmps5
  go_wp2_with fail
  refine (awake_any w HT.out).mono ?_
  rintro e' w1 ⟨rfl, hq1⟩
  have HQ1 := hidden hq1
  clear hq1
  go_wp2_with fail
  go_loopw [10] (fun i wr => ∃ j : Nat, j < n + s ∧ j % s = 0 ∧ i = .int .i64 j ∧ wr.heap[w1.heap.size]? = some (.cells (Bt.fill F (min j n)) 4 (0, 0)) ∧ Below w1.heap.size w1 wr) (fun i _ => n - (intOf i).toNat)
  case atStart =>
    refine ⟨0, by omega, Nat.zero_mod s, rfl, ?_, (Below.refl _ _).alloc (Nat.le_refl _) _⟩
    rw [heap_alloc_new, Nat.zero_min, Bt.fill_zero, HFL.out]
  case round =>
    obtain ⟨j, hj, hjs, rfl, hg, hb⟩ := hrel
    have HG := hidden hg
    have HB := hidden hb
    have HJS := hidden hjs
    clear hjs
    by_cases hlt : j < n
    · rw [Nat.min_eq_left (by omega)] at hg
      have c1 : wr.cell? ⟨w1.heap.size, j, none⟩ = some (.bool false) := by rw [Lib.cell_of_heap hg, Bt.fill_at _ j (by rw [HFL.out]; exact hlt)]
      have f1 : wr.frozen? ⟨w1.heap.size, j, none⟩ = false := Lib.frozen_of_heap hg j
      have HG2 := hidden hg
      have HNY := HNX j hlt HJS.out
      clear hg hb
      go_wp2_with fail
      refine ⟨⟨j + s, by omega, by rw [Nat.add_mod_right]; exact HJS.out, by go_num, ?_, HB.out.setCell (Nat.le_refl _) _⟩, by simp [intOf]; omega⟩
      rw [setCell_heap_same _ _ _ _ _ _ _ HG2.out, HNY.out]
    · rw [Nat.min_eq_right (by omega)] at hg
      have HTL : Hid (Bl wr (.slice (some ⟨w1.heap.size, 0, none⟩) n n) F) := Bl.of_fill HFL.out (by omega) hg
      have HQ3 := hidden (HQ1.out.trans (hb.mono HQ1.out.size))
      clear hg hb HG HB
      go_wp2_with fail
      refine (Made_any F _ _ HTL.out (by rw [HFL.out]; omega)).mono ?_
      rintro e' w4 ⟨r4, u4, rfl, hr4, hq4, _, _⟩
      rw [HFL.out] at hr4
      have HR4 := hidden hr4
      have HQ4 := hidden (HQ3.out.trans (hq4.mono HQ3.out.size))
      clear hr4 hq4
      go_wp2_with fail
      refine (CNew_any r4 n (Bt.num F) u4 _ HR4.out (HT.out.below HQ4.out (Nat.le_refl _))).mono ?_
      rintro e' w5 ⟨c5, d5, g5, b5, b6, rfl, hd5, hq5⟩
      have HD5 := hidden hd5
      have HQ5 := hidden (HQ4.out.trans (hq5.mono HQ4.out.size))
      clear hd5 hq5
      obtain ⟨X, hX⟩ : ∃ X, X = Bt.num F := ⟨_, rfl⟩
      rw [← hX] at HD5 HON HAT HSZ
      clear hX
      obtain ⟨M, hM⟩ : ∃ M, M = Wd.ones X n := ⟨_, rfl⟩
      rw [← hM] at HON HAT
      have HM := hidden hM
      have hq : ((n : Int) + (s : Int) - 1) / (s : Int) = (M : Int) := by
        rw [← HON.out, show (n : Int) + (s : Int) - 1 = ((n + s - 1 : Nat) : Int) from by omega]
        rfl
      have hMn : M ≤ n := by rw [hM]; exact Wd.ones_le _ _
      clear hM
      by_cases hkm : k < (M : Int)
      · obtain ⟨K, rfl⟩ := Int.eq_ofNat_of_zero_le hk0
        have HA := HAT K (by omega)
        obtain ⟨P, hP⟩ : ∃ P : Nat, (K : Int) * (s : Int) = (P : Int) := ⟨K * s, by rw [Int.natCast_mul]⟩
        have HP : Hid (K * s = P) := by show _ = _; rw [← Int.natCast_mul] at hP; omega
        have hPn : P < n := by rw [← HP.out]; exact HA.out.lt
        have HAP : Hid (Ck.At X n K P) := by show Ck.At X n K P; rw [← HP.out]; exact HA.out
        have hz2 := HSZ.out
        obtain ⟨Z, hZ⟩ : ∃ Z : Int, Z = ((Ck.sz X n : Nat) : Int) := ⟨_, rfl⟩
        have hZ1 : Z ≤ (n : Int) / 2 + 512 := by omega
        have HZ := hidden hZ
        clear hz2 hZ
        go_wp2_with fail
        refine (COne_at c5 d5 g5 r4 n X b5 b6 K P u4 _ HD5.out (HT.out.below HQ5.out (Nat.le_refl _)) HAP.out).mono ?_
        rintro e' w6 ⟨rfl, hq6⟩
        have HD6 := hidden (HD5.out.below hq6 (Nat.le_refl _))
        have HQ6 := hidden (HQ5.out.trans (hq6.mono HQ5.out.size))
        clear hq6
        go_wp2_with fail
        refine (COnes_any c5 d5 g5 r4 n X b5 b6 u4 _ HD6.out).mono ?_
        rintro e' w7 ⟨rfl, m7, rfl⟩
        rw [← HM.out]
        go_wp2_with fail
        refine (CSize_any c5 d5 g5 r4 n X b5 b6 u4 _ (HD6.out.drewN m7)).mono ?_
        rintro e' w7 ⟨rfl, m8, rfl⟩
        rw [← HZ.out]
        go_wp2_with fail
        go_ret
        exact ⟨rfl, below_drewN HQ6.out _⟩
      · go_wp2_with fail
        refine (COne_none c5 d5 g5 r4 n X b5 b6 k u4 _ HD5.out (.inr (by rw [← HM.out]; omega))).mono ?_
        rintro e' w6 ⟨rfl, hq6⟩
        have HD6 := hidden (HD5.out.below hq6 (Nat.le_refl _))
        have HQ6 := hidden (HQ5.out.trans (hq6.mono HQ5.out.size))
        clear hq6
        go_wp2_with fail
        refine (COnes_any c5 d5 g5 r4 n X b5 b6 u4 _ HD6.out).mono ?_
        rintro e' w7 ⟨rfl, m7, rfl⟩
        rw [← HM.out]
        go_wp2_with fail
        go_ret
        exact ⟨rfl, below_drewN HQ6.out _⟩
end Go.Proofs.YtgpagellhfjmdaaDoor
