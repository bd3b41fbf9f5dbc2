/-
  The walk of the law RankLong: it returns true for every two numbers of 16 bits and every bit; nothing that was there is changed.
-/
import Derived.Test.YtdphkenpjndklaaRkFill
namespace Go.Proofs.Ytdphkenpjndklaa
open Go.RowKit
set_option maxHeartbeats 4000000 in
theorem RankLong_walk (a b : Int) (o : Bool) (w : World) (ha0 : 0 ≤ a) (ha1 : a ≤ 65535) (hb0 : 0 ≤ b) (hb1 : b ≤ 65535) :
    Calls Try.prog 5 #[.int .u16 a, .bool o, .int .u16 b] w fun e w' => e = .returned (.bool true) ∧ Below w.heap.size w w' := by
  obtain ⟨n, hn⟩ : ∃ n : Nat, 4000 + a % 16000 = (n : Int) := ⟨(4000 + a % 16000).toNat, by omega⟩
  have hn1 : n ≤ 20000 := by omega
  have hmk := mk_bools n (by omega)
  obtain ⟨F, hF⟩ : ∃ F, F = List.replicate n o := ⟨_, rfl⟩
  have HFL : Hid (F.length = n) := by show _ = _; rw [hF]; exact List.length_replicate
  have HFG : Hid (∀ k, k < n → F.getD k false = o) := by
    show ∀ k, _
    intro k hk
    rw [hF, List.getD_eq_getElem?_getD, List.getElem?_replicate, if_pos hk]
    rfl
  obtain ⟨p, hp⟩ : ∃ p : Nat, min b (n : Int) = (p : Int) := ⟨(min b (n : Int)).toNat, by omega⟩
  have hpn : p ≤ n := by omega
  have HON : Hid (Wd.ones (Bt.num F) p = if o = true then p else 0) := by show _ = _; rw [hF]; exact Bt.ones_same n p o hpn
  have HCF : Hid (Bt.cf n b = p) := by show _ = _; unfold Bt.cf; omega
  clear hF
  go_enter Try.func5, Try.ntmps5
  go_wp2_with fail
  refine (awake_any w).mono ?_
  rintro e' w1 ⟨rfl, hq1⟩
  have HQ1 := hidden hq1
  clear hq1
  go_wp2_with fail
  go_loopw [9] (fun i wr => ∃ k : Nat, k ≤ n ∧ i = .int .i64 k ∧ wr.heap[w1.heap.size]? = some (.cells (Bt.fill F k) 4 (0, 0)) ∧ Below w1.heap.size w1 wr) (fun i _ => n - (intOf i).toNat)
  case atStart =>
    refine ⟨0, by omega, rfl, ?_, (Below.refl _ _).alloc (Nat.le_refl _) _⟩
    rw [heap_alloc_new, Bt.fill_zero, HFL.out]
  case round =>
    obtain ⟨k, hk, rfl, hg, hb⟩ := hrel
    have HG := hidden hg
    have HB := hidden hb
    by_cases hlt : k < n
    · have c1 : wr.cell? ⟨w1.heap.size, k, none⟩ = some (.bool false) := by rw [Lib.cell_of_heap hg, Bt.fill_at _ k (by rw [HFL.out]; exact hlt)]
      have f1 : wr.frozen? ⟨w1.heap.size, k, none⟩ = false := Lib.frozen_of_heap hg k
      have hn := Bt.fill_next F k (by rw [HFL.out]; exact hlt)
      rw [HFG.out k hlt] at hn
      have HNX := hidden hn
      clear hg hb hn
      go_wp2_with fail
      refine ⟨⟨k + 1, by omega, by go_num, ?_, HB.out.setCell (Nat.le_refl _) _⟩, by simp [intOf]; omega⟩
      rw [setCell_heap_same _ _ _ _ _ _ _ HG.out, HNX.out]
    · obtain rfl : k = n := by omega
      have HT : Hid (Bl wr (.slice (some ⟨w1.heap.size, 0, none⟩) k k) F) := Bl.of_fill HFL.out (by omega) hg
      have HQ3 := hidden (HQ1.out.trans (hb.mono HQ1.out.size))
      clear hg hb HG HB
      go_wp2_with fail
      refine (Made_any F _ _ HT.out (by rw [HFL.out]; omega)).mono ?_
      rintro e' w4 ⟨r4, u4, rfl, hr4, hq4, _, _⟩
      rw [HFL.out] at hr4
      have HR4 := hidden hr4
      have HQ4 := hidden (HQ3.out.trans (hq4.mono HQ3.out.size))
      clear hr4 hq4
      go_wp2_with fail
      refine (New_any r4 k (Bt.num F) u4 _ HR4.out).mono ?_
      rintro e' w5 ⟨d5, g5, rfl, hd5, hq5⟩
      have HD5 := hidden hd5
      have HQ5 := hidden (HQ4.out.trans (hq5.mono HQ4.out.size))
      clear hd5 hq5
      have HON2 := HON.out
      cases o
      · rw [if_neg (by decide)] at HON2
        have HON3 := hidden HON2
        clear HON2
        go_wp2_with fail
        refine (One_at d5 g5 r4 _ _ _ p u4 _ HD5.out HCF.out).mono ?_
        rintro e' w8 ⟨rfl, m1, rfl⟩
        rw [HON3.out]
        go_wp2_with fail
        refine (Zero_at d5 g5 r4 _ _ _ p u4 _ (HD5.out.drewN _) HCF.out).mono ?_
        rintro e' w8 ⟨rfl, m2, rfl⟩
        rw [HON3.out]
        go_wp2_with fail
        refine (Size_any d5 g5 r4 _ _ u4 _ (HD5.out.drewN _)).mono ?_
        rintro e' w8 ⟨rfl, rfl⟩
        go_wp2_with fail
        go_ret
        refine ⟨ret_bool ?_, below_drewN HQ5.out _⟩
        exact decide_eq_true (by omega)
      · rw [if_pos rfl] at HON2
        have HON3 := hidden HON2
        clear HON2
        go_wp2_with fail
        refine (One_at d5 g5 r4 _ _ _ p u4 _ HD5.out HCF.out).mono ?_
        rintro e' w8 ⟨rfl, m1, rfl⟩
        rw [HON3.out]
        go_wp2_with fail
        refine (Zero_at d5 g5 r4 _ _ _ p u4 _ (HD5.out.drewN _) HCF.out).mono ?_
        rintro e' w8 ⟨rfl, m2, rfl⟩
        rw [HON3.out]
        go_wp2_with fail
        refine (Size_any d5 g5 r4 _ _ u4 _ (HD5.out.drewN _)).mono ?_
        rintro e' w8 ⟨rfl, rfl⟩
        go_wp2_with fail
        go_ret
        refine ⟨ret_bool ?_, below_drewN HQ5.out _⟩
        exact decide_eq_true (by omega)
end Go.Proofs.Ytdphkenpjndklaa
