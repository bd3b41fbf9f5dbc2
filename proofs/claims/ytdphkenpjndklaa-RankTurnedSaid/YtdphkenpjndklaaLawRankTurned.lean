/-
  The walk of the law RankTurned: it returns true for every list of Puts and every number; nothing that was there is changed.
-/
import Derived.Test.YtdphkenpjndklaaRkFill
import Derived.Test.YtdphkenpjndklaaOpsBelow
namespace Go.Proofs.Ytdphkenpjndklaa
open Go.RowKit
set_option maxHeartbeats 1000000 in
theorem RankTurned_long (l : List (Nat × Int)) (u : Value) (at_ : Int) (w : World) (h : Ops w u l) (hl : 60 < l.length) (hm : l.length ≤ 9223372036854775807) :
    Calls Try.prog 7 #[u, .int .i64 at_] w fun e w' => e = .returned (.bool true) ∧ Below w.heap.size w w' := by
  obtain ⟨ao, cap, rfl, hcap, hc⟩ := h.cells
  clear h hc
  go_enter Try.func7, Try.ntmps7
  go_wp2_with fail
  refine (awake_any w).mono ?_
  rintro e w1 ⟨rfl, hq1⟩
  have HQ1 := hidden hq1
  clear hq1
  go_wp2_with fail
  refine (awake_any w1).mono ?_
  rintro e w2 ⟨rfl, hq2⟩
  have HQ2 := hidden hq2
  clear hq2
  go_wp2_with fail
  go_ret
  exact ⟨rfl, HQ1.out.trans (HQ2.out.mono HQ1.out.size)⟩
set_option maxHeartbeats 4000000 in
theorem RankTurned_short (l : List (Nat × Int)) (u : Value) (at_ : Int) (w : World) (h : Ops w u l) (hl : l.length ≤ 60) :
    Calls Try.prog 7 #[u, .int .i64 at_] w fun e w' => e = .returned (.bool true) ∧ Below w.heap.size w w' := by
  have HH := hidden h
  have hL := Bt.all_length l l.length
  rw [List.take_of_length_le (Nat.le_refl _)] at hL
  obtain ⟨ao, cap, hu, hcap, _⟩ := h.cells
  subst hu
  clear h
  go_enter Try.func7, Try.ntmps7
  go_wp2_with fail
  refine (awake_any w).mono ?_
  rintro e' w1 ⟨rfl, hq1⟩
  have HQ1 := hidden hq1
  have HO1 := hidden (HH.out.below hq1 (Nat.le_refl _))
  clear hq1
  go_wp2_with fail
  refine (All_any l _ w1 HO1.out hl).mono ?_
  rintro e' w2 ⟨v2, rfl, hb2, hq2⟩
  have HB2 : Hid (Bl w2 v2 (Bt.all l)) := hb2
  have HQ2 := hidden (HQ1.out.trans (hq2.mono HQ1.out.size))
  clear hb2 hq2
  generalize Bt.all l = L at *
  have hmk := mk_bools L.length (by omega)
  obtain ⟨ab, cb, hv, hcb, hf⟩ := HB2.out.view
  subst hv
  have HF := hidden hf
  clear hf
  have HN : Hid ((L.map (!·)).length = L.length) := List.length_map _
  go_wp2_with fail
  go_loopw [7] (fun i wr => ∃ k : Nat, k ≤ L.length ∧ i = .int .i64 k ∧ wr.heap[w2.heap.size]? = some (.cells (Bt.fill (L.map (!·)) k) 4 (0, 0)) ∧ Below w2.heap.size w2 wr) (fun i _ => L.length - (intOf i).toNat)
  case atStart =>
    refine ⟨0, by omega, rfl, ?_, (Below.refl _ _).alloc (Nat.le_refl _) _⟩
    rw [heap_alloc_new, Bt.fill_zero, HN.out]
  case round =>
    obtain ⟨k, hk, rfl, hg, hb⟩ := hrel
    have HG := hidden hg
    have HB := hidden hb
    by_cases hlt : k < L.length
    · obtain ⟨b, off, rfl, hbl, hcell⟩ := HF.out (by omega)
      have c0 := (hb.cell (p := ⟨b, off + k, none⟩) hbl).trans (hcell k hlt)
      have c1 : wr.cell? ⟨w2.heap.size, k, none⟩ = some (.bool false) := by rw [Lib.cell_of_heap hg, Bt.fill_at _ k (by rw [HN.out]; exact hlt)]
      have f1 : wr.frozen? ⟨w2.heap.size, k, none⟩ = false := Lib.frozen_of_heap hg k
      have HE : Hid ((L.map (!·)).getD k false = !(L.getD k false)) := by
        show _ = _
        rw [List.getD_eq_getElem?_getD, List.getD_eq_getElem?_getD, List.getElem?_map, List.getElem?_eq_getElem hlt]
        rfl
      obtain ⟨o, ho⟩ : ∃ o, o = L.getD k false := ⟨_, rfl⟩
      rw [← ho] at c0 HE
      have hn := Bt.fill_next (L.map (!·)) k (by rw [HN.out]; exact hlt)
      rw [HE.out] at hn
      have HNX := hidden hn
      clear hcell ho hg hb hn
      go_wp2_with fail
      refine ⟨⟨k + 1, by omega, by go_num, ?_, HB.out.setCell (Nat.le_refl _) _⟩, by simp [intOf]; omega⟩
      rw [setCell_heap_same _ _ _ _ _ _ _ HG.out, HNX.out]
    · obtain rfl : k = L.length := by omega
      have HT : Hid (Bl wr (.slice (some ⟨w2.heap.size, 0, none⟩) L.length L.length) (L.map (!·))) := Bl.of_fill HN.out (by omega) hg
      have HB3 : Hid (Bl wr (.slice ab L.length cb) L) := HB2.out.below hb (Nat.le_refl _)
      have HQ3 := hidden (HQ2.out.trans (hb.mono HQ2.out.size))
      clear hg hb HG HB
      go_wp2_with fail
      refine (Made_any L _ _ HB3.out (by omega)).mono ?_
      rintro e' w4 ⟨r4, u4, rfl, hr4, hq4, _, _⟩
      have HR4 := hidden hr4
      have HT4 : Hid (Bl w4 (.slice (some ⟨w2.heap.size, 0, none⟩) L.length L.length) (L.map (!·))) := HT.out.below hq4 (Nat.le_refl _)
      have HQ4 := hidden (HQ3.out.trans (hq4.mono HQ3.out.size))
      clear hr4 hq4
      go_wp2_with fail
      refine (New_any r4 L.length (Bt.num L) u4 _ HR4.out).mono ?_
      rintro e' w5 ⟨d5, g5, rfl, hd5, hq5⟩
      have HD5 := hidden hd5
      have HT5 : Hid (Bl w5 (.slice (some ⟨w2.heap.size, 0, none⟩) L.length L.length) (L.map (!·))) := HT4.out.below hq5 (Nat.le_refl _)
      have HQ5 := hidden (HQ4.out.trans (hq5.mono HQ4.out.size))
      clear hd5 hq5
      go_wp2_with fail
      refine (Made_any (L.map (!·)) _ _ HT5.out (by rw [HN.out]; omega)).mono ?_
      rintro e' w6 ⟨r6, u6, rfl, hr6, hq6, _, _⟩
      rw [HN.out] at hr6
      have HR6 := hidden hr6
      have HD6 := hidden (HD5.out.below hq6 (Nat.le_refl _))
      have HQ6 := hidden (HQ5.out.trans (hq6.mono HQ5.out.size))
      clear hr6 hq6
      go_wp2_with fail
      refine (New_any r6 L.length (Bt.num (L.map (!·))) u6 _ HR6.out).mono ?_
      rintro e' w7 ⟨d7, g7, rfl, hd7, hq7⟩
      have HE7 := hidden hd7
      have HD7 := hidden (HD6.out.below hq7 (Nat.le_refl _))
      have HQ7 := hidden (HQ6.out.trans (hq7.mono HQ6.out.size))
      clear hd7 hq7
      have hpn : Bt.cf L.length at_ ≤ L.length := Nat.le_trans (Bt.cf_le L.length at_ 0).1 (Bt.cf_le L.length at_ 0).2
      have HP := hidden (Bt.ones_turned L (Bt.cf L.length at_) hpn)
      obtain ⟨p, hp⟩ : ∃ p, Bt.cf L.length at_ = p := ⟨_, rfl⟩
      rw [hp] at HP hpn
      have HPE := hidden hp
      have ht1 : ∀ x y : Nat, x + y = p → (((y : Nat) : Int) == (p : Int) - ((x : Nat) : Int)) = true := fun x y h => by rw [beq_iff_eq]; omega
      have ht2 : (((Wd.ones (Bt.num L) p : Nat) : Int) == (p : Int) - ((Wd.ones (Bt.num (L.map (!·))) p : Nat) : Int)) = true := ht1 _ _ HP.out
      clear hp ht1
      go_wp2_with fail
      refine (One_at d5 g5 r4 _ _ _ p u4 _ HD7.out HPE.out).mono ?_
      rintro e' w8 ⟨rfl, m1, rfl⟩
      go_wp2_with fail
      refine (Zero_at d7 g7 r6 _ _ _ p u6 _ (HE7.out.drewN _) HPE.out).mono ?_
      rintro e' w8 ⟨rfl, m2, rfl⟩
      go_wp2_with fail
      refine (Zero_at d5 g5 r4 _ _ _ p u4 _ (HD7.out.drewN _) HPE.out).mono ?_
      rintro e' w8 ⟨rfl, m3, rfl⟩
      go_wp2_with fail
      refine (One_at d7 g7 r6 _ _ _ p u6 _ (HE7.out.drewN _) HPE.out).mono ?_
      rintro e' w8 ⟨rfl, m4, rfl⟩
      go_wp2_with fail
      go_ret
      refine ⟨ret_bool ?_, below_drewN HQ7.out _⟩
      have := HP.out
      rw [beq_iff_eq]
      omega
theorem RankTurned_walk (l : List (Nat × Int)) (u : Value) (at_ : Int) (w : World) (h : Ops w u l) (hm : l.length ≤ 9223372036854775807) :
    Calls Try.prog 7 #[u, .int .i64 at_] w fun e w' => e = .returned (.bool true) ∧ Below w.heap.size w w' := by
  by_cases hl : l.length ≤ 60
  · exact RankTurned_short l u at_ w h hl
  · exact RankTurned_long l u at_ w h (by omega) hm
end Go.Proofs.Ytdphkenpjndklaa
