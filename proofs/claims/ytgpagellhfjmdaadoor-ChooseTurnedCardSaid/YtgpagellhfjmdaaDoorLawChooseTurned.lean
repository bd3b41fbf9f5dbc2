/-
  The walk of the law ChooseTurned: it returns true for every list of Puts and every number; nothing that was there is changed.
-/
import Derived.Test.YtgpagellhfjmdaaDoorCkRef
import Derived.Test.YtgpagellhfjmdaaDoorOpsBelow
namespace Go.Proofs.YtgpagellhfjmdaaDoor
open Go.RowKit
set_option maxHeartbeats 1000000 in
theorem ChooseTurned_long (l : List (Nat × Int)) (u : Value) (at_ : Int) (w : World) (h : Ops w u l) (hT : Tab w) (hl : 60 < l.length) (hm : l.length ≤ 9223372036854775807) :
    Calls Tryd.prog 6 #[u, .int .i64 at_] w fun e w' => e = .returned (.bool true) ∧ Below w.heap.size w w' := by
  obtain ⟨ao, cap, rfl, hcap, hc⟩ := h.cells
  have HT := hidden hT
  clear h hc hT
  go_enter Tryd.func6, Tryd.ntmps6
  go_wp2_with fail
  refine (awake_any w HT.out).mono ?_
  rintro e w1 ⟨rfl, hq1⟩
  have HQ1 := hidden hq1
  clear hq1
  go_wp2_with fail
  refine (awake_any w1 (HT.out.below HQ1.out (Nat.le_refl _))).mono ?_
  rintro e w2 ⟨rfl, hq2⟩
  have HQ2 := hidden hq2
  clear hq2
  go_wp2_with fail
  go_ret
  exact ⟨rfl, HQ1.out.trans (HQ2.out.mono HQ1.out.size)⟩
set_option maxHeartbeats 4000000 in
theorem ChooseTurned_short (l : List (Nat × Int)) (u : Value) (at_ : Int) (w : World) (h : Ops w u l) (hT : Tab w) (hl : l.length ≤ 60) :
    Calls Tryd.prog 6 #[u, .int .i64 at_] w fun e w' => e = .returned (.bool true) ∧ Below w.heap.size w w' := by
  have HH := hidden h
  have hL := Bt.all_length l l.length
  rw [List.take_of_length_le (Nat.le_refl _)] at hL
  obtain ⟨ao, cap, hu, hcap, _⟩ := h.cells
  subst hu
  have HT := hidden hT
  clear h hT
  go_enter Tryd.func6, Tryd.ntmps6
  go_wp2_with fail
  refine (awake_any w HT.out).mono ?_
  rintro e' w1 ⟨rfl, hq1⟩
  have HQ1 := hidden hq1
  have HO1 := hidden (HH.out.below hq1 (Nat.le_refl _))
  clear hq1
  go_wp2_with fail
  refine (All_any l _ w1 HO1.out hl).mono ?_
  rintro e' w2 ⟨v2, rfl, hb2, hq2⟩
  have HB2 : Hid (Bl w2 v2 (Bt.all l)) := hb2
  have HQ2 := hidden (HQ1.out.trans (hq2.mono HQ1.out.size))
  clear hb2 hq2
  generalize Bt.all l = L at *
  have hmk := mk_bools L.length (by omega)
  obtain ⟨ab, cb, hv, hcb, hf⟩ := HB2.out.view
  subst hv
  have HF := hidden hf
  clear hf
  have HN : Hid ((L.map (!·)).length = L.length) := List.length_map _
  go_wp2_with fail
  go_loopw [7] (fun i wr => ∃ k : Nat, k ≤ L.length ∧ i = .int .i64 k ∧ wr.heap[w2.heap.size]? = some (.cells (Bt.fill (L.map (!·)) k) 4 (0, 0)) ∧ Below w2.heap.size w2 wr) (fun i _ => L.length - (intOf i).toNat)
  case atStart =>
    refine ⟨0, by omega, rfl, ?_, (Below.refl _ _).alloc (Nat.le_refl _) _⟩
    rw [heap_alloc_new, Bt.fill_zero, HN.out]
  case round =>
    obtain ⟨k, hk, rfl, hg, hb⟩ := hrel
    have HG := hidden hg
    have HB := hidden hb
    by_cases hlt : k < L.length
    · obtain ⟨b, off, rfl, hbl, hcell⟩ := HF.out (by omega)
      have c0 := (hb.cell (p := ⟨b, off + k, none⟩) hbl).trans (hcell k hlt)
      have c1 : wr.cell? ⟨w2.heap.size, k, none⟩ = some (.bool false) := by rw [Lib.cell_of_heap hg, Bt.fill_at _ k (by rw [HN.out]; exact hlt)]
      have f1 : wr.frozen? ⟨w2.heap.size, k, none⟩ = false := Lib.frozen_of_heap hg k
      have HE : Hid ((L.map (!·)).getD k false = !(L.getD k false)) := by
        show _ = _
        rw [List.getD_eq_getElem?_getD, List.getD_eq_getElem?_getD, List.getElem?_map, List.getElem?_eq_getElem hlt]
        rfl
      obtain ⟨o, ho⟩ : ∃ o, o = L.getD k false := ⟨_, rfl⟩
      rw [← ho] at c0 HE
      have hn := Bt.fill_next (L.map (!·)) k (by rw [HN.out]; exact hlt)
      rw [HE.out] at hn
      have HNX := hidden hn
      clear hcell ho hg hb hn
      go_wp2_with fail
      refine ⟨⟨k + 1, by omega, by go_num, ?_, HB.out.setCell (Nat.le_refl _) _⟩, by simp [intOf]; omega⟩
      rw [setCell_heap_same _ _ _ _ _ _ _ HG.out, HNX.out]
    · obtain rfl : k = L.length := by omega
      have HTL : Hid (Bl wr (.slice (some ⟨w2.heap.size, 0, none⟩) L.length L.length) (L.map (!·))) := Bl.of_fill HN.out (by omega) hg
      have HB3 : Hid (Bl wr (.slice ab L.length cb) L) := HB2.out.below hb (Nat.le_refl _)
      have HQ3 := hidden (HQ2.out.trans (hb.mono HQ2.out.size))
      clear hg hb HG HB
      go_wp2_with fail
      refine (Made_any L _ _ HB3.out (by omega)).mono ?_
      rintro e' w4 ⟨r4, u4, rfl, hr4, hq4, _, _⟩
      have HR4 := hidden hr4
      have HT4 : Hid (Bl w4 (.slice (some ⟨w2.heap.size, 0, none⟩) L.length L.length) (L.map (!·))) := HTL.out.below hq4 (Nat.le_refl _)
      have HQ4 := hidden (HQ3.out.trans (hq4.mono HQ3.out.size))
      clear hr4 hq4
      go_wp2_with fail
      refine (CNew_any r4 L.length (Bt.num L) u4 _ HR4.out (HT.out.below HQ4.out (Nat.le_refl _))).mono ?_
      rintro e' w5 ⟨c5, d5, g5, b5, b15, rfl, hd5, hq5⟩
      have HD5 := hidden hd5
      have HT5 : Hid (Bl w5 (.slice (some ⟨w2.heap.size, 0, none⟩) L.length L.length) (L.map (!·))) := HT4.out.below hq5 (Nat.le_refl _)
      have HQ5 := hidden (HQ4.out.trans (hq5.mono HQ4.out.size))
      clear hd5 hq5
      go_wp2_with fail
      refine (Made_any (L.map (!·)) _ _ HT5.out (by rw [HN.out]; omega)).mono ?_
      rintro e' w6 ⟨r6, u6, rfl, hr6, hq6, _, _⟩
      rw [HN.out] at hr6
      have HR6 := hidden hr6
      have HD6 := hidden (HD5.out.below hq6 (Nat.le_refl _))
      have HQ6 := hidden (HQ5.out.trans (hq6.mono HQ5.out.size))
      clear hr6 hq6
      go_wp2_with fail
      refine (CNew_any r6 L.length (Bt.num (L.map (!·))) u6 _ HR6.out (HT.out.below HQ6.out (Nat.le_refl _))).mono ?_
      rintro e' w7 ⟨c7, d7, g7, b7, b17, rfl, hd7, hq7⟩
      have HE7 := hidden hd7
      have HD7 := hidden (HD6.out.below hq7 (Nat.le_refl _))
      have HQ7 := hidden (HQ6.out.trans (hq7.mono HQ6.out.size))
      clear hd7 hq7
      have HP := hidden (Bt.ones_turned L L.length (Nat.le_refl _))
      have HTB := hidden (Ck.turned_bits L)
      have HON := hidden (Wd.ones_congr _ _ _ (Ck.turned_bits L))
      generalize Bt.num (L.map (!·)) = Z at *
      generalize Bt.num L = X at *
      have ho1 := Wd.ones_le X L.length
      have ho2 := Wd.ones_le Z L.length
      have HAB : Hid (∃ x y : Int, (∀ W, Cz W c5 d5 g5 r4 L.length X b5 b15 u4 → Tab W → Calls Tryd.prog 11 #[.pointer (some ⟨c5, 0, none⟩), .int .i64 at_] W fun e w' => e = .returned (.tuple #[.int .i64 x, .int .i64 y]) ∧ Below W.heap.size W w') ∧
          (∀ W, Cz W c7 d7 g7 r6 L.length Z b7 b17 u6 → Tab W → Calls Tryd.prog 12 #[.pointer (some ⟨c7, 0, none⟩), .int .i64 at_] W fun e w' => e = .returned (.tuple #[.int .i64 x, .int .i64 y]) ∧ Below W.heap.size W w')) := by
        show ∃ _, _
        rcases Ck.dec X L.length at_ with ⟨j, p, rfl, hp⟩ | hn
        · exact ⟨p, 0, fun W h1 h2 => COne_at c5 d5 g5 r4 _ X b5 b15 j p u4 W h1 h2 hp, fun W h1 h2 => CZero_at c7 d7 g7 r6 _ Z b7 b17 j p u6 W h1 h2 (hp.congr HTB.out)⟩
        · exact ⟨0, 2, fun W h1 _ => COne_none c5 d5 g5 r4 _ X b5 b15 at_ u4 W h1 hn, fun W h1 _ => CZero_none c7 d7 g7 r6 _ Z b7 b17 at_ u6 W h1 (by rw [← HON.out]; exact hn)⟩
      obtain ⟨x, y, hA, hB⟩ := HAB.out
      have HA := hidden hA
      have HB := hidden hB
      clear hA hB HAB
      go_wp2_with fail
      refine (HA.out _ HD7.out (HT.out.below HQ7.out (Nat.le_refl _))).mono ?_
      rintro e' w8 ⟨rfl, hq8⟩
      have HD8 := hidden (HD7.out.below hq8 (Nat.le_refl _))
      have HE8 := hidden (HE7.out.below hq8 (Nat.le_refl _))
      have HQ8 := hidden (HQ7.out.trans (hq8.mono HQ7.out.size))
      clear hq8
      go_wp2_with fail
      refine (HB.out _ HE8.out (HT.out.below HQ8.out (Nat.le_refl _))).mono ?_
      rintro e' w9 ⟨rfl, hq9⟩
      have HD9 := hidden (HD8.out.below hq9 (Nat.le_refl _))
      have HE9 := hidden (HE8.out.below hq9 (Nat.le_refl _))
      have HQ9 := hidden (HQ8.out.trans (hq9.mono HQ8.out.size))
      clear hq9
      have hxx : (x == x) = true := by simp
      have hyy : (y == y) = true := by simp
      go_wp2_with fail
      refine (COnes_any c5 d5 g5 r4 _ X b5 b15 u4 _ HD9.out).mono ?_
      rintro e' w10 ⟨rfl, m1, rfl⟩
      go_wp2_with fail
      refine (COnes_any c7 d7 g7 r6 _ Z b7 b17 u6 _ (HE9.out.drewN m1)).mono ?_
      rintro e' w10 ⟨rfl, m2, rfl⟩
      go_wp2_with fail
      go_ret
      refine ⟨ret_bool ?_, below_drewN HQ9.out _⟩
      have := HP.out
      rw [beq_iff_eq]
      omega
theorem ChooseTurned_walk (l : List (Nat × Int)) (u : Value) (at_ : Int) (w : World) (h : Ops w u l) (hm : l.length ≤ 9223372036854775807) (hT : Tab w) :
    Calls Tryd.prog 6 #[u, .int .i64 at_] w fun e w' => e = .returned (.bool true) ∧ Below w.heap.size w w' := by
  by_cases hl : l.length ≤ 60
  · exact ChooseTurned_short l u at_ w h hT hl
  · exact ChooseTurned_long l u at_ w h hT (by omega) hm
end Go.Proofs.YtgpagellhfjmdaaDoor
