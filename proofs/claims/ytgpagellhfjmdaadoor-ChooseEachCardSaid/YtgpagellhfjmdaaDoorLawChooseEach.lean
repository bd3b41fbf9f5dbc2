/-
  The walk of the law ChooseEach: it returns true for every list of Puts; nothing that was there is changed.
-/
import Derived.Test.YtgpagellhfjmdaaDoorCkRef
import Derived.Test.YtgpagellhfjmdaaDoorOpsBelow
namespace Go.Proofs.YtgpagellhfjmdaaDoor
open Go.RowKit
set_option maxHeartbeats 1000000 in
theorem ChooseEach_long (l : List (Nat × Int)) (u : Value) (w : World) (h : Ops w u l) (hT : Tab w) (hl : 60 < l.length) (hm : l.length ≤ 9223372036854775807) :
    Calls Tryd.prog 4 #[u] w fun e w' => e = .returned (.bool true) ∧ Below w.heap.size w w' := by
  obtain ⟨ao, cap, rfl, hcap, hc⟩ := h.cells
  have HT := hidden hT
  clear h hc hT
  go_enter Tryd.func4, Tryd.ntmps4
  go_wp2_with fail
  refine (awake_any w HT.out).mono ?_
  rintro e w1 ⟨rfl, hq1⟩
  have HQ1 := hidden hq1
  clear hq1
  go_wp2_with fail
  refine (awake_any w1 (HT.out.below HQ1.out (Nat.le_refl _))).mono ?_
  rintro e w2 ⟨rfl, hq2⟩
  have HQ2 := hidden hq2
  clear hq2
  go_wp2_with fail
  go_ret
  exact ⟨rfl, HQ1.out.trans (HQ2.out.mono HQ1.out.size)⟩
set_option maxHeartbeats 4000000 in
theorem ChooseEach_short (l : List (Nat × Int)) (u : Value) (w : World) (h : Ops w u l) (hT : Tab w) (hl : l.length ≤ 60) :
    Calls Tryd.prog 4 #[u] w fun e w' => e = .returned (.bool true) ∧ Below w.heap.size w w' := by
  have HH := hidden h
  have HT := hidden hT
  have hL := Bt.all_length l l.length
  rw [List.take_of_length_le (Nat.le_refl _)] at hL
  obtain ⟨ao, cap, hu, hcap, _⟩ := h.cells
  subst hu
  clear h hT
  go_enter Tryd.func4, Tryd.ntmps4
  go_wp2_with fail
  refine (awake_any w HT.out).mono ?_
  rintro e' w1 ⟨rfl, hq1⟩
  have HQ1 := hidden hq1
  have HO1 := hidden (HH.out.below hq1 (Nat.le_refl _))
  clear hq1
  go_wp2_with fail
  refine (All_any l _ w1 HO1.out hl).mono ?_
  rintro e' w2 ⟨v2, rfl, hb2, hq2⟩
  have HB2 : Hid (Bl w2 v2 (Bt.all l)) := hb2
  have HQ2 := hidden (HQ1.out.trans (hq2.mono HQ1.out.size))
  clear hb2 hq2
  generalize Bt.all l = L at *
  go_wp2_with fail
  refine (Made_any L v2 w2 HB2.out (by omega)).mono ?_
  rintro e' w3 ⟨r3, u3, rfl, hr3, hq3, _, _⟩
  have HR3 := hidden hr3
  have HB3 : Hid (Bl w3 v2 L) := HB2.out.below hq3 (Nat.le_refl _)
  have HQ3 := hidden (HQ2.out.trans (hq3.mono HQ2.out.size))
  clear hr3 hq3 HB2
  go_wp2_with fail
  refine (CNew_any r3 L.length (Bt.num L) u3 _ HR3.out (HT.out.below HQ3.out (Nat.le_refl _))).mono ?_
  rintro e' w4 ⟨c4, d4, g4, b4, b5, rfl, hd4, hq4⟩
  have HD4 := hidden hd4
  have HB4 : Hid (Bv w4 v2 L) := (HB3.out.below hq4 (Nat.le_refl _)).view
  have HQ4 := hidden (HQ3.out.trans (hq4.mono HQ3.out.size))
  have HT4 := hidden (HT.out.below HQ4.out (Nat.le_refl _))
  clear hd4 hq4 HB3 HR3
  obtain ⟨ab, cb, hv, hcb, hf⟩ := HB4.out
  subst hv
  have HF := hidden hf
  clear hf HB4
  have HX1 := hidden (Ck.Of.one L)
  have HX0 := hidden (Ck.Of.zero L)
  obtain ⟨Y, hY⟩ : ∃ Y, Y = Ck.tn (Bt.num L) L.length := ⟨_, rfl⟩
  rw [← hY] at HX0
  have HY := hidden hY
  clear hY
  obtain ⟨X, hX⟩ : ∃ X, X = Bt.num L := ⟨_, rfl⟩
  rw [← hX] at HD4 HY HX1
  clear hX
  obtain ⟨n, hn⟩ : ∃ n, n = L.length := ⟨_, rfl⟩
  rw [← hn] at HD4 HF hL hcb HY ⊢
  have HN := hidden hn
  clear hn
  go_wp2_with fail
  go_loopw [5, 6, 7] (fun o z i wr => ∃ k : Nat, k ≤ n ∧ i = .int .i64 k ∧ o = .int .i64 ((Wd.ones X k : Nat) : Int) ∧ z = .int .i64 ((Wd.ones Y k : Nat) : Int) ∧ Below w4.heap.size w4 wr) (fun _ _ i _ => n - (intOf i).toNat)
  case atStart => exact ⟨0, by omega, rfl, rfl, rfl, Below.refl _ _⟩
  case round =>
    obtain ⟨k, hk, rfl, rfl, rfl, hb⟩ := hrel
    have ho := Wd.ones_le X k
    have hz := Wd.ones_le Y k
    have HC := hidden (HD4.out.below hb (Nat.le_refl _))
    have HTr := hidden (HT4.out.below hb (Nat.le_refl _))
    have HBL := hidden hb
    by_cases hlt : k < n
    · obtain ⟨b, off, rfl, hbl, hcell⟩ := HF.out (by omega)
      have c0 : wr.cell? ⟨b, off + k, none⟩ = some (.bool (L.getD k false)) := (hb.cell (p := ⟨b, off + k, none⟩) hbl).trans (hcell k hlt)
      have h1 : Hid (Wd.bt X k = (L.getD k false == true).toNat) := HX1.out k (by rw [← HN.out]; exact hlt)
      have h0 : Hid (Wd.bt Y k = (L.getD k false == false).toNat) := HX0.out k (by rw [← HN.out]; exact hlt)
      have HS1 := hidden (Wd.ones_succ X k)
      have HS0 := hidden (Wd.ones_succ Y k)
      obtain ⟨o, ho⟩ : ∃ o, o = L.getD k false := ⟨_, rfl⟩
      rw [← ho] at c0 h1 h0
      have i1 : (k : Int) < (n : Int) := by omega
      clear hcell ho hb
      cases o
      · go_wp2_with fail
        refine (CZero_at c4 d4 g4 r3 n X b4 b5 _ k u3 _ HC.out HTr.out ⟨hlt, by rw [← HY.out]; exact h0.out, by rw [← HY.out]⟩).mono ?_
        rintro e' w5 ⟨rfl, hq5⟩
        have HB5 : Hid (Below w4.heap.size w4 w5) := HBL.out.trans (hq5.mono HBL.out.size)
        clear hq5
        go_wp2_with fail
        go_roundw
        case rel => exact ⟨k + 1, by omega, by go_num, int_eq (by rw [HS1.out, h1.out]; rfl), int_eq (by rw [HS0.out, h0.out]; rfl), HB5.out⟩
        case measure => simp [intOf]; omega
      · go_wp2_with fail
        refine (COne_at c4 d4 g4 r3 n X b4 b5 _ k u3 _ HC.out HTr.out ⟨hlt, h1.out, rfl⟩).mono ?_
        rintro e' w5 ⟨rfl, hq5⟩
        have HB5 : Hid (Below w4.heap.size w4 w5) := HBL.out.trans (hq5.mono HBL.out.size)
        clear hq5
        go_wp2_with fail
        go_roundw
        case rel => exact ⟨k + 1, by omega, by go_num, int_eq (by rw [HS1.out, h1.out]; rfl), int_eq (by rw [HS0.out, h0.out]; rfl), HB5.out⟩
        case measure => simp [intOf]; omega
    · obtain rfl : k = n := by omega
      clear hb
      go_wp2_with fail
      refine (COne_none c4 d4 g4 r3 k X b4 b5 _ u3 _ HC.out (.inr (Int.le_refl _))).mono ?_
      rintro e' w5 ⟨rfl, hq5⟩
      have HC5 := hidden (HC.out.below hq5 (Nat.le_refl _))
      have HB5 : Hid (Below w4.heap.size w4 w5) := HBL.out.trans (hq5.mono HBL.out.size)
      clear hq5
      go_wp2_with fail
      refine (CZero_none c4 d4 g4 r3 k X b4 b5 _ u3 _ HC5.out (.inr (by rw [← HY.out]; exact Int.le_refl _))).mono ?_
      rintro e' w6 ⟨rfl, hq6⟩
      have HC6 := hidden (HC5.out.below hq6 (Nat.le_refl _))
      have HB6 : Hid (Below w4.heap.size w4 w6) := HB5.out.trans (hq6.mono HB5.out.size)
      clear hq6
      go_wp2_with fail
      refine (COnes_any c4 d4 g4 r3 k X b4 b5 u3 _ HC6.out).mono ?_
      rintro e' w7 ⟨rfl, m, rfl⟩
      go_wp2_with fail
      go_ret
      exact ⟨ret_bool (by simp), below_drewN (HQ4.out.trans (HB6.out.mono HQ4.out.size)) _⟩
theorem ChooseEach_walk (l : List (Nat × Int)) (u : Value) (w : World) (h : Ops w u l) (hm : l.length ≤ 9223372036854775807) (hT : Tab w) :
    Calls Tryd.prog 4 #[u] w fun e w' => e = .returned (.bool true) ∧ Below w.heap.size w w' := by
  by_cases hl : l.length ≤ 60
  · exact ChooseEach_short l u w h hT hl
  · exact ChooseEach_long l u w h hT (by omega) hm
end Go.Proofs.YtgpagellhfjmdaaDoor
