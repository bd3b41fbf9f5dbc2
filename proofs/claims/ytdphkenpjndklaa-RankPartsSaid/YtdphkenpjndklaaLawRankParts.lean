/-
  The walk of the law RankParts: it returns true for every list of Puts and every two numbers of 16 bits; nothing that was there is changed.
-/
import Derived.Test.YtdphkenpjndklaaRkRef
import Derived.Test.YtdphkenpjndklaaOpsBelow
namespace Go.Proofs.Ytdphkenpjndklaa
open Go.RowKit
set_option maxHeartbeats 1000000 in
theorem RankParts_long (l : List (Nat × Int)) (u : Value) (a b : Int) (w : World) (h : Ops w u l) (hl : 60 < l.length) (hm : l.length ≤ 9223372036854775807) :
    Calls Try.prog 6 #[u, .int .u16 a, .int .u16 b] w fun e w' => e = .returned (.bool true) ∧ Below w.heap.size w w' := by
  obtain ⟨ao, cap, rfl, hcap, hc⟩ := h.cells
  clear h hc
  go_enter Try.func6, Try.ntmps6
  go_wp2_with fail
  refine (awake_any w).mono ?_
  rintro e w1 ⟨rfl, hq1⟩
  have HQ1 := hidden hq1
  clear hq1
  go_wp2_with fail
  refine (awake_any w1).mono ?_
  rintro e w2 ⟨rfl, hq2⟩
  have HQ2 := hidden hq2
  clear hq2
  go_wp2_with fail
  go_ret
  exact ⟨rfl, HQ1.out.trans (HQ2.out.mono HQ1.out.size)⟩
set_option maxHeartbeats 4000000 in
theorem RankParts_short (l : List (Nat × Int)) (u : Value) (a b : Int) (w : World) (h : Ops w u l) (hl : l.length ≤ 60) (ha0 : 0 ≤ a) (ha1 : a ≤ 65535) (hb0 : 0 ≤ b) (hb1 : b ≤ 65535) :
    Calls Try.prog 6 #[u, .int .u16 a, .int .u16 b] w fun e w' => e = .returned (.bool true) ∧ Below w.heap.size w w' := by
  have HH := hidden h
  have hL := Bt.all_length l l.length
  rw [List.take_of_length_le (Nat.le_refl _)] at hL
  obtain ⟨ao, cap, hu, hcap, _⟩ := h.cells
  subst hu
  clear h
  go_enter Try.func6, Try.ntmps6
  go_wp2_with fail
  refine (awake_any w).mono ?_
  rintro e' w1 ⟨rfl, hq1⟩
  have HQ1 := hidden hq1
  have HO1 := hidden (HH.out.below hq1 (Nat.le_refl _))
  clear hq1
  go_wp2_with fail
  refine (All_any l _ w1 HO1.out hl).mono ?_
  rintro e' w2 ⟨v2, rfl, hb2, hq2⟩
  have HB2 : Hid (Bl w2 v2 (Bt.all l)) := hb2
  have HQ2 := hidden (HQ1.out.trans (hq2.mono HQ1.out.size))
  clear hb2 hq2
  generalize Bt.all l = L at *
  go_wp2_with fail
  refine (Made_any L v2 w2 HB2.out (by omega)).mono ?_
  rintro e' w3 ⟨r3, u3, rfl, hr3, hq3, _, _⟩
  have HR3 := hidden hr3
  have HQ3 := hidden (HQ2.out.trans (hq3.mono HQ2.out.size))
  clear hr3 hq3 HB2
  generalize Bt.num L = X at *
  generalize L.length = n at *
  obtain ⟨f, hf⟩ : ∃ f : Nat, min (max (min a b) 0) (n : Int) = (f : Int) := ⟨(min (max (min a b) 0) (n : Int)).toNat, by omega⟩
  obtain ⟨t, ht⟩ : ∃ t : Nat, min (max (max a b) 0) (n : Int) = (t : Int) := ⟨(min (max (max a b) 0) (n : Int)).toNat, by omega⟩
  have hft : f ≤ t := by omega
  have htn : t ≤ n := by omega
  have HT : Hid (min (max (max a b) (f : Int)) (n : Int) = (t : Int)) := by show _ = _; omega
  have HFE := hidden hf
  have HTE := hidden ht
  clear hf ht
  go_wp2_with fail
  refine (New_any r3 n X u3 _ HR3.out).mono ?_
  rintro e' w4 ⟨d4, g4, rfl, hd4, hq4⟩
  have HD4 := hidden hd4
  have HR4 := hidden (HR3.out.below hq4 (Nat.le_refl _))
  have HQ4 := hidden (HQ3.out.trans (hq4.mono HQ3.out.size))
  clear hd4 hq4
  go_wp2_with fail
  refine (Clip_core r3 n X f t _ _ u3 _ HR4.out hft htn HFE.out HT.out).mono ?_
  rintro e' w5 ⟨r5, u5, rfl, hr5, hq5, _, _⟩
  have HR5 := hidden hr5
  have HD5 := hidden (HD4.out.below hq5 (Nat.le_refl _))
  have HQ5 := hidden (HQ4.out.trans (hq5.mono HQ4.out.size))
  clear hr5 hq5
  go_wp2_with fail
  refine (New_any r5 _ _ u5 _ HR5.out).mono ?_
  rintro e' w6 ⟨d6, g6, rfl, hd6, hq6⟩
  have HP6 := hidden hd6
  have HD6 := hidden (HD5.out.below hq6 (Nat.le_refl _))
  have HQ6 := hidden (HQ5.out.trans (hq6.mono HQ5.out.size))
  clear hd6 hq6
  go_wp2_with fail
  refine (RLen_any r3 n X u3 _ HD6.out.row).mono ?_
  rintro e' w7 ⟨rfl, rfl⟩
  have h1 := Wd.ones_le X t
  have h2 := Wd.ones_le X f
  have h3 := Wd.ones_le (Bt.cut X f (t - f)) (t - f)
  have HE : Hid (Wd.ones X t = Wd.ones X f + Wd.ones (Bt.cut X f (t - f)) (t - f)) := by
    show _ = _
    unfold Bt.cut
    rw [Wd.ones_mod _ _ _ (Nat.le_refl _), ← Wd.ones_split, show f + (t - f) = t from by omega]
  obtain ⟨p, hp⟩ : ∃ p, p = t - f := ⟨_, rfl⟩
  rw [← hp] at HP6 HE h3
  have HPE := hidden hp
  clear hp
  go_wp2_with fail
  refine (One_at d4 g4 r3 n X _ t u3 _ HD6.out (Bt.cf_of n _ t HTE.out)).mono ?_
  rintro e' w8 ⟨rfl, m1, rfl⟩
  go_wp2_with fail
  refine (One_at d4 g4 r3 n X _ f u3 _ (HD6.out.drewN _) (Bt.cf_of n _ f HFE.out)).mono ?_
  rintro e' w8 ⟨rfl, m2, rfl⟩
  go_wp2_with fail
  refine (One_at d6 g6 r5 p _ _ p u5 _ (HP6.out.drewN _) (Bt.cf_of p _ p (by have := HPE.out; omega))).mono ?_
  rintro e' w8 ⟨rfl, m3, rfl⟩
  have ht1 : (((Wd.ones X t : Nat) : Int) - ((Wd.ones X f : Nat) : Int) == ((Wd.ones (Bt.cut X f p) p : Nat) : Int)) = true := by
    have := HE.out
    rw [beq_iff_eq]
    omega
  go_wp2_with fail
  refine (Zero_at d4 g4 r3 n X _ t u3 _ (HD6.out.drewN _) (Bt.cf_of n _ t HTE.out)).mono ?_
  rintro e' w8 ⟨rfl, m4, rfl⟩
  go_wp2_with fail
  refine (Zero_at d4 g4 r3 n X _ f u3 _ (HD6.out.drewN _) (Bt.cf_of n _ f HFE.out)).mono ?_
  rintro e' w8 ⟨rfl, m5, rfl⟩
  go_wp2_with fail
  refine (Zero_at d6 g6 r5 p _ _ p u5 _ (HP6.out.drewN _) (Bt.cf_of p _ p (by have := HPE.out; omega))).mono ?_
  rintro e' w8 ⟨rfl, m6, rfl⟩
  go_wp2_with fail
  go_ret
  refine ⟨ret_bool ?_, below_drewN HQ6.out _⟩
  have := HE.out
  have := HPE.out
  rw [beq_iff_eq]
  omega
theorem RankParts_walk (l : List (Nat × Int)) (u : Value) (a b : Int) (w : World) (h : Ops w u l) (hm : l.length ≤ 9223372036854775807) (ha0 : 0 ≤ a) (ha1 : a ≤ 65535) (hb0 : 0 ≤ b) (hb1 : b ≤ 65535) :
    Calls Try.prog 6 #[u, .int .u16 a, .int .u16 b] w fun e w' => e = .returned (.bool true) ∧ Below w.heap.size w w' := by
  by_cases hl : l.length ≤ 60
  · exact RankParts_short l u a b w h hl ha0 ha1 hb0 hb1
  · exact RankParts_long l u a b w h (by omega) hm
end Go.Proofs.Ytdphkenpjndklaa
