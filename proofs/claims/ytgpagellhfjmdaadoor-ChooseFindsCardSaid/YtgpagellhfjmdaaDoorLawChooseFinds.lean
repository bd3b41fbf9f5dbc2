/-
  The walk of the law ChooseFinds: it returns true for every list of Puts and every list of numbers; nothing that was there is changed.
-/
import Derived.Test.YtgpagellhfjmdaaDoorCkRef
import Derived.Test.YtgpagellhfjmdaaDoorOpsBelow
import Derived.Test.YtgpagellhfjmdaaDoorOpenInts
namespace Go.Proofs.YtgpagellhfjmdaaDoor
open Go.RowKit
/-- What One and Zero answer, and what the reference does: both find it, or neither. -/
theorem both_one (c d g r b0 b1 : Nat) (u v : Value) (L : List Bool) (k : Int) (hL : L.length ≤ 4294967296) :
    ∃ x y z : Int, ((0 ≤ z ∧ x = z ∧ y = 0) ∨ (z = -1 ∧ x = 0 ∧ y = 2)) ∧
      (∀ W, Cz W c d g r L.length (Bt.num L) b0 b1 u → Tab W → Calls Tryd.prog 11 #[.pointer (some ⟨c, 0, none⟩), .int .i64 k] W fun e w' => e = .returned (.tuple #[.int .i64 x, .int .i64 y]) ∧ Below W.heap.size W w') ∧
      (∀ W, Bv W v L → Calls Tryd.prog 13 #[v, .int .i64 k, .bool true] W fun e w' => e = .returned (.int .i64 z) ∧ w' = W) := by
  rcases Ck.dec (Bt.num L) L.length k with ⟨j, p, rfl, hp⟩ | hn
  · exact ⟨p, 0, p, .inl ⟨by omega, rfl, rfl⟩, fun W h1 h2 => COne_at c d g r _ _ b0 b1 j p u W h1 h2 hp, fun W h => rAt_some L v _ j p true W h hL (Ck.Of.one L) hp⟩
  · exact ⟨0, 2, -1, .inr ⟨rfl, rfl, rfl⟩, fun W h1 _ => COne_none c d g r _ _ b0 b1 k u W h1 hn, fun W h => rAt_none L v _ k true W h hL (Ck.Of.one L) hn⟩
/-- What One and Zero answer, and what the reference does: both find it, or neither. -/
theorem both_zero (c d g r b0 b1 : Nat) (u v : Value) (L : List Bool) (k : Int) (hL : L.length ≤ 4294967296) :
    ∃ x y z : Int, ((0 ≤ z ∧ x = z ∧ y = 0) ∨ (z = -1 ∧ x = 0 ∧ y = 2)) ∧
      (∀ W, Cz W c d g r L.length (Bt.num L) b0 b1 u → Tab W → Calls Tryd.prog 12 #[.pointer (some ⟨c, 0, none⟩), .int .i64 k] W fun e w' => e = .returned (.tuple #[.int .i64 x, .int .i64 y]) ∧ Below W.heap.size W w') ∧
      (∀ W, Bv W v L → Calls Tryd.prog 13 #[v, .int .i64 k, .bool false] W fun e w' => e = .returned (.int .i64 z) ∧ w' = W) := by
  rcases Ck.dec (Ck.tn (Bt.num L) L.length) L.length k with ⟨j, p, rfl, hp⟩ | hn
  · exact ⟨p, 0, p, .inl ⟨by omega, rfl, rfl⟩, fun W h1 h2 => CZero_at c d g r _ _ b0 b1 j p u W h1 h2 hp, fun W h => rAt_some L v _ j p false W h hL (Ck.Of.zero L) hp⟩
  · exact ⟨0, 2, -1, .inr ⟨rfl, rfl, rfl⟩, fun W h1 _ => CZero_none c d g r _ _ b0 b1 k u W h1 hn, fun W h => rAt_none L v _ k false W h hL (Ck.Of.zero L) hn⟩
set_option maxHeartbeats 1000000 in
theorem ChooseFinds_long (l : List (Nat × Int)) (q : List Int) (u v : Value) (w : World) (h : Ops w u l) (hT : Tab w) (hq : Ints w v q) (hl : 60 < l.length) (hm : l.length ≤ 9223372036854775807) :
    Calls Tryd.prog 3 #[u, v] w fun e w' => e = .returned (.bool true) ∧ Below w.heap.size w w' := by
  obtain ⟨ao, cap, rfl, hcap, hc⟩ := h.cells
  obtain ⟨aq, capq, rfl, hcapq, _⟩ := hq.cells
  have HT := hidden hT
  clear h hc hq hT
  go_enter Tryd.func3, Tryd.ntmps3
  go_wp2_with fail
  refine (awake_any w HT.out).mono ?_
  rintro e w1 ⟨rfl, hq1⟩
  have HQ1 := hidden hq1
  clear hq1
  go_wp2_with fail
  refine (awake_any w1 (HT.out.below HQ1.out (Nat.le_refl _))).mono ?_
  rintro e w2 ⟨rfl, hq2⟩
  have HQ2 := hidden hq2
  clear hq2
  go_wp2_with fail
  go_ret
  exact ⟨rfl, HQ1.out.trans (HQ2.out.mono HQ1.out.size)⟩
set_option maxHeartbeats 1000000 in
theorem ChooseFinds_many (l : List (Nat × Int)) (q : List Int) (u v : Value) (w : World) (h : Ops w u l) (hT : Tab w) (hq : Ints w v q) (hl : l.length ≤ 60) (hn : 20 < q.length) (hm : q.length ≤ 9223372036854775807) :
    Calls Tryd.prog 3 #[u, v] w fun e w' => e = .returned (.bool true) ∧ Below w.heap.size w w' := by
  obtain ⟨ao, cap, rfl, hcap, hc⟩ := h.cells
  obtain ⟨aq, capq, rfl, hcapq, _⟩ := hq.cells
  have HT := hidden hT
  clear h hc hq hT
  go_enter Tryd.func3, Tryd.ntmps3
  go_wp2_with fail
  refine (awake_any w HT.out).mono ?_
  rintro e w1 ⟨rfl, hq1⟩
  have HQ1 := hidden hq1
  clear hq1
  go_wp2_with fail
  refine (awake_any w1 (HT.out.below HQ1.out (Nat.le_refl _))).mono ?_
  rintro e w2 ⟨rfl, hq2⟩
  have HQ2 := hidden hq2
  clear hq2
  go_wp2_with fail
  go_ret
  exact ⟨rfl, HQ1.out.trans (HQ2.out.mono HQ1.out.size)⟩
set_option maxRecDepth 100000 in
set_option maxHeartbeats 4000000 in
theorem ChooseFinds_short (l : List (Nat × Int)) (q : List Int) (u v : Value) (w : World) (h : Ops w u l) (hT : Tab w) (hq : Ints w v q) (hl : l.length ≤ 60) (hn : q.length ≤ 20) :
    Calls Tryd.prog 3 #[u, v] w fun e w' => e = .returned (.bool true) ∧ Below w.heap.size w w' := by
  have HH := hidden h
  have hL := Bt.all_length l l.length
  rw [List.take_of_length_le (Nat.le_refl _)] at hL
  obtain ⟨ao, cap, hu, hcap, _⟩ := h.cells
  subst hu
  have HI := hidden hq
  obtain ⟨aq, capq, hv, hcapq, _⟩ := hq.cells
  subst hv
  have HT := hidden hT
  clear h hq hT
  go_enter Tryd.func3, Tryd.ntmps3
  go_wp2_with fail
  refine (awake_any w HT.out).mono ?_
  rintro e' w1 ⟨rfl, hq1⟩
  have HQ1 := hidden hq1
  have HO1 := hidden (HH.out.below hq1 (Nat.le_refl _))
  clear hq1
  go_wp2_with fail
  refine (All_any l _ w1 HO1.out hl).mono ?_
  rintro e' w2 ⟨v2, rfl, hb2, hq2⟩
  have HB2 : Hid (Bl w2 v2 (Bt.all l)) := hb2
  have HQ2 := hidden (HQ1.out.trans (hq2.mono HQ1.out.size))
  clear hb2 hq2
  generalize Bt.all l = L at *
  go_wp2_with fail
  refine (Made_any L v2 w2 HB2.out (by omega)).mono ?_
  rintro e' w3 ⟨r3, u3, rfl, hr3, hq3, _, _⟩
  have HR3 := hidden hr3
  have HB3 : Hid (Bl w3 v2 L) := HB2.out.below hq3 (Nat.le_refl _)
  have HQ3 := hidden (HQ2.out.trans (hq3.mono HQ2.out.size))
  clear hr3 hq3 HB2
  go_wp2_with fail
  refine (CNew_any r3 L.length (Bt.num L) u3 _ HR3.out (HT.out.below HQ3.out (Nat.le_refl _))).mono ?_
  rintro e' w4 ⟨c4, d4, g4, b4, b5, rfl, hd4, hq4⟩
  have HD4 := hidden hd4
  have HB4 : Hid (Bl w4 v2 L) := HB3.out.below hq4 (Nat.le_refl _)
  have HQ4 := hidden (HQ3.out.trans (hq4.mono HQ3.out.size))
  have HT4 := hidden (HT.out.below HQ4.out (Nat.le_refl _))
  have HI4 := hidden (HI.out.below HQ4.out (Nat.le_refl _))
  obtain ⟨_, _, hx1, _, hf⟩ := HI4.out.cells
  obtain ⟨rfl, rfl⟩ : aq = _ ∧ capq = _ := by simpa using hx1
  have HF := hidden hf
  clear hd4 hq4 HB3 HR3 hf hx1
  obtain ⟨ab, cb, hv, hcb, _⟩ := HB4.out.view
  subst hv
  have HZ := hidden (Ck.sz_le (Bt.num L) L.length (Bt.num_lt L))
  go_wp2_with fail
  go_loopw [7] (fun i wr => ∃ k : Nat, k ≤ q.length ∧ i = .int .i64 k ∧ Below w4.heap.size w4 wr) (fun i _ => q.length - (intOf i).toNat)
  case atStart => exact ⟨0, by omega, rfl, Below.refl _ _⟩
  case round =>
    obtain ⟨k, hk, rfl, hb⟩ := hrel
    have HCr := hidden (HD4.out.below hb (Nat.le_refl _))
    have HTr := hidden (HT4.out.below hb (Nat.le_refl _))
    have HBr : Hid (Bl wr (.slice ab L.length cb) L) := HB4.out.below hb (Nat.le_refl _)
    have HBL := hidden hb
    by_cases hlt : k < q.length
    · obtain ⟨b, off, hab, hbl, hcell⟩ := HF.out (by omega)
      subst hab
      have HCE : Hid (∀ W, Below w4.heap.size w4 W → W.cell? ⟨b, off + k, none⟩ = some (.int .i64 (q.getD k 0))) := fun W hW => (hW.cell (p := ⟨b, off + k, none⟩) hbl).trans (hcell k hlt)
      obtain ⟨z, hz⟩ : ∃ z, z = q.getD k 0 := ⟨_, rfl⟩
      rw [← hz] at HCE
      have c0 := HCE.out wr hb
      have i0 : (0 : Int) ≤ (k : Int) := by omega
      have i1 : (k : Int) < (q.length : Int) := by omega
      have HLL : Hid (L.length ≤ 4294967296) := by show _ ≤ _; omega
      clear hcell hz hb
      obtain ⟨x1, y1, z1, hr1, hA1, hB1⟩ := both_one c4 d4 g4 r3 b4 b5 u3 (.slice ab L.length cb) L z HLL.out
      obtain ⟨x0, y0, z0, hr0, hA0, hB0⟩ := both_zero c4 d4 g4 r3 b4 b5 u3 (.slice ab L.length cb) L z HLL.out
      have HA1 := hidden hA1
      have HA0 := hidden hA0
      have HR1 := hidden hr1
      have HR0 := hidden hr0
      have HBB : Hid (∀ (o : Bool) W, Bv W (.slice ab L.length cb) L → Calls Tryd.prog 13 #[.slice ab L.length cb, .int .i64 z, .bool o] W fun e w' => e = .returned (.int .i64 (bif o then z1 else z0)) ∧ w' = W) := fun o W h => by
        cases o
        · exact hB0 W h
        · exact hB1 W h
      clear hA1 hB1 hA0 hB0 hr1 hr0
      go_wp2_with fail
      refine (HA1.out _ HCr.out HTr.out).mono ?_
      rintro e' w5 ⟨rfl, hq5⟩
      have HB5 : Hid (Below w4.heap.size w4 w5) := HBL.out.trans (hq5.mono HBL.out.size)
      clear hq5 c0
      have c0 := HCE.out _ HB5.out
      have HC5 := hidden (HD4.out.below HB5.out (Nat.le_refl _))
      have HT5 := hidden (HT4.out.below HB5.out (Nat.le_refl _))
      go_wp2_with fail
      refine (HA0.out _ HC5.out HT5.out).mono ?_
      rintro e' w6 ⟨rfl, hq6⟩
      have HB6 : Hid (Below w4.heap.size w4 w6) := HB5.out.trans (hq6.mono HB5.out.size)
      clear hq6 c0
      have c0 := HCE.out _ HB6.out
      have HC6 := hidden (HD4.out.below HB6.out (Nat.le_refl _))
      have HV6 : Hid (Bv w6 (.slice ab L.length cb) L) := (HB4.out.below HB6.out (Nat.le_refl _)).view
      go_wp2_with fail
      go_quiet (first
        | (go_at_call 13; exact Calls.quiet_of_same (HBB.out _ _ (HV6.out.drewN _))))
      obtain ⟨w7, hw7⟩ : ∃ w7, w7 = w6.drewN nq := ⟨_, rfl⟩
      have HC7 := hidden (HC6.out.drewN nq)
      have HV7 := hidden (HV6.out.drewN nq)
      have HB7 : Hid (Below w4.heap.size w4 (w6.drewN nq)) := below_drewN HB6.out nq
      have d0 : (w6.drewN nq).cell? ⟨b, off + k, none⟩ = some (.int .i64 z) := c0
      rw [← hw7] at HC7 HV7 HB7 d0 ⊢
      clear hw7 c0
      have m1 : max z1 0 = x1 := by rcases HR1.out with h | h <;> omega
      have m0 : max z0 0 = x0 := by rcases HR0.out with h | h <;> omega
      rcases HR1.out with ⟨h1, rfl, rfl⟩ | ⟨rfl, rfl, rfl⟩ <;> rcases HR0.out with ⟨h0, rfl, rfl⟩ | ⟨rfl, rfl, rfl⟩
      all_goals go_wp2_with fail
      all_goals go_quiet (first
        | (go_at_call 14; exact Calls.quiet_of (Rank_any c4 d4 g4 r3 _ _ b4 b5 z u3 _ (HC7.out.drewN _)))
        | (go_at_call 15; exact Calls.quiet_of_same (rOne_any L _ z _ (HV7.out.drewN _) (by omega))))
      all_goals go_wp2_with fail
      all_goals exact ⟨⟨k + 1, by omega, by go_num, below_drewN HB7.out _⟩, by simp [intOf]; omega⟩
    · obtain rfl : k = q.length := by omega
      have HVr : Hid (Bv wr (.slice ab L.length cb) L) := HBr.out.view
      have HQr := hidden (HQ4.out.trans (hb.mono HQ4.out.size))
      have hz := HZ.out
      obtain ⟨S, hS⟩ : ∃ S : Int, S = ((Ck.sz (Bt.num L) L.length : Nat) : Int) := ⟨_, rfl⟩
      have hS0 : 0 ≤ S := by omega
      have hS1 : S ≤ (L.length : Int) / 2 + 512 := by omega
      have HSZ : Hid (∀ m, Calls Tryd.prog 18 #[.pointer (some ⟨c4, 0, none⟩)] (wr.drewN m) fun e w' => e = .returned (.int .i64 S) ∧ ∃ q, w' = (wr.drewN m).drewN q) := fun m => by
        rw [hS]
        exact CSize_any c4 d4 g4 r3 _ _ b4 b5 u3 _ (HCr.out.drewN m)
      clear hb hz hS
      go_wp2_with fail
      refine (COnes_any c4 d4 g4 r3 _ _ b4 b5 u3 _ HCr.out).mono ?_
      rintro e' w5 ⟨rfl, m5, rfl⟩
      go_wp2_with fail
      refine (rOnes_any L _ _ (HVr.out.drewN m5) (by omega)).mono ?_
      rintro e' w6 ⟨rfl, hw6⟩
      subst hw6
      go_wp2_with fail
      refine (HSZ.out _).mono ?_
      rintro e' w6 ⟨rfl, m6, rfl⟩
      go_wp2_with fail
      refine (HSZ.out _).mono ?_
      rintro e' w6 ⟨rfl, m7, rfl⟩
      go_wp2_with fail
      go_ret
      exact ⟨rfl, below_drewN HQr.out _⟩
theorem ChooseFinds_walk (l : List (Nat × Int)) (q : List Int) (u v : Value) (w : World) (h : Ops w u l) (hm : l.length ≤ 9223372036854775807) (hq : Ints w v q) (hn : q.length ≤ 9223372036854775807) (hT : Tab w) :
    Calls Tryd.prog 3 #[u, v] w fun e w' => e = .returned (.bool true) ∧ Below w.heap.size w w' := by
  by_cases hl : l.length ≤ 60
  · by_cases hk : q.length ≤ 20
    · exact ChooseFinds_short l q u v w h hT hq hl hk
    · exact ChooseFinds_many l q u v w h hT hq hl (by omega) hn
  · exact ChooseFinds_long l q u v w h hT hq (by omega) hm
end Go.Proofs.YtgpagellhfjmdaaDoor
