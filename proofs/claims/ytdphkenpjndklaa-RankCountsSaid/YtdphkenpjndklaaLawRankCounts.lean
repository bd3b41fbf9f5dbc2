/-
  The walk of the law RankCounts: it returns true for every list of Puts and every list of numbers; nothing that was there is changed.
-/
import Derived.Test.YtdphkenpjndklaaRkRef
import Derived.Test.YtdphkenpjndklaaOpsBelow
import Derived.Test.YtdphkenpjndklaaOpenInts
namespace Go.Proofs.Ytdphkenpjndklaa
open Go.RowKit
set_option maxHeartbeats 1000000 in
theorem RankCounts_long (l : List (Nat × Int)) (q : List Int) (u v : Value) (w : World) (h : Ops w u l) (hq : Ints w v q) (hl : 60 < l.length) (hm : l.length ≤ 9223372036854775807) :
    Calls Try.prog 3 #[u, v] w fun e w' => e = .returned (.bool true) ∧ Below w.heap.size w w' := by
  obtain ⟨ao, cap, rfl, hcap, hc⟩ := h.cells
  obtain ⟨aq, capq, rfl, hcapq, _⟩ := hq.cells
  clear h hc hq
  go_enter Try.func3, Try.ntmps3
  go_wp2_with fail
  refine (awake_any w).mono ?_
  rintro e w1 ⟨rfl, hq1⟩
  have HQ1 := hidden hq1
  clear hq1
  go_wp2_with fail
  refine (awake_any w1).mono ?_
  rintro e w2 ⟨rfl, hq2⟩
  have HQ2 := hidden hq2
  clear hq2
  go_wp2_with fail
  go_ret
  exact ⟨rfl, HQ1.out.trans (HQ2.out.mono HQ1.out.size)⟩
set_option maxHeartbeats 1000000 in
theorem RankCounts_many (l : List (Nat × Int)) (q : List Int) (u v : Value) (w : World) (h : Ops w u l) (hq : Ints w v q) (hl : l.length ≤ 60) (hn : 20 < q.length) (hm : q.length ≤ 9223372036854775807) :
    Calls Try.prog 3 #[u, v] w fun e w' => e = .returned (.bool true) ∧ Below w.heap.size w w' := by
  obtain ⟨ao, cap, rfl, hcap, hc⟩ := h.cells
  obtain ⟨aq, capq, rfl, hcapq, _⟩ := hq.cells
  clear h hc hq
  go_enter Try.func3, Try.ntmps3
  go_wp2_with fail
  refine (awake_any w).mono ?_
  rintro e w1 ⟨rfl, hq1⟩
  have HQ1 := hidden hq1
  clear hq1
  go_wp2_with fail
  refine (awake_any w1).mono ?_
  rintro e w2 ⟨rfl, hq2⟩
  have HQ2 := hidden hq2
  clear hq2
  go_wp2_with fail
  go_ret
  exact ⟨rfl, HQ1.out.trans (HQ2.out.mono HQ1.out.size)⟩
set_option maxHeartbeats 4000000 in
theorem RankCounts_short (l : List (Nat × Int)) (q : List Int) (u v : Value) (w : World) (h : Ops w u l) (hq : Ints w v q) (hl : l.length ≤ 60) (hn : q.length ≤ 20) :
    Calls Try.prog 3 #[u, v] w fun e w' => e = .returned (.bool true) ∧ Below w.heap.size w w' := by
  have HH := hidden h
  have hL := Bt.all_length l l.length
  rw [List.take_of_length_le (Nat.le_refl _)] at hL
  obtain ⟨ao, cap, hu, hcap, _⟩ := h.cells
  subst hu
  have HI := hidden hq
  obtain ⟨aq, capq, hv, hcapq, _⟩ := hq.cells
  subst hv
  clear h hq
  go_enter Try.func3, Try.ntmps3
  go_wp2_with fail
  refine (awake_any w).mono ?_
  rintro e' w1 ⟨rfl, hq1⟩
  have HQ1 := hidden hq1
  have HO1 := hidden (HH.out.below hq1 (Nat.le_refl _))
  clear hq1
  go_wp2_with fail
  refine (All_any l _ w1 HO1.out hl).mono ?_
  rintro e' w2 ⟨v2, rfl, hb2, hq2⟩
  have HB2 : Hid (Bl w2 v2 (Bt.all l)) := hb2
  have HQ2 := hidden (HQ1.out.trans (hq2.mono HQ1.out.size))
  clear hb2 hq2
  generalize Bt.all l = L at *
  go_wp2_with fail
  refine (Made_any L v2 w2 HB2.out (by omega)).mono ?_
  rintro e' w3 ⟨r3, u3, rfl, hr3, hq3, _, _⟩
  have HR3 := hidden hr3
  have HB3 : Hid (Bl w3 v2 L) := HB2.out.below hq3 (Nat.le_refl _)
  have HQ3 := hidden (HQ2.out.trans (hq3.mono HQ2.out.size))
  clear hr3 hq3 HB2
  go_wp2_with fail
  refine (New_any r3 L.length (Bt.num L) u3 _ HR3.out).mono ?_
  rintro e' w4 ⟨d4, g4, rfl, hd4, hq4⟩
  have HD4 := hidden hd4
  have HB4 : Hid (Bv w4 v2 L) := (HB3.out.below hq4 (Nat.le_refl _)).view
  have HQ4 := hidden (HQ3.out.trans (hq4.mono HQ3.out.size))
  have HI4 := hidden (HI.out.below HQ4.out (Nat.le_refl _))
  obtain ⟨_, _, hx1, _, hf⟩ := HI4.out.cells
  obtain ⟨rfl, rfl⟩ : aq = _ ∧ capq = _ := by simpa using hx1
  have HF := hidden hf
  clear hd4 hq4 HB3 HR3 hf hx1
  obtain ⟨ab, cb, hv, hcb, _⟩ := HB4.out
  subst hv
  go_wp2_with fail
  go_loopw [7] (fun i wr => ∃ k m : Nat, k ≤ q.length ∧ i = .int .i64 k ∧ wr = w4.drewN m) (fun i _ => q.length - (intOf i).toNat)
  case atStart => exact ⟨0, 0, by omega, rfl, rfl⟩
  case round =>
    obtain ⟨k, m, hk, rfl, hw⟩ := hrel
    by_cases hlt : k < q.length
    · obtain ⟨b, off, hab, hbl, hcell⟩ := HF.out (by omega)
      subst hab
      have c0 : wr.cell? ⟨b, off + k, none⟩ = some (.int .i64 (q.getD k 0)) := by rw [hw]; exact hcell k hlt
      have HDr : Hid (Dr wr d4 g4 r3 L.length (Bt.num L) u3) := by rw [hw]; exact HD4.out.drewN m
      have HBr : Hid (Bv wr (.slice ab L.length cb) L) := by rw [hw]; exact HB4.out.drewN m
      have HW := hidden hw
      obtain ⟨z, hz⟩ : ∃ z, z = q.getD k 0 := ⟨_, rfl⟩
      rw [← hz] at c0
      have i0 : (0 : Int) ≤ (k : Int) := by omega
      have i1 : (k : Int) < (q.length : Int) := by omega
      clear hcell hz hw
      go_wp2_with fail
      go_quiet (first
        | (go_at_call 12; exact Calls.quiet_of (One_any d4 g4 r3 _ _ z u3 _ (HDr.out.drewN _)))
        | (go_at_call 14; exact Calls.quiet_of (Zero_any d4 g4 r3 _ _ z u3 _ (HDr.out.drewN _)))
        | (go_at_call 13; exact Calls.quiet_of_same (rOne_any L _ z _ (HBr.out.drewN _) (by omega)))
        | (go_at_call 15; exact Calls.quiet_of_same (rZero_any L _ z _ (HBr.out.drewN _) (by omega))))
      go_wp2_with fail
      exact ⟨⟨k + 1, m + nq, by omega, by go_num, by rw [HW.out, World.drewN_drewN]⟩, by simp [intOf]; omega⟩
    · subst hw
      obtain rfl : k = q.length := by omega
      obtain ⟨S, hS⟩ : ∃ S : Int, S = (((L.length / 512 + 1) * 128 : Nat) : Int) := ⟨_, rfl⟩
      have hS0 : 0 ≤ S := by omega
      have hS1 : S ≤ (L.length : Int) / 4 + 256 := by omega
      have HS := fun m => hidden (Size_any d4 g4 r3 _ _ u3 _ (HD4.out.drewN m))
      rw [← hS] at HS
      clear hS
      go_wp2_with fail
      refine (HS _).out.mono ?_
      rintro e' w5 ⟨rfl, hw5⟩
      subst hw5
      go_wp2_with fail
      refine (HS _).out.mono ?_
      rintro e' w5 ⟨rfl, hw5⟩
      subst hw5
      go_wp2_with fail
      refine (DRow_any d4 g4 r3 _ _ u3 _ (HD4.out.drewN _)).mono ?_
      rintro e' w5 ⟨rfl, hw5⟩
      subst hw5
      go_wp2_with fail
      refine (Is_true r3 L u3 _ _ (HD4.out.drewN _).row (HB4.out.drewN _)).mono ?_
      rintro e' w5 ⟨rfl, m5, hw5⟩
      subst hw5
      go_wp2_with fail
      go_ret
      exact ⟨rfl, below_drewN HQ4.out _⟩
theorem RankCounts_walk (l : List (Nat × Int)) (q : List Int) (u v : Value) (w : World) (h : Ops w u l) (hm : l.length ≤ 9223372036854775807) (hq : Ints w v q) (hn : q.length ≤ 9223372036854775807) :
    Calls Try.prog 3 #[u, v] w fun e w' => e = .returned (.bool true) ∧ Below w.heap.size w w' := by
  by_cases hl : l.length ≤ 60
  · by_cases hk : q.length ≤ 20
    · exact RankCounts_short l q u v w h hq hl hk
    · exact RankCounts_many l q u v w h hq hl (by omega) hn
  · exact RankCounts_long l q u v w h hq (by omega) hm
end Go.Proofs.Ytdphkenpjndklaa
