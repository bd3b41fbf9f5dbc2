/-
  The walk of the law RankEach: it returns true for every list of Puts; nothing that was there is changed.
-/
import Derived.Test.YtdphkenpjndklaaRkRef
import Derived.Test.YtdphkenpjndklaaOpsBelow
namespace Go.Proofs.Ytdphkenpjndklaa
open Go.RowKit
set_option maxHeartbeats 1000000 in
theorem RankEach_long (l : List (Nat × Int)) (u : Value) (w : World) (h : Ops w u l) (hl : 60 < l.length) (hm : l.length ≤ 9223372036854775807) :
    Calls Try.prog 4 #[u] w fun e w' => e = .returned (.bool true) ∧ Below w.heap.size w w' := by
  obtain ⟨ao, cap, rfl, hcap, hc⟩ := h.cells
  clear h hc
  go_enter Try.func4, Try.ntmps4
  go_wp2_with fail
  refine (awake_any w).mono ?_
  rintro e w1 ⟨rfl, hq1⟩
  have HQ1 := hidden hq1
  clear hq1
  go_wp2_with fail
  refine (awake_any w1).mono ?_
  rintro e w2 ⟨rfl, hq2⟩
  have HQ2 := hidden hq2
  clear hq2
  go_wp2_with fail
  go_ret
  exact ⟨rfl, HQ1.out.trans (HQ2.out.mono HQ1.out.size)⟩
set_option maxHeartbeats 4000000 in
theorem RankEach_short (l : List (Nat × Int)) (u : Value) (w : World) (h : Ops w u l) (hl : l.length ≤ 60) :
    Calls Try.prog 4 #[u] w fun e w' => e = .returned (.bool true) ∧ Below w.heap.size w w' := by
  have HH := hidden h
  have hL := Bt.all_length l l.length
  rw [List.take_of_length_le (Nat.le_refl _)] at hL
  obtain ⟨ao, cap, hu, hcap, _⟩ := h.cells
  subst hu
  clear h
  go_enter Try.func4, Try.ntmps4
  go_wp2_with fail
  refine (awake_any w).mono ?_
  rintro e' w1 ⟨rfl, hq1⟩
  have HQ1 := hidden hq1
  have HO1 := hidden (HH.out.below hq1 (Nat.le_refl _))
  clear hq1
  go_wp2_with fail
  refine (All_any l _ w1 HO1.out hl).mono ?_
  rintro e' w2 ⟨v2, rfl, hb2, hq2⟩
  have HB2 : Hid (Bl w2 v2 (Bt.all l)) := hb2
  have HQ2 := hidden (HQ1.out.trans (hq2.mono HQ1.out.size))
  clear hb2 hq2
  generalize Bt.all l = L at *
  go_wp2_with fail
  refine (Made_any L v2 w2 HB2.out (by omega)).mono ?_
  rintro e' w3 ⟨r3, u3, rfl, hr3, hq3, _, _⟩
  have HR3 := hidden hr3
  have HB3 : Hid (Bl w3 v2 L) := HB2.out.below hq3 (Nat.le_refl _)
  have HQ3 := hidden (HQ2.out.trans (hq3.mono HQ2.out.size))
  clear hr3 hq3 HB2
  go_wp2_with fail
  refine (New_any r3 L.length (Bt.num L) u3 _ HR3.out).mono ?_
  rintro e' w4 ⟨d4, g4, rfl, hd4, hq4⟩
  have HD4 := hidden hd4
  have HB4 : Hid (Bv w4 v2 L) := (HB3.out.below hq4 (Nat.le_refl _)).view
  have HQ4 := hidden (HQ3.out.trans (hq4.mono HQ3.out.size))
  clear hd4 hq4 HB3 HR3
  obtain ⟨ab, cb, hv, hcb, hf⟩ := HB4.out
  subst hv
  have HF := hidden hf
  clear hf HB4
  obtain ⟨X, hX⟩ : ∃ X, X = Bt.num L := ⟨_, rfl⟩
  rw [← hX] at HD4
  have HX := hidden hX
  clear hX
  obtain ⟨n, hn⟩ : ∃ n, n = L.length := ⟨_, rfl⟩
  rw [← hn] at HD4 HF hL hcb ⊢
  have HN := hidden hn
  clear hn
  go_wp2_with fail
  go_loopw [5, 6, 7] (fun o z i wr => ∃ k m : Nat, k ≤ n ∧ i = .int .i64 k ∧ o = .int .i64 ((Wd.ones X k : Nat) : Int) ∧ z = .int .i64 ((k : Int) - ((Wd.ones X k : Nat) : Int)) ∧ wr = w4.drewN m) (fun _ _ i _ => n - (intOf i).toNat)
  case atStart => exact ⟨0, 0, by omega, rfl, rfl, rfl, rfl⟩
  case round =>
    obtain ⟨k, m, hk, rfl, rfl, rfl, hw⟩ := hrel
    subst hw
    have ho := Wd.ones_le X k
    by_cases hlt : k < n
    · obtain ⟨b, off, rfl, hb, hcell⟩ := HF.out (by omega)
      have c0 : ∀ m, (w4.drewN m).cell? ⟨b, off + k, none⟩ = some (.bool (L.getD k false)) := fun m => hcell k hlt
      have hbt : Hid (Wd.bt X k = (L.getD k false).toNat) := by show _ = _; rw [HX.out]; exact Bt.bt_num L k
      have HS := hidden (Wd.ones_succ X k)
      obtain ⟨o, ho⟩ : ∃ o, o = L.getD k false := ⟨_, rfl⟩
      rw [← ho] at c0 hbt
      clear hcell ho
      go_wp2_with fail
      refine (One_at d4 g4 r3 n X _ k u3 _ (HD4.out.drewN m) (Bt.cf_nat n k (by omega))).mono ?_
      rintro e' w5 ⟨rfl, m5, rfl⟩
      go_wp2_with fail
      refine (Zero_at d4 g4 r3 n X _ k u3 _ (HD4.out.drewN _) (Bt.cf_nat n k (by omega))).mono ?_
      rintro e' w5 ⟨rfl, m6, rfl⟩
      cases o
      · go_wp2_with fail
        go_roundw
        case rel => exact ⟨k + 1, _, by omega, by go_num, int_eq (by rw [HS.out, hbt.out]; rfl), int_eq (by rw [HS.out, hbt.out]; show _ = ((k + 1 : Nat) : Int) - ((Wd.ones X k + 0 : Nat) : Int); omega), rfl⟩
        case measure => simp [intOf]; omega
      · go_wp2_with fail
        go_roundw
        case rel => exact ⟨k + 1, _, by omega, by go_num, int_eq (by rw [HS.out, hbt.out]; rfl), int_eq (by rw [HS.out, hbt.out]; show _ = ((k + 1 : Nat) : Int) - ((Wd.ones X k + 1 : Nat) : Int); omega), rfl⟩
        case measure => simp [intOf]; omega
    · obtain rfl : k = n := by omega
      go_wp2_with fail
      refine (One_at d4 g4 r3 k X _ k u3 _ (HD4.out.drewN m) (Bt.cf_nat k k (by omega))).mono ?_
      rintro e' w5 ⟨rfl, m5, rfl⟩
      go_wp2_with fail
      refine (Zero_at d4 g4 r3 k X _ k u3 _ (HD4.out.drewN _) (Bt.cf_nat k k (by omega))).mono ?_
      rintro e' w5 ⟨rfl, m6, rfl⟩
      go_wp2_with fail
      go_ret
      refine ⟨ret_bool ?_, below_drewN HQ4.out _⟩
      rw [beq_iff_eq]
      omega
theorem RankEach_walk (l : List (Nat × Int)) (u : Value) (w : World) (h : Ops w u l) (hm : l.length ≤ 9223372036854775807) :
    Calls Try.prog 4 #[u] w fun e w' => e = .returned (.bool true) ∧ Below w.heap.size w w' := by
  by_cases hl : l.length ≤ 60
  · exact RankEach_short l u w h hl
  · exact RankEach_long l u w h (by omega) hm
end Go.Proofs.Ytdphkenpjndklaa
