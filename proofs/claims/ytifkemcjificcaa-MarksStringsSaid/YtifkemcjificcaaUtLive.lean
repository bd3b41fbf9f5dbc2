/-
  The contracts of laceworkref09's Right and Live: of every string of at most 300 bytes; nothing that was there is changed.
-/
import Derived.Test.YtifkemcjificcaaUtPart
namespace Go.Proofs.Ytifkemcjificcaa
open Go.RowKit
namespace Ut
theorem sc_snd (l : List UInt8) : (sc l).2 = ld 0 l := by
  unfold sc
  split
  · rename_i h
    exact h.symm
  · rfl
theorem at_next (l : List UInt8) (a : Nat) (ha : a ≤ l.length) (h : run 0 (l.take a) = 0) (h2 : ld 0 (l.drop a) ≠ 0) : a + ld 0 (l.drop a) ≤ l.length ∧ run 0 (l.take (a + ld 0 (l.drop a))) = 0 := by
  have h3 := ld_le 0 (l.drop a)
  rw [List.length_drop] at h3
  refine ⟨by omega, ?_⟩
  rw [List.take_add, run_append, h]
  exact (ld_some 0 _ h2).1
theorem at_rest (l : List UInt8) (a : Nat) (h : run 0 (l.take a) = 0) : run 0 l = run 0 (l.drop a) := by
  have := run_append 0 (l.take a) (l.drop a)
  rw [List.take_append_drop, h] at this
  exact this
theorem at_alive (l : List UInt8) (a : Nat) (ha : a ≤ l.length) (h : run 0 (l.take a) = 0) : alive 0 l = a + alive 0 (l.drop a) := by
  have := run_alive 0 (l.take a) (l.drop a) (by rw [h]; decide)
  rw [List.take_append_drop, h, List.length_take, Nat.min_eq_left ha] at this
  exact this
end Ut
theorem rScalar_from (s : ByteArray) (a b : Nat) (w : World) (hs : s.size ≤ 300) (hb : b = s.size) : ∃ F : Nat, 
    Calls Try.prog 25 #[.string (s.extract a b)] w fun e w' => e = .returned (.tuple #[.int .i64 (F : Nat), .int .i64 ((Ut.ld 0 (s.data.toList.drop a) : Nat) : Int)]) ∧ Below w.heap.size w w' := by
  subst hb
  have h := rScalar_any (s.extract a s.size) w (by rw [ByteArray.size_extract]; omega)
  rw [Ut.extract_list, Ut.sc_snd, List.take_of_length_le (by rw [List.length_drop]; exact Nat.le_refl _)] at h
  exact ⟨_, h⟩
theorem part_from (s : ByteArray) (a b k : Nat) (w : World) (hb : b = a + k + 1) (hs : b ≤ s.size) (hk : k < 3) (h : Ut.ld 0 (s.data.toList.drop a) = 0) :
    Calls Try.prog 32 #[.string (s.extract a b)] w fun e w' => e = .returned (.bool (decide (k + 1 ≤ Ut.alive 0 (s.data.toList.drop a)))) ∧ Below w.heap.size w w' := by
  subst hb
  have hl : s.data.toList.length = s.size := rfl
  have hp := upart_any (s.extract a (a + k + 1)) w (by rw [ByteArray.size_extract]; omega) (by rw [ByteArray.size_extract]; omega)
  rw [Ut.extract_list, show a + k + 1 - a = k + 1 from by omega] at hp
  have := Ut.par_take (s.data.toList.drop a) k h (by rw [List.length_drop, hl]; omega)
  rw [Ut.parB_iff _ _ this] at hp
  exact hp
set_option maxHeartbeats 2000000 in
theorem rLive_any (s : ByteArray) (w : World) (hs : s.size ≤ 300) :
    Calls Try.prog 26 #[.string s] w fun e w' => e = .returned (.int .i64 ((Ut.alive 0 s.data.toList : Nat) : Int)) ∧ Below w.heap.size w w' := by
  have HS : Hid (s.data.toList.length = s.size) := hidden rfl
  go_enter Try.func26, Try.ntmps26
  go_wp2_with fail
  go_loopw [3] (fun v wr => ∃ a : Nat, a ≤ s.size ∧ v = .int .i64 (a : Nat) ∧ Ut.run 0 (s.data.toList.take a) = 0 ∧ Below w.heap.size w wr) (fun v _ => s.size - (intOf v).toNat)
  case atStart => exact ⟨0, Nat.zero_le _, rfl, rfl, Below.refl _ _⟩
  case round =>
    obtain ⟨a, ha, rfl, hr, hb⟩ := hrel
    have HR := hidden hr
    have HB := hidden hb
    have hal := Ut.at_alive s.data.toList a (by rw [HS.out]; exact ha) hr
    have hml := Ut.alive_le 0 (s.data.toList.drop a)
    rw [List.length_drop, HS.out] at hml
    clear hr hb
    obtain ⟨M, hM⟩ : ∃ M, M = Ut.alive 0 (s.data.toList.drop a) := ⟨_, rfl⟩
    rw [← hM] at hal hml
    have HA := hidden hal
    have HMQ := hidden hM
    clear hal
    by_cases hz : Ut.ld 0 (s.data.toList.drop a) = 0
    · have hm3 := Ut.alive_three _ hz
      rw [← hM] at hm3
      have HPT : Hid (∀ k b w, b = a + k + 1 → b ≤ s.size → k < 3 → Calls Try.prog 32 #[.string (s.extract a b)] w fun e w' => e = .returned (.bool (decide (k + 1 ≤ M))) ∧ Below w.heap.size w w') := fun k b w h1 h2 h3 => by
        have := part_from s a b k w h1 h2 h3 hz
        rw [← HMQ.out] at this
        exact this
      clear hM
      by_cases hlt : a < s.size
      · obtain ⟨F, hF⟩ := rScalar_from s a s.size wr hs rfl
        rw [hz] at hF
        have HF := hidden hF
        have hlt2 : (a : Int) < (s.size : Int) := by omega
        have HLT := hidden hlt
        clear hF hz hlt
        go_wp2_with fail
        refine HF.out.mono ?_
        rintro e w1 ⟨rfl, hq⟩
        have HQ := hidden (HB.out.trans (hq.mono HB.out.size))
        clear hq
        go_wp2_with fail
        go_loopw [6] (fun v wr2 => ∃ k : Nat, k ≤ M ∧ v = .int .i64 (k : Nat) ∧ Below w.heap.size w wr2) (fun v _ => M - (intOf v).toNat)
        case atStart => exact ⟨0, Nat.zero_le _, rfl, HQ.out⟩
        case round =>
          obtain ⟨k, hk, rfl, hb2⟩ := hrel
          have HB2 := hidden hb2
          clear hb2
          by_cases hk3 : (k : Int) < 3
          · by_cases hks : (a : Int) + (k : Int) < (s.size : Int)
            · by_cases hkm : k < M
              · have HKM := hidden hkm
                clear hkm
                go_wp2_with fail
                refine (HPT.out k _ _ (by omega) (by omega) (by omega)).mono ?_
                rw [decide_eq_true (show k + 1 ≤ M from HKM.out)]
                rintro e w5 ⟨rfl, hq⟩
                have HQ5 := hidden (HB2.out.trans (hq.mono HB2.out.size))
                clear hq
                go_wp2_with fail
                go_roundw
                case rel => exact ⟨k + 1, HKM.out, by go_num, HQ5.out⟩
                case measure => have := HKM.out; simp [intOf]; omega
              · obtain rfl : k = M := by omega
                clear hkm
                go_wp2_with fail
                refine (HPT.out k _ _ (by omega) (by omega) (by omega)).mono ?_
                rw [decide_eq_false (show ¬ k + 1 ≤ k from by omega)]
                rintro e w5 ⟨rfl, hq⟩
                have HQ5 := hidden (HB2.out.trans (hq.mono HB2.out.size))
                clear hq
                go_wp2_with fail
                go_ret
                rw [HA.out]
                exact ⟨ret_int (by omega), HQ5.out⟩
            · obtain rfl : k = M := by omega
              go_wp2_with fail
              go_ret
              rw [HA.out]
              exact ⟨ret_int (by omega), HB2.out⟩
          · obtain rfl : k = M := by omega
            go_wp2_with fail
            go_ret
            rw [HA.out]
            exact ⟨ret_int (by omega), HB2.out⟩
      · have hlt2 : ¬ ((a : Int) < (s.size : Int)) := by omega
        clear hz hlt
        go_wp2_with fail
        go_loopw [6] (fun v wr2 => ∃ k : Nat, k ≤ M ∧ v = .int .i64 (k : Nat) ∧ Below w.heap.size w wr2) (fun v _ => M - (intOf v).toNat)
        case atStart => exact ⟨0, Nat.zero_le _, rfl, HB.out⟩
        case round =>
          obtain ⟨k, hk, rfl, hb2⟩ := hrel
          have HB2 := hidden hb2
          clear hb2
          by_cases hk3 : (k : Int) < 3
          · by_cases hks : (a : Int) + (k : Int) < (s.size : Int)
            · by_cases hkm : k < M
              · have HKM := hidden hkm
                clear hkm
                go_wp2_with fail
                refine (HPT.out k _ _ (by omega) (by omega) (by omega)).mono ?_
                rw [decide_eq_true (show k + 1 ≤ M from HKM.out)]
                rintro e w5 ⟨rfl, hq⟩
                have HQ5 := hidden (HB2.out.trans (hq.mono HB2.out.size))
                clear hq
                go_wp2_with fail
                go_roundw
                case rel => exact ⟨k + 1, HKM.out, by go_num, HQ5.out⟩
                case measure => have := HKM.out; simp [intOf]; omega
              · obtain rfl : k = M := by omega
                clear hkm
                go_wp2_with fail
                refine (HPT.out k _ _ (by omega) (by omega) (by omega)).mono ?_
                rw [decide_eq_false (show ¬ k + 1 ≤ k from by omega)]
                rintro e w5 ⟨rfl, hq⟩
                have HQ5 := hidden (HB2.out.trans (hq.mono HB2.out.size))
                clear hq
                go_wp2_with fail
                go_ret
                rw [HA.out]
                exact ⟨ret_int (by omega), HQ5.out⟩
            · obtain rfl : k = M := by omega
              go_wp2_with fail
              go_ret
              rw [HA.out]
              exact ⟨ret_int (by omega), HB2.out⟩
          · obtain rfl : k = M := by omega
            go_wp2_with fail
            go_ret
            rw [HA.out]
            exact ⟨ret_int (by omega), HB2.out⟩
    · have hlt : a < s.size := by
        rcases Nat.lt_or_ge a s.size with h | h
        · exact h
        · exfalso
          apply hz
          rw [List.drop_of_length_le (by rw [HS.out]; exact h)]
          rfl
      obtain ⟨F, hF⟩ := rScalar_from s a s.size wr hs rfl
      have HF := hidden hF
      clear hF
      have hn := Ut.at_next s.data.toList a (by rw [HS.out]; exact ha) HR.out hz
      obtain ⟨G, hG⟩ : ∃ G, G = Ut.ld 0 (s.data.toList.drop a) := ⟨_, rfl⟩
      rw [← hG] at HF hn hz
      rw [HS.out] at hn
      have HNX := hidden hn.2
      have hle := hn.1
      have hg0 : ((G : Int) == 0) = false := by rw [beq_eq_false_iff_ne]; omega
      have HZ := hidden hz
      clear hn hG hM hz
      go_wp2_with fail
      refine HF.out.mono ?_
      rintro e w1 ⟨rfl, hq⟩
      have HQ := hidden (HB.out.trans (hq.mono HB.out.size))
      clear hq
      go_wp2_with fail
      go_roundw
      case rel => exact ⟨a + G, hle, by go_num, HNX.out, HQ.out⟩
      case measure => have := HZ.out; simp [intOf]; omega
end Go.Proofs.Ytifkemcjificcaa
