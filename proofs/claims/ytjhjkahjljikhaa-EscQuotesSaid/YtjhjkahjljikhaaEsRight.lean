/-
  The contract of laceworkref09's Right, where its Live isn't asked: of every string of at most 300 bytes; nothing that was there is changed.
-/
import Derived.Test.YtjhjkahjljikhaaUtRefR
namespace Go.Proofs.Ytjhjkahjljikhaa
open Go.RowKit
namespace Es
open Ut
theorem sc_snd (l : List UInt8) : (sc l).2 = ld 0 l := by
  unfold sc
  split
  · rename_i h
    exact h.symm
  · rfl
theorem at_next (l : List UInt8) (a : Nat) (ha : a ≤ l.length) (h : run 0 (l.take a) = 0) (h2 : ld 0 (l.drop a) ≠ 0) : a + ld 0 (l.drop a) ≤ l.length ∧ run 0 (l.take (a + ld 0 (l.drop a))) = 0 := by
  have h3 := ld_le 0 (l.drop a)
  rw [List.length_drop] at h3
  refine ⟨by omega, ?_⟩
  rw [List.take_add, run_append, h]
  exact (ld_some 0 _ h2).1
theorem at_rest (l : List UInt8) (a : Nat) (h : run 0 (l.take a) = 0) : run 0 l = run 0 (l.drop a) := by
  have := run_append 0 (l.take a) (l.drop a)
  rw [List.take_append_drop, h] at this
  exact this
theorem at_alive (l : List UInt8) (a : Nat) (ha : a ≤ l.length) (h : run 0 (l.take a) = 0) : alive 0 l = a + alive 0 (l.drop a) := by
  have := run_alive 0 (l.take a) (l.drop a) (by rw [h]; decide)
  rw [List.take_append_drop, h, List.length_take, Nat.min_eq_left ha] at this
  exact this
end Es
theorem rScalar_es (s : ByteArray) (a b : Nat) (w : World) (hs : s.size ≤ 300) (hb : b = s.size) : ∃ F : Nat, 
    Calls Try.prog 27 #[.string (s.extract a b)] w fun e w' => e = .returned (.tuple #[.int .i64 (F : Nat), .int .i64 ((Ut.ld 0 (s.data.toList.drop a) : Nat) : Int)]) ∧ Below w.heap.size w w' := by
  subst hb
  have h := rScalar_any (s.extract a s.size) w (by rw [ByteArray.size_extract]; omega)
  rw [Ut.extract_list, Es.sc_snd, List.take_of_length_le (by rw [List.length_drop]; exact Nat.le_refl _)] at h
  exact ⟨_, h⟩
set_option maxHeartbeats 1000000 in
theorem rRight_es (s : ByteArray) (w : World) (hs : s.size ≤ 300) :
    Calls Try.prog 16 #[.string s] w fun e w' => e = .returned (.bool (Ut.run 0 s.data.toList == 0)) ∧ Below w.heap.size w w' := by
  have HS : Hid (s.data.toList.length = s.size) := hidden rfl
  go_enter Try.func16, Try.ntmps16
  go_wp2_with fail
  go_loopw [3] (fun v wr => ∃ a : Nat, a ≤ s.size ∧ v = .int .i64 (a : Nat) ∧ Ut.run 0 (s.data.toList.take a) = 0 ∧ Below w.heap.size w wr) (fun v _ => s.size - (intOf v).toNat)
  case atStart => exact ⟨0, Nat.zero_le _, rfl, rfl, Below.refl _ _⟩
  case round =>
    obtain ⟨a, ha, rfl, hr, hb⟩ := hrel
    have HR := hidden hr
    have HB := hidden hb
    clear hr hb
    by_cases hlt : a < s.size
    · obtain ⟨F, hF⟩ := rScalar_es s a s.size wr hs rfl
      have HF := hidden hF
      clear hF
      obtain ⟨G, hG⟩ : ∃ G, G = Ut.ld 0 (s.data.toList.drop a) := ⟨_, rfl⟩
      rw [← hG] at HF
      by_cases h0 : G = 0
      · have HN : Hid ((Ut.run 0 s.data.toList == 0) = false) := by
          show _ = _
          rw [beq_eq_false_iff_ne, Es.at_rest _ a HR.out]
          refine Ut.run_not _ (by rw [← hG]; exact h0) ?_
          intro e
          have := congrArg List.length e
          rw [List.length_drop, HS.out] at this
          simp at this
          omega
        have hg0 : (G : Int) = 0 := by omega
        clear hG h0
        go_wp2_with fail
        refine HF.out.mono ?_
        rintro e w1 ⟨rfl, hq⟩
        have HQ := hidden (HB.out.trans (hq.mono HB.out.size))
        clear hq
        go_wp2_with fail
        go_ret
        rw [HN.out]
        exact ⟨rfl, HQ.out⟩
      · have hn := Es.at_next s.data.toList a (by rw [HS.out]; exact ha) HR.out (by rw [← hG]; exact h0)
        rw [← hG, HS.out] at hn
        have HNX := hidden hn.2
        have hle := hn.1
        have hg0 : ((G : Int) == 0) = false := by rw [beq_eq_false_iff_ne]; omega
        clear hn hG
        go_wp2_with fail
        refine HF.out.mono ?_
        rintro e w1 ⟨rfl, hq⟩
        have HQ := hidden (HB.out.trans (hq.mono HB.out.size))
        clear hq
        go_wp2_with fail
        go_roundw
        case rel => exact ⟨a + G, hle, by go_num, HNX.out, HQ.out⟩
        case measure => simp [intOf]; omega
    · obtain rfl : a = s.size := by omega
      have HT : Hid (Ut.run 0 s.data.toList = 0) := by
        have := HR.out
        rw [take_all] at this
        exact this
      go_wp2_with fail
      go_ret
      rw [HT.out]
      exact ⟨rfl, HB.out⟩
end Go.Proofs.Ytjhjkahjljikhaa
