/-
  The walk of the law UtfBack: it returns true for every number and every string; nothing that was there is changed.
-/
import Derived.Test.YteennbohfjiheaaUtRefP
namespace Go.Proofs.Yteennbohfjiheaa
open Go.RowKit
theorem drewN_below {B : Nat} {a w : World} (h : Below B a w) (n : Nat) : Below B a (w.drewN n) := ⟨h.os, h.tape, h.output, h.size, h.block⟩
theorem append_list (s t : ByteArray) : (s ++ t).data.toList = s.data.toList ++ t.data.toList := by
  rw [ByteArray.data_append, Array.toList_append]
theorem extract_take (s : ByteArray) (n : Nat) : (s.extract 0 n).data.toList = s.data.toList.take n := by
  obtain ⟨⟨l⟩⟩ := s
  rw [ByteArray.extract_mk, List.drop_zero, Nat.sub_zero]
set_option maxHeartbeats 1000000 in
theorem UtfBack_long (c : Int) (t : ByteArray) (w : World) (hl : 100 < t.size) (hm : t.size ≤ 9223372036854775807) :
    Calls Try.prog 6 #[.int .i64 c, .string t] w fun e w' => e = .returned (.bool true) ∧ Below w.heap.size w w' := by
  go_enter Try.func6, Try.ntmps6
  go_wp2_with fail
  refine (awake_any w).mono ?_
  rintro e w1 ⟨rfl, hq1⟩
  have HQ1 := hidden hq1
  clear hq1
  go_wp2_with fail
  refine (awake_any w1).mono ?_
  rintro e w2 ⟨rfl, hq2⟩
  have HQ2 := hidden hq2
  clear hq2
  go_wp2_with fail
  go_ret
  exact ⟨rfl, HQ1.out.trans (HQ2.out.mono HQ1.out.size)⟩
set_option maxHeartbeats 1000000 in
theorem UtfBack_none (c : Int) (t : ByteArray) (w : World) (hl : t.size ≤ 100) (h : Ut.widz c = 0) :
    Calls Try.prog 6 #[.int .i64 c, .string t] w fun e w' => e = .returned (.bool true) ∧ Below w.heap.size w w' := by
  have HP := hidden (fun w => Put_none c w h)
  have h2 : c < 0 ∨ ¬ c < 0 ∧ 1114111 < c ∨ ¬ c < 0 ∧ ¬ 1114111 < c ∧ 55296 ≤ c ∧ c ≤ 57343 := by
    unfold Ut.widz at h
    split at h
    · omega
    · have := Ut.wid_pos c.toNat
      omega
  clear h
  rcases h2 with h | ⟨h, h2⟩ | ⟨h, h2, h3, h4⟩
  all_goals go_enter Try.func6, Try.ntmps6
  all_goals go_wp2_with fail
  all_goals refine (awake_any w).mono ?_
  all_goals rintro e w1 ⟨rfl, hq1⟩
  all_goals have HQ1 := hidden hq1
  all_goals clear hq1
  all_goals go_wp2_with fail
  all_goals refine (HP.out _).mono ?_
  all_goals rintro e w2 ⟨rfl, rfl⟩
  all_goals go_wp2_with fail
  all_goals go_ret
  all_goals exact ⟨rfl, HQ1.out⟩
set_option maxHeartbeats 2000000 in
theorem UtfBack_some (c : Nat) (t : ByteArray) (w : World) (hl : t.size ≤ 100) (h : Ut.Sc c) :
    Calls Try.prog 6 #[.int .i64 (c : Nat), .string t] w fun e w' => e = .returned (.bool true) ∧ Below w.heap.size w w' := by
  have HP := hidden (fun w => Put_some c (Ut.wid c) w h rfl)
  obtain ⟨hs1, hs2⟩ := Ut.sc_enc c h t.data.toList
  obtain ⟨hs3, _⟩ := Ut.sc_enc c h []
  rw [List.append_nil] at hs3
  obtain ⟨l, hlq⟩ : ∃ l, l = Ut.enc c := ⟨_, rfl⟩
  obtain ⟨n, hn⟩ : ∃ n, n = l.length := ⟨_, rfl⟩
  have hn0 : 0 < n := by rw [hn, hlq, Ut.enc_length c h]; exact Ut.wid_pos c
  have hn4 : n ≤ 4 := by rw [hn, hlq, Ut.enc_length c h]; exact Ut.wid_le c
  rw [← hlq] at HP hs1 hs2 hs3
  rw [← hn] at hs1 hs2 hs3
  obtain ⟨s, hs⟩ : ∃ s : ByteArray, s = ⟨l.toArray⟩ := ⟨_, rfl⟩
  have hsl : s.data.toList = l := by rw [hs]
  have hsn : s.size = n := by rw [hn, ← hsl]; rfl
  have hst : (s ++ t).size ≤ 9223372036854775807 := by
    rw [ByteArray.size_append]
    omega
  have HSC := hidden (fun w => Scalar_some (s ++ t) n w hst (by rw [append_list, hsl, hs1]) hn0)
  rw [append_list, hsl, hs2] at HSC
  have hz := Ut.ld_some 0 l (by omega)
  rw [hs3] at hz
  have HG := hidden (fun w => Right_any s w (by omega))
  have hrun : Ut.run 0 l = 0 := by
    have := hz.1
    rw [hn, List.take_length] at this
    exact this
  rw [hsl, hrun] at HG
  have HI := hidden (fun i h1 h2 => hz.2 i h1 h2)
  have HLV : Hid (∀ (i : Nat) w, 0 < i → i < n → Calls Try.prog 14 #[.string (s.extract 0 i)] w fun e w' => e = .returned (.int .i64 (i : Nat)) ∧ w' = w) := fun i w h1 h2 => by
    have := Live_any (s.extract 0 i) w (by rw [ByteArray.size_extract]; omega)
    rw [extract_take, hsl, Ut.alive_all 0 _ (HI.out i h1 h2).2, List.length_take, Nat.min_eq_left (by omega)] at this
    exact this
  have HRT : Hid (∀ (i : Nat) w, 0 < i → i < n → Calls Try.prog 12 #[.string (s.extract 0 i)] w fun e w' => e = .returned (.bool false) ∧ w' = w) := fun i w h1 h2 => by
    have := Right_any (s.extract 0 i) w (by rw [ByteArray.size_extract]; omega)
    rw [extract_take, hsl, show (Ut.run 0 (l.take i) == 0) = false from by rw [beq_eq_false_iff_ne]; exact (HI.out i h1 h2).1] at this
    exact this
  have hne : s.toList.isEmpty = false := by
    rw [Go.ByteArray.toList_eq, hsl]
    cases l with
    | nil => rw [hn] at hn0; exact absurd hn0 (by decide)
    | cons => rfl
  rw [← hs] at HP
  have hcc : ((c : Int) == (c : Int)) = true := by simp
  have hnn : ((n : Int) == (n : Int)) = true := by simp
  clear hs1 hs2 hs3 hz hrun hs hsl hn hlq
  go_enter Try.func6, Try.ntmps6
  go_wp2_with fail
  refine (awake_any w).mono ?_
  rintro e w1 ⟨rfl, hq1⟩
  have HQ1 := hidden hq1
  clear hq1
  go_wp2_with fail
  refine (HP.out _).mono ?_
  rintro e w2 ⟨rfl, hq2⟩
  have HQ2 := hidden (HQ1.out.trans (hq2.mono HQ1.out.size))
  clear hq2
  go_wp2_with fail
  refine (HSC.out _).mono ?_
  rintro e w3 ⟨rfl, m, hw3⟩
  have HQ3 : Hid (Below w.heap.size w w3) := by
    show Below _ _ _
    rw [hw3]
    exact drewN_below HQ2.out m
  clear hw3
  go_wp2_with fail
  refine (HG.out _).mono ?_
  rintro e w4 ⟨rfl, rfl⟩
  go_wp2_with fail
  go_loop [8] (fun i => ∃ k : Nat, 0 < k ∧ k ≤ n ∧ i = .int .i64 (k : Nat)) (fun i => n - (intOf i).toNat)
  case atStart => exact ⟨1, by decide, hn0, rfl⟩
  case round =>
    obtain ⟨k, hk0, hk, rfl⟩ := hrel
    by_cases hlt : k < n
    · have hle : (k : Int) ≤ (s.size : Int) := by omega
      have hkk : ((k : Int) == (k : Int)) = true := by simp
      go_wp2_with fail
      refine (HLV.out k _ hk0 hlt).mono ?_
      rintro e w5 ⟨rfl, rfl⟩
      go_wp2_with fail
      refine (HRT.out k _ hk0 hlt).mono ?_
      rintro e w6 ⟨rfl, rfl⟩
      go_wp2_with fail
      go_round
      case rel => exact ⟨k + 1, by omega, by omega, by go_num⟩
      case measure => simp [intOf]; omega
    · obtain rfl : k = n := by omega
      go_wp2_with fail
      go_ret
      exact ⟨rfl, HQ3.out⟩
theorem UtfBack_walk (c : Int) (t : ByteArray) (w : World) (hm : t.size ≤ 9223372036854775807) :
    Calls Try.prog 6 #[.int .i64 c, .string t] w fun e w' => e = .returned (.bool true) ∧ Below w.heap.size w w' := by
  by_cases hl : t.size ≤ 100
  · by_cases h : Ut.widz c = 0
    · exact UtfBack_none c t w hl h
    · obtain ⟨d, rfl, hd⟩ := Ut.widz_some c h
      exact UtfBack_some d t w hl hd
  · exact UtfBack_long c t w (by omega) hm
end Go.Proofs.Yteennbohfjiheaa
