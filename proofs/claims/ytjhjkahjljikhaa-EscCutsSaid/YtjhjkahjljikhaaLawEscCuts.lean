/-
  The walk of the law EscCuts: it returns true for every string, every number and every byte; nothing that was there is changed.
-/
import Derived.Test.YtjhjkahjljikhaaEsAwake
import Derived.Test.YtjhjkahjljikhaaUtRefP
namespace Go.Proofs.Ytjhjkahjljikhaa
open Go.RowKit
set_option maxHeartbeats 1000000 in
theorem EscCuts_long (s : ByteArray) (n c : Int) (w : World) (hl : 300 < s.size) (hm : s.size ≤ 9223372036854775807) :
    Calls Try.prog 7 #[.string s, .int .u16 n, .int .u8 c] w fun e w' => e = .returned (.bool true) ∧ Below w.heap.size w w' := by
  go_enter Try.func7, Try.ntmps7
  go_wp2_with fail
  refine (awake11_any w).mono ?_
  rintro e w1 ⟨rfl, h1⟩
  have HB1 := hidden h1
  clear h1
  go_wp2_with fail
  refine (awake11_any w1).mono ?_
  rintro e w2 ⟨rfl, h2⟩
  have HB2 := hidden (Es.below_after HB1.out h2)
  clear h2
  go_wp2_with fail
  go_ret
  exact ⟨rfl, HB2.out⟩
set_option maxHeartbeats 1000000 in
theorem EscCuts_not (s : ByteArray) (n c : Int) (w : World) (hl : s.size ≤ 300) (h : Es.ok s.data.toList = false) :
    Calls Try.prog 7 #[.string s, .int .u16 n, .int .u8 c] w fun e w' => e = .returned (.bool true) ∧ Below w.heap.size w w' := by
  have HI := hidden (fun w => esIs_any s w (by omega))
  rw [h] at HI
  clear h
  go_enter Try.func7, Try.ntmps7
  go_wp2_with fail
  refine (awake11_any w).mono ?_
  rintro e w1 ⟨rfl, h1⟩
  have HB1 := hidden h1
  clear h1
  go_wp2_with fail
  refine (HI.out w1).mono ?_
  rintro e w2 ⟨rfl, h2⟩
  have HB2 := hidden (Es.below_after HB1.out h2)
  clear h2
  go_wp2_with fail
  refine (awake11_any w2).mono ?_
  rintro e w3 ⟨rfl, h3⟩
  have HB3 := hidden (Es.below_after HB2.out h3)
  clear h3
  go_wp2_with fail
  go_ret
  exact ⟨rfl, HB3.out⟩
theorem byte_new (p : Int) (u : World) : Sem.run Try.prog (convert 33 9 (.slice (some ⟨u.heap.size, 0, none⟩) 1 1)) (u.alloc (.cells #[.int .u8 p] 5)) = .ok (.string (strOfNums [p])) (u.alloc (.cells #[.int .u8 p] 5)) := bytes_new [p] 1 #[.int .u8 p] rfl rfl u
theorem append_bytes (s : ByteArray) (l : List UInt8) : (s ++ ⟨l.toArray⟩).data.toList = s.data.toList ++ l := by
  rw [ByteArray.data_append, Array.toList_append]
theorem extract_bytes (s : ByteArray) (a b : Nat) : (s.extract a b).data.toList = (s.data.toList.drop a).take (b - a) := by
  obtain ⟨⟨l⟩⟩ := s
  rw [ByteArray.extract_mk]
set_option maxHeartbeats 2000000 in
theorem EscCuts_ok (s : ByteArray) (n c : Int) (w : World) (hl : s.size ≤ 300) (h : Es.ok s.data.toList = true) (hn0 : 0 ≤ n) (hn1 : n ≤ 65535) (hc0 : 0 ≤ c) (hc1 : c ≤ 255) :
    Calls Try.prog 7 #[.string s, .int .u16 n, .int .u8 c] w fun e w' => e = .returned (.bool true) ∧ Below w.heap.size w w' := by
  obtain ⟨m, hm, _, _⟩ := Es.ok_ins _ h
  have hsz : 2 ≤ s.size := by
    show 2 ≤ s.data.toList.length
    rw [hm]
    simp
  obtain ⟨k, hk⟩ : ∃ k : Nat, n % (s.size : Int) = (k : Int) := ⟨(n % (s.size : Int)).toNat, by have := Int.emod_nonneg n (show (s.size : Int) ≠ 0 by omega); omega⟩
  have hks : k < s.size := by have := Int.emod_lt_of_pos n (show (0 : Int) < s.size by omega); omega
  have hcut : Es.ok (s.extract 0 k).data.toList = false := by
    rw [show (s.extract 0 k).data.toList = s.data.toList.take k from by rw [extract_bytes, List.drop_zero, Nat.sub_zero]]
    cases h2 : Es.ok (s.data.toList.take k) with
    | false => rfl
    | true =>
      have := Es.ok_cut _ _ h h2
      have h3 : s.data.toList.length = s.size := rfl
      omega
  obtain ⟨C, hC⟩ : ∃ C : Nat, c = (C : Int) := ⟨c.toNat, by omega⟩
  have hstr : strOfNums [c] = ⟨#[UInt8.ofNat C]⟩ := by rw [hC]; exact Es.nums_list [C]
  have hmore : Es.ok (s ++ strOfNums [c]).data.toList = false := by
    rw [hstr, append_bytes]
    exact Es.ok_more _ _ h
  have hss : (s ++ strOfNums [c]).size ≤ 9223372036854775807 := by
    rw [ByteArray.size_append, show (strOfNums [c]).size = 1 from rfl]
    omega
  have HI := hidden (fun w => esIs_any s w (by omega))
  rw [h] at HI
  have HC := hidden (fun w => esIs_any (s.extract 0 k) w (by rw [ByteArray.size_extract]; omega))
  rw [hcut] at HC
  have HM := hidden (fun w => esIs_any (s ++ strOfNums [c]) w hss)
  rw [hmore] at HM
  have bn := byte_new
  have hs1 : ∀ p : Int, (strOfNums [p]).size = 1 := fun _ => rfl
  have hz0 : ((s.size : Int) == 0) = false := by rw [beq_eq_false_iff_ne]; omega
  have hz1 : decide ((300 : Int) < (s.size : Int)) = false := decide_eq_false (by omega)
  clear h hm hcut hC hstr hmore hss
  go_enter Try.func7, Try.ntmps7
  go_wp2_with fail
  refine (awake11_any w).mono ?_
  rintro e w1 ⟨rfl, h1⟩
  have HB1 := hidden h1
  clear h1
  go_wp2_with fail
  refine (HI.out w1).mono ?_
  rintro e w2 ⟨rfl, h2⟩
  have HB2 := hidden (Es.below_after HB1.out h2)
  clear h2
  go_wp2_with fail
  refine (HC.out w2).mono ?_
  rintro e w3 ⟨rfl, h3⟩
  have HB3 := hidden (Es.below_after HB2.out h3)
  clear h3
  go_wp2_with fail
  refine (HM.out _).mono ?_
  rintro e w4 ⟨rfl, h4⟩
  have HB4 := hidden (Es.below_after (HB3.out.alloc HB3.out.size _) h4)
  clear h4
  go_wp2_with fail
  go_ret
  exact ⟨rfl, HB4.out⟩
theorem EscCuts_walk (s : ByteArray) (n c : Int) (w : World) (hm : s.size ≤ 9223372036854775807) (hn0 : 0 ≤ n) (hn1 : n ≤ 65535) (hc0 : 0 ≤ c) (hc1 : c ≤ 255) :
    Calls Try.prog 7 #[.string s, .int .u16 n, .int .u8 c] w fun e w' => e = .returned (.bool true) ∧ Below w.heap.size w w' := by
  by_cases hl : s.size ≤ 300
  · cases h : Es.ok s.data.toList with
    | true => exact EscCuts_ok s n c w hl h hn0 hn1 hc0 hc1
    | false => exact EscCuts_not s n c w hl h
  · exact EscCuts_long s n c w (by omega) hm
end Go.Proofs.Ytjhjkahjljikhaa
