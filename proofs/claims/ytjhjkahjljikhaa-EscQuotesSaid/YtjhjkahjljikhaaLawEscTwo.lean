/-
  The walk of the law EscTwo: it returns true for every two strings; nothing that was there is changed.
-/
import Derived.Test.YtjhjkahjljikhaaEsAwake
namespace Go.Proofs.Ytjhjkahjljikhaa
open Go.RowKit
namespace Es
theorem be_yes {l : List UInt8} (h : Ut.run 0 l = 0) : be l = 0 := if_pos h
theorem be_no {l : List UInt8} (h : Ut.run 0 l ≠ 0) : be l = 3 := if_neg h
theorem bt_yes {l : List UInt8} (m : Nat) (h : Ut.run 0 l = 0) : bt m l = qu m l := if_pos h
theorem bt_no {l : List UInt8} (m : Nat) (h : Ut.run 0 l ≠ 0) : bt m l = [] := if_neg h
theorem qu_len (m : Nat) (l : List UInt8) : 2 ≤ (qu m l).length ∧ (qu m l).length ≤ 6 * l.length + 2 := by
  unfold qu
  rw [List.length_cons, List.length_append, List.length_singleton]
  have := shs_le m l
  omega
theorem qu_two (m : Nat) (l k : List UInt8) : qu m (l ++ k) = (qu m l).dropLast ++ (qu m k).tail := by
  unfold qu
  rw [shs_append, show (UInt8.ofNat m :: (shs m l ++ [UInt8.ofNat m])) = (UInt8.ofNat m :: shs m l) ++ [UInt8.ofNat m] from rfl, List.dropLast_concat]
  simp
theorem two_ex (m : Nat) (l k : List UInt8) (A B C : ByteArray) (hA : A = ⟨(qu m l).toArray⟩) (hB : B = ⟨(qu m k).toArray⟩) (hC : C = ⟨(qu m (l ++ k)).toArray⟩) (na : Nat) (hn : A.size = na + 1) : A.extract 0 na ++ B.extract 1 B.size = C := by
  subst hA
  subst hB
  subst hC
  have h1 : (qu m l).length = na + 1 := hn
  rw [ByteArray.extract_mk, ByteArray.extract_mk, qu_two]
  apply ByteArray.ext
  rw [ByteArray.data_append]
  show (List.take (na - 0) (List.drop 0 (qu m l))).toArray ++ (List.take ((qu m k).length - 1) (List.drop 1 (qu m k))).toArray = ((qu m l).dropLast ++ (qu m k).tail).toArray
  rw [List.drop_zero, Nat.sub_zero, List.take_of_length_le (l := List.drop 1 (qu m k)) (by rw [List.length_drop]; exact Nat.le_refl _), List.dropLast_eq_take, h1, List.drop_one]
  simp
end Es
set_option maxHeartbeats 1000000 in
theorem EscTwo_long (s t : ByteArray) (w : World) (hl : 150 < s.size ∨ s.size ≤ 150 ∧ 150 < t.size) (hm : s.size ≤ 9223372036854775807) (hm2 : t.size ≤ 9223372036854775807) :
    Calls Try.prog 8 #[.string s, .string t] w fun e w' => e = .returned (.bool true) ∧ Below w.heap.size w w' := by
  rcases hl with hl | ⟨hl, hl2⟩
  all_goals go_enter Try.func8, Try.ntmps8
  all_goals go_wp2_with fail
  all_goals refine (awake11_any w).mono ?_
  all_goals rintro e w1 ⟨rfl, hq1⟩
  all_goals have HQ1 := hidden hq1
  all_goals clear hq1
  all_goals go_wp2_with fail
  all_goals refine (awake11_any w1).mono ?_
  all_goals rintro e w2 ⟨rfl, hq2⟩
  all_goals have HQ2 := hidden (Es.below_after HQ1.out hq2)
  all_goals clear hq2
  all_goals go_wp2_with fail
  all_goals go_ret
  all_goals exact ⟨rfl, HQ2.out⟩
set_option maxHeartbeats 2000000 in
theorem EscTwo_not (s t : ByteArray) (w : World) (hl : s.size ≤ 150) (hl2 : t.size ≤ 150) (h : Ut.run 0 s.data.toList ≠ 0 ∨ Ut.run 0 s.data.toList = 0 ∧ Ut.run 0 t.data.toList ≠ 0) :
    Calls Try.prog 8 #[.string s, .string t] w fun e w' => e = .returned (.bool true) ∧ Below w.heap.size w w' := by
  have HS := hidden (fun w => esQuote_any s w (by omega))
  have HT := hidden (fun w => esQuote_any t w (by omega))
  rcases h with h | ⟨h, h2⟩
  · rw [Es.be_no h] at HS
    obtain ⟨e2, he2⟩ : ∃ e2, e2 = Es.be t.data.toList := ⟨_, rfl⟩
    rw [← he2] at HT
    clear h he2
    go_enter Try.func8, Try.ntmps8
    go_wp2_with fail
    refine (awake11_any w).mono ?_
    rintro e w1 ⟨rfl, h1⟩
    have HB1 := hidden h1
    clear h1
    go_wp2_with fail
    refine (HS.out w1).mono ?_
    rintro e w2 ⟨rfl, h2⟩
    have HB2 := hidden (Es.below_after HB1.out h2)
    clear h2
    go_wp2_with fail
    refine (HT.out w2).mono ?_
    rintro e w3 ⟨rfl, h3⟩
    have HB3 := hidden (Es.below_after HB2.out h3)
    clear h3
    go_wp2_with fail
    go_ret
    exact ⟨rfl, HB3.out⟩
  · rw [Es.be_yes h] at HS
    rw [Es.be_no h2] at HT
    clear h h2
    go_enter Try.func8, Try.ntmps8
    go_wp2_with fail
    refine (awake11_any w).mono ?_
    rintro e w1 ⟨rfl, h1⟩
    have HB1 := hidden h1
    clear h1
    go_wp2_with fail
    refine (HS.out w1).mono ?_
    rintro e w2 ⟨rfl, h2⟩
    have HB2 := hidden (Es.below_after HB1.out h2)
    clear h2
    go_wp2_with fail
    refine (HT.out w2).mono ?_
    rintro e w3 ⟨rfl, h3⟩
    have HB3 := hidden (Es.below_after HB2.out h3)
    clear h3
    go_wp2_with fail
    go_ret
    exact ⟨rfl, HB3.out⟩
set_option maxRecDepth 100000 in
set_option maxHeartbeats 4000000 in
theorem EscTwo_yes (s t : ByteArray) (w : World) (hl : s.size ≤ 150) (hl2 : t.size ≤ 150) (h : Ut.run 0 s.data.toList = 0) (h2 : Ut.run 0 t.data.toList = 0) :
    Calls Try.prog 8 #[.string s, .string t] w fun e w' => e = .returned (.bool true) ∧ Below w.heap.size w w' := by
  have hst : (s ++ t).data.toList = s.data.toList ++ t.data.toList := by rw [ByteArray.data_append, Array.toList_append]
  have h3 : Ut.run 0 (s.data.toList ++ t.data.toList) = 0 := by rw [Ut.run_append, h, h2]
  have hsz : (s ++ t).size ≤ 1000000 := by rw [ByteArray.size_append]; omega
  have H1 := hidden (fun w => esQuote_any s w (by omega))
  have H2 := hidden (fun w => esQuote_any t w (by omega))
  have H3 := hidden (fun w => esQuote_any (s ++ t) w hsz)
  have H4 := hidden (fun w => esSingle_any s w (by omega))
  have H5 := hidden (fun w => esSingle_any t w (by omega))
  have H6 := hidden (fun w => esSingle_any (s ++ t) w hsz)
  rw [Es.be_yes h, Es.bt_yes _ h] at H1 H4
  rw [Es.be_yes h2, Es.bt_yes _ h2] at H2 H5
  rw [hst, Es.be_yes h3, Es.bt_yes _ h3] at H3 H6
  have l1 := Es.qu_len 34 s.data.toList
  have l2 := Es.qu_len 34 t.data.toList
  have l4 := Es.qu_len 39 s.data.toList
  have l5 := Es.qu_len 39 t.data.toList
  rw [show s.data.toList.length = s.size from rfl] at l1 l4
  rw [show t.data.toList.length = t.size from rfl] at l2 l5
  obtain ⟨A, hA⟩ : ∃ A : ByteArray, A = ⟨(Es.qu 34 s.data.toList).toArray⟩ := ⟨_, rfl⟩
  obtain ⟨B, hB⟩ : ∃ B : ByteArray, B = ⟨(Es.qu 34 t.data.toList).toArray⟩ := ⟨_, rfl⟩
  obtain ⟨C, hC⟩ : ∃ C : ByteArray, C = ⟨(Es.qu 34 (s.data.toList ++ t.data.toList)).toArray⟩ := ⟨_, rfl⟩
  obtain ⟨X, hX⟩ : ∃ A : ByteArray, A = ⟨(Es.qu 39 s.data.toList).toArray⟩ := ⟨_, rfl⟩
  obtain ⟨Y, hY⟩ : ∃ B : ByteArray, B = ⟨(Es.qu 39 t.data.toList).toArray⟩ := ⟨_, rfl⟩
  obtain ⟨Z, hZ⟩ : ∃ C : ByteArray, C = ⟨(Es.qu 39 (s.data.toList ++ t.data.toList)).toArray⟩ := ⟨_, rfl⟩
  have sA : A.size = (Es.qu 34 s.data.toList).length := by rw [hA]; rfl
  have sB : B.size = (Es.qu 34 t.data.toList).length := by rw [hB]; rfl
  have sX : X.size = (Es.qu 39 s.data.toList).length := by rw [hX]; rfl
  have sY : Y.size = (Es.qu 39 t.data.toList).length := by rw [hY]; rfl
  obtain ⟨na, hna⟩ : ∃ na, A.size = na + 1 := ⟨A.size - 1, by omega⟩
  obtain ⟨nx, hnx⟩ : ∃ nx, X.size = nx + 1 := ⟨X.size - 1, by omega⟩
  have eC := Es.two_ex 34 _ _ A B C hA hB hC na hna
  have eZ := Es.two_ex 39 _ _ X Y Z hX hY hZ nx hnx
  rw [← hA] at H1
  rw [← hB] at H2
  rw [← hC] at H3
  rw [← hX] at H4
  rw [← hY] at H5
  rw [← hZ] at H6
  have iA : (A.size : Int) - 1 = (na : Int) := by omega
  have iX : (X.size : Int) - 1 = (nx : Int) := by omega
  have uA : na ≤ A.size := by omega
  have uX : nx ≤ X.size := by omega
  have vA : na ≤ 2000 := by omega
  have vX : nx ≤ 2000 := by omega
  have bA : A.size ≤ 2000 := by omega
  have bB : B.size ≤ 2000 := by omega
  have bX : X.size ≤ 2000 := by omega
  have bY : Y.size ≤ 2000 := by omega
  have pB : 1 ≤ B.size := by omega
  have pY : 1 ≤ Y.size := by omega
  clear h h2 h3 hst hsz l1 l2 l4 l5 hA hB hC hX hY hZ sA sB sX sY hna hnx
  go_enter Try.func8, Try.ntmps8
  go_wp2_with fail
  refine (awake11_any w).mono ?_
  rintro e w1 ⟨rfl, h1⟩
  have HB1 := hidden h1
  clear h1
  go_wp2_with fail
  refine (H1.out w1).mono ?_
  rintro e w2 ⟨rfl, h2⟩
  have HB2 := hidden (Es.below_after HB1.out h2)
  clear h2
  go_wp2_with fail
  refine (H2.out w2).mono ?_
  rintro e w3 ⟨rfl, h3⟩
  have HB3 := hidden (Es.below_after HB2.out h3)
  clear h3
  go_wp2_with fail
  refine (H3.out w3).mono ?_
  rintro e w4 ⟨rfl, h4⟩
  have HB4 := hidden (Es.below_after HB3.out h4)
  clear h4
  go_wp2_with fail
  refine (H4.out w4).mono ?_
  rintro e w5 ⟨rfl, h5⟩
  have HB5 := hidden (Es.below_after HB4.out h5)
  clear h5
  go_wp2_with fail
  refine (H5.out w5).mono ?_
  rintro e w6 ⟨rfl, h6⟩
  have HB6 := hidden (Es.below_after HB5.out h6)
  clear h6
  go_wp2_with fail
  refine (H6.out w6).mono ?_
  rintro e w7 ⟨rfl, h7⟩
  have HB7 := hidden (Es.below_after HB6.out h7)
  clear h7
  go_wp2_with fail
  clear HB1 HB2 HB3 HB4 HB5 HB6 H1 H2 H3 H4 H5 H6
  go_quiet (fail)
  go_wp2_with fail
  go_ret
  exact ⟨rfl, below_drewN' HB7.out _⟩
theorem EscTwo_walk (s t : ByteArray) (w : World) (hm : s.size ≤ 9223372036854775807) (hm2 : t.size ≤ 9223372036854775807) :
    Calls Try.prog 8 #[.string s, .string t] w fun e w' => e = .returned (.bool true) ∧ Below w.heap.size w w' := by
  by_cases hl : s.size ≤ 150
  · by_cases hl2 : t.size ≤ 150
    · by_cases h : Ut.run 0 s.data.toList = 0
      · by_cases h2 : Ut.run 0 t.data.toList = 0
        · exact EscTwo_yes s t w hl hl2 h h2
        · exact EscTwo_not s t w hl hl2 (.inr ⟨h, h2⟩)
      · exact EscTwo_not s t w hl hl2 (.inl h)
    · exact EscTwo_long s t w (.inr ⟨hl, by omega⟩) hm hm2
  · exact EscTwo_long s t w (.inl (by omega)) hm hm2
end Go.Proofs.Ytjhjkahjljikhaa
