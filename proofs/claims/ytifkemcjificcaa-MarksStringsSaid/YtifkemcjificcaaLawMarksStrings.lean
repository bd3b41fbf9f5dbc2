/-
  The walk of the law MarksStrings: it returns true for every string; nothing that was there is changed.
-/
import Derived.Test.YtifkemcjificcaaMkAwake
import Derived.Test.YtifkemcjificcaaJsRefT
namespace Go.Proofs.Ytifkemcjificcaa
open Go.RowKit
theorem mks_ok (i D : Int) (o : Bool) (w : World) : (Instr.field 32 (.agg #[.int .i64 i, .bool o, .int .i64 D]) 1).run Try.prog w = .ok (.bool o) w := by kernel_rfl
theorem mks_at (i D : Int) (o : Bool) (w : World) : (Instr.field 32 (.agg #[.int .i64 i, .bool o, .int .i64 D]) 0).run Try.prog w = .ok (.int .i64 i) w := by kernel_rfl
namespace Mk
theorem app_data2 (s t : ByteArray) : (s ++ t).data.toList = s.data.toList ++ t.data.toList := by
  rw [ByteArray.data_append, Array.toList_append]
/-- Behind a text nothing is wrong at its end. -/
theorem end_no (l : List UInt8) : ∀ (D n : Nat), Js.out (Js.cE [] D) l = (none, n) → n < l.length := by
  induction l with
  | nil =>
    intro D n h
    have h2 : (some D, 0) = ((none, n) : Option Nat × Nat) := h
    cases h2
  | cons b l ih =>
    intro D n h
    cases hb : Js.isB b.toNat with
    | true =>
      rw [Js.out_some _ (Js.cE [] D) b l (Js.sp_E [] D _ hb)] at h
      have h1 : (Js.out (Js.cE [] D) l).1 = none := congrArg Prod.fst h
      have h2 : (Js.out (Js.cE [] D) l).2 + 1 = n := congrArg Prod.snd h
      have h3 : (Js.out (Js.cE [] D) l).2 < l.length := ih D (Js.out (Js.cE [] D) l).2 (Prod.ext h1 rfl)
      rw [List.length_cons]
      omega
    | false =>
      have hs : Js.step (Js.cE [] D) b.toNat = none := by
        show Js.stE [] D _ = none
        unfold Js.stE
        rw [hb, if_neg Bool.false_ne_true]
        split
        · rfl
        split
        · rfl
        split
        · rfl
        · rfl
      rw [Js.out_none _ b l hs] at h
      have h2 : 0 = n := congrArg Prod.snd h
      rw [List.length_cons]
      omega
/-- A whole string. -/
theorem whole_string (l : List UInt8) (q : Nat) (h0 : Js.bt l 0 = 34) (hq : q = l.length) (hT : ∀ k st d, Js.T l (Js.cS 0 k st d) (0 + 1) = Js.T l (Js.aft k st d) q) : (Js.out Js.c0 l).1 = some 0 := by
  have h1 : Js.T l Js.c0 0 = Js.T l (Js.cS 0 false [] 0) 1 := Js.T_go l _ _ 0 (by omega) (by rw [h0]; rfl)
  have h2 := hT false [] 0
  have h3 : Js.T l (Js.aft false [] 0) q = (some 0, q) := Js.text_end l 0 q hq.symm
  have h4 : Js.T l Js.c0 0 = (some 0, q) := h1.trans (h2.trans h3)
  exact congrArg Prod.fst h4
theorem not_both (l : List UInt8) (q n : Nat) (hq : q ≤ l.length) (hT : ∀ k st d, Js.T l (Js.cS 0 k st d) (0 + 1) = Js.T l (Js.aft k st d) q) (hN : ∀ k st d, Js.T l (Js.cS 0 k st d) (0 + 1) = (none, n)) : n ≠ l.length := by
  have h1 : Js.T l (Js.cE [] 0) q = (none, n) := (hT false [] 0).symm.trans (hN false [] 0)
  have h2 : (Js.out (Js.cE [] 0) (l.drop q)).1 = none := congrArg Prod.fst h1
  have h3 : (Js.out (Js.cE [] 0) (l.drop q)).2 + q = n := congrArg Prod.snd h1
  have h4 : (Js.out (Js.cE [] 0) (l.drop q)).2 < (l.drop q).length := end_no (l.drop q) 0 (Js.out (Js.cE [] 0) (l.drop q)).2 (Prod.ext h2 rfl)
  rw [List.length_drop] at h4
  omega
theorem three_own (w : World) (a b c : Nat) : Li (w.alloc (.cells #[.int .i64 (a : Nat), .int .i64 (b : Nat), .int .i64 (c : Nat)] 3)) w.heap.size (.slice (some ⟨w.heap.size, 0, none⟩) 3 3) [a, b, c] :=
  ⟨rfl, .inr ⟨w.heap.size, 3, #[.int .i64 (a : Nat), .int .i64 (b : Nat), .int .i64 (c : Nat)], rfl, Nat.le_refl _, heap_alloc_new _ _, Nat.le_refl _, by unfold maxLen; omega, rfl, rfl⟩⟩
end Mk
theorem MarksStrings_long (s : ByteArray) (w : World) (hl : 200 < s.size) (hm : s.size ≤ 9223372036854775807) :
    Calls Try.prog 5 #[.string s] w fun e w' => e = .returned (.bool true) ∧ Below w.heap.size w w' := by
  have hlt : (200 : Int) < (s.size : Int) := by omega
  go_enter Try.func5, Try.ntmps5
  go_wp2_with fail
  refine (awake13_any w).mono ?_
  rintro e w1 ⟨rfl, h1⟩
  have HB1 := hidden h1
  clear h1
  go_wp2_with fail
  refine (awake13_any _).mono ?_
  rintro e w2 ⟨rfl, h2⟩
  have HB2 := hidden (Mk.bel_then HB1.out h2)
  clear h2
  go_wp2_with fail
  go_ret
  exact ⟨rfl, HB2.out⟩
set_option maxHeartbeats 2000000 in
theorem MarksStrings_no (s : ByteArray) (w : World) (hl : ¬ 200 < s.size) (h34 : ∀ hi : 0 < s.size, s[0].toNat ≠ 34) :
    Calls Try.prog 5 #[.string s] w fun e w' => e = .returned (.bool true) ∧ Below w.heap.size w w' := by
  have hlt : ¬ (200 : Int) < (s.size : Int) := by omega
  have hfd := mks_ok
  have HS := hidden (fun w => jStr_no s 0 w (Nat.zero_le _) h34)
  clear h34
  go_enter Try.func5, Try.ntmps5
  go_wp2_with fail
  refine (awake13_any w).mono ?_
  rintro e w1 ⟨rfl, h1⟩
  have HB1 := hidden h1
  clear h1
  go_wp2_with fail
  refine (HS.out _).mono ?_
  rintro e w2 ⟨rfl, h2⟩
  have HB2 := hidden (Mk.bel_then HB1.out h2)
  clear h2
  unfold rv
  go_wp2_with fail
  refine (awake13_any _).mono ?_
  rintro e w3 ⟨rfl, h3⟩
  have HB3 := hidden (Mk.bel_then HB2.out h3)
  clear h3
  go_wp2_with fail
  go_ret
  exact ⟨rfl, HB3.out⟩
set_option maxHeartbeats 4000000 in
theorem MarksStrings_str (s : ByteArray) (w : World) (hl : ¬ 200 < s.size) (hi : 0 < s.size) (h34 : s[0].toNat = 34) :
    Calls Try.prog 5 #[.string s] w fun e w' => e = .returned (.bool true) ∧ Below w.heap.size w w' := by
  have hlt : ¬ (200 : Int) < (s.size : Int) := by omega
  have hfd := mks_ok
  have hat := mks_at
  have hlen : s.data.toList.length = s.size := rfl
  have H34 : Hid (Js.bt s.data.toList 0 = 34) := hidden ((Js.bt_at s.data.toList 0 hi).trans h34)
  have HS := hidden (fun w => jStr_in s 0 w (by omega) hi h34)
  have HP := hidden (fun w => kPlaces_any s w (by omega))
  have HPX := hidden (fun w => kPlaces_any ((⟨#[91]⟩ : ByteArray) ++ s ++ (⟨#[44]⟩ : ByteArray) ++ s ++ (⟨#[93]⟩ : ByteArray)) w (by
    rw [ByteArray.size_append, ByteArray.size_append, ByteArray.size_append, ByteArray.size_append]
    show 1 + s.size + 1 + s.size + 1 ≤ _
    omega))
  have hX : ((⟨#[91]⟩ : ByteArray) ++ s ++ (⟨#[44]⟩ : ByteArray) ++ s ++ (⟨#[93]⟩ : ByteArray)).data.toList = 91 :: (s.data.toList ++ 44 :: (s.data.toList ++ [93])) := by
    rw [Mk.app_data2, Mk.app_data2, Mk.app_data2, Mk.app_data2]
    simp
  rw [hX] at HPX
  have HLEN := hidden hlen
  have HST := hidden (Mk.string_pl s.data.toList)
  rw [hlen] at HST
  clear hX hlen h34 hi
  obtain ⟨x, hx⟩ : ∃ x, x = 1 + s.size := ⟨_, rfl⟩
  obtain ⟨y, hy⟩ : ∃ y, y = 2 + 2 * s.size := ⟨_, rfl⟩
  have hx1 : 1 + (s.size : Int) = (x : Int) := by omega
  have hy0 : IntKind.i64.wrap (2 * (s.size : Int)) = 2 * (s.size : Int) := by rw [IntKind.wrap_i64]; omega
  have hy1 : 2 + 2 * (s.size : Int) = (y : Int) := by omega
  rw [← hx, ← hy] at HST
  clear hx hy
  go_enter Try.func5, Try.ntmps5
  go_wp2_with fail
  refine (awake13_any w).mono ?_
  rintro e w1 ⟨rfl, h1⟩
  have HB1 := hidden h1
  clear h1
  go_wp2_with fail
  refine (HS.out _).mono ?_
  rintro e w2 ⟨⟨q, rfl, hq0, hq1, hT⟩ | ⟨q, rfl, hN⟩, h2⟩
  · have HB2 := hidden (Mk.bel_then HB1.out h2)
    have HT := hidden hT
    have HQ := hidden hq1
    clear h2 hT hq0 hq1
    unfold rv
    go_wp2_with fail
    refine (HS.out _).mono ?_
    rintro e w3 ⟨⟨q2, rfl, hq0, hq1, hT2⟩ | ⟨q2, rfl, hN⟩, h3⟩
    · have HB3 := hidden (Mk.bel_then HB2.out h3)
      have HT2 := hidden hT2
      clear h3 hT2 hq0
      unfold rv
      by_cases hend : q2 = s.size
      · have HJ := hidden (HST.out (Mk.whole_string s.data.toList q2 H34.out hend HT2.out))
        have e1 : ((q2 : Int) != (s.size : Int)) = false := by rw [hend]; exact bne_self_eq_false _
        have e1n : (q2 != s.size) = false := by rw [hend]; exact bne_self_eq_false _
        clear hend hq1
        go_wp2_with fail
        refine (HPX.out _).mono ?_
        rintro e w4 ⟨⟨v4, rfl, hv4⟩, h4⟩
        rw [HJ.out.2] at hv4
        have HV4 := hidden hv4
        have HB4 := hidden (Mk.bel_then HB3.out h4)
        clear h4 hv4
        go_wp2_with fail
        have HTH := hidden (Mk.three_own w4 0 x y)
        have hal := (Below.refl w4.heap.size w4).alloc (Nat.le_refl _) (.cells #[.int .i64 ((0 : Nat) : Int), .int .i64 (x : Nat), .int .i64 (y : Nat)] 3)
        have HV5 := hidden (HV4.out.kept hal)
        have HB5 := hidden (Mk.bel_then HB4.out hal)
        clear hal
        refine (mSameInts_any _ _ v4 (.slice (some ⟨w4.heap.size, 0, none⟩) 3 3) _ _ _ HV5.out HTH.out (show 3 ≤ 1000000 by decide) (show 3 ≤ 1000000 by decide)).mono ?_
        rintro e w6 ⟨rfl, h6⟩
        have HB6 := hidden (Mk.bel_then HB5.out h6)
        rw [decide_eq_true rfl]
        clear h6
        go_wp2_with fail
        refine (HP.out _).mono ?_
        rintro e w7 ⟨⟨v7, rfl, hv7⟩, h7⟩
        rw [HJ.out.1] at hv7
        obtain ⟨ao, ca, rfl, _, _⟩ := hv7.get (n := 0) rfl
        have HB7 := hidden (Mk.bel_then HB6.out h7)
        clear h7 hv7
        go_wp2_with fail
        go_ret
        exact ⟨rfl, HB7.out⟩
      · have e1 : ((q2 : Int) != (s.size : Int)) = true := by rw [bne_iff_ne]; omega
        have e1n : (q2 != s.size) = true := by rw [bne_iff_ne]; exact hend
        clear hend hq1
        go_wp2_with fail
        refine (awake13_any _).mono ?_
        rintro e w4 ⟨rfl, h4⟩
        have HB4 := hidden (Mk.bel_then HB3.out h4)
        clear h4
        go_wp2_with fail
        go_ret
        exact ⟨rfl, HB4.out⟩
    · have HB3 := hidden (Mk.bel_then HB2.out h3)
      have hend := Mk.not_both s.data.toList q q2 HQ.out HT.out hN
      rw [HLEN.out] at hend
      clear h3 hN
      unfold rv
      have e1 : ((q2 : Int) != (s.size : Int)) = true := by rw [bne_iff_ne]; omega
      have e1n : (q2 != s.size) = true := by rw [bne_iff_ne]; exact hend
      clear hend
      go_wp2_with fail
      refine (awake13_any _).mono ?_
      rintro e w4 ⟨rfl, h4⟩
      have HB4 := hidden (Mk.bel_then HB3.out h4)
      clear h4
      go_wp2_with fail
      go_ret
      exact ⟨rfl, HB4.out⟩
  · have HB2 := hidden (Mk.bel_then HB1.out h2)
    clear h2 hN
    unfold rv
    go_wp2_with fail
    refine (awake13_any _).mono ?_
    rintro e w3 ⟨rfl, h3⟩
    have HB3 := hidden (Mk.bel_then HB2.out h3)
    clear h3
    go_wp2_with fail
    go_ret
    exact ⟨rfl, HB3.out⟩
theorem MarksStrings_walk (s : ByteArray) (w : World) (hm : s.size ≤ 9223372036854775807) :
    Calls Try.prog 5 #[.string s] w fun e w' => e = .returned (.bool true) ∧ Below w.heap.size w w' := by
  by_cases hl : 200 < s.size
  · exact MarksStrings_long s w hl hm
  · by_cases hi : 0 < s.size
    · by_cases h34 : s[0].toNat = 34
      · exact MarksStrings_str s w hl hi h34
      · exact MarksStrings_no s w hl (fun _ => h34)
    · exact MarksStrings_no s w hl (fun h => absurd h hi)
end Go.Proofs.Ytifkemcjificcaa
