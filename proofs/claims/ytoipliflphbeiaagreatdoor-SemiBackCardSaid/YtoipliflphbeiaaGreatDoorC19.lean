/-
  The contract of package semi's Load: of every record and all bytes beside it; nothing that was there is changed.
-/
import Derived.Deep.QuietTactic
import Derived.Test.YtoipliflphbeiaaGreatDoorSmMake
import Derived.Test.YtoipliflphbeiaaGreatDoorC18
import Derived.Test.YtoipliflphbeiaaGreatDoorJFnNum
import Derived.Test.YtoipliflphbeiaaGreatDoorJRk
namespace Go.Proofs.YtoipliflphbeiaaGreatDoor
open Go.RowKit
theorem FOf_is (t : ByteArray) (w : World) (ht : t.size ≤ 9223372036854775807) (h : Fn.IsOf t.data.toList) (hT : Tab w) :
    Calls Tryz.prog 62 #[.string t] w fun e w' => (∃ v, e = .returned (.tuple #[v, .int .i64 0])) ∧ Below w.heap.size w w' := by
  obtain ⟨m, X, l, u, h1, h2⟩ := h
  refine (FOf_yes t X m l u w ht h1 h2 hT).mono ?_
  rintro e w' ⟨p, q, rfl, _, hb⟩
  exact ⟨⟨_, rfl⟩, hb⟩
theorem FOf_isnt (t : ByteArray) (w : World) (ht : t.size ≤ 9223372036854775807) (h : ¬ Fn.IsOf t.data.toList) (hT : Tab w) :
    Calls Tryz.prog 62 #[.string t] w fun e w' => (∃ v, e = .returned (.tuple #[v, .int .i64 3])) ∧ Below w.heap.size w w' := by
  cases ho : Bt.ofB t.data.toList with
  | none => exact (FOf_none t w ht ho).mono fun e w' he => ⟨⟨_, he.1⟩, he.2⟩
  | some mx =>
    obtain ⟨m, X⟩ := mx
    exact (FOf_no t X m w ht ho (fun l u hr => h ⟨m, X, l, u, ho, hr⟩) hT).mono fun e w' he => ⟨⟨_, he.1⟩, he.2⟩
theorem smBalanced_any (t : ByteArray) (w : World) (ht : t.size ≤ 9223372036854775807) (hT : Tab w) :
    Calls Tryz.prog 63 #[.string t] w fun e w' => (∃ b, e = .returned (.bool b) ∧ (b = true ↔ Sm.Row t.data.toList)) ∧ Below w.heap.size w w' := by
  cases ho : Bt.ofB t.data.toList with
  | none =>
    have HO := hidden (Of_none t w ht ho)
    have HN : Hid (¬ Sm.Row t.data.toList) := hidden (fun ⟨m, X, h, _⟩ => by rw [ho] at h; cases h)
    clear ho ht hT
    go_enter Tryz.func63, Tryz.ntmps63
    go_wp2_with fail
    refine HO.out.mono ?_
    rintro e' w1 ⟨rfl, hb⟩
    have HB := hidden hb
    clear hb
    go_wp2_with fail
    go_ret
    exact ⟨⟨false, rfl, by simp [HN.out]⟩, HB.out⟩
  | some mx =>
    obtain ⟨m, X⟩ := mx
    have HO := hidden (Of_some t m X w ht ho)
    have HT := hidden hT
    have HW := hidden ho
    clear ho ht hT
    cases hb : Pn.bal X m with
    | true =>
      have HR : Hid (Sm.Row t.data.toList) := hidden ⟨m, X, HW.out, hb⟩
      have HBL := hidden hb
      clear hb
      go_enter Tryz.func63, Tryz.ntmps63
      go_wp2_with fail
      refine HO.out.mono ?_
      rintro e' w1 ⟨r, u, rfl, hr, hb, _, _⟩
      have HB := hidden hb
      have HRw := hidden hr
      have HT1 := hidden (HT.out.below hb (Nat.le_refl _))
      clear hb hr
      go_wp2_with fail
      refine (NNew_any r m X u w1 HRw.out HT1.out HBL.out).mono ?_
      rintro e' w2 ⟨z, k, rfl, _, hb2⟩
      have HB2 := hidden (Sm.on2 HB.out hb2)
      clear hb2
      go_wp2_with fail
      go_ret
      exact ⟨⟨true, rfl, by simp [HR.out]⟩, HB2.out⟩
    | false =>
      have HN : Hid (¬ Sm.Row t.data.toList) := hidden (fun ⟨m', X', h, h2⟩ => by
        rw [HW.out] at h
        injection h with h
        injection h with h3 h4
        subst h3 h4
        rw [hb] at h2
        cases h2)
      have HBL := hidden hb
      clear hb
      go_enter Tryz.func63, Tryz.ntmps63
      go_wp2_with fail
      refine HO.out.mono ?_
      rintro e' w1 ⟨r, u, rfl, hr, hb, _, _⟩
      have HB := hidden hb
      have HRw := hidden hr
      clear hb hr
      go_wp2_with fail
      refine (NNew_none r m X u w1 HRw.out HBL.out).mono ?_
      rintro e' w2 ⟨rfl, hb2⟩
      have HB2 := hidden (Sm.on2 HB.out hb2)
      clear hb2
      go_wp2_with fail
      go_ret
      exact ⟨⟨false, rfl, by simp [HN.out]⟩, HB2.out⟩
set_option maxHeartbeats 1000000 in
theorem smFormed_any (t : ByteArray) (w : World) (ht : t.size ≤ 9223372036854775807) (hT : Tab w) :
    Calls Tryz.prog 31 #[.string t] w fun e w' => (∃ b, e = .returned (.bool b) ∧ (b = true ↔ Sm.Form t.data.toList)) ∧ Below w.heap.size w w' := by
  have hlen : t.data.toList.length = t.size := rfl
  by_cases h8 : t.size < 8
  · have hno : Hid (¬ Sm.Form t.data.toList) := hidden (fun h => by have := h.1.1; omega)
    have hlt : decide ((t.size : Int) < 8) = true := decide_eq_true (by omega)
    clear hlen
    go_enter Tryz.func31, Tryz.ntmps31
    go_wp2_with fail
    go_ret
    exact ⟨⟨false, rfl, by simp [hno.out]⟩, Below.refl _ _⟩
  · have hlt : decide ((t.size : Int) < 8) = false := decide_eq_false (by omega)
    have h8b : 8 ≤ t.size := by omega
    obtain ⟨N, hN⟩ : ∃ N, N = Sm.nB t.data.toList := ⟨_, rfl⟩
    have HNUM : Hid (∀ m, Calls Tryz.prog 61 #[.string (t.extract 0 8)] (w.drewN m) fun e w' => e = .returned (.int .u64 (N : Nat)) ∧ w' = w.drewN m) := hidden fun m => by
      have := smNumber_any (t.extract 0 8) (w.drewN m) (by rw [ByteArray.size_extract]; omega)
      have e : Bt.le8 (t.extract 0 8) 0 = N := by
        rw [hN]
        unfold Bt.le8 Sm.nB
        rw [List.drop_zero, ByteArray.data_extract, Array.toList_extract]
        show Bt.numB (List.take 8 (List.take (8 - 0) (List.drop 0 t.data.toList))) = _
        rw [List.drop_zero, List.take_take]
        rfl
      rw [e] at this
      exact this
    have hNlt : N < 18446744073709551616 := by
      rw [hN]
      have := Bt.numB_lt (t.data.toList.take 8)
      rw [List.length_take, hlen, Nat.min_eq_left h8b] at this
      exact this
    go_enter Tryz.func31, Tryz.ntmps31
    go_wp2_with fail
    have i8 : (8 : Int) ≤ (t.size : Int) := by omega
    go_quiet (first | (go_at_call 61; exact Calls.quiet_of_same (HNUM.out _)))
    obtain ⟨r, hr⟩ : ∃ r : ByteArray, r = t.extract 8 t.size := ⟨_, rfl⟩
    have hr1 : r.data.toList = t.data.toList.drop 8 := by
      rw [hr, ByteArray.data_extract, Array.toList_extract]
      exact List.take_of_length_le (by rw [List.length_drop, hlen]; exact Nat.le_refl _)
    have hr2 : r.size = t.size - 8 := by
      have : r.data.toList.length = r.size := rfl
      rw [← this, hr1, List.length_drop, hlen]
    rw [← hr]
    have HT1 := hidden (hT.drewN nq)
    have HB1 := hidden (below_drewN (Below.refl w.heap.size w) nq)
    by_cases hbig : r.size < N
    · have hno : Hid (¬ Sm.Form t.data.toList) := hidden (fun h => by
        have := h.1.2
        rw [← hN, hlen] at this
        omega)
      have hbig2 : decide ((r.size : Int) < (N : Int)) = true := decide_eq_true (by omega)
      have hr3 : (r.size : Int) ≤ 9223372036854775807 := by omega
      clear hr hr1 hr2 hN hlen HNUM hT ht h8 hlt i8
      go_wp2_with fail
      go_ret
      exact ⟨⟨false, rfl, by simp [hno.out]⟩, HB1.out⟩
    · have hbig2 : decide ((r.size : Int) < (N : Int)) = false := decide_eq_false (by omega)
      have hr3 : (r.size : Int) ≤ 9223372036854775807 := by omega
      have HSQ : Hid ((r.extract 0 N).data.toList = Sm.seqT t.data.toList) := hidden (by
        rw [ByteArray.data_extract, Array.toList_extract]
        show List.take (N - 0) (List.drop 0 r.data.toList) = _
        rw [List.drop_zero, hr1, hN]
        rfl)
      have HRW : Hid ((r.extract N r.size).data.toList = Sm.rowT t.data.toList) := hidden (by
        rw [ByteArray.data_extract, Array.toList_extract]
        show List.take (r.size - N) (List.drop N r.data.toList) = _
        rw [List.take_of_length_le (by rw [List.length_drop]; exact Nat.le_refl _), hr1, List.drop_drop, hN]
        rfl)
      have HCUT : Hid (Sm.Cut t.data.toList) := hidden ⟨by omega, by rw [← hN]; omega⟩
      have hsz : Hid ((r.extract 0 N).size ≤ 9223372036854775807) := hidden (by rw [ByteArray.size_extract]; omega)
      have hsz2 : Hid ((r.extract N r.size).size ≤ 9223372036854775807) := hidden (by rw [ByteArray.size_extract]; omega)
      have hNr : (N : Int) ≤ (r.size : Int) := by omega
      have hN63 : N ≤ 9223372036854775807 := by omega
      have HBW : Hid (∀ w', Tab w' → Calls Tryz.prog 63 #[.string (r.extract N r.size)] w' fun e w'' => (∃ b, e = .returned (.bool b) ∧ (b = true ↔ Sm.Row (Sm.rowT t.data.toList))) ∧ Below w'.heap.size w' w'') := hidden fun w' hT => by
        rw [← HRW.out]
        exact smBalanced_any _ w' hsz2.out hT
      clear hr hr1 hr2 hN hlen HNUM hT ht h8 hlt i8
      by_cases hi : Fn.IsOf (Sm.seqT t.data.toList)
      · have HO := hidden (FOf_is (r.extract 0 N) _ hsz.out (by rw [HSQ.out]; exact hi) HT1.out)
        have HIS := hidden hi
        clear hi
        go_wp2_with fail
        refine HO.out.mono ?_
        rintro e' w1 ⟨⟨v, rfl⟩, hb1⟩
        have HB2 := hidden (Sm.on2 HB1.out hb1)
        have HT2 := hidden (HT1.out.below hb1 (Nat.le_refl _))
        clear hb1
        go_wp2_with fail
        refine (HBW.out w1 HT2.out).mono ?_
        rintro e' w2 ⟨⟨b, rfl, hb⟩, hb2⟩
        have HB3 := hidden (Sm.on2 HB2.out hb2)
        have HBI := hidden hb
        clear hb hb2
        go_wp2_with fail
        go_ret
        exact ⟨⟨b, rfl, by rw [HBI.out]; exact ⟨fun h => ⟨HCUT.out, HIS.out, h⟩, fun h => h.2.2⟩⟩, HB3.out⟩
      · have HO := hidden (FOf_isnt (r.extract 0 N) _ hsz.out (by rw [HSQ.out]; exact hi) HT1.out)
        have hno : Hid (¬ Sm.Form t.data.toList) := hidden (fun h => hi h.2.1)
        clear hi
        go_wp2_with fail
        refine HO.out.mono ?_
        rintro e' w1 ⟨⟨v, rfl⟩, hb1⟩
        have HB2 := hidden (Sm.on2 HB1.out hb1)
        clear hb1
        go_wp2_with fail
        go_ret
        exact ⟨⟨false, rfl, by simp [hno.out]⟩, HB2.out⟩
set_option maxHeartbeats 1000000 in
theorem smLoad_any (s t : ByteArray) (w : World) (hs : s.size ≤ 9223372036854775807) (ht : t.size ≤ 9223372036854775807) (hT : Tab w) :
    Calls Tryz.prog 12 #[.string s, .string t] w fun e w' => SmLoaded s t e w' ∧ Below w.heap.size w w' := by
  have HM := hidden (smMake_any s w hs hT)
  have HT := hidden hT
  have HF := hidden (fun w' hT => smFormed_any t w' ht hT)
  clear hT
  go_enter Tryz.func12, Tryz.ntmps12
  go_wp2_with fail
  refine HM.out.mono ?_
  rintro e' w1 ⟨hm, hb1⟩
  have HB1 := hidden hb1
  have HT1 := hidden (HT.out.below hb1 (Nat.le_refl _))
  clear hb1
  rcases hm with ⟨he, rfl⟩ | ⟨he, p, rfl, hx⟩
  · obtain ⟨x, hx⟩ : ∃ x, x = Sm.er s.data.toList := ⟨_, rfl⟩
    have HE : Hid (Sm.er s.data.toList ≠ 0) := hidden he
    have HX := hidden hx
    rw [← hx] at he ⊢
    have hx2 : (x != 0) = true := by simpa using he
    clear hx
    go_wp2_with fail
    go_ret2
    exact ⟨.inl ⟨HE.out, by rw [HX.out]; rfl⟩, HB1.out⟩
  · have HE := hidden he
    have HX := hidden hx
    have HBY := hidden (hx.bytes w1 (Below.refl _ _))
    clear he hx
    obtain ⟨Y, hY⟩ : ∃ Y : ByteArray, Y = ⟨(Sm.ixB s.data.toList).toArray⟩ := ⟨_, rfl⟩
    have HY : Hid (Y.data.toList = Sm.ixB s.data.toList) := hidden (by rw [hY])
    rw [← hY] at HBY
    clear hY
    go_wp2_with fail
    refine HBY.out.mono ?_
    rintro e' w2 ⟨rfl, hb2⟩
    have HB2 := hidden (Sm.on2 HB1.out hb2)
    have HT2 := hidden (HT1.out.below hb2 (Nat.le_refl _))
    have HX2 := hidden (HX.out.later hb2)
    clear hb2
    by_cases heq : t.data.toList = Sm.ixB s.data.toList
    · have e1 : (Y.toList == t.toList) = true := by
        rw [beq_iff_eq, Go.ByteArray.toList_eq, Go.ByteArray.toList_eq, HY.out, heq]
      have HEQ := hidden heq
      clear heq
      go_wp2_with fail
      go_ret2
      exact ⟨.inr (.inr (.inr ⟨HE.out, HEQ.out, p, rfl, HX2.out⟩)), HB2.out⟩
    · have e1 : (Y.toList == t.toList) = false := by
        rw [beq_eq_false_iff_ne, Go.ByteArray.toList_eq, Go.ByteArray.toList_eq, HY.out]
        exact fun h => heq h.symm
      have HNE : Hid (t.data.toList ≠ Sm.ixB s.data.toList) := hidden heq
      clear heq
      go_wp2_with fail
      refine (HF.out w2 HT2.out).mono ?_
      rintro e' w3 ⟨⟨b, rfl, hb⟩, hb3⟩
      have HB3 := hidden (Sm.on2 HB2.out hb3)
      have HBI := hidden hb
      clear hb hb3
      cases b with
      | true =>
        go_wp2_with fail
        go_ret2
        exact ⟨.inr (.inr (.inl ⟨HE.out, (by have h := HBI.out; simpa using h), HNE.out, rfl⟩)), HB3.out⟩
      | false =>
        go_wp2_with fail
        go_ret2
        exact ⟨.inr (.inl ⟨HE.out, (by have h := HBI.out; simpa using h), rfl⟩), HB3.out⟩
end Go.Proofs.YtoipliflphbeiaaGreatDoor
