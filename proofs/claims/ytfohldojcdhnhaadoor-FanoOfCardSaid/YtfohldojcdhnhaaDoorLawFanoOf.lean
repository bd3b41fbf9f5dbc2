/-
  The walk of the law FanoOf: it returns true for all strings; nothing that was there is changed.
-/
import Derived.Test.YtfohldojcdhnhaaDoorLawFanoBytes
import Derived.Test.YtfohldojcdhnhaaDoorJFnIs
namespace Go.Proofs.YtfohldojcdhnhaaDoor
open Go.RowKit
namespace Fn
theorem take_next (l : List Nat) (k : Nat) (h : k < l.length) : nvals (ints (l.take (k + 1))) = nvals (ints (l.take k)) ++ [.int .i64 ((l.getD k 0 : Nat) : Int)] := by
  have e : l.take (k + 1) = l.take k ++ [l.getD k 0] := by
    rw [List.take_add_one, List.getD_eq_getElem?_getD, List.getElem?_eq_getElem h]
    rfl
  rw [e]
  simp [nvals, ints]
theorem str_of {s : ByteArray} {m X : Nat} {l : List Nat} {u : Nat} (h : Bt.ofB s.data.toList = some (m, X)) (hr : Reads X m l u) : (⟨(Bt.rowB (allB l u).length (Bt.num (allB l u))).toArray⟩ : ByteArray) = s := by
  obtain ⟨h1, h2, h3⟩ := Bt.ofB_some h
  obtain ⟨e1, e2⟩ := hr.own h2
  rw [e1, e2, ← h3]
end Fn
set_option maxHeartbeats 1000000 in
theorem FanoOf_long (s : ByteArray) (w : World) (hs : s.size ≤ 9223372036854775807) (h4 : 400 < s.size) (hT : Tab w) :
    Calls Tryd.prog 6 #[.string s] w fun e w' => e = .returned (.bool true) ∧ Below w.heap.size w w' := by
  have HT := hidden hT
  clear hT
  go_enter Tryd.func6, Tryd.ntmps6
  go_wp2_with fail
  refine (awake5_any w HT.out).mono ?_
  rintro e' w1 ⟨rfl, hq1⟩
  have HQ1 := hidden hq1
  clear hq1
  go_wp2_with fail
  refine (awake5_any w1 (HT.out.after HQ1.out)).mono ?_
  rintro e' w3 ⟨rfl, hq3⟩
  have HQ3 := hidden (below_after HQ1.out hq3)
  clear hq3
  go_wp2_with fail
  go_ret
  exact ⟨rfl, HQ3.out⟩
set_option maxHeartbeats 1000000 in
theorem FanoOf_no (s : ByteArray) (w : World) (h4 : s.size ≤ 400) (hT : Tab w) (hno : ¬ Fn.IsOf s.data.toList) :
    Calls Tryd.prog 6 #[.string s] w fun e w' => e = .returned (.bool true) ∧ Below w.heap.size w w' := by
  have HT := hidden hT
  have HNO := hidden hno
  have HFO : Hid (∀ w, Tab w → Calls Tryd.prog 26 #[.string s] w fun e w' => e = .returned (.tuple #[.pointer none, .int .i64 3]) ∧ Below w.heap.size w w') := by
    intro w hT
    cases hc : Bt.ofB s.data.toList with
    | none => exact FOf_none s w (by omega) hc
    | some p =>
      obtain ⟨m, X⟩ := p
      exact FOf_no s X m w (by omega) hc (fun l u hr => hno ⟨m, X, l, u, hc, hr⟩) hT
  have HIS := hidden (fun w => Is5_any s w h4)
  clear hT hno
  go_enter Tryd.func6, Tryd.ntmps6
  go_wp2_with fail
  refine (awake5_any w HT.out).mono ?_
  rintro e' w1 ⟨rfl, hq1⟩
  have HQ1 := hidden hq1
  clear hq1
  go_wp2_with fail
  refine (HFO.out _ (HT.out.after HQ1.out)).mono ?_
  rintro e' w2 ⟨rfl, hq2⟩
  have HQ2 := hidden (below_after HQ1.out hq2)
  clear hq2
  go_wp2_with fail
  refine (HIS.out _).mono ?_
  rintro e' w3 ⟨⟨r, rfl, hr⟩, hq3⟩
  obtain rfl : r = false := by
    cases r
    · rfl
    · exact absurd (hr.1 rfl) HNO.out
  have HQ3 := hidden (below_after HQ2.out hq3)
  clear hq3 hr
  go_wp2_with fail
  go_ret
  exact ⟨rfl, HQ3.out⟩
set_option maxHeartbeats 2000000 in
set_option maxRecDepth 100000 in
theorem FanoOf_yes (s : ByteArray) (X m : Nat) (l : List Nat) (u : Nat) (w : World) (h4 : s.size ≤ 400) (hT : Tab w) (hof : Bt.ofB s.data.toList = some (m, X)) (hr : Fn.Reads X m l u) :
    Calls Tryd.prog 6 #[.string s] w fun e w' => e = .returned (.bool true) ∧ Below w.heap.size w w' := by
  obtain ⟨i0, hi, hz0, hz1, hz2⟩ := info_parts Tryd.infoI
  have HT := hidden hT
  have HFO := hidden (fun w hT => FOf_yes s X m l u w (by omega) hof hr hT)
  have HIS := hidden (fun w => Is5_any s w h4)
  have HYES : Hid (Fn.IsOf s.data.toList) := ⟨m, X, l, u, hof, hr⟩
  have hlen := hr.len
  have hm : m ≤ 3200 := by have := ofB_length hof; omega
  have hNl : l.length ≤ 3200 := by unfold Fn.highs at hlen; omega
  have hstr := Fn.str_of hof hr
  have OK := hidden hr.ok
  have HSB := hidden (fun p q w (h : Sq w p l u q) => SBytes_any p u l q w h (by omega))
  have HRF := hidden (fun v w (h : Ints w v (Fn.ints l)) => rFBytes_any l u v w h hr.ok (by omega))
  have HRI := hidden (fun v w (h : Ints w v (Fn.ints l)) => Right_big (Fn.ints l) (u : Int) v w h (by rw [Fn.ints_length]; omega))
  rw [hstr] at HSB HRF
  have hu := hr.ok.le
  have HOI := hidden hr.ok.int
  obtain ⟨N, hN⟩ : ∃ N, N = l.length := ⟨_, rfl⟩
  rw [← hN] at hNl
  have HN := hidden hN
  clear hT hof hr hlen hstr hN
  go_enter Tryd.func6, Tryd.ntmps6
  go_wp2_with fail
  refine (awake5_any w HT.out).mono ?_
  rintro e' w1 ⟨rfl, hq1⟩
  have HQ1 := hidden hq1
  clear hq1
  go_wp2_with fail
  refine (HFO.out _ (HT.out.after HQ1.out)).mono ?_
  rintro e' w2 ⟨p, q, rfl, hsq, hq2⟩
  have HS := hidden hsq
  have HQ2 := hidden (below_after HQ1.out hq2)
  clear hsq hq2
  go_wp2_with fail
  go_loopw [5, 6] (fun lv i wr => ∃ k : Nat, k ≤ N ∧ i = .int .i64 k ∧ wr.ownsRow w2.heap.size 3 1 lv k (Fn.nvals (Fn.ints (l.take k))) ∧ Below w2.heap.size w2 wr) (fun _ i _ => N - (intOf i).toNat)
  case atStart => exact ⟨0, by omega, rfl, World.ownsRow_nil _ _ _ _, Below.refl _ _⟩
  case round =>
    obtain ⟨k, hk, rfl, hown, hbel⟩ := hrel
    have HOV := hidden hown
    have HBR := hidden hbel
    have hsz := hbel.size
    have HSr := hidden (HS.out.after hbel)
    have HTr := hidden (HT.out.after (below_after HQ2.out hbel))
    clear hown hbel
    have HSL := hidden (SLen_any p u l q wr HSr.out)
    rw [← HN.out] at HSL
    by_cases hlt : k < N
    · have hkl : k < l.length := by rw [← HN.out]; exact hlt
      have HG := hidden (SGet_in p u k (k : Int) l q wr HSr.out HTr.out hkl rfl)
      have HTN := hidden (Fn.take_next l k hkl)
      obtain ⟨x, hx⟩ : ∃ x, x = l.getD k 0 := ⟨_, rfl⟩
      rw [← hx] at HG HTN
      clear hkl hx
      go_wp2_with fail
      refine (HSL.out).mono ?_
      rintro e' w3 ⟨rfl, rfl⟩
      go_wp2_with fail
      refine (HG.out).mono ?_
      rintro e' w4 ⟨rfl, hb4⟩
      have HB4 := hidden (below_after HBR.out hb4)
      have HO4 := hidden (own_below HOV.out hb4 (Nat.le_refl _))
      have hs4 := HB4.out.size
      clear hb4
      go_wp2_with (at_builtin; refine wpList_append_one _ rfl (.tmp 51) (.tmp 53) 22 rfl w2.heap.size 3 i0 (.int .i64 0) 8 Tryd.underlying22 hi hz0 hz1 hz2 rfl u5 k (Fn.nvals (Fn.ints (l.take k))) rfl (by exact HO4.out.alloc _) _ 1 (.int .i64 (x : Nat)) _ rfl (by exact heap_alloc_new _ _) rfl (by unfold maxLen; omega) (by omega) (by simp; omega) ?_; intro v5 w5 hown5 hgrow5; have HO5 := hidden hown5; have HB5 := hidden ((HB4.out.alloc hs4 _).grown hgrow5 (by simp; omega) (fun j hj => (HO4.out.lt j hj).1)); clear hown5 hgrow5)
      go_roundw
      case rel => exact ⟨k + 1, by omega, by go_num, by rw [HTN.out]; exact HO5.out, HB5.out⟩
      case measure => simp [intOf]; omega
    · obtain rfl : k = N := by omega
      have hIn : Ints wr u5 (Fn.ints l) := by
        have e := HOV.out
        rw [List.take_of_length_le (by rw [← HN.out]; exact Nat.le_refl _)] at e
        exact Ints.of_nown e (by rw [Fn.ints_length, ← HN.out])
      have HI := hidden hIn
      have HBE := hidden (below_after HQ2.out HBR.out)
      clear hIn HFO
      go_wp2_with fail
      refine (HSL.out).mono ?_
      rintro e' w3 ⟨rfl, rfl⟩
      go_wp2_with fail
      refine (HSB.out p q _ HSr.out).mono ?_
      rintro e' w4 ⟨rfl, hb4⟩
      have HS4 := hidden (HSr.out.after hb4)
      have HI4 := hidden (HI.out.after hb4)
      have B4 := hidden (below_after HBE.out hb4)
      clear hb4
      go_wp2_with fail
      refine (SBound_any p u l q w4 HS4.out).mono ?_
      rintro e' w5 ⟨rfl, rfl⟩
      go_wp2_with fail
      refine (HRI.out _ _ HI4.out).mono ?_
      rintro e' w6 ⟨⟨r, rfl, hr⟩, mm, rfl⟩
      obtain rfl : r = true := hr.2 HOI.out
      have HS6 := hidden (HS4.out.after (below_drewN (Below.refl _ _) mm))
      have HI6 := hidden (HI4.out.after (below_drewN (Below.refl _ _) mm))
      have B6 := hidden (below_drewN B4.out mm)
      clear hr
      go_wp2_with fail
      refine (SBound_any p u l q _ HS6.out).mono ?_
      rintro e' w7 ⟨rfl, rfl⟩
      go_wp2_with fail
      refine (HRF.out _ _ HI6.out).mono ?_
      rintro e' w8 ⟨rfl, hb8⟩
      have B8 := hidden (below_after B6.out hb8)
      clear hb8
      go_wp2_with fail
      refine (HIS.out _).mono ?_
      rintro e' w9 ⟨⟨r, rfl, hr⟩, hb9⟩
      obtain rfl : r = true := hr.2 HYES.out
      have B9 := hidden (below_after B8.out hb9)
      clear hr hb9
      go_wp2_with fail
      go_ret
      exact ⟨rfl, B9.out⟩
theorem FanoOf_walk (s : ByteArray) (w : World) (hs : s.size ≤ 9223372036854775807) (hT : Tab w) :
    Calls Tryd.prog 6 #[.string s] w fun e w' => e = .returned (.bool true) ∧ Below w.heap.size w w' := by
  by_cases h4 : s.size ≤ 400
  · by_cases hno : Fn.IsOf s.data.toList
    · obtain ⟨m, X, l, u, hof, hr⟩ := hno
      exact FanoOf_yes s X m l u w h4 hT hof hr
    · exact FanoOf_no s w h4 hT hno
  · exact FanoOf_long s w hs (by omega) hT
end Go.Proofs.YtfohldojcdhnhaaDoor
