/-
  The walk of the law MarksBalanced: it returns true for every string; nothing that was there is changed.
-/
import Derived.Test.YtifkemcjificcaaMkAwake
import Derived.Test.YtifkemcjificcaaJsRefT
namespace Go.Proofs.Ytifkemcjificcaa
open Go.RowKit
theorem mkb_ok (i D : Int) (o : Bool) (w : World) : (Instr.field 32 (.agg #[.int .i64 i, .bool o, .int .i64 D]) 1).run Try.prog w = .ok (.bool o) w := by kernel_rfl
namespace Mk
theorem app_data3 (s t : ByteArray) : (s ++ t).data.toList = s.data.toList ++ t.data.toList := by
  rw [ByteArray.data_append, Array.toList_append]
theorem cut_data (s : ByteArray) (f p : Nat) : (s.extract f p).data.toList = (s.data.toList.drop f).take (p - f) := by
  obtain ⟨⟨l⟩⟩ := s
  rw [ByteArray.extract_mk]
theorem sp_len (l : List UInt8) : ∀ q, (sp q l).length ≤ 3 * l.length := by
  induction l with
  | nil => intro q; exact Nat.le_refl _
  | cons b l ih =>
    intro q
    rw [List.length_cons]
    by_cases hm : q = 0 ∧ isM b.toNat = true
    · obtain ⟨rfl, hm⟩ := hm
      rw [sp_mark b l hm]
      have := ih 0
      show (sp 0 l).length + 1 + 1 + 1 ≤ _
      omega
    · rw [sp_other q b l hm]
      have := ih (st q b.toNat)
      show (sp _ l).length + 1 ≤ _
      omega
/-- Where the law's text stands: behind the mark ahead of f, with what is left of the marks. -/
structure Bs (l : List UInt8) (ps : List Nat) (f : Nat) (t : List UInt8) : Prop where
  le : f ≤ l.length
  out : run 0 (l.take f) = 0
  left : ps = pl 0 f (l.drop f)
  text : t = sp 0 (l.take f)
theorem Bs.start (l : List UInt8) : Bs l (pl 0 0 l) 0 [] := ⟨Nat.zero_le _, rfl, rfl, rfl⟩
theorem Bs.step {l : List UInt8} {p : Nat} {ps : List Nat} {f : Nat} {t : List UInt8} (h : Bs l (p :: ps) f t) :
    f ≤ p ∧ p < l.length ∧ Bs l ps (p + 1) (t ++ ((l.drop f).take (p - f) ++ ([32] ++ ((l.drop p).take (p + 1 - p) ++ [10])))) := by
  obtain ⟨a, b, r, h1, h2, h3, h4, h5, h6⟩ := pl_cons _ _ _ _ _ h.left.symm
  have hf := h.le
  have hlen : (l.drop f).length = a.length + (r.length + 1) := by rw [h1, List.length_append, List.length_cons]
  rw [List.length_drop] at hlen
  have hp : p < l.length := by omega
  have hfa : l.take f ++ a = l.take p := by
    have e : l.take p = l.take f ++ (l.drop f).take a.length := by
      rw [h2, List.take_add]
    rw [e, h1, List.take_left]
  have hdp : l.drop p = b :: r := by
    rw [h2, ← List.drop_drop, h1, List.drop_left]
  have htp : l.take (p + 1) = l.take f ++ (a ++ [b]) := by
    rw [List.take_add, hfa.symm, hdp, List.append_assoc]
    rfl
  have hrun : run 0 (a ++ [b]) = 0 := by
    rw [run_app, h4]
    exact st_mark _ h5
  refine ⟨by omega, hp, by omega, ?_, ?_, ?_⟩
  · rw [htp, run_app, h.out, hrun]
  · rw [h6, ← List.drop_drop, hdp]
    rfl
  · rw [htp, sp_app, h.out, sp_app, (sp_none a 0 f h3).1, h4, sp_mark b [] h5, ← h.text, hdp, h1, show p - f = a.length by omega, List.take_left, show p + 1 - p = 1 by omega]
    rfl
theorem Bs.finish {l : List UInt8} {f : Nat} {t : List UInt8} (h : Bs l [] f t) : t ++ l.drop f = sp 0 l := by
  have h1 := (sp_none (l.drop f) 0 f h.left.symm).1
  conv => rhs; rw [← List.take_append_drop f l, sp_app, h.out, h1, ← h.text]
end Mk
theorem MarksBalanced_long (s : ByteArray) (w : World) (hl : 600 < s.size) (hm : s.size ≤ 9223372036854775807) :
    Calls Try.prog 4 #[.string s] w fun e w' => e = .returned (.bool true) ∧ Below w.heap.size w w' := by
  have hlt : (600 : Int) < (s.size : Int) := by omega
  go_enter Try.func4, Try.ntmps4
  go_wp2_with fail
  refine (awake13_any w).mono ?_
  rintro e w1 ⟨rfl, h1⟩
  have HB1 := hidden h1
  clear h1
  go_wp2_with fail
  refine (awake13_any w1).mono ?_
  rintro e w2 ⟨rfl, h2⟩
  have HB2 := hidden (Mk.bel_then HB1.out h2)
  clear h2
  go_wp2_with fail
  go_ret
  exact ⟨rfl, HB2.out⟩
set_option maxHeartbeats 4000000 in
theorem MarksBalanced_text (s : ByteArray) (w : World) (hl : ¬ 600 < s.size) :
    Calls Try.prog 4 #[.string s] w fun e w' => e = .returned (.bool true) ∧ Below w.heap.size w w' := by
  have hlt : ¬ (600 : Int) < (s.size : Int) := by omega
  have hfd := mkb_ok
  have hlen : s.data.toList.length = s.size := rfl
  have HT := hidden (fun w => jText_any s w (by omega))
  have HKP := hidden (fun w => kPlaces_any s w (by omega))
  have HKB := hidden (fun w => kParens_any s w (by omega))
  have HTX := hidden (Mk.text_bal s.data.toList)
  have HPL : Hid ((Mk.pl 0 0 s.data.toList).length ≤ 600) := hidden (by
    have h1 := Mk.pl_le s.data.toList 0 0
    omega)
  have HLL := hidden (Mk.bs_len s.data.toList 0 0)
  have HBST := hidden (Mk.Bs.start s.data.toList)
  have HSPL : Hid (∀ f, (Mk.sp 0 (s.data.toList.take f)).length ≤ 1800) := hidden fun f => by
    have h1 := Mk.sp_len (s.data.toList.take f) 0
    rw [List.length_take] at h1
    omega
  have HSPA : Hid ((Mk.sp 0 s.data.toList).length ≤ 1800) := hidden (by
    have h1 := Mk.sp_len s.data.toList 0
    omega)
  have HBSP := hidden (Mk.bs_sp s.data.toList 0)
  obtain ⟨P, hP⟩ : ∃ P, P = Mk.pl 0 0 s.data.toList := ⟨_, rfl⟩
  obtain ⟨X, hX⟩ : ∃ X, X = Mk.bs 0 s.data.toList := ⟨_, rfl⟩
  rw [← hP] at HKP HPL HLL HBST
  rw [← hX] at HKB HLL HTX HBSP
  have hpl := HPL.out
  clear hlen hP hX
  go_enter Try.func4, Try.ntmps4
  go_wp2_with fail
  refine (awake13_any w).mono ?_
  rintro e w1 ⟨rfl, h1⟩
  have HB1 := hidden h1
  clear h1
  go_wp2_with fail
  refine (HT.out w1).mono ?_
  rintro e w2 ⟨⟨q, D, rfl, hD, ho⟩ | ⟨q, D, rfl, hq, ho⟩, h2⟩
  · have HB2 := hidden (Mk.bel_then HB1.out h2)
    have HO := hidden (HTX.out D ho)
    clear h2 ho
    unfold rv
    go_wp2_with fail
    refine (HKP.out _).mono ?_
    rintro e w3 ⟨⟨v3, rfl, hv3⟩, h3⟩
    have HV3 := hidden hv3
    have HB3 := hidden (Mk.bel_then HB2.out h3)
    clear h3 hv3
    go_wp2_with fail
    refine (HKB.out _).mono ?_
    rintro e w4 ⟨⟨v4, rfl, hv4⟩, h4⟩
    have HV4 := hidden hv4
    have HB4 := hidden (Mk.bel_then HB3.out h4)
    obtain ⟨ao, ca, rfl, hca, hfa⟩ := (HV3.out.kept h4).get rfl
    have HFA := hidden hfa
    clear h4 hv4 hfa HV3
    go_wp2_with fail
    go_loopw [5, 6, 7] (fun t f i wr => ∃ (j fr : Nat) (B : ByteArray), j ≤ P.length ∧ i = .int .i64 (j : Nat) ∧ f = .int .i64 (fr : Nat) ∧ t = .string B ∧ Mk.Bs s.data.toList (P.drop j) fr B.data.toList ∧ Below w4.heap.size w4 wr) (fun _ _ i _ => P.length - (intOf i).toNat)
    case atStart => exact ⟨0, 0, ⟨#[]⟩, Nat.zero_le _, rfl, rfl, rfl, HBST.out, Below.refl _ _⟩
    case round =>
      obtain ⟨j, fr, B, hj, rfl, rfl, rfl, hbs, hb⟩ := hrel
      have HBS := hidden hbs
      have HB := hidden hb
      have hBsz : B.size ≤ 1800 := by
        show B.data.toList.length ≤ 1800
        rw [hbs.text]
        exact HSPL.out fr
      have hfr : fr ≤ s.size := hbs.le
      clear hbs hb
      by_cases hlt3 : j < P.length
      · have hltd : decide ((j : Int) < ((P.length : Nat) : Int)) = true := decide_eq_true (by omega)
        obtain ⟨g, rfl, hg, hga⟩ := HFA.out (by omega)
        have c1 := (HB.out.cell (p := ⟨g, j, none⟩) hg).trans (hga j hlt3)
        have hdr : P.drop j = P.getD j 0 :: P.drop (j + 1) := by
          rw [List.drop_eq_getElem_cons hlt3, List.getD_eq_getElem?_getD, List.getElem?_eq_getElem hlt3]
          rfl
        have hst := HBS.out
        rw [hdr] at hst
        obtain ⟨p, hp⟩ : ∃ p, p = P.getD j 0 := ⟨_, rfl⟩
        rw [← hp] at c1 hst
        obtain ⟨hfp, hps, hnx⟩ := hst.step
        have hps2 : p < s.size := hps
        obtain ⟨y, hy⟩ : ∃ y, y = p + 1 := ⟨_, rfl⟩
        have hy2 : (p : Int) + 1 = (y : Int) := by omega
        have hys : y ≤ s.size := by omega
        rw [← hy] at hnx
        have HNX := hidden hnx
        have hpy : p ≤ y := by omega
        have z1 : (s.extract fr p).size = p - fr := by rw [ByteArray.size_extract]; omega
        have z2 : (s.extract p y).size = 1 := by rw [ByteArray.size_extract]; omega
        have HY := hidden hy
        have hyw : IntKind.i64.wrap (y : Int) = (y : Int) := by rw [IntKind.wrap_i64]; omega
        clear hga hdr hst hp hps hnx hy
        go_wp2_with fail
        go_quiet (fail)
        go_wp2_with fail
        refine ⟨⟨j + 1, y, _, by omega, by go_num, rfl, rfl, ?_, drewN_below HB.out _⟩, by simp [intOf]; omega⟩
        have h9 := HNX.out
        rw [Mk.app_data3, Mk.app_data3, Mk.app_data3, Mk.app_data3, Mk.cut_data, Mk.cut_data, List.append_assoc, List.append_assoc]
        exact h9
      · obtain rfl : j = P.length := by omega
        have hltd : decide (((P.length : Nat) : Int) < ((P.length : Nat) : Int)) = false := decide_eq_false (by omega)
        have hbs := HBS.out
        rw [List.drop_length] at hbs
        have hfin := hbs.finish
        obtain ⟨T, hT⟩ : ∃ T, T = B ++ s.extract fr s.size := ⟨_, rfl⟩
        have hTd : T.data.toList = Mk.sp 0 s.data.toList := by
          rw [hT, Mk.app_data3, Mk.cut_data, List.take_of_length_le (by rw [List.length_drop]; exact Nat.le_refl _)]
          exact hfin
        have hTs : T.size ≤ 1800 := by
          show T.data.toList.length ≤ 1800
          rw [hTd]
          exact HSPA.out
        have hTT := hT.symm
        have z1 : (s.extract fr s.size).size = s.size - fr := by rw [ByteArray.size_extract]; omega
        have HKX := hidden (fun w => kParens_any T w (by omega))
        have HTX2 := hidden (fun w => jText_any T w (by omega))
        have HTP : Hid ((Js.out Js.c0 T.data.toList).1 = some D) := hidden (by rw [hTd]; exact HO.out.2.2)
        have HBE : Hid (Mk.bs 0 T.data.toList = X) := hidden (by rw [hTd]; exact HBSP.out)
        have e0 : (((X.length : Nat) : Int) == 2 * ((P.length : Nat) : Int)) = true := by rw [HLL.out]; simp
        have hw0 : IntKind.i64.wrap (2 * ((P.length : Nat) : Int)) = 2 * ((P.length : Nat) : Int) := by rw [IntKind.wrap_i64]; omega
        have HXL : Hid (X.length ≤ 1200) := hidden (by rw [HLL.out]; omega)
        have HBW := hidden (Mk.bel_then HB4.out HB.out)
        have HV5 := hidden (HV4.out.kept HB.out)
        obtain ⟨bo, cb, rfl, hcb, _⟩ := HV4.out.get rfl
        rw [HBE.out] at HKX
        clear hbs hfin hT hTd HB HBS HFA
        go_wp2_with fail
        refine (mBalanced_any X (.slice bo X.length cb) _ wr HV5.out (by have := HXL.out; omega)).mono ?_
        rintro e w5 ⟨rfl, hw⟩
        have hw := hw.symm
        subst hw
        rw [HO.out.2.1]
        go_wp2_with fail
        refine (HKX.out _).mono ?_
        rintro e w6 ⟨⟨v6, rfl, hv6⟩, h6⟩
        have HV6 := hidden hv6
        have HV5b := hidden (HV5.out.kept h6)
        have HB6 := hidden (Mk.bel_then HBW.out h6)
        clear h6 hv6
        go_wp2_with fail
        refine (mSameBits_any X X (.slice bo X.length cb) v6 _ _ w6 HV5b.out HV6.out (by have := HXL.out; omega) (by have := HXL.out; omega)).mono ?_
        rintro e w7 ⟨rfl, h7⟩
        rw [decide_eq_true rfl]
        have HB7 := hidden (Mk.bel_then HB6.out h7)
        clear h7
        go_wp2_with fail
        refine (HTX2.out _).mono ?_
        rintro e w8 ⟨⟨q8, D8, rfl, _, ho8⟩ | ⟨q8, D8, rfl, _, ho8⟩, h8⟩
        · have HB8 := hidden (Mk.bel_then HB7.out h8)
          clear h8 ho8
          unfold rv
          go_wp2_with fail
          go_ret
          exact ⟨rfl, HB8.out⟩
        · exfalso
          have h9 := HTP.out
          rw [ho8] at h9
          cases h9
  · have HB2 := hidden (Mk.bel_then HB1.out h2)
    clear h2 ho
    unfold rv
    go_wp2_with fail
    refine (awake13_any _).mono ?_
    rintro e w3 ⟨rfl, h3⟩
    have HB3 := hidden (Mk.bel_then HB2.out h3)
    clear h3
    go_wp2_with fail
    go_ret
    exact ⟨rfl, HB3.out⟩
theorem MarksBalanced_walk (s : ByteArray) (w : World) (hm : s.size ≤ 9223372036854775807) :
    Calls Try.prog 4 #[.string s] w fun e w' => e = .returned (.bool true) ∧ Below w.heap.size w w' := by
  by_cases hl : 600 < s.size
  · exact MarksBalanced_long s w hl hm
  · exact MarksBalanced_text s w hl
end Go.Proofs.Ytifkemcjificcaa
