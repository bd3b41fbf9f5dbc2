/-
  The contract of package semi's Make: of every string its index, or what is wrong with it; nothing that was there is changed.
-/
import Derived.Test.YtoipliflphbeiaaGreatDoorSmIdx
import Derived.Test.YtoipliflphbeiaaGreatDoorJSc
import Derived.Test.YtoipliflphbeiaaGreatDoorC11
import Derived.Test.YtoipliflphbeiaaGreatDoorJFnMake
import Derived.Test.YtoipliflphbeiaaGreatDoorJJsRef
import Derived.Test.YtoipliflphbeiaaGreatDoorSmKept
namespace Go.Proofs.YtoipliflphbeiaaGreatDoor
open Go.RowKit
theorem smWrong_any (s : ByteArray) (w : World) (hs : s.size ≤ 9223372036854775807) :
    Calls Tryz.prog 24 #[.string s] w fun e w' => e = .returned (.int .i64 (Sm.er s.data.toList)) ∧ Below w.heap.size w w' := by
  have HV := hidden (sValidate_any s 4096 w hs)
  rw [Js.ansV_in _ _ (by decide) (by decide), Js.ansP_in _ _ (by decide) (by decide), Js.ansE_in _ (by decide) (by decide)] at HV
  generalize (Js.val s.data.toList 4096).2 = y at *
  rcases Sm.er_val s.data.toList with ⟨h1, h2⟩ | ⟨h1, h2⟩ | ⟨h1, h2⟩ | ⟨h1, h2⟩
  all_goals
    rw [h1] at HV
    rw [h2]
    clear h1 h2 hs
    go_enter Tryz.func24, Tryz.ntmps24
    go_wp2_with fail
    refine HV.out.mono ?_
    rintro e' w1 ⟨rfl, hb⟩
    have HB := hidden hb
    clear hb
    go_wp2_with fail
    go_ret
    exact ⟨rfl, HB.out⟩
/-- A list of numbers that is owned, told as one that came in. -/
theorem Sm.li_ints {w : World} {B : Nat} {v : Value} {l : List Nat} (h : Mk.Li w B v l) : Ints w v (Fn.ints l) := by
  obtain ⟨ao, cap, hv, hc, hf⟩ := h.get rfl
  refine ⟨⟨ao, cap, by rw [Fn.ints_length]; exact hv, by rw [Fn.ints_length]; exact hc, fun h0 => ?_⟩⟩
  rw [Fn.ints_length] at h0
  obtain ⟨g, hg, hlt, hcell⟩ := hf h0
  refine ⟨g, 0, hg, hlt, fun j hj => ?_⟩
  rw [Fn.ints_length] at hj
  rw [Nat.zero_add, Fn.ints_getD]
  exact hcell j hj
/-- What survey hands back. -/
structure Sv (w : World) (l : List UInt8) (K : Sm.K) : Prop where
  seq : Sq w K.s (Sm.P l) (Sm.bd l) K.q
  row : Rw w K.r (Sm.B l).length (Bt.num (Sm.B l)) K.u
  nest : Nt w K.z (Sm.B l).length (Bt.num (Sm.B l)) K.k
def SvPost (l : List UInt8) (e : Ending) (w' : World) : Prop := ∃ K, e = .returned (.agg #[.pointer (some ⟨K.s, 0, none⟩), .pointer (some ⟨K.r, 0, none⟩), .pointer (some ⟨K.z, 0, none⟩)]) ∧ Sv w' l K
theorem Sm.oddP : Odd 50 := ⟨by decide, by decide, by decide, by decide, by decide, by decide, by decide, by decide, by decide, by decide, by decide⟩
theorem Sm.sizeP : (Tryz.prog.info? 50).map (·.size) = some 3 := by kernel_rfl
set_option maxHeartbeats 1000000 in
theorem smSurvey_any (s : ByteArray) (w : World) (he : Sm.er s.data.toList = 0) (hT : Tab w) :
    Calls Tryz.prog 25 #[.string s] w fun e w' => SvPost s.data.toList e w' ∧ Below w.heap.size w w' := by
  have hl := (Sm.er_zero he).1
  have hlen : s.data.toList.length = s.size := rfl
  rw [hlen] at hl
  have hP := Sm.len_le s.data.toList
  rw [hlen] at hP
  have HOK := hidden (Sm.ok s.data.toList hl)
  have HBAL := hidden (Sm.bal he)
  have HBL := hidden (Sm.B_len s.data.toList)
  have HT := hidden hT
  have HP := hidden (fun w' => kPlaces_any s w' (by omega))
  have HQ := hidden (fun w' => kParens_any s w' (by omega))
  have hpl : Mk.pl 0 0 s.data.toList = Sm.P s.data.toList := rfl
  have hbs : Mk.bs 0 s.data.toList = Sm.B s.data.toList := rfl
  have HBD : Hid ((0 < (Sm.P s.data.toList).length → Sm.bd s.data.toList = s.size) ∧ ((Sm.P s.data.toList).length = 0 → Sm.bd s.data.toList = 1)) := hidden ⟨fun h => Sm.bd_some h, fun h => Sm.bd_none h⟩
  rw [hpl] at HP
  rw [hbs] at HQ
  clear he hT hlen hpl hbs
  go_enter Tryz.func25, Tryz.ntmps25
  go_wp2_with fail
  obtain ⟨w0, hw0⟩ : ∃ w0, w0 = w.alloc (.cells #[.pointer none, .pointer none, .pointer none] 50) := ⟨_, rfl⟩
  rw [← hw0]
  have hg0 : w0.heap[w.heap.size]? = some (.cells #[.pointer none, .pointer none, .pointer none] 50 (0, 0)) := by rw [hw0]; exact heap_alloc_new _ _
  have hb0 : Below w.heap.size w w0 := by rw [hw0]; exact (Below.refl _ _).alloc (Nat.le_refl _) _
  have hlt0 := lt_of_block hg0
  clear hw0
  refine (HP.out w0).mono ?_
  rintro e' w1 ⟨⟨v, rfl, hv⟩, hb1⟩
  obtain ⟨ao, cap, hvf, hcap, _⟩ := hv.get rfl
  have HI := hidden (Sm.li_ints hv)
  have HT1 := hidden ((HT.out.below hb0 (Nat.le_refl _)).below hb1 (Nat.le_refl _))
  have HB1 := hidden (Sm.on2 hb0 hb1)
  have HG1 : Hid (w1.heap[w.heap.size]? = some (.cells #[.pointer none, .pointer none, .pointer none] 50 (0, 0))) := hidden ((hb1.block _ hlt0).trans hg0)
  clear hv hb1 hg0 hlt0 hb0 HP
  subst hvf
  obtain ⟨bd, hbd⟩ : ∃ bd, bd = Sm.bd s.data.toList := ⟨_, rfl⟩
  have HMK : Hid (Calls Tryz.prog 54 #[.slice ao (Sm.P s.data.toList).length cap, .int .i64 (bd : Nat)] w1 fun e w' => ∃ s' q, e = .returned (.tuple #[.pointer (some ⟨s', 0, none⟩), .int .i64 0]) ∧ Sq w' s' (Sm.P s.data.toList) (Sm.bd s.data.toList) q ∧ Below w1.heap.size w1 w') := hidden (by
    rw [hbd]
    exact Make_ok _ _ _ w1 HI.out HOK.out HT1.out)
  rw [← hbd] at HBD
  clear HI
  generalize (Sm.P s.data.toList).length = n at *
  by_cases h0 : 0 < n
  · have hb2 : bd = s.size := HBD.out.1 h0
    subst hb2
    clear hbd HBD
    go_wp2_with fail
    refine HMK.out.mono ?_
    rintro e' w2 ⟨ps, q, rfl, hsq, hb2⟩
    have HB2 := hidden (Sm.on2 HB1.out hb2)
    have HS2 := hidden hsq
    have HT2 := hidden (HT1.out.below hb2 (Nat.le_refl _))
    have HG2 := hidden ((hb2.block _ (lt_of_block HG1.out)).trans HG1.out)
    clear hsq hb2 HMK HB1 HT1 HG1
    go_wp2_with fail
    refine (HQ.out w2).mono ?_
    rintro e' w3 ⟨⟨v3, rfl, hv3⟩, hb3⟩
    have HB3 := hidden (Sm.on2 HB2.out hb3)
    have HS3 := hidden (HS2.out.below hb3 (Nat.le_refl _))
    have HT3 := hidden (HT2.out.below hb3 (Nat.le_refl _))
    have HG3 := hidden ((hb3.block _ (lt_of_block HG2.out)).trans HG2.out)
    have HV3 := hidden (Sm.lb_view hv3)
    clear hv3 hb3 HB2 HS2 HT2 HG2
    go_wp2_with fail
    refine (smRow_any _ v3 w3 HV3.out (by have := HBL.out; omega)).mono ?_
    rintro e' w4 ⟨r, u, rfl, hr4, hb4⟩
    have HB4 := hidden (Sm.on2 HB3.out hb4)
    have HS4 := hidden (HS3.out.below hb4 (Nat.le_refl _))
    have HT4 := hidden (HT3.out.below hb4 (Nat.le_refl _))
    have HG4 := hidden ((hb4.block _ (lt_of_block HG3.out)).trans HG3.out)
    have HR4 := hidden hr4
    clear hr4 hb4 HB3 HS3 HT3 HG3 HV3
    go_wp2_with fail
    refine (NNew_any r _ _ u w4 HR4.out HT4.out HBAL.out).mono ?_
    rintro e' w5 ⟨z, k, rfl, hn5, hb5⟩
    have HB5 := hidden (Sm.on2 HB4.out hb5)
    have HS5 := hidden (HS4.out.below hb5 (Nat.le_refl _))
    have HR5 := hidden (HR4.out.below hb5 (Nat.le_refl _))
    have hg5 := (hb5.block _ (lt_of_block HG4.out)).trans HG4.out
    have HN5 := hidden hn5
    obtain ⟨c0, f0, c1, f1, c2, f2⟩ := rv_open hg5
    have HG5 := hidden hg5
    clear hn5 hb5 hg5 HB4 HS4 HT4 HG4 HR4
    go_wp2_with fail
    refine bodyPost_ret (results_cell_row rfl _ _ w.heap.size 50 #[.pointer (some ⟨ps, 0, none⟩), .pointer (some ⟨r, 0, none⟩), .pointer (some ⟨z, 0, none⟩)] (0, 0) _ rfl ?_ Tryz.underlying50 rfl Sm.sizeP) rfl ?_
    · exact rv_cells HG5.out _ _ _
    have hk := Kt.rv HG5.out (.pointer (some ⟨ps, 0, none⟩)) (.pointer (some ⟨r, 0, none⟩)) (.pointer (some ⟨z, 0, none⟩))
    exact ⟨⟨⟨ps, r, z, q, u, k⟩, rfl, HS5.out.kt hk Sm.oddP, HR5.out.kt hk Sm.oddP, HN5.out.kt hk Sm.oddP⟩, rv_below HB5.out (Nat.le_refl _) _ _ _⟩
  · have hb2 : bd = 1 := HBD.out.2 (by omega)
    subst hb2
    clear hbd HBD
    go_wp2_with fail
    refine HMK.out.mono ?_
    rintro e' w2 ⟨ps, q, rfl, hsq, hb2⟩
    have HB2 := hidden (Sm.on2 HB1.out hb2)
    have HS2 := hidden hsq
    have HT2 := hidden (HT1.out.below hb2 (Nat.le_refl _))
    have HG2 := hidden ((hb2.block _ (lt_of_block HG1.out)).trans HG1.out)
    clear hsq hb2 HMK HB1 HT1 HG1
    go_wp2_with fail
    refine (HQ.out w2).mono ?_
    rintro e' w3 ⟨⟨v3, rfl, hv3⟩, hb3⟩
    have HB3 := hidden (Sm.on2 HB2.out hb3)
    have HS3 := hidden (HS2.out.below hb3 (Nat.le_refl _))
    have HT3 := hidden (HT2.out.below hb3 (Nat.le_refl _))
    have HG3 := hidden ((hb3.block _ (lt_of_block HG2.out)).trans HG2.out)
    have HV3 := hidden (Sm.lb_view hv3)
    clear hv3 hb3 HB2 HS2 HT2 HG2
    go_wp2_with fail
    refine (smRow_any _ v3 w3 HV3.out (by have := HBL.out; omega)).mono ?_
    rintro e' w4 ⟨r, u, rfl, hr4, hb4⟩
    have HB4 := hidden (Sm.on2 HB3.out hb4)
    have HS4 := hidden (HS3.out.below hb4 (Nat.le_refl _))
    have HT4 := hidden (HT3.out.below hb4 (Nat.le_refl _))
    have HG4 := hidden ((hb4.block _ (lt_of_block HG3.out)).trans HG3.out)
    have HR4 := hidden hr4
    clear hr4 hb4 HB3 HS3 HT3 HG3 HV3
    go_wp2_with fail
    refine (NNew_any r _ _ u w4 HR4.out HT4.out HBAL.out).mono ?_
    rintro e' w5 ⟨z, k, rfl, hn5, hb5⟩
    have HB5 := hidden (Sm.on2 HB4.out hb5)
    have HS5 := hidden (HS4.out.below hb5 (Nat.le_refl _))
    have HR5 := hidden (HR4.out.below hb5 (Nat.le_refl _))
    have hg5 := (hb5.block _ (lt_of_block HG4.out)).trans HG4.out
    have HN5 := hidden hn5
    obtain ⟨c0, f0, c1, f1, c2, f2⟩ := rv_open hg5
    have HG5 := hidden hg5
    clear hn5 hb5 hg5 HB4 HS4 HT4 HG4 HR4
    go_wp2_with fail
    refine bodyPost_ret (results_cell_row rfl _ _ w.heap.size 50 #[.pointer (some ⟨ps, 0, none⟩), .pointer (some ⟨r, 0, none⟩), .pointer (some ⟨z, 0, none⟩)] (0, 0) _ rfl ?_ Tryz.underlying50 rfl Sm.sizeP) rfl ?_
    · exact rv_cells HG5.out _ _ _
    have hk := Kt.rv HG5.out (.pointer (some ⟨ps, 0, none⟩)) (.pointer (some ⟨r, 0, none⟩)) (.pointer (some ⟨z, 0, none⟩))
    exact ⟨⟨⟨ps, r, z, q, u, k⟩, rfl, HS5.out.kt hk Sm.oddP, HR5.out.kt hk Sm.oddP, HN5.out.kt hk Sm.oddP⟩, rv_below HB5.out (Nat.le_refl _) _ _ _⟩
set_option maxHeartbeats 1000000 in
theorem smMake_any (s : ByteArray) (w : World) (hs : s.size ≤ 9223372036854775807) (hT : Tab w) :
    Calls Tryz.prog 9 #[.string s] w fun e w' => SmMade s e w' ∧ Below w.heap.size w w' := by
  have HW := hidden (smWrong_any s w hs)
  have HT := hidden hT
  by_cases he : Sm.er s.data.toList = 0
  · have HSV := hidden (fun w' hT => smSurvey_any s w' he hT)
    have HE := hidden he
    rw [he] at HW
    clear hT he
    go_enter Tryz.func9, Tryz.ntmps9
    go_wp2_with fail
    refine HW.out.mono ?_
    rintro e' w1 ⟨rfl, hb⟩
    have HB := hidden hb
    have HT1 := hidden (HT.out.below hb (Nat.le_refl _))
    clear hb
    go_wp2_with fail
    refine (HSV.out w1 HT1.out).mono ?_
    rintro e' w2 ⟨⟨K, rfl, hsv⟩, hb2⟩
    have HB2 := hidden (Sm.on2 HB.out hb2)
    have HS2 := hidden hsv
    have HT2 := hidden (HT1.out.below hb2 (Nat.le_refl _))
    clear hsv hb2
    go_wp2_with fail
    go_ret2
    have hb3 : Below w2.heap.size w2 (w2.alloc (.cells #[.pointer (some ⟨K.s, 0, none⟩), .pointer (some ⟨K.r, 0, none⟩), .pointer (some ⟨K.z, 0, none⟩), .string s] 53)) := (Below.refl _ _).alloc (Nat.le_refl _) _
    exact ⟨.inr ⟨HE.out, ⟨w2.heap.size, 0, none⟩, rfl, Sx.ix (K := K) ⟨HE.out, heap_alloc_new _ _, HS2.out.seq.below hb3 (Nat.le_refl _), HS2.out.row.below hb3 (Nat.le_refl _), HS2.out.nest.below hb3 (Nat.le_refl _)⟩ (HT2.out.below hb3 (Nat.le_refl _))⟩, Sm.on2 HB2.out hb3⟩
  · obtain ⟨x, hx⟩ : ∃ x, x = Sm.er s.data.toList := ⟨_, rfl⟩
    have HE : Hid (Sm.er s.data.toList ≠ 0) := hidden he
    have HX := hidden hx
    rw [← hx] at HW he
    have hx2 : (x != 0) = true := by simpa using he
    clear hT hx
    go_enter Tryz.func9, Tryz.ntmps9
    go_wp2_with fail
    refine HW.out.mono ?_
    rintro e' w1 ⟨rfl, hb⟩
    have HB := hidden hb
    clear hb
    go_wp2_with fail
    go_ret2
    exact ⟨.inl ⟨HE.out, by rw [HX.out]; rfl⟩, HB.out⟩
end Go.Proofs.YtoipliflphbeiaaGreatDoor
