/-
  The walk of the law MarksTwo: it returns true for every two strings; nothing that was there is changed.
-/
import Derived.Test.YtifkemcjificcaaMkAwake
import Derived.Test.YtifkemcjificcaaJsRefT
import Derived.Test.YtifkemcjificcaaLawsAt
namespace Go.Proofs.Ytifkemcjificcaa
open Go.RowKit
theorem mk_ok (i D : Int) (o : Bool) (w : World) : (Instr.field 32 (.agg #[.int .i64 i, .bool o, .int .i64 D]) 1).run Try.prog w = .ok (.bool o) w := by kernel_rfl
namespace Mk
theorem empty_own {e : TypeId} (w : World) : (w.alloc (.cells #[] e)).ownsRow w.heap.size e 1 (.slice (some ⟨w.heap.size, 0, none⟩) 0 0) 0 [] :=
  ⟨rfl, .inr ⟨w.heap.size, 0, #[], rfl, Nat.le_refl _, heap_alloc_new _ _, Nat.le_refl _, by unfold maxLen; omega, rfl, rfl⟩⟩
theorem vi_one (l : List Nat) : ∀ y ∈ vi l, y.oneCell' = true := fun y hy => by
  obtain ⟨a, _, rfl⟩ := List.mem_map.1 hy
  rfl
theorem vb_one (l : List Bool) : ∀ y ∈ vb l, y.oneCell' = true := fun y hy => by
  obtain ⟨a, _, rfl⟩ := List.mem_map.1 hy
  rfl
theorem app_data (s t : ByteArray) : (s ++ t).data.toList = s.data.toList ++ t.data.toList := by
  rw [ByteArray.data_append, Array.toList_append]
theorem heap_cell {u u' : World} {g j : Nat} (h : u'.heap[g]? = u.heap[g]?) : u'.cell? ⟨g, j, none⟩ = u.cell? ⟨g, j, none⟩ := by
  unfold World.cell?
  rw [h]
end Mk
theorem MarksTwo_long (s t : ByteArray) (w : World) (hl : 300 < s.size ∨ (¬ 300 < s.size ∧ 300 < t.size)) (hm : s.size ≤ 9223372036854775807) (hm2 : t.size ≤ 9223372036854775807) :
    Calls Try.prog 6 #[.string s, .string t] w fun e w' => e = .returned (.bool true) ∧ Below w.heap.size w w' := by
  rcases hl with hl | ⟨hl, hl2⟩
  · have hlt : (300 : Int) < (s.size : Int) := by omega
    go_enter Try.func6, Try.ntmps6
    go_wp2_with fail
    refine (awake13_any w).mono ?_
    rintro e w1 ⟨rfl, h1⟩
    have HB1 := hidden h1
    clear h1
    go_wp2_with fail
    refine (awake13_any w1).mono ?_
    rintro e w2 ⟨rfl, h2⟩
    have HB2 := hidden (Mk.bel_then HB1.out h2)
    clear h2
    go_wp2_with fail
    go_ret
    exact ⟨rfl, HB2.out⟩
  · have hlt : ¬ (300 : Int) < (s.size : Int) := by omega
    have hlt2 : (300 : Int) < (t.size : Int) := by omega
    go_enter Try.func6, Try.ntmps6
    go_wp2_with fail
    refine (awake13_any w).mono ?_
    rintro e w1 ⟨rfl, h1⟩
    have HB1 := hidden h1
    clear h1
    go_wp2_with fail
    refine (awake13_any w1).mono ?_
    rintro e w2 ⟨rfl, h2⟩
    have HB2 := hidden (Mk.bel_then HB1.out h2)
    clear h2
    go_wp2_with fail
    go_ret
    exact ⟨rfl, HB2.out⟩
set_option maxHeartbeats 4000000 in
theorem MarksTwo_text (s t : ByteArray) (w : World) (hl : ¬ 300 < s.size) (hl2 : ¬ 300 < t.size) :
    Calls Try.prog 6 #[.string s, .string t] w fun e w' => e = .returned (.bool true) ∧ Below w.heap.size w w' := by
  obtain ⟨i0, hi, hz0, hz1, hz2⟩ := info_parts Try.infoIm
  obtain ⟨k0, hk, hy0, hy1, hy2⟩ := info_parts Try.infoBm2
  have hlt : ¬ (300 : Int) < (s.size : Int) := by omega
  have hlt2 : ¬ (300 : Int) < (t.size : Int) := by omega
  have hfd := mk_ok
  have HT := hidden (fun w => jText_any s w (by omega))
  have HPS := hidden (fun w => kPlaces_any s w (by omega))
  have HPT := hidden (fun w => kPlaces_any t w (by omega))
  have HBS := hidden (fun w => kParens_any s w (by omega))
  have HBT := hidden (fun w => kParens_any t w (by omega))
  have HPX := hidden (fun w => kPlaces_any (s ++ t) w (by rw [ByteArray.size_append]; omega))
  have HBX := hidden (fun w => kParens_any (s ++ t) w (by rw [ByteArray.size_append]; omega))
  have HPL : Hid ((Mk.pl 0 0 s.data.toList).length ≤ 300 ∧ (Mk.pl 0 0 t.data.toList).length ≤ 300) := hidden (by
    have h1 := Mk.pl_le s.data.toList 0 0
    have h2 : s.data.toList.length = s.size := rfl
    have h3 := Mk.pl_le t.data.toList 0 0
    have h4 : t.data.toList.length = t.size := rfl
    omega)
  have HBL : Hid ((Mk.bs 0 s.data.toList).length ≤ 600 ∧ (Mk.bs 0 t.data.toList).length ≤ 600) := hidden (by
    have h1 := Mk.bs_len s.data.toList 0 0
    have h2 := Mk.bs_len t.data.toList 0 0
    have h3 := HPL.out
    omega)
  have HLT : Hid (∀ p ∈ Mk.pl 0 0 t.data.toList, p ≤ 300) := hidden fun p hp => by
    have h1 := Mk.pl_lt t.data.toList 0 0 p hp
    have h4 : t.data.toList.length = t.size := rfl
    omega
  have HTWO : Hid (∀ D, (Js.out Js.c0 s.data.toList).1 = some D → Mk.pl 0 0 (s ++ t).data.toList = Mk.pl 0 0 s.data.toList ++ (Mk.pl 0 0 t.data.toList).map (· + s.size) ∧ Mk.bs 0 (s ++ t).data.toList = Mk.bs 0 s.data.toList ++ Mk.bs 0 t.data.toList) := hidden fun D ho => by
    rw [Mk.app_data]
    exact ⟨Mk.two_pl s.data.toList t.data.toList D ho, Mk.two_bs s.data.toList t.data.toList D ho⟩
  obtain ⟨P, hP⟩ : ∃ P, P = Mk.pl 0 0 s.data.toList := ⟨_, rfl⟩
  obtain ⟨M, hM⟩ : ∃ M, M = Mk.pl 0 0 t.data.toList := ⟨_, rfl⟩
  obtain ⟨X, hX⟩ : ∃ X, X = Mk.bs 0 s.data.toList := ⟨_, rfl⟩
  obtain ⟨Y, hY⟩ : ∃ Y, Y = Mk.bs 0 t.data.toList := ⟨_, rfl⟩
  rw [← hP, ← hM] at HPL
  rw [← hX, ← hY] at HBL
  rw [← hP] at HPS
  rw [← hM] at HPT HLT
  rw [← hX] at HBS
  rw [← hY] at HBT
  rw [← hP, ← hM, ← hX, ← hY] at HTWO
  obtain ⟨pn, hpn⟩ : ∃ pn, pn = P.length := ⟨_, rfl⟩
  obtain ⟨xn, hxn⟩ : ∃ xn, xn = X.length := ⟨_, rfl⟩
  have HPN := hidden hpn
  have HXN := hidden hxn
  have hpl := HPL.out
  have hbl := HBL.out
  rw [← hpn] at hpl
  rw [← hxn] at hbl
  obtain ⟨hp3, hm3⟩ := hpl
  obtain ⟨hx6, hy6⟩ := hbl
  clear hP hM hX hY hpn hxn
  go_enter Try.func6, Try.ntmps6
  go_wp2_with fail
  refine (awake13_any w).mono ?_
  rintro e w1 ⟨rfl, h1⟩
  have HB1 := hidden h1
  clear h1
  go_wp2_with fail
  refine (HT.out w1).mono ?_
  rintro e w2 ⟨⟨q, D, rfl, hD, ho⟩ | ⟨q, D, rfl, hq, ho⟩, h2⟩
  · have HB2 := hidden (Mk.bel_then HB1.out h2)
    have HO := hidden (HTWO.out D ho)
    clear h2 ho
    unfold rv
    go_wp2_with fail
    refine (HPS.out _).mono ?_
    rintro e w3 ⟨⟨v3, rfl, hv3⟩, h3⟩
    have HV3 := hidden hv3
    have HV0 := hidden (Mk.ow_kept (Mk.empty_own (e := 3) w2) h3 (Nat.le_refl _))
    have HB3 := hidden (HB2.out.trans ((((Below.refl w2.heap.size w2).alloc (Nat.le_refl _) (.cells #[] 3)).trans (h3.mono (((Below.refl w2.heap.size w2).alloc (Nat.le_refl _) (.cells #[] 3)).size))).mono HB2.out.size))
    have hs3 : w2.heap.size ≤ w3.heap.size := Nat.le_trans (((Below.refl w2.heap.size w2).alloc (Nat.le_refl _) (.cells #[] 3)).size) h3.size
    clear h3 hv3
    go_wp2_with (at_builtin; refine At.wpList_append_rows_at _ rfl (.tmp 28) (.tmp 30) 25 rfl w2.heap.size 3 i0 (.int .i64 0) 8 Try.underlying25 hi hz0 hz1 hz2 rfl (.slice (some ⟨w2.heap.size, 0, none⟩) 0 0) 0 [] rfl HV0.out v3 pn (Mk.vi P) rfl (by rw [HPN.out]; exact Mk.ow_base HV3.out (Nat.zero_le _)) (Mk.vi_one P) (by unfold maxLen; omega) (by omega) hs3 ?_; intro v4 w4 hown4 hgrow4 hat4; have HO4 := hidden hown4; have HG4 := hidden hgrow4; clear hown4 hgrow4 hat4)
    have HL4 : Hid (Mk.Li w4 w2.heap.size v4 P) := hidden (by
      have h := HO4.out
      rw [Nat.zero_add, List.nil_append, HPN.out] at h
      exact h)
    have hg4 := Mk.ow_grown hs3 HV0.out HG4.out
    have HB4 := hidden (HB3.out.trans (hg4.mono HB2.out.size))
    have hs4 : w2.heap.size ≤ w4.heap.size := Nat.le_trans hs3 hg4.size
    clear HO4 HG4 HV0 HV3 HB3 hg4
    refine (HPT.out _).mono ?_
    rintro e w5 ⟨⟨v5, rfl, hv5⟩, h5⟩
    have HL5 := hidden (HL4.out.kept h5)
    have HLT4 := hidden (Mk.ow_lt HL4.out)
    have HB5 := hidden (Mk.bel_then HB4.out h5)
    have hs5 : w2.heap.size ≤ w5.heap.size := Nat.le_trans hs4 h5.size
    obtain ⟨ao, ca, rfl, hca, hfa⟩ := hv5.get rfl
    have HFA : Hid (0 < M.length → ∃ g, ao = some ⟨g, 0, none⟩ ∧ w4.heap.size ≤ g ∧ g < w5.heap.size ∧ ∀ j, j < M.length → w5.cell? ⟨g, j, none⟩ = some (.int .i64 (M.getD j 0 : Nat))) := hidden fun h0 => by
      obtain ⟨g, hg1, hg2, hg3⟩ := hfa h0
      subst hg1
      exact ⟨g, rfl, (hv5.lt g rfl).1, hg2, hg3⟩
    clear h5 hv5 hfa HB4 HL4
    go_wp2_with fail
    go_loopw [5, 7] (fun v i wr => ∃ j : Nat, j ≤ M.length ∧ i = .int .i64 (j : Nat) ∧ Mk.Li wr w2.heap.size v (P ++ (M.take j).map (· + s.size)) ∧ Below w.heap.size w wr ∧ w5.heap.size ≤ wr.heap.size ∧ (∀ g, ao = some ⟨g, 0, none⟩ → w4.heap.size ≤ g → g < w5.heap.size → v.ownBlock ≠ some g ∧ wr.heap[g]? = w5.heap[g]?)) (fun _ i _ => M.length - (intOf i).toNat)
    case atStart =>
      refine ⟨0, Nat.zero_le _, rfl, ?_, HB5.out, Nat.le_refl _, fun g _ h2 _ => ⟨fun e => ?_, rfl⟩⟩
      · rw [List.take_zero, List.map_nil, List.append_nil]
        exact HL5.out
      · have := HLT4.out g e
        omega
    case round =>
      obtain ⟨j, hj, rfl, hli, hb, hsz, hap⟩ := hrel
      have HLI := hidden hli
      have HB := hidden hb
      have HAP := hidden hap
      clear hli hb hap
      by_cases hlt3 : j < M.length
      · have hltd : decide ((j : Int) < ((M.length : Nat) : Int)) = true := decide_eq_true (by omega)
        obtain ⟨g, rfl, hg0, hg, hga⟩ := HFA.out (by omega)
        have hap2 := HAP.out g rfl hg0 hg
        have c1 := (Mk.heap_cell (j := j) hap2.2).trans (hga j hlt3)
        obtain ⟨p, hp⟩ : ∃ p, p = M.getD j 0 := ⟨_, rfl⟩
        have hp300 : p ≤ 300 := by
          rw [hp, List.getD_eq_getElem?_getD, List.getElem?_eq_getElem hlt3]
          exact HLT.out _ (List.getElem_mem hlt3)
        have HTK : Hid (P ++ (M.take (j + 1)).map (· + s.size) = (P ++ (M.take j).map (· + s.size)) ++ [p + s.size]) := hidden (by
          rw [List.append_assoc]
          congr 1
          rw [List.take_add_one, List.getElem?_eq_getElem hlt3, List.map_append, hp, List.getD_eq_getElem?_getD, List.getElem?_eq_getElem hlt3]
          rfl)
        rw [← hp] at c1
        have HAP2 := hidden hap2
        obtain ⟨x, hx⟩ : ∃ x, x = p + s.size := ⟨_, rfl⟩
        have hx2 : (p : Int) + (s.size : Int) = (x : Int) := by omega
        have hxw : IntKind.i64.wrap (x : Int) = (x : Int) := by rw [IntKind.wrap_i64]; omega
        rw [← hx] at HTK
        obtain ⟨n, hn⟩ : ∃ n, n = (P ++ (M.take j).map (· + s.size)).length := ⟨_, rfl⟩
        have hn6 : n ≤ 700 := by
          rw [hn, List.length_append, List.length_map, List.length_take]
          have h9 := HPN.out
          omega
        have HN := hidden hn
        have hs6 : w2.heap.size ≤ wr.heap.size := Nat.le_trans hs5 hsz
        clear hga hap2 hp hx hn
        go_wp2_with (at_builtin; refine At.wpList_append_one_at _ rfl (.tmp 40) (.tmp 48) 25 rfl w2.heap.size 3 i0 (.int .i64 0) 8 Try.underlying25 hi hz0 hz1 hz2 rfl u5 n (Mk.vi (P ++ (M.take j).map (· + s.size))) rfl (by rw [HN.out]; exact HLI.out.alloc _) _ 1 (.int .i64 (x : Nat)) _ rfl (by exact heap_alloc_new _ _) rfl (by unfold maxLen; omega) (by omega) (by simp; omega) ?_; intro v6 w6 hown6 hgrow6 hat6; have HO6 := hidden hown6; have HG6 := hidden hgrow6; have HA6 := hidden hat6; clear hown6 hgrow6 hat6)
        refine ⟨⟨j + 1, by omega, by go_num, ?_, ?_, ?_, ?_⟩, by simp [intOf]; omega⟩
        · have h9 := HO6.out
          rw [HTK.out]
          show World.ownsRow _ _ _ _ _ _ _
          rw [List.length_append, Mk.vi_app, ← HN.out]
          exact h9
        · exact HB.out.trans ((Mk.ow_grown1 hs6 HLI.out HG6.out).mono HB2.out.size)
        · exact Nat.le_trans hsz (Mk.ow_grown1 hs6 HLI.out HG6.out).size
        · intro g' h1 h2 h3
          obtain ⟨h4, h5⟩ := HAP.out g' h1 h2 h3
          refine ⟨fun e => ?_, ?_⟩
          · rcases HA6.out with h6 | h6
            · exact h4 (h6.symm.trans e)
            · rw [h6] at e
              have h7 : (wr.alloc (Obj.cells #[Value.int .i64 (x : Nat)] 3)).heap.size = g' := Option.some.inj e
              have h8 : (wr.alloc (Obj.cells #[Value.int .i64 (x : Nat)] 3)).heap.size = wr.heap.size + 1 := by simp
              omega
          · rw [HG6.out.block g' (by simp; omega) (fun e => h4 e.symm), Below.heap_alloc wr _ g' (by omega)]
            exact h5
      · obtain rfl : j = M.length := by omega
        have hltd : decide (((M.length : Nat) : Int) < ((M.length : Nat) : Int)) = false := decide_eq_false (by omega)
        rw [List.take_length, ← HO.out.1] at HLI
        have hlx : (Mk.pl 0 0 (s ++ t).data.toList).length ≤ 700 := by
          rw [HO.out.1, List.length_append, List.length_map]
          have h9 := HPN.out
          omega
        have hbx : (Mk.bs 0 (s ++ t).data.toList).length ≤ 1300 := by
          rw [HO.out.2, List.length_append]
          have h9 := HXN.out
          omega
        have hs6 : w2.heap.size ≤ wr.heap.size := Nat.le_trans hs5 hsz
        clear HAP HFA HB5 HL5 HLT4
        go_wp2_with fail
        refine (HBS.out _).mono ?_
        rintro e w7 ⟨⟨v7, rfl, hv7⟩, h7⟩
        have HV7 := hidden hv7
        have hal := (Below.refl wr.heap.size wr).alloc (Nat.le_refl _) (.cells #[] 4)
        have HE0 := hidden (Mk.ow_kept (Mk.empty_own (e := 4) wr) h7 (Nat.le_refl _))
        have HLI7 := hidden ((HLI.out.kept hal).kept h7)
        have HB7 := hidden (HB.out.trans ((hal.trans (h7.mono hal.size)).mono HB.out.size))
        have hs7 : wr.heap.size ≤ w7.heap.size := Nat.le_trans hal.size h7.size
        have HW7 := hidden (hal.trans (h7.mono hal.size))
        clear h7 hv7 hal
        go_wp2_with (at_builtin; refine At.wpList_append_rows_at _ rfl (.tmp 50) (.tmp 52) 28 rfl wr.heap.size 4 k0 (.bool false) 1 Try.underlying28 hk hy0 hy1 hy2 rfl (.slice (some ⟨wr.heap.size, 0, none⟩) 0 0) 0 [] rfl HE0.out v7 xn (Mk.vb X) rfl (by rw [HXN.out]; exact Mk.ow_base HV7.out (Nat.zero_le _)) (Mk.vb_one X) (by unfold maxLen; omega) (by omega) hs7 ?_; intro v8 w8 hown8 hgrow8 hat8; have HO8 := hidden hown8; have HG8 := hidden hgrow8; clear hown8 hgrow8 hat8)
        have HL8 : Hid (Mk.Lb w8 wr.heap.size v8 X) := hidden (by
          have h := HO8.out
          rw [Nat.zero_add, List.nil_append, HXN.out] at h
          exact h)
        have hg8 := Mk.ow_grown hs7 HE0.out HG8.out
        have HW8 := hidden (HW7.out.trans hg8)
        have hs8 : wr.heap.size ≤ w8.heap.size := HW8.out.size
        clear HO8 HG8 HE0 HV7 hg8 HW7
        refine (HBT.out _).mono ?_
        rintro e w9 ⟨⟨v9, rfl, hv9⟩, h9⟩
        have HV9 := hidden hv9
        have HL9 := hidden (HL8.out.kept h9)
        have HW9 := hidden (HW8.out.trans (h9.mono hs8))
        have hs9 : wr.heap.size ≤ w9.heap.size := HW9.out.size
        clear h9 hv9 HW8
        go_wp2_with (at_builtin; refine At.wpList_append_rows_at _ rfl (.tmp 54) (.tmp 56) 28 rfl wr.heap.size 4 k0 (.bool false) 1 Try.underlying28 hk hy0 hy1 hy2 rfl v8 xn (Mk.vb X) rfl (by rw [HXN.out]; exact HL9.out) v9 Y.length (Mk.vb Y) rfl (by exact Mk.ow_base HV9.out (Nat.zero_le _)) (Mk.vb_one Y) (by unfold maxLen; omega) (by omega) hs9 ?_; intro v10 w10 hown10 hgrow10 hat10; have HO10 := hidden hown10; have HG10 := hidden hgrow10; clear hown10 hgrow10 hat10)
        have HL10 : Hid (Mk.Lb w10 wr.heap.size v10 (X ++ Y)) := hidden (by
          have h := HO10.out
          rw [HXN.out] at h
          show World.ownsRow _ _ _ _ _ _ _
          rw [List.length_append, Mk.vb_app]
          exact h)
        have HW10 := hidden (HW9.out.trans (Mk.ow_grown hs9 HL9.out HG10.out))
        have hs10 : wr.heap.size ≤ w10.heap.size := HW10.out.size
        clear HO10 HG10 HL9 HV9 HW9
        refine (HPX.out _).mono ?_
        rintro e w11 ⟨⟨v11, rfl, hv11⟩, h11⟩
        have HV11 := hidden hv11
        have HL11 := hidden (HL10.out.kept h11)
        have HW11 := hidden (HW10.out.trans (h11.mono hs10))
        have hs11 : wr.heap.size ≤ w11.heap.size := HW11.out.size
        have HLI11 : Hid (Mk.Li w11 w2.heap.size u5 (Mk.pl 0 0 (s ++ t).data.toList)) := hidden (Mk.ow_kept HLI.out HW11.out (Nat.le_refl _))
        clear h11 hv11 HW10 HL10
        go_wp2_with fail
        refine (mSameInts_any _ _ u5 v11 _ _ w11 HLI11.out HV11.out (by omega) (by omega)).mono ?_
        rintro e w12 ⟨rfl, h12⟩
        rw [decide_eq_true rfl]
        have HL12 := hidden (HL11.out.kept h12)
        have HW12 := hidden (HW11.out.trans (h12.mono hs11))
        have hs12 : wr.heap.size ≤ w12.heap.size := HW12.out.size
        clear h12 HL11 HW11
        go_wp2_with fail
        refine (HBX.out _).mono ?_
        rintro e w13 ⟨⟨v13, rfl, hv13⟩, h13⟩
        have HV13 := hidden hv13
        have HL13 : Hid (Mk.Lb w13 wr.heap.size v10 (Mk.bs 0 (s ++ t).data.toList)) := hidden (by rw [HO.out.2]; exact HL12.out.kept h13)
        have HW13 := hidden (HW12.out.trans (h13.mono hs12))
        have hs13 : wr.heap.size ≤ w13.heap.size := HW13.out.size
        clear h13 hv13 HW12 HL12
        go_wp2_with fail
        refine (mSameBits_any _ _ v10 v13 _ _ w13 HL13.out HV13.out (by omega) (by omega)).mono ?_
        rintro e w14 ⟨rfl, h14⟩
        rw [decide_eq_true rfl]
        have HW14 := hidden (HW13.out.trans (h14.mono hs13))
        clear h14 HW13
        go_wp2_with fail
        go_ret
        exact ⟨rfl, HB.out.trans (HW14.out.mono HB.out.size)⟩
  · have HB2 := hidden (Mk.bel_then HB1.out h2)
    clear h2 ho
    unfold rv
    go_wp2_with fail
    refine (awake13_any _).mono ?_
    rintro e w3 ⟨rfl, h3⟩
    have HB3 := hidden (Mk.bel_then HB2.out h3)
    clear h3
    go_wp2_with fail
    go_ret
    exact ⟨rfl, HB3.out⟩
theorem MarksTwo_walk (s t : ByteArray) (w : World) (hm : s.size ≤ 9223372036854775807) (hm2 : t.size ≤ 9223372036854775807) :
    Calls Try.prog 6 #[.string s, .string t] w fun e w' => e = .returned (.bool true) ∧ Below w.heap.size w w' := by
  by_cases hl : 300 < s.size
  · exact MarksTwo_long s t w (.inl hl) hm hm2
  · by_cases hl2 : 300 < t.size
    · exact MarksTwo_long s t w (.inr ⟨hl, hl2⟩) hm hm2
    · exact MarksTwo_text s t w hl hl2
end Go.Proofs.Ytifkemcjificcaa
