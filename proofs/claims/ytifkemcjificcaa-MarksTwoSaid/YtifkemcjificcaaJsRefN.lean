/-
  The contract of laceworkref12's Number: for every string and every place at which no other value begins; nothing that was there is changed.
-/
import Derived.Test.YtifkemcjificcaaJsRefS
import Derived.Test.YtifkemcjificcaaJsNum
namespace Go.Proofs.Ytifkemcjificcaa
open Go.RowKit
/-- Number's frame at its joints: what is in the slots from 5 on is free. -/
def frN (S A P : Value) (u : Nat → Value) : Array Value := #[S, A, undef, undef, P, u 5, u 6, u 7, u 8, u 9, u 10, u 11, u 12, u 13, u 14, u 15, u 16, u 17, u 18, u 19, u 20, u 21, u 22, u 23, u 24, u 25, u 26, u 27, u 28, u 29, u 30, u 31, u 32, u 33, u 34, u 35, u 36, u 37, u 38, u 39, u 40, u 41, u 42, u 43, u 44, u 45, u 46, u 47, u 48, u 49, u 50, u 51, u 52, u 53, u 54, u 55, u 56, u 57, u 58, u 59, u 60, u 61, u 62, u 63, u 64, u 65, u 66, u 67, u 68, u 69, u 70, u 71, u 72, u 73, u 74, u 75, u 76, u 77, u 78, u 79, u 80, u 81, u 82, u 83, u 84, u 85, u 86, u 87, u 88, u 89, u 90, u 91, u 92, u 93, u 94, u 95, u 96, u 97, u 98, u 99, u 100, u 101, u 102]
theorem frN_mk (S A P t5 t6 t7 t8 t9 t10 t11 t12 t13 t14 t15 t16 t17 t18 t19 t20 t21 t22 t23 t24 t25 t26 t27 t28 t29 t30 t31 t32 t33 t34 t35 t36 t37 t38 t39 t40 t41 t42 t43 t44 t45 t46 t47 t48 t49 t50 t51 t52 t53 t54 t55 t56 t57 t58 t59 t60 t61 t62 t63 t64 t65 t66 t67 t68 t69 t70 t71 t72 t73 t74 t75 t76 t77 t78 t79 t80 t81 t82 t83 t84 t85 t86 t87 t88 t89 t90 t91 t92 t93 t94 t95 t96 t97 t98 t99 t100 t101 t102 : Value) : (#[S, A, undef, undef, P, t5, t6, t7, t8, t9, t10, t11, t12, t13, t14, t15, t16, t17, t18, t19, t20, t21, t22, t23, t24, t25, t26, t27, t28, t29, t30, t31, t32, t33, t34, t35, t36, t37, t38, t39, t40, t41, t42, t43, t44, t45, t46, t47, t48, t49, t50, t51, t52, t53, t54, t55, t56, t57, t58, t59, t60, t61, t62, t63, t64, t65, t66, t67, t68, t69, t70, t71, t72, t73, t74, t75, t76, t77, t78, t79, t80, t81, t82, t83, t84, t85, t86, t87, t88, t89, t90, t91, t92, t93, t94, t95, t96, t97, t98, t99, t100, t101, t102] : Array Value) = frN S A P (fun j => [t5, t6, t7, t8, t9, t10, t11, t12, t13, t14, t15, t16, t17, t18, t19, t20, t21, t22, t23, t24, t25, t26, t27, t28, t29, t30, t31, t32, t33, t34, t35, t36, t37, t38, t39, t40, t41, t42, t43, t44, t45, t46, t47, t48, t49, t50, t51, t52, t53, t54, t55, t56, t57, t58, t59, t60, t61, t62, t63, t64, t65, t66, t67, t68, t69, t70, t71, t72, t73, t74, t75, t76, t77, t78, t79, t80, t81, t82, t83, t84, t85, t86, t87, t88, t89, t90, t91, t92, t93, t94, t95, t96, t97, t98, t99, t100, t101, t102].getD (j - 5) undef) := rfl
/-- A number at a place. -/
def NPost (s : ByteArray) (i : Nat) (e : Ending) : Prop :=
  (∃ q : Nat, e = .returned (rv q true 0) ∧ i < q ∧ q ≤ s.size ∧ ∀ st d, Js.T s.data.toList (Js.cV st d) i = Js.T s.data.toList (Js.cE st d) q)
  ∨ ∃ q : Nat, e = .returned (rv q false 0) ∧ ∀ st d, Js.T s.data.toList (Js.cV st d) i = (none, q)
set_option maxRecDepth 100000 in
set_option maxHeartbeats 8000000 in
theorem jNumber_any (s : ByteArray) (i : Nat) (w : World) (hs : s.size ≤ 1000000) (hi : i < s.size) (hpl : Js.plain s[i].toNat) :
    Calls Try.prog 29 #[.string s, .int .i64 (i : Nat)] w fun e w' => NPost s i e ∧ Below w.heap.size w w' := by
  have HG : Hid ((w.alloc (Obj.cells #[.int .i64 0, .bool false, .int .i64 0] 32)).heap[w.heap.size]? = some (.cells #[.int .i64 0, .bool false, .int .i64 0] 32 (0, 0))) := heap_alloc_new _ _
  have HB : Hid (Below w.heap.size w (w.alloc (Obj.cells #[.int .i64 0, .bool false, .int .i64 0] 32))) := (Below.refl _ _).alloc (Nat.le_refl _) _
  have HL : Hid (s.data.toList.length = s.size) := hidden rfl
  have HPL := hidden hpl
  clear hpl
  go_enter Try.func29, Try.ntmps29
  refine wp_seq_k fun K0 h0 => ?_
  have H0 := hidden h0
  clear h0
  go_wp2_with fail
  refine H0.out _ _ ?_
  clear H0
  generalize w.alloc (Obj.cells #[.int .i64 0, .bool false, .int .i64 0] 32) = W at *
  refine wp_seq_k fun KJ1 hKJ1 => ?_
  have HJ1 : ∀ (u : Nat → Value) (A : Value) (a : Nat), A = .int .i64 (a : Nat) → i ≤ a → a ≤ s.size → Js.Begun s.data.toList i a → KJ1 { tmps := frN (.string s) A (.pointer (some ⟨w.heap.size, 0, none⟩)) u, defers := [] } W := by
    intro u A a hA hia has hbeg
    subst hA
    refine hKJ1 _ _ ?_
    unfold frN
    have HBG := hidden hbeg
    clear hbeg hKJ1
    refine wp_seq_k fun K0 h0 => ?_
    have H0 := hidden h0
    clear h0
    go_wp2_with fail
    refine (jDigits_any s (a : Int) (a) W (by omega) hs (by omega)).mono ?_
    rintro e w1 ⟨⟨n, rfl, hn, hr, hd⟩, hw⟩
    have hw := hw.symm
    subst hw
    have HR := hidden hr
    have HD := hidden hd
    clear hr hd
    go_wp2_with fail
    refine H0.out _ _ ?_
    clear H0
    by_cases hn0 : n = 0
    · have e0 : ((n : Int) == 0) = true := by rw [hn0]; rfl
      have HN := hidden hn0
      clear hn0
      go_wp2_with fail
      refine (jBad_any (a : Int) a _ (by omega)).mono ?_
      rintro e w9 ⟨rfl, hb9⟩
      have hg9 : w9.heap[w.heap.size]? = some (.cells #[.int .i64 0, .bool false, .int .i64 0] 32 (0, 0)) := (hb9.block _ ((Array.getElem?_eq_some_iff.1 HG.out).1)).trans HG.out
      obtain ⟨c0, f0, c1, f1, c2, f2⟩ := rv_open hg9
      have HG9 := hidden hg9
      have HQ9 := hidden (HB.out.trans (hb9.mono HB.out.size))
      clear hb9 hg9
      unfold rv
      go_wp2_with fail
      refine bodyPost_ret (results_cell_row rfl _ _ w.heap.size 32 #[.int .i64 (a : Nat), .bool false, .int .i64 0] (0, 0) _ rfl ?_ Try.underlying32 rfl sizeR) rfl ?_
      · exact rv_cells HG9.out _ _ _
      · exact ⟨.inr ⟨a, rfl, fun st d => HBG.out.no st d fun h => by have := HR.out (by rw [HN.out]; exact h); simp only [HN.out] at this; exact this⟩, rv_below HQ9.out (Nat.le_refl _) _ _ _⟩
    have e0 : ((n : Int) == 0) = false := by rw [beq_eq_false_iff_ne]; omega
    refine wp_seq_k fun K0 h0 => ?_
    have H0 := hidden h0
    clear h0
    go_wp2_with fail
    refine H0.out _ _ ?_
    clear H0
    have hlt : a < s.size := by omega
    have l1 : decide ((a : Int) < (s.size : Int)) = true := decide_eq_true (by omega)
    refine wp_seq_k fun KJ2 hKJ2 => ?_
    have HJ2 : ∀ (u : Nat → Value) (m q : Nat), u 5 = .int .i64 (m : Nat) → a + m ≤ s.size → Js.Whole s.data.toList i (a + m) q → KJ2 { tmps := frN (.string s) (.int .i64 (a : Nat)) (.pointer (some ⟨w.heap.size, 0, none⟩)) u, defers := [] } W := by
      intro u m q hu ham hwh
      refine hKJ2 _ _ ?_
      unfold frN
      rw [hu]
      clear hu hKJ2 HBG HR HD hn hn0 e0 l1
      obtain ⟨p, hp⟩ : ∃ p, p = a + m := ⟨_, rfl⟩
      have hpi : (a : Int) + (m : Int) = (p : Int) := by omega
      have hpw : IntKind.i64.wrap (p : Int) = (p : Int) := by rw [IntKind.wrap_i64]; omega
      rw [← hp] at hwh ham
      have HW := hidden hwh
      have HP := hidden hp
      clear hp hwh
      refine wp_seq_k fun K0 h0 => ?_
      have H0 := hidden h0
      clear h0
      go_wp2_with fail
      refine H0.out _ _ ?_
      clear H0
      refine wp_seq_k fun KJ3 hKJ3 => ?_
      have HJ3 : ∀ (u : Nat → Value) (A : Value) (p q : Nat), A = .int .i64 (p : Nat) → p ≤ s.size → Js.Frac s.data.toList i p q → KJ3 { tmps := frN (.string s) A (.pointer (some ⟨w.heap.size, 0, none⟩)) u, defers := [] } W := by
        clear ham HW HP hpi hpw
        intro u A p q hA hps hfr
        subst hA
        refine hKJ3 _ _ ?_
        unfold frN
        have HF := hidden hfr
        clear hfr hKJ3
        refine wp_seq_k fun KJ4 hKJ4 => ?_
        have HJ4 : ∀ (u : Nat → Value) (A : Value) (q : Nat), A = .int .i64 (q : Nat) → i < q → q ≤ s.size → (∀ st d, Js.T s.data.toList (Js.cV st d) i = Js.T s.data.toList (Js.cE st d) q) → KJ4 { tmps := frN (.string s) A (.pointer (some ⟨w.heap.size, 0, none⟩)) u, defers := [] } W := by
          clear HF hps
          intro u A q hA hiq hqs ht
          subst hA
          refine hKJ4 _ _ ?_
          unfold frN
          have HT := hidden ht
          clear ht hKJ4
          obtain ⟨c0, f0, c1, f1, c2, f2⟩ := rv_open HG.out
          go_wp2_with fail
          refine bodyPost_ret (results_cell_row rfl _ _ w.heap.size 32 #[.int .i64 (q : Nat), .bool true, .int .i64 0] (0, 0) _ rfl ?_ Try.underlying32 rfl sizeR) rfl ?_
          · exact rv_cells HG.out _ _ _
          · exact ⟨.inl ⟨q, rfl, hiq, hqs, HT.out⟩, rv_below HB.out (Nat.le_refl _) _ _ _⟩
        have HHJ4 := hidden HJ4
        clear HJ4 hKJ4
        by_cases hlp : p < s.size
        · have l1 : decide ((p : Int) < (s.size : Int)) = true := decide_eq_true (by omega)
          have l1n : decide (p < s.size) = true := decide_eq_true (by omega)
          refine wp_seq_k fun KE hKE => ?_
          have HJE : ∀ (u : Nat → Value), u 70 = .bool true → (s[p].toNat = 101 ∨ s[p].toNat = 69) → KE { tmps := frN (.string s) (.int .i64 (p : Nat)) (.pointer (some ⟨w.heap.size, 0, none⟩)) u, defers := [] } W := by
            intro u hu he
            refine hKE _ _ ?_
            unfold frN
            rw [hu]
            have HE := hidden he
            clear hu he hKE
            refine wp_cond_true rfl ?_
            refine wp_seq_k fun K0 h0 => ?_
            have H0 := hidden h0
            clear h0
            go_wp2_with fail
            refine H0.out _ _ ?_
            clear H0
            refine wp_seq_k fun KJ5 hKJ5 => ?_
            have HJ5 : ∀ (u : Nat → Value) (A : Value) (r g : Nat), A = .int .i64 (r : Nat) → r ≤ s.size → Js.Expo s.data.toList i r g → KJ5 { tmps := frN (.string s) A (.pointer (some ⟨w.heap.size, 0, none⟩)) u, defers := [] } W := by
              clear HF hps HE l1 l1n
              intro u A r g hA hrs hex
              subst hA
              refine hKJ5 _ _ ?_
              unfold frN
              have HX := hidden hex
              clear hex hKJ5
              go_wp2_with fail
              refine (jDigits_any s (r : Int) r W rfl hs hrs).mono ?_
              rintro e w1 ⟨⟨n, rfl, hn, hr, hd⟩, hw⟩
              have hw := hw.symm
              subst hw
              have HR := hidden hr
              have HD := hidden hd
              clear hr hd
              by_cases hn0 : n = 0
              · have e0 : ((n : Int) == 0) = true := by rw [hn0]; rfl
                have HN := hidden hn0
                clear hn0
                go_wp2_with fail
                refine (jBad_any (r : Int) r _ (by omega)).mono ?_
                rintro e w9 ⟨rfl, hb9⟩
                have hg9 : w9.heap[w.heap.size]? = some (.cells #[.int .i64 0, .bool false, .int .i64 0] 32 (0, 0)) := (hb9.block _ ((Array.getElem?_eq_some_iff.1 HG.out).1)).trans HG.out
                obtain ⟨c0, f0, c1, f1, c2, f2⟩ := rv_open hg9
                have HG9 := hidden hg9
                have HQ9 := hidden (HB.out.trans (hb9.mono HB.out.size))
                clear hb9 hg9
                unfold rv
                go_wp2_with fail
                refine bodyPost_ret (results_cell_row rfl _ _ w.heap.size 32 #[.int .i64 (r : Nat), .bool false, .int .i64 0] (0, 0) _ rfl ?_ Try.underlying32 rfl sizeR) rfl ?_
                · exact rv_cells HG9.out _ _ _
                · exact ⟨.inr ⟨r, rfl, fun st d => Js.expo_no HX.out (fun h => by have := HR.out (by rw [HN.out]; exact h); simp only [HN.out] at this; exact this) st d⟩, rv_below HQ9.out (Nat.le_refl _) _ _ _⟩
              have e0 : ((n : Int) == 0) = false := by rw [beq_eq_false_iff_ne]; omega
              go_wp2_with fail
              rw [frN_mk]
              exact HHJ4.out _ _ (r + n) (by go_num) (by have := HX.out.far; omega) hn fun st d => Js.expo_end HX.out (by omega) HD.out HR.out st d
            have HHJ5 := hidden HJ5
            clear HJ5 hKJ5
            obtain ⟨r, hr⟩ : ∃ r, r = p + 1 := ⟨_, rfl⟩
            have hrp : (p : Int) + 1 = (r : Int) := by omega
            by_cases hlr : r < s.size
            · have l2 : decide ((r : Int) < (s.size : Int)) = true := decide_eq_true (by omega)
              have l2n : decide (r < s.size) = true := decide_eq_true (by omega)
              by_cases h43 : s[r].toNat = 43
              · have e1 : (((s[r].toNat : Nat) : Int) == 43) = true := by rw [h43]; rfl
                have hexp : Js.Expo s.data.toList i (p + 2) 26 := by
                  subst hr
                  exact Js.expo_sign HF.out hlp HE.out hlr (.inl h43)
                have HX := hidden hexp
                have HRR := hidden hr
                clear h43 hexp hr
                go_wp2_with fail
                rw [frN_mk]
                exact HHJ5.out _ _ (p + 2) 26 (by have := HRR.out; go_num) (by have := HRR.out; omega) HX.out
              have e1 : (((s[r].toNat : Nat) : Int) == 43) = false := by rw [beq_eq_false_iff_ne]; omega
              by_cases h45 : s[r].toNat = 45
              · have e2 : (((s[r].toNat : Nat) : Int) == 45) = true := by rw [h45]; rfl
                have hexp : Js.Expo s.data.toList i (p + 2) 26 := by
                  subst hr
                  exact Js.expo_sign HF.out hlp HE.out hlr (.inr h45)
                have HX := hidden hexp
                have HRR := hidden hr
                clear h43 h45 hexp hr
                go_wp2_with fail
                rw [frN_mk]
                exact HHJ5.out _ _ (p + 2) 26 (by have := HRR.out; go_num) (by have := HRR.out; omega) HX.out
              have e2 : (((s[r].toNat : Nat) : Int) == 45) = false := by rw [beq_eq_false_iff_ne]; omega
              have hexp : Js.Expo s.data.toList i r 25 := by
                subst hr
                exact Js.expo_none HF.out hlp HE.out fun _ => ⟨h43, h45⟩
              have HX := hidden hexp
              clear h43 h45 hexp hr
              go_wp2_with fail
              rw [frN_mk]
              exact HHJ5.out _ _ r 25 (congrArg (Value.int .i64) hrp) (Nat.le_of_lt hlr) HX.out
            · have l2 : decide ((r : Int) < (s.size : Int)) = false := decide_eq_false (by omega)
              have l2n : decide (r < s.size) = false := decide_eq_false (by omega)
              have hexp : Js.Expo s.data.toList i r 25 := by
                subst hr
                exact Js.expo_none HF.out hlp HE.out fun h => absurd h hlr
              have HX := hidden hexp
              have hrs : r ≤ s.size := by omega
              clear hexp hr
              go_wp2_with fail
              rw [frN_mk]
              exact HHJ5.out _ _ r 25 (congrArg (Value.int .i64) hrp) hrs HX.out
          have HHJE := hidden HJE
          by_cases he : s[p].toNat = 101
          · have e1 : (((s[p].toNat : Nat) : Int) == 101) = true := by rw [he]; rfl
            have HE := hidden he
            clear he HJE hKE
            go_wp2_with fail
            rw [frN_mk]
            exact HHJE.out _ rfl (.inl HE.out)
          have e1 : (((s[p].toNat : Nat) : Int) == 101) = false := by rw [beq_eq_false_iff_ne]; omega
          by_cases he2 : s[p].toNat = 69
          · have e2 : (((s[p].toNat : Nat) : Int) == 69) = true := by rw [he2]; rfl
            have HE := hidden he2
            clear he he2 HJE hKE
            go_wp2_with fail
            rw [frN_mk]
            exact HHJE.out _ rfl (.inr HE.out)
          have e2 : (((s[p].toNat : Nat) : Int) == 69) = false := by rw [beq_eq_false_iff_ne]; omega
          have HE := hidden he
          have HE2 := hidden he2
          have HKE := hidden hKE
          clear he he2 HJE HHJE hKE
          go_wp2_with fail
          refine HKE.out _ _ ?_
          clear HKE
          go_wp2_with fail
          rw [frN_mk]
          exact HHJ4.out _ _ p rfl HF.out.far hps fun st d => Js.frac_end HF.out (fun _ => ⟨HE.out, HE2.out⟩) st d
        · have l1 : decide ((p : Int) < (s.size : Int)) = false := decide_eq_false (by omega)
          have l1n : decide (p < s.size) = false := decide_eq_false (by omega)
          go_wp2_with fail
          rw [frN_mk]
          exact HHJ4.out _ _ p rfl HF.out.far hps fun st d => Js.frac_end HF.out (fun h => absurd h hlp) st d
      have HHJ3 := hidden HJ3
      clear HJ3 hKJ3
      by_cases hlp : p < s.size
      · have l1 : decide ((p : Int) < (s.size : Int)) = true := decide_eq_true (by omega)
        have l1n : decide (p < s.size) = true := decide_eq_true (by omega)
        by_cases h46 : s[p].toNat = 46
        · have e1 : (((s[p].toNat : Nat) : Int) == 46) = true := by rw [h46]; rfl
          have H46 := hidden h46
          clear h46
          go_wp2_with fail
          refine (jDigits_any s _ (p + 1) W (by omega) hs (by omega)).mono ?_
          rintro e w1 ⟨⟨n, rfl, hn, hr, hd⟩, hw⟩
          have hw := hw.symm
          subst hw
          have HR := hidden hr
          have HD := hidden hd
          clear hr hd
          by_cases hn0 : n = 0
          · have e0 : ((n : Int) == 0) = true := by rw [hn0]; rfl
            have HN := hidden hn0
            clear hn0
            go_wp2_with fail
            refine (jBad_any ((p : Int) + 1) (p + 1) _ (by omega)).mono ?_
            rintro e w9 ⟨rfl, hb9⟩
            have hg9 : w9.heap[w.heap.size]? = some (.cells #[.int .i64 0, .bool false, .int .i64 0] 32 (0, 0)) := (hb9.block _ ((Array.getElem?_eq_some_iff.1 HG.out).1)).trans HG.out
            obtain ⟨c0, f0, c1, f1, c2, f2⟩ := rv_open hg9
            have HG9 := hidden hg9
            have HQ9 := hidden (HB.out.trans (hb9.mono HB.out.size))
            clear hb9 hg9
            unfold rv
            go_wp2_with fail
            refine bodyPost_ret (results_cell_row rfl _ _ w.heap.size 32 #[.int .i64 ((p + 1) : Nat), .bool false, .int .i64 0] (0, 0) _ rfl ?_ Try.underlying32 rfl sizeR) rfl ?_
            · exact rv_cells HG9.out _ _ _
            · exact ⟨.inr ⟨p + 1, rfl, fun st d => Js.frac_no HW.out hlp H46.out (fun h => by have := HR.out (by rw [HN.out]; exact h); simp only [HN.out] at this; exact this) st d⟩, rv_below HQ9.out (Nat.le_refl _) _ _ _⟩
          · have e0 : ((n : Int) == 0) = false := by rw [beq_eq_false_iff_ne]; omega
            go_wp2_with fail
            rw [frN_mk]
            exact HHJ3.out _ _ (p + 1 + n) 24 (by go_num) hn (Js.frac_some HW.out hlp H46.out (by omega) (by rw [HL.out]; exact hn) HD.out HR.out)
        · have e1 : (((s[p].toNat : Nat) : Int) == 46) = false := by rw [beq_eq_false_iff_ne]; omega
          have H46 := hidden h46
          clear h46
          go_wp2_with fail
          rw [frN_mk]
          exact HHJ3.out _ _ p q rfl ham (Js.frac_none HW.out fun _ => H46.out)
      · have l1 : decide ((p : Int) < (s.size : Int)) = false := decide_eq_false (by omega)
        have l1n : decide (p < s.size) = false := decide_eq_false (by omega)
        go_wp2_with fail
        rw [frN_mk]
        exact HHJ3.out _ _ p q rfl ham (Js.frac_none HW.out fun h => absurd h hlp)
    have HHJ2 := hidden HJ2
    clear HJ2 hKJ2
    by_cases h48 : s[a].toNat = 48
    · have e1 : (((s[a].toNat : Nat) : Int) == 48) = true := by rw [h48]; rfl
      have HWH := hidden (Js.whole_zero HBG.out hia hlt h48)
      clear h48
      go_wp2_with fail
      rw [frN_mk]
      exact HHJ2.out _ 1 21 rfl hlt HWH.out
    · have e1 : (((s[a].toNat : Nat) : Int) == 48) = false := by rw [beq_eq_false_iff_ne]; omega
      have HWH := hidden (Js.whole_digits (n := n) HBG.out hia (by omega) (by rw [HL.out]; exact hn) HD.out HR.out fun _ => h48)
      clear h48
      go_wp2_with fail
      rw [frN_mk]
      exact HHJ2.out _ n 22 rfl hn HWH.out
  have HHJ1 := hidden HJ1
  clear HJ1 hKJ1
  by_cases h45 : s[i].toNat = 45
  · have e1 : (((s[i].toNat : Nat) : Int) == 45) = true := by rw [h45]; rfl
    have l0 : decide ((i : Int) < (s.size : Int)) = true := decide_eq_true (by omega)
    have HBM := hidden (Js.begun_minus s.data.toList i hi h45)
    clear h45
    go_wp2_with fail
    rw [frN_mk]
    exact HHJ1.out _ _ (i + 1) (by go_num) (by omega) hi HBM.out
  · have e1 : (((s[i].toNat : Nat) : Int) == 45) = false := by rw [beq_eq_false_iff_ne]; omega
    have l0 : decide ((i : Int) < (s.size : Int)) = true := decide_eq_true (by omega)
    have HBM := hidden (Js.begun_plain s.data.toList i hi HPL.out h45)
    clear h45
    go_wp2_with fail
    rw [frN_mk]
    exact HHJ1.out _ _ i rfl (Nat.le_refl _) (Nat.le_of_lt hi) HBM.out
end Go.Proofs.Ytifkemcjificcaa
