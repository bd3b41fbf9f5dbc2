/-
  The contract of laceworkref12's many, if item's is known from its place on.
-/
import Derived.Test.YtifkemcjificcaaJsRefV
namespace Go.Proofs.Ytifkemcjificcaa
open Go.RowKit
namespace Js
/-- Behind an item: the bracket that closes, a comma, or an end. -/
theorem many_end {l : List UInt8} {b : Bool} {i a q j dp D M : Nat} (hT : ∀ st d, st.length + 1 ≤ d → T l (cB b (b :: st) d) i = T l (cI b (b :: st) (max d (st.length + 1 + dp))) a) (h5 : ∀ st d, st.length ≤ d → T l (cI b st d) a = T l (cE st (max d (st.length + D))) q) (hj : ∀ c, Sp c → T l c q = T l c j) (hM : M = max dp D) (st : List Bool) (d : Nat) (hd : st.length + 1 ≤ d) : T l (cB b (b :: st) d) i = T l (cE (b :: st) (max d (st.length + 1 + M))) j := by
  rw [hT st d hd, h5 (b :: st) _ (by show st.length + 1 ≤ _; omega), hj _ (sp_E _ _)]
  show T l (cE (b :: st) (max (max d (st.length + 1 + dp)) (st.length + 1 + D))) j = _
  rw [show max (max d (st.length + 1 + dp)) (st.length + 1 + D) = max d (st.length + 1 + M) by omega]
end Js
set_option maxRecDepth 100000 in
set_option maxHeartbeats 8000000 in
theorem jMany_step (s : ByteArray) (b : Bool) (i g : Nat) (w : World) (hs : s.size ≤ 1000000) (hi : i ≤ s.size) (hg : g = Js.gE b)
    (hI : ∀ a w, i ≤ a → a ≤ s.size → Calls Try.prog 33 #[.string s, .int .i64 ((a : Nat) : Int), .int .u8 ((g : Nat) : Int)] w fun e w' => IPost s b a e ∧ Below w.heap.size w w') :
    Calls Try.prog 28 #[.string s, .int .i64 (i : Nat), .int .u8 (g : Nat)] w fun e w' => MPost s b i e ∧ Below w.heap.size w w' := by
  have HG : Hid ((w.alloc (Obj.cells #[.int .i64 0, .bool false, .int .i64 0] 32)).heap[w.heap.size]? = some (.cells #[.int .i64 0, .bool false, .int .i64 0] 32 (0, 0))) := heap_alloc_new _ _
  have HB : Hid (Below w.heap.size w (w.alloc (Obj.cells #[.int .i64 0, .bool false, .int .i64 0] 32))) := (Below.refl _ _).alloc (Nat.le_refl _) _
  have HI := hidden hI
  have HGE := hidden hg
  clear hI hg
  go_enter Try.func28, Try.ntmps28
  refine wp_seq_k fun K0 h0 => ?_
  have H0 := hidden h0
  clear h0
  go_wp2_with fail
  refine H0.out _ _ ?_
  clear H0
  refine wp_seq_k fun K0 h0 => ?_
  have H0 := hidden h0
  clear h0
  go_wp2_with fail
  refine (jBlanks_any s i _ hs hi).mono ?_
  rintro e w1 ⟨⟨j, rfl, hij, hjs, hbl, hT⟩, hw⟩
  have hw := hw.symm
  subst hw
  have HT := hidden hT
  have HBL := hidden hbl
  clear hT hbl
  go_wp2_with fail
  refine H0.out _ _ ?_
  clear H0
  by_cases hend : ∃ h : j < s.size, s[j].toNat = g
  · obtain ⟨hlt, hcg⟩ := hend
    have l0 : decide ((j : Int) < (s.size : Int)) = true := decide_eq_true (by omega)
    have l0n : decide (j < s.size) = true := decide_eq_true (by omega)
    have e1 : (((s[j].toNat : Nat) : Int) == (g : Int)) = true := by rw [hcg]; exact beq_self_eq_true _
    have e2 : (s[j].toNat == g) = true := by rw [hcg]; exact beq_self_eq_true _
    have HC : Hid (s[j].toNat = Js.gE b) := hidden (hcg.trans HGE.out)
    clear hcg
    go_wp2_with fail
    refine bodyPost_ret (results_cell_row rfl _ _ w.heap.size 32 #[.int .i64 (j + 1 : Nat), .bool true, .int .i64 1] (0, 0) _ rfl ?_ Try.underlying32 rfl sizeR) rfl ?_
    · exact heap_alloc_new _ _
    · exact ⟨.inl ⟨j + 1, 1, rfl, by omega, hlt, Nat.le_refl _, by omega, fun st d hd => (HT.out _ (Js.sp_B b _ d)).trans ((Js.T_B_end _ b st d j hlt HC.out).trans (by rw [Nat.max_eq_left hd]))⟩, (Below.refl _ _).alloc (Nat.le_refl _) _⟩
  · have main : Hid (∀ hj : j < s.size, s[j].toNat ≠ g) := hidden fun h1 h2 => hend ⟨h1, h2⟩
    have start : Hid (∀ st d, st.length + 1 ≤ d → Js.T s.data.toList (Js.cB b (b :: st) d) i = Js.T s.data.toList (Js.cI b (b :: st) (max d (st.length + 1 + 0))) j) := hidden fun st d hd => by
      rw [HT.out _ (Js.sp_B b _ d), Js.T_B_item _ b (b :: st) d j (fun h => ⟨HBL.out h, by rw [← HGE.out]; exact main.out h⟩), Nat.add_zero, Nat.max_eq_left hd]
    refine wp_seq_k fun KJ hKJ => ?_
    have HJ : ∀ (f : Act), f = f → True := fun _ _ => trivial
    have HKJ := hidden hKJ
    clear hKJ HJ hend
    by_cases hlt : j < s.size
    · have l0 : decide ((j : Int) < (s.size : Int)) = true := decide_eq_true (by omega)
      have l0n : decide (j < s.size) = true := decide_eq_true (by omega)
      have hcg := main.out hlt
      have e1 : (((s[j].toNat : Nat) : Int) == (g : Int)) = false := by rw [beq_eq_false_iff_ne]; omega
      have e2 : (s[j].toNat == g) = false := by rw [beq_eq_false_iff_ne]; exact hcg
      clear hcg
      go_wp2_with fail
      refine HKJ.out _ _ ?_
      clear HKJ l0 l0n e1 e2
      go_wp2_with fail
      go_loopw [1, 7, 8] (fun v dv kv wr => ∃ a dp k : Nat, v = .int .i64 (a : Nat) ∧ dv = .int .i64 (dp : Nat) ∧ kv = .int .i64 (k : Nat) ∧ i ≤ a ∧ a ≤ s.size ∧ dp + i ≤ a ∧ k ≤ a ∧ wr.heap[w.heap.size]? = some (.cells #[.int .i64 0, .bool false, .int .i64 0] 32 (0, 0)) ∧ Below w.heap.size w wr ∧ ∀ st d, st.length + 1 ≤ d → Js.T s.data.toList (Js.cB b (b :: st) d) i = Js.T s.data.toList (Js.cI b (b :: st) (max d (st.length + 1 + dp))) a) (fun v _ _ _ => s.size - (intOf v).toNat)
      case atStart => exact ⟨j, 0, 0, rfl, rfl, rfl, hij, hjs, by omega, by omega, HG.out, HB.out, start.out⟩
      case round =>
        clear start main HBL HT HG HB hij hjs
        obtain ⟨a, dp, k, rfl, rfl, rfl, hia, has, hdp, hk, hg, hb, hT⟩ := hrel
        have HG := hidden hg
        have HB := hidden hb
        have HT := hidden hT
        clear hg hb hT
        have lk : decide ((k : Int) ≤ (s.size : Int)) = true := decide_eq_true (by omega)
        have lkn : decide (k ≤ s.size) = true := decide_eq_true (by omega)
        go_wp2_with fail
        refine (HI.out a _ hia has).mono ?_
        rintro e w2 ⟨⟨q, D, rfl, h1, h2, h4, h5⟩ | ⟨q, rfl, h5⟩, hb2⟩
        · have H5 := hidden h5
          have hg2 : w2.heap[w.heap.size]? = some (.cells #[.int .i64 0, .bool false, .int .i64 0] 32 (0, 0)) := (hb2.block _ ((Array.getElem?_eq_some_iff.1 HG.out).1)).trans HG.out
          have HG2 := hidden hg2
          have HB2 := hidden (HB.out.trans (hb2.mono HB.out.size))
          have hsz2 := HB2.out.size
          have hg3 : (w2.alloc (Obj.cells #[.int .i64 (q : Nat), .bool true, .int .i64 (D : Nat)] 32)).heap[w.heap.size]? = some (.cells #[.int .i64 0, .bool false, .int .i64 0] 32 (0, 0)) := (((Below.refl _ w2).alloc (Nat.le_refl _) _).block _ ((Array.getElem?_eq_some_iff.1 hg2).1)).trans hg2
          have HG3 := hidden hg3
          have HB3 := hidden (HB2.out.alloc hsz2 (Obj.cells #[.int .i64 (q : Nat), .bool true, .int .i64 (D : Nat)] 32))
          obtain ⟨M, hM⟩ : ∃ M, M = max dp D := ⟨_, rfl⟩
          have HMM := hidden hM
          unfold rv
          clear hb2 h5 hg2 hg3
          by_cases hDd : D ≤ dp
          · obtain rfl : M = dp := by omega
            clear hM
            go_wp2_with fail
            refine (jBlanks_any s q _ hs h2).mono ?_
            rintro e w3 ⟨⟨j2, rfl, hqj, hjs2, hbl2, hT2⟩, hw3⟩
            have hw3 := hw3.symm
            subst hw3
            have HT2 := hidden (Js.many_end HT.out H5.out hT2 HMM.out)
            have HBL2 := hidden hbl2
            clear hT2 hbl2
            by_cases hlt : j2 < s.size
            · have l1 : decide ((j2 : Int) < (s.size : Int)) = true := decide_eq_true (by omega)
              have l1n : decide (j2 < s.size) = true := decide_eq_true (by omega)
              have l2 : decide ((s.size : Int) ≤ (j2 : Int)) = false := decide_eq_false (by omega)
              have l2n : decide (s.size ≤ j2) = false := decide_eq_false (by omega)
              by_cases hcg : s[j2].toNat = g
              · have e1 : (((s[j2].toNat : Nat) : Int) == (g : Int)) = true := by rw [hcg]; exact beq_self_eq_true _
                have e2 : (s[j2].toNat == g) = true := by rw [hcg]; exact beq_self_eq_true _
                have HC : Hid (s[j2].toNat = Js.gE b) := hidden (hcg.trans HGE.out)
                obtain ⟨c0, f0, c1, f1, c2, f2⟩ := rv_open HG3.out
                clear hcg
                go_wp2_with fail
                refine bodyPost_ret (results_cell_row rfl _ _ w.heap.size 32 #[.int .i64 (j2 + 1 : Nat), .bool true, .int .i64 ((M + 1 : Nat) : Int)] (0, 0) _ rfl ?_ Try.underlying32 rfl sizeR) rfl ?_
                · exact rv_cells HG3.out _ _ _
                · exact ⟨.inl ⟨j2 + 1, M + 1, rfl, by omega, hlt, by omega, by omega, fun st d hd => (HT2.out st d hd).trans ((Js.T_E_end _ b st _ j2 hlt HC.out).trans (by rw [show st.length + 1 + M = st.length + (M + 1) by omega]))⟩, rv_below HB3.out (Nat.le_refl _) _ _ _⟩
              · have e1 : (((s[j2].toNat : Nat) : Int) == (g : Int)) = false := by rw [beq_eq_false_iff_ne]; omega
                have e2 : (s[j2].toNat == g) = false := by rw [beq_eq_false_iff_ne]; exact hcg
                have HC : Hid (s[j2].toNat ≠ Js.gE b) := hidden (fun h => hcg (h.trans HGE.out.symm))
                clear hcg
                by_cases h44 : s[j2].toNat = 44
                · have e3 : (((s[j2].toNat : Nat) : Int) != 44) = false := by rw [h44]; rfl
                  have H44 := hidden h44
                  clear h44
                  go_wp2_with fail
                  go_roundw
                  case rel => exact ⟨j2 + 1, M, k + 1, by go_num, rfl, by go_num, by omega, hlt, by omega, by omega, HG3.out, HB3.out, fun st d hd => (HT2.out st d hd).trans (Js.T_E_next _ b st _ j2 hlt H44.out)⟩
                  case measure => simp [intOf]; omega
                · have e3 : (((s[j2].toNat : Nat) : Int) != 44) = true := by rw [bne_iff_ne]; omega
                  have H44 := hidden h44
                  clear h44
                  go_wp2_with fail
                  refine (jBad_any (j2 : Int) j2 _ (by omega)).mono ?_
                  rintro e w9 ⟨rfl, hb9⟩
                  have hg9 : w9.heap[w.heap.size]? = some (.cells #[.int .i64 0, .bool false, .int .i64 0] 32 (0, 0)) := (hb9.block _ ((Array.getElem?_eq_some_iff.1 HG3.out).1)).trans HG3.out
                  obtain ⟨c0, f0, c1, f1, c2, f2⟩ := rv_open hg9
                  have HG9 := hidden hg9
                  have HQ9 := hidden (HB3.out.trans (hb9.mono HB3.out.size))
                  clear hb9 hg9
                  unfold rv
                  go_wp2_with fail
                  refine bodyPost_ret (results_cell_row rfl _ _ w.heap.size 32 #[.int .i64 (j2 : Nat), .bool false, .int .i64 0] (0, 0) _ rfl ?_ Try.underlying32 rfl sizeR) rfl ?_
                  · exact rv_cells HG9.out _ _ _
                  · exact ⟨.inr ⟨j2, rfl, fun st d hd => (HT2.out st d hd).trans (Js.T_E_no _ b st _ j2 hjs2 fun h => ⟨HBL2.out h, HC.out, H44.out⟩)⟩, rv_below HQ9.out (Nat.le_refl _) _ _ _⟩
            · have l1 : decide ((j2 : Int) < (s.size : Int)) = false := decide_eq_false (by omega)
              have l1n : decide (j2 < s.size) = false := decide_eq_false (by omega)
              have l2 : decide ((s.size : Int) ≤ (j2 : Int)) = true := decide_eq_true (by omega)
              have l2n : decide (s.size ≤ j2) = true := decide_eq_true (by omega)
              go_wp2_with fail
              refine (jBad_any (j2 : Int) j2 _ (by omega)).mono ?_
              rintro e w9 ⟨rfl, hb9⟩
              have hg9 : w9.heap[w.heap.size]? = some (.cells #[.int .i64 0, .bool false, .int .i64 0] 32 (0, 0)) := (hb9.block _ ((Array.getElem?_eq_some_iff.1 HG3.out).1)).trans HG3.out
              obtain ⟨c0, f0, c1, f1, c2, f2⟩ := rv_open hg9
              have HG9 := hidden hg9
              have HQ9 := hidden (HB3.out.trans (hb9.mono HB3.out.size))
              clear hb9 hg9
              unfold rv
              go_wp2_with fail
              refine bodyPost_ret (results_cell_row rfl _ _ w.heap.size 32 #[.int .i64 (j2 : Nat), .bool false, .int .i64 0] (0, 0) _ rfl ?_ Try.underlying32 rfl sizeR) rfl ?_
              · exact rv_cells HG9.out _ _ _
              · exact ⟨.inr ⟨j2, rfl, fun st d hd => (HT2.out st d hd).trans (Js.T_E_no _ b st _ j2 hjs2 fun h => absurd h hlt)⟩, rv_below HQ9.out (Nat.le_refl _) _ _ _⟩
          · obtain rfl : M = D := by omega
            clear hM
            go_wp2_with fail
            refine (jBlanks_any s q _ hs h2).mono ?_
            rintro e w3 ⟨⟨j2, rfl, hqj, hjs2, hbl2, hT2⟩, hw3⟩
            have hw3 := hw3.symm
            subst hw3
            have HT2 := hidden (Js.many_end HT.out H5.out hT2 HMM.out)
            have HBL2 := hidden hbl2
            clear hT2 hbl2
            by_cases hlt : j2 < s.size
            · have l1 : decide ((j2 : Int) < (s.size : Int)) = true := decide_eq_true (by omega)
              have l1n : decide (j2 < s.size) = true := decide_eq_true (by omega)
              have l2 : decide ((s.size : Int) ≤ (j2 : Int)) = false := decide_eq_false (by omega)
              have l2n : decide (s.size ≤ j2) = false := decide_eq_false (by omega)
              by_cases hcg : s[j2].toNat = g
              · have e1 : (((s[j2].toNat : Nat) : Int) == (g : Int)) = true := by rw [hcg]; exact beq_self_eq_true _
                have e2 : (s[j2].toNat == g) = true := by rw [hcg]; exact beq_self_eq_true _
                have HC : Hid (s[j2].toNat = Js.gE b) := hidden (hcg.trans HGE.out)
                obtain ⟨c0, f0, c1, f1, c2, f2⟩ := rv_open HG3.out
                clear hcg
                go_wp2_with fail
                refine bodyPost_ret (results_cell_row rfl _ _ w.heap.size 32 #[.int .i64 (j2 + 1 : Nat), .bool true, .int .i64 ((M + 1 : Nat) : Int)] (0, 0) _ rfl ?_ Try.underlying32 rfl sizeR) rfl ?_
                · exact rv_cells HG3.out _ _ _
                · exact ⟨.inl ⟨j2 + 1, M + 1, rfl, by omega, hlt, by omega, by omega, fun st d hd => (HT2.out st d hd).trans ((Js.T_E_end _ b st _ j2 hlt HC.out).trans (by rw [show st.length + 1 + M = st.length + (M + 1) by omega]))⟩, rv_below HB3.out (Nat.le_refl _) _ _ _⟩
              · have e1 : (((s[j2].toNat : Nat) : Int) == (g : Int)) = false := by rw [beq_eq_false_iff_ne]; omega
                have e2 : (s[j2].toNat == g) = false := by rw [beq_eq_false_iff_ne]; exact hcg
                have HC : Hid (s[j2].toNat ≠ Js.gE b) := hidden (fun h => hcg (h.trans HGE.out.symm))
                clear hcg
                by_cases h44 : s[j2].toNat = 44
                · have e3 : (((s[j2].toNat : Nat) : Int) != 44) = false := by rw [h44]; rfl
                  have H44 := hidden h44
                  clear h44
                  go_wp2_with fail
                  go_roundw
                  case rel => exact ⟨j2 + 1, M, k + 1, by go_num, rfl, by go_num, by omega, hlt, by omega, by omega, HG3.out, HB3.out, fun st d hd => (HT2.out st d hd).trans (Js.T_E_next _ b st _ j2 hlt H44.out)⟩
                  case measure => simp [intOf]; omega
                · have e3 : (((s[j2].toNat : Nat) : Int) != 44) = true := by rw [bne_iff_ne]; omega
                  have H44 := hidden h44
                  clear h44
                  go_wp2_with fail
                  refine (jBad_any (j2 : Int) j2 _ (by omega)).mono ?_
                  rintro e w9 ⟨rfl, hb9⟩
                  have hg9 : w9.heap[w.heap.size]? = some (.cells #[.int .i64 0, .bool false, .int .i64 0] 32 (0, 0)) := (hb9.block _ ((Array.getElem?_eq_some_iff.1 HG3.out).1)).trans HG3.out
                  obtain ⟨c0, f0, c1, f1, c2, f2⟩ := rv_open hg9
                  have HG9 := hidden hg9
                  have HQ9 := hidden (HB3.out.trans (hb9.mono HB3.out.size))
                  clear hb9 hg9
                  unfold rv
                  go_wp2_with fail
                  refine bodyPost_ret (results_cell_row rfl _ _ w.heap.size 32 #[.int .i64 (j2 : Nat), .bool false, .int .i64 0] (0, 0) _ rfl ?_ Try.underlying32 rfl sizeR) rfl ?_
                  · exact rv_cells HG9.out _ _ _
                  · exact ⟨.inr ⟨j2, rfl, fun st d hd => (HT2.out st d hd).trans (Js.T_E_no _ b st _ j2 hjs2 fun h => ⟨HBL2.out h, HC.out, H44.out⟩)⟩, rv_below HQ9.out (Nat.le_refl _) _ _ _⟩
            · have l1 : decide ((j2 : Int) < (s.size : Int)) = false := decide_eq_false (by omega)
              have l1n : decide (j2 < s.size) = false := decide_eq_false (by omega)
              have l2 : decide ((s.size : Int) ≤ (j2 : Int)) = true := decide_eq_true (by omega)
              have l2n : decide (s.size ≤ j2) = true := decide_eq_true (by omega)
              go_wp2_with fail
              refine (jBad_any (j2 : Int) j2 _ (by omega)).mono ?_
              rintro e w9 ⟨rfl, hb9⟩
              have hg9 : w9.heap[w.heap.size]? = some (.cells #[.int .i64 0, .bool false, .int .i64 0] 32 (0, 0)) := (hb9.block _ ((Array.getElem?_eq_some_iff.1 HG3.out).1)).trans HG3.out
              obtain ⟨c0, f0, c1, f1, c2, f2⟩ := rv_open hg9
              have HG9 := hidden hg9
              have HQ9 := hidden (HB3.out.trans (hb9.mono HB3.out.size))
              clear hb9 hg9
              unfold rv
              go_wp2_with fail
              refine bodyPost_ret (results_cell_row rfl _ _ w.heap.size 32 #[.int .i64 (j2 : Nat), .bool false, .int .i64 0] (0, 0) _ rfl ?_ Try.underlying32 rfl sizeR) rfl ?_
              · exact rv_cells HG9.out _ _ _
              · exact ⟨.inr ⟨j2, rfl, fun st d hd => (HT2.out st d hd).trans (Js.T_E_no _ b st _ j2 hjs2 fun h => absurd h hlt)⟩, rv_below HQ9.out (Nat.le_refl _) _ _ _⟩
        · have H5 := hidden h5
          have hg2 : w2.heap[w.heap.size]? = some (.cells #[.int .i64 0, .bool false, .int .i64 0] 32 (0, 0)) := (hb2.block _ ((Array.getElem?_eq_some_iff.1 HG.out).1)).trans HG.out
          have HG2 := hidden hg2
          have HB2 := hidden (HB.out.trans (hb2.mono HB.out.size))
          have hsz2 := HB2.out.size
          have hg9 : (w2.alloc (Obj.cells #[.int .i64 (q : Nat), .bool false, .int .i64 0] 32)).heap[w.heap.size]? = some (.cells #[.int .i64 0, .bool false, .int .i64 0] 32 (0, 0)) := (((Below.refl _ w2).alloc (Nat.le_refl _) _).block _ ((Array.getElem?_eq_some_iff.1 hg2).1)).trans hg2
          obtain ⟨c0, f0, c1, f1, c2, f2⟩ := rv_open hg9
          have HG9 := hidden hg9
          unfold rv
          clear hb2 h5 hg2 hg9
          go_wp2_with fail
          refine bodyPost_ret (results_cell_row rfl _ _ w.heap.size 32 #[.int .i64 (q : Nat), .bool false, .int .i64 0] (0, 0) _ rfl ?_ Try.underlying32 rfl sizeR) rfl ?_
          · exact rv_cells HG9.out _ _ _
          · exact ⟨.inr ⟨q, rfl, fun st d hd => (HT.out st d hd).trans (H5.out (b :: st) _ (by show st.length + 1 ≤ _; omega))⟩, rv_below (HB2.out.alloc hsz2 _) (Nat.le_refl _) _ _ _⟩
    · have l0 : decide ((j : Int) < (s.size : Int)) = false := decide_eq_false (by omega)
      have l0n : decide (j < s.size) = false := decide_eq_false (by omega)
      go_wp2_with fail
      refine HKJ.out _ _ ?_
      clear HKJ l0 l0n
      go_wp2_with fail
      go_loopw [1, 7, 8] (fun v dv kv wr => ∃ a dp k : Nat, v = .int .i64 (a : Nat) ∧ dv = .int .i64 (dp : Nat) ∧ kv = .int .i64 (k : Nat) ∧ i ≤ a ∧ a ≤ s.size ∧ dp + i ≤ a ∧ k ≤ a ∧ wr.heap[w.heap.size]? = some (.cells #[.int .i64 0, .bool false, .int .i64 0] 32 (0, 0)) ∧ Below w.heap.size w wr ∧ ∀ st d, st.length + 1 ≤ d → Js.T s.data.toList (Js.cB b (b :: st) d) i = Js.T s.data.toList (Js.cI b (b :: st) (max d (st.length + 1 + dp))) a) (fun v _ _ _ => s.size - (intOf v).toNat)
      case atStart => exact ⟨j, 0, 0, rfl, rfl, rfl, hij, hjs, by omega, by omega, HG.out, HB.out, start.out⟩
      case round =>
        clear start main HBL HT HG HB hij hjs
        obtain ⟨a, dp, k, rfl, rfl, rfl, hia, has, hdp, hk, hg, hb, hT⟩ := hrel
        have HG := hidden hg
        have HB := hidden hb
        have HT := hidden hT
        clear hg hb hT
        have lk : decide ((k : Int) ≤ (s.size : Int)) = true := decide_eq_true (by omega)
        have lkn : decide (k ≤ s.size) = true := decide_eq_true (by omega)
        go_wp2_with fail
        refine (HI.out a _ hia has).mono ?_
        rintro e w2 ⟨⟨q, D, rfl, h1, h2, h4, h5⟩ | ⟨q, rfl, h5⟩, hb2⟩
        · have H5 := hidden h5
          have hg2 : w2.heap[w.heap.size]? = some (.cells #[.int .i64 0, .bool false, .int .i64 0] 32 (0, 0)) := (hb2.block _ ((Array.getElem?_eq_some_iff.1 HG.out).1)).trans HG.out
          have HG2 := hidden hg2
          have HB2 := hidden (HB.out.trans (hb2.mono HB.out.size))
          have hsz2 := HB2.out.size
          have hg3 : (w2.alloc (Obj.cells #[.int .i64 (q : Nat), .bool true, .int .i64 (D : Nat)] 32)).heap[w.heap.size]? = some (.cells #[.int .i64 0, .bool false, .int .i64 0] 32 (0, 0)) := (((Below.refl _ w2).alloc (Nat.le_refl _) _).block _ ((Array.getElem?_eq_some_iff.1 hg2).1)).trans hg2
          have HG3 := hidden hg3
          have HB3 := hidden (HB2.out.alloc hsz2 (Obj.cells #[.int .i64 (q : Nat), .bool true, .int .i64 (D : Nat)] 32))
          obtain ⟨M, hM⟩ : ∃ M, M = max dp D := ⟨_, rfl⟩
          have HMM := hidden hM
          unfold rv
          clear hb2 h5 hg2 hg3
          by_cases hDd : D ≤ dp
          · obtain rfl : M = dp := by omega
            clear hM
            go_wp2_with fail
            refine (jBlanks_any s q _ hs h2).mono ?_
            rintro e w3 ⟨⟨j2, rfl, hqj, hjs2, hbl2, hT2⟩, hw3⟩
            have hw3 := hw3.symm
            subst hw3
            have HT2 := hidden (Js.many_end HT.out H5.out hT2 HMM.out)
            have HBL2 := hidden hbl2
            clear hT2 hbl2
            by_cases hlt : j2 < s.size
            · have l1 : decide ((j2 : Int) < (s.size : Int)) = true := decide_eq_true (by omega)
              have l1n : decide (j2 < s.size) = true := decide_eq_true (by omega)
              have l2 : decide ((s.size : Int) ≤ (j2 : Int)) = false := decide_eq_false (by omega)
              have l2n : decide (s.size ≤ j2) = false := decide_eq_false (by omega)
              by_cases hcg : s[j2].toNat = g
              · have e1 : (((s[j2].toNat : Nat) : Int) == (g : Int)) = true := by rw [hcg]; exact beq_self_eq_true _
                have e2 : (s[j2].toNat == g) = true := by rw [hcg]; exact beq_self_eq_true _
                have HC : Hid (s[j2].toNat = Js.gE b) := hidden (hcg.trans HGE.out)
                obtain ⟨c0, f0, c1, f1, c2, f2⟩ := rv_open HG3.out
                clear hcg
                go_wp2_with fail
                refine bodyPost_ret (results_cell_row rfl _ _ w.heap.size 32 #[.int .i64 (j2 + 1 : Nat), .bool true, .int .i64 ((M + 1 : Nat) : Int)] (0, 0) _ rfl ?_ Try.underlying32 rfl sizeR) rfl ?_
                · exact rv_cells HG3.out _ _ _
                · exact ⟨.inl ⟨j2 + 1, M + 1, rfl, by omega, hlt, by omega, by omega, fun st d hd => (HT2.out st d hd).trans ((Js.T_E_end _ b st _ j2 hlt HC.out).trans (by rw [show st.length + 1 + M = st.length + (M + 1) by omega]))⟩, rv_below HB3.out (Nat.le_refl _) _ _ _⟩
              · have e1 : (((s[j2].toNat : Nat) : Int) == (g : Int)) = false := by rw [beq_eq_false_iff_ne]; omega
                have e2 : (s[j2].toNat == g) = false := by rw [beq_eq_false_iff_ne]; exact hcg
                have HC : Hid (s[j2].toNat ≠ Js.gE b) := hidden (fun h => hcg (h.trans HGE.out.symm))
                clear hcg
                by_cases h44 : s[j2].toNat = 44
                · have e3 : (((s[j2].toNat : Nat) : Int) != 44) = false := by rw [h44]; rfl
                  have H44 := hidden h44
                  clear h44
                  go_wp2_with fail
                  go_roundw
                  case rel => exact ⟨j2 + 1, M, k + 1, by go_num, rfl, by go_num, by omega, hlt, by omega, by omega, HG3.out, HB3.out, fun st d hd => (HT2.out st d hd).trans (Js.T_E_next _ b st _ j2 hlt H44.out)⟩
                  case measure => simp [intOf]; omega
                · have e3 : (((s[j2].toNat : Nat) : Int) != 44) = true := by rw [bne_iff_ne]; omega
                  have H44 := hidden h44
                  clear h44
                  go_wp2_with fail
                  refine (jBad_any (j2 : Int) j2 _ (by omega)).mono ?_
                  rintro e w9 ⟨rfl, hb9⟩
                  have hg9 : w9.heap[w.heap.size]? = some (.cells #[.int .i64 0, .bool false, .int .i64 0] 32 (0, 0)) := (hb9.block _ ((Array.getElem?_eq_some_iff.1 HG3.out).1)).trans HG3.out
                  obtain ⟨c0, f0, c1, f1, c2, f2⟩ := rv_open hg9
                  have HG9 := hidden hg9
                  have HQ9 := hidden (HB3.out.trans (hb9.mono HB3.out.size))
                  clear hb9 hg9
                  unfold rv
                  go_wp2_with fail
                  refine bodyPost_ret (results_cell_row rfl _ _ w.heap.size 32 #[.int .i64 (j2 : Nat), .bool false, .int .i64 0] (0, 0) _ rfl ?_ Try.underlying32 rfl sizeR) rfl ?_
                  · exact rv_cells HG9.out _ _ _
                  · exact ⟨.inr ⟨j2, rfl, fun st d hd => (HT2.out st d hd).trans (Js.T_E_no _ b st _ j2 hjs2 fun h => ⟨HBL2.out h, HC.out, H44.out⟩)⟩, rv_below HQ9.out (Nat.le_refl _) _ _ _⟩
            · have l1 : decide ((j2 : Int) < (s.size : Int)) = false := decide_eq_false (by omega)
              have l1n : decide (j2 < s.size) = false := decide_eq_false (by omega)
              have l2 : decide ((s.size : Int) ≤ (j2 : Int)) = true := decide_eq_true (by omega)
              have l2n : decide (s.size ≤ j2) = true := decide_eq_true (by omega)
              go_wp2_with fail
              refine (jBad_any (j2 : Int) j2 _ (by omega)).mono ?_
              rintro e w9 ⟨rfl, hb9⟩
              have hg9 : w9.heap[w.heap.size]? = some (.cells #[.int .i64 0, .bool false, .int .i64 0] 32 (0, 0)) := (hb9.block _ ((Array.getElem?_eq_some_iff.1 HG3.out).1)).trans HG3.out
              obtain ⟨c0, f0, c1, f1, c2, f2⟩ := rv_open hg9
              have HG9 := hidden hg9
              have HQ9 := hidden (HB3.out.trans (hb9.mono HB3.out.size))
              clear hb9 hg9
              unfold rv
              go_wp2_with fail
              refine bodyPost_ret (results_cell_row rfl _ _ w.heap.size 32 #[.int .i64 (j2 : Nat), .bool false, .int .i64 0] (0, 0) _ rfl ?_ Try.underlying32 rfl sizeR) rfl ?_
              · exact rv_cells HG9.out _ _ _
              · exact ⟨.inr ⟨j2, rfl, fun st d hd => (HT2.out st d hd).trans (Js.T_E_no _ b st _ j2 hjs2 fun h => absurd h hlt)⟩, rv_below HQ9.out (Nat.le_refl _) _ _ _⟩
          · obtain rfl : M = D := by omega
            clear hM
            go_wp2_with fail
            refine (jBlanks_any s q _ hs h2).mono ?_
            rintro e w3 ⟨⟨j2, rfl, hqj, hjs2, hbl2, hT2⟩, hw3⟩
            have hw3 := hw3.symm
            subst hw3
            have HT2 := hidden (Js.many_end HT.out H5.out hT2 HMM.out)
            have HBL2 := hidden hbl2
            clear hT2 hbl2
            by_cases hlt : j2 < s.size
            · have l1 : decide ((j2 : Int) < (s.size : Int)) = true := decide_eq_true (by omega)
              have l1n : decide (j2 < s.size) = true := decide_eq_true (by omega)
              have l2 : decide ((s.size : Int) ≤ (j2 : Int)) = false := decide_eq_false (by omega)
              have l2n : decide (s.size ≤ j2) = false := decide_eq_false (by omega)
              by_cases hcg : s[j2].toNat = g
              · have e1 : (((s[j2].toNat : Nat) : Int) == (g : Int)) = true := by rw [hcg]; exact beq_self_eq_true _
                have e2 : (s[j2].toNat == g) = true := by rw [hcg]; exact beq_self_eq_true _
                have HC : Hid (s[j2].toNat = Js.gE b) := hidden (hcg.trans HGE.out)
                obtain ⟨c0, f0, c1, f1, c2, f2⟩ := rv_open HG3.out
                clear hcg
                go_wp2_with fail
                refine bodyPost_ret (results_cell_row rfl _ _ w.heap.size 32 #[.int .i64 (j2 + 1 : Nat), .bool true, .int .i64 ((M + 1 : Nat) : Int)] (0, 0) _ rfl ?_ Try.underlying32 rfl sizeR) rfl ?_
                · exact rv_cells HG3.out _ _ _
                · exact ⟨.inl ⟨j2 + 1, M + 1, rfl, by omega, hlt, by omega, by omega, fun st d hd => (HT2.out st d hd).trans ((Js.T_E_end _ b st _ j2 hlt HC.out).trans (by rw [show st.length + 1 + M = st.length + (M + 1) by omega]))⟩, rv_below HB3.out (Nat.le_refl _) _ _ _⟩
              · have e1 : (((s[j2].toNat : Nat) : Int) == (g : Int)) = false := by rw [beq_eq_false_iff_ne]; omega
                have e2 : (s[j2].toNat == g) = false := by rw [beq_eq_false_iff_ne]; exact hcg
                have HC : Hid (s[j2].toNat ≠ Js.gE b) := hidden (fun h => hcg (h.trans HGE.out.symm))
                clear hcg
                by_cases h44 : s[j2].toNat = 44
                · have e3 : (((s[j2].toNat : Nat) : Int) != 44) = false := by rw [h44]; rfl
                  have H44 := hidden h44
                  clear h44
                  go_wp2_with fail
                  go_roundw
                  case rel => exact ⟨j2 + 1, M, k + 1, by go_num, rfl, by go_num, by omega, hlt, by omega, by omega, HG3.out, HB3.out, fun st d hd => (HT2.out st d hd).trans (Js.T_E_next _ b st _ j2 hlt H44.out)⟩
                  case measure => simp [intOf]; omega
                · have e3 : (((s[j2].toNat : Nat) : Int) != 44) = true := by rw [bne_iff_ne]; omega
                  have H44 := hidden h44
                  clear h44
                  go_wp2_with fail
                  refine (jBad_any (j2 : Int) j2 _ (by omega)).mono ?_
                  rintro e w9 ⟨rfl, hb9⟩
                  have hg9 : w9.heap[w.heap.size]? = some (.cells #[.int .i64 0, .bool false, .int .i64 0] 32 (0, 0)) := (hb9.block _ ((Array.getElem?_eq_some_iff.1 HG3.out).1)).trans HG3.out
                  obtain ⟨c0, f0, c1, f1, c2, f2⟩ := rv_open hg9
                  have HG9 := hidden hg9
                  have HQ9 := hidden (HB3.out.trans (hb9.mono HB3.out.size))
                  clear hb9 hg9
                  unfold rv
                  go_wp2_with fail
                  refine bodyPost_ret (results_cell_row rfl _ _ w.heap.size 32 #[.int .i64 (j2 : Nat), .bool false, .int .i64 0] (0, 0) _ rfl ?_ Try.underlying32 rfl sizeR) rfl ?_
                  · exact rv_cells HG9.out _ _ _
                  · exact ⟨.inr ⟨j2, rfl, fun st d hd => (HT2.out st d hd).trans (Js.T_E_no _ b st _ j2 hjs2 fun h => ⟨HBL2.out h, HC.out, H44.out⟩)⟩, rv_below HQ9.out (Nat.le_refl _) _ _ _⟩
            · have l1 : decide ((j2 : Int) < (s.size : Int)) = false := decide_eq_false (by omega)
              have l1n : decide (j2 < s.size) = false := decide_eq_false (by omega)
              have l2 : decide ((s.size : Int) ≤ (j2 : Int)) = true := decide_eq_true (by omega)
              have l2n : decide (s.size ≤ j2) = true := decide_eq_true (by omega)
              go_wp2_with fail
              refine (jBad_any (j2 : Int) j2 _ (by omega)).mono ?_
              rintro e w9 ⟨rfl, hb9⟩
              have hg9 : w9.heap[w.heap.size]? = some (.cells #[.int .i64 0, .bool false, .int .i64 0] 32 (0, 0)) := (hb9.block _ ((Array.getElem?_eq_some_iff.1 HG3.out).1)).trans HG3.out
              obtain ⟨c0, f0, c1, f1, c2, f2⟩ := rv_open hg9
              have HG9 := hidden hg9
              have HQ9 := hidden (HB3.out.trans (hb9.mono HB3.out.size))
              clear hb9 hg9
              unfold rv
              go_wp2_with fail
              refine bodyPost_ret (results_cell_row rfl _ _ w.heap.size 32 #[.int .i64 (j2 : Nat), .bool false, .int .i64 0] (0, 0) _ rfl ?_ Try.underlying32 rfl sizeR) rfl ?_
              · exact rv_cells HG9.out _ _ _
              · exact ⟨.inr ⟨j2, rfl, fun st d hd => (HT2.out st d hd).trans (Js.T_E_no _ b st _ j2 hjs2 fun h => absurd h hlt)⟩, rv_below HQ9.out (Nat.le_refl _) _ _ _⟩
        · have H5 := hidden h5
          have hg2 : w2.heap[w.heap.size]? = some (.cells #[.int .i64 0, .bool false, .int .i64 0] 32 (0, 0)) := (hb2.block _ ((Array.getElem?_eq_some_iff.1 HG.out).1)).trans HG.out
          have HG2 := hidden hg2
          have HB2 := hidden (HB.out.trans (hb2.mono HB.out.size))
          have hsz2 := HB2.out.size
          have hg9 : (w2.alloc (Obj.cells #[.int .i64 (q : Nat), .bool false, .int .i64 0] 32)).heap[w.heap.size]? = some (.cells #[.int .i64 0, .bool false, .int .i64 0] 32 (0, 0)) := (((Below.refl _ w2).alloc (Nat.le_refl _) _).block _ ((Array.getElem?_eq_some_iff.1 hg2).1)).trans hg2
          obtain ⟨c0, f0, c1, f1, c2, f2⟩ := rv_open hg9
          have HG9 := hidden hg9
          unfold rv
          clear hb2 h5 hg2 hg9
          go_wp2_with fail
          refine bodyPost_ret (results_cell_row rfl _ _ w.heap.size 32 #[.int .i64 (q : Nat), .bool false, .int .i64 0] (0, 0) _ rfl ?_ Try.underlying32 rfl sizeR) rfl ?_
          · exact rv_cells HG9.out _ _ _
          · exact ⟨.inr ⟨q, rfl, fun st d hd => (HT.out st d hd).trans (H5.out (b :: st) _ (by show st.length + 1 ≤ _; omega))⟩, rv_below (HB2.out.alloc hsz2 _) (Nat.le_refl _) _ _ _⟩
end Go.Proofs.Ytifkemcjificcaa
