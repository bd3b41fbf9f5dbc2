/-
  The contract of laceworkref12's item, if Value's is known from its place on; then of Value, for every string and every place.
-/
import Derived.Test.YtifkemcjificcaaJsRefM
namespace Go.Proofs.Ytifkemcjificcaa
open Go.RowKit
theorem colon_post {s : ByteArray} {j : Nat} {e : Ending} (h : WdPost s ⟨#[58]⟩ j e) : (e = .returned (rv (j + 1) true 0) ∧ ∃ h : j < s.size, s[j].toNat = 58) ∨ (e = .returned (rv j false 0) ∧ ∀ h : j < s.size, s[j].toNat ≠ 58) := by
  rcases h with ⟨h1, h2, h3⟩ | ⟨k, hk, h1, h2, h3, h4⟩
  · exact .inl ⟨h1, h3 0 (by decide)⟩
  · obtain rfl : k = 0 := by
      have : k < 1 := hk
      omega
    exact .inr ⟨h1, fun h => h4 h⟩
theorem VPost.item {s : ByteArray} {i j : Nat} {e : Ending} (h : VPost s (j + 1) e) (hij : i ≤ j) (hk : ∀ st d, Js.T s.data.toList (Js.cI true st d) i = Js.T s.data.toList (Js.cC st d) j) (hj : j < s.size) (h58 : s[j].toNat = 58) : IPost s true i e := by
  rcases h with ⟨q, D, h1, h2, h3, h4, h5⟩ | ⟨q, h1, h2⟩
  · exact .inl ⟨q, D, h1, by omega, h3, by omega, fun st d hd => (hk st d).trans ((Js.T_C_colon _ st d j hj h58).trans (h5 st d hd))⟩
  · exact .inr ⟨q, h1, fun st d hd => (hk st d).trans ((Js.T_C_colon _ st d j hj h58).trans (h2 st d hd))⟩
set_option maxRecDepth 100000 in
set_option maxHeartbeats 4000000 in
theorem jItem_step (s : ByteArray) (b : Bool) (i g : Nat) (w : World) (hs : s.size ≤ 1000000) (hi : i ≤ s.size) (hg : g = Js.gE b)
    (hV : ∀ a w, i ≤ a → a ≤ s.size → Calls Try.prog 21 #[.string s, .int .i64 ((a : Nat) : Int)] w fun e w' => VPost s a e ∧ Below w.heap.size w w') :
    Calls Try.prog 33 #[.string s, .int .i64 (i : Nat), .int .u8 (g : Nat)] w fun e w' => IPost s b i e ∧ Below w.heap.size w w' := by
  have HG : Hid ((w.alloc (Obj.cells #[.int .i64 0, .bool false, .int .i64 0] 32)).heap[w.heap.size]? = some (.cells #[.int .i64 0, .bool false, .int .i64 0] 32 (0, 0))) := heap_alloc_new _ _
  have HB : Hid (Below w.heap.size w (w.alloc (Obj.cells #[.int .i64 0, .bool false, .int .i64 0] 32))) := (Below.refl _ _).alloc (Nat.le_refl _) _
  have HVV := hidden hV
  clear hV
  cases b with
  | false =>
    have e0 : ((g : Int) == 93) = true := by rw [hg]; rfl
    have e0n : (g == 93) = true := by rw [hg]; rfl
    clear hg
    go_enter Try.func33, Try.ntmps33
    go_wp2_with fail
    refine (HVV.out i _ (Nat.le_refl _) hi).mono ?_
    rintro e w9 ⟨hp, hb9⟩
    have hv : VPost s i e := hp
    obtain ⟨q, ok, D, rfl⟩ := hv.rv
    have HV := hidden hv
    have hg9 : w9.heap[w.heap.size]? = some (.cells #[.int .i64 0, .bool false, .int .i64 0] 32 (0, 0)) := (hb9.block _ ((Array.getElem?_eq_some_iff.1 HG.out).1)).trans HG.out
    obtain ⟨c0, f0, c1, f1, c2, f2⟩ := rv_open hg9
    have HG9 := hidden hg9
    have HQ9 := hidden (HB.out.trans (hb9.mono HB.out.size))
    clear hp hv hb9 hg9
    unfold rv
    go_wp2_with fail
    refine bodyPost_ret (results_cell_row rfl _ _ w.heap.size 32 #[.int .i64 (q : Nat), .bool ok, .int .i64 (D : Nat)] (0, 0) _ rfl ?_ Try.underlying32 rfl sizeR) rfl ?_
    · exact rv_cells HG9.out _ _ _
    · exact ⟨HV.out, rv_below HQ9.out (Nat.le_refl _) _ _ _⟩
  | true =>
    have e0 : ((g : Int) == 93) = false := by rw [hg]; rfl
    have e0n : (g == 93) = false := by rw [hg]; rfl
    clear hg
    go_enter Try.func33, Try.ntmps33
    go_wp2_with fail
    refine (jBlanks_any s i _ hs hi).mono ?_
    rintro e w1 ⟨⟨j, rfl, hij, hjs, hbl, hT⟩, hw⟩
    have hw := hw.symm
    subst hw
    have HT := hidden hT
    have HBL := hidden hbl
    clear hT hbl
    by_cases h34 : ∃ h : j < s.size, s[j].toNat = 34
    · obtain ⟨hlt, h34⟩ := h34
      have H34 := hidden h34
      clear h34
      go_wp2_with fail
      refine (jStr_in s j _ hs hlt H34.out).mono ?_
      rintro e w2 ⟨⟨q, rfl, h1, h2, h3⟩ | ⟨q, rfl, h3⟩, hb2⟩
      · have H3 := hidden h3
        clear h3
        have hg2 : w2.heap[w.heap.size]? = some (.cells #[.int .i64 0, .bool false, .int .i64 0] 32 (0, 0)) := (hb2.block _ ((Array.getElem?_eq_some_iff.1 HG.out).1)).trans HG.out
        have HB2 := hidden (HB.out.trans (hb2.mono HB.out.size))
        have hsz2 := HB2.out.size
        have hg2a : (w2.alloc (Obj.cells #[.int .i64 (q : Nat), .bool true, .int .i64 0] 32)).heap[w.heap.size]? = some (.cells #[.int .i64 0, .bool false, .int .i64 0] 32 (0, 0)) := (((Below.refl _ w2).alloc (Nat.le_refl _) _).block _ ((Array.getElem?_eq_some_iff.1 hg2).1)).trans hg2
        have HG2a := hidden hg2a
        have HB2a := hidden (HB2.out.alloc hsz2 (Obj.cells #[.int .i64 (q : Nat), .bool true, .int .i64 0] 32))
        unfold rv
        clear hb2 hg2 hg2a
        go_wp2_with fail
        refine (jBlanks_any s q _ hs h2).mono ?_
        rintro e w3 ⟨⟨j2, rfl, hqj, hjs2, hbl2, hT2⟩, hw3⟩
        have hw3 := hw3.symm
        subst hw3
        have HT2 := hidden hT2
        have HBL2 := hidden hbl2
        clear hT2 hbl2
        have HK : Hid (∀ st d, Js.T s.data.toList (Js.cI true st d) i = Js.T s.data.toList (Js.cC st d) j2) := hidden fun st d => (HT.out _ (Js.sp_I true st d)).trans ((Js.T_K_str _ st d j hlt H34.out).trans ((H3.out true st d).trans (HT2.out _ (Js.sp_C st d))))
        go_wp2_with fail
        refine (jWord_any s ⟨#[58]⟩ j2 _ hs (by decide) hjs2).mono ?_
        rintro e w4 ⟨hp, hb4⟩
        rcases colon_post hp with ⟨rfl, hlt2, h58⟩ | ⟨rfl, h58⟩
        · have H58 := hidden h58
          clear hp h58
          have hg4 : w4.heap[w.heap.size]? = some (.cells #[.int .i64 0, .bool false, .int .i64 0] 32 (0, 0)) := (hb4.block _ ((Array.getElem?_eq_some_iff.1 HG2a.out).1)).trans HG2a.out
          have HB4 := hidden (HB2a.out.trans (hb4.mono HB2a.out.size))
          have hsz4 := HB4.out.size
          have hg4a : (w4.alloc (Obj.cells #[.int .i64 ((j2 + 1) : Nat), .bool true, .int .i64 0] 32)).heap[w.heap.size]? = some (.cells #[.int .i64 0, .bool false, .int .i64 0] 32 (0, 0)) := (((Below.refl _ w4).alloc (Nat.le_refl _) _).block _ ((Array.getElem?_eq_some_iff.1 hg4).1)).trans hg4
          have HG4a := hidden hg4a
          have HB4a := hidden (HB4.out.alloc hsz4 (Obj.cells #[.int .i64 ((j2 + 1) : Nat), .bool true, .int .i64 0] 32))
          unfold rv
          clear hb4 hg4 hg4a
          go_wp2_with fail
          refine (HVV.out (j2 + 1) _ (by omega) hlt2).mono ?_
          rintro e w9 ⟨hp, hb9⟩
          have hv : VPost s (j2 + 1) e := hp
          obtain ⟨q, ok, D, rfl⟩ := hv.rv
          have HV := hidden hv
          have hg9 : w9.heap[w.heap.size]? = some (.cells #[.int .i64 0, .bool false, .int .i64 0] 32 (0, 0)) := (hb9.block _ ((Array.getElem?_eq_some_iff.1 HG4a.out).1)).trans HG4a.out
          obtain ⟨c0, f0, c1, f1, c2, f2⟩ := rv_open hg9
          have HG9 := hidden hg9
          have HQ9 := hidden (HB4a.out.trans (hb9.mono HB4a.out.size))
          clear hp hv hb9 hg9
          unfold rv
          go_wp2_with fail
          refine bodyPost_ret (results_cell_row rfl _ _ w.heap.size 32 #[.int .i64 (q : Nat), .bool ok, .int .i64 (D : Nat)] (0, 0) _ rfl ?_ Try.underlying32 rfl sizeR) rfl ?_
          · exact rv_cells HG9.out _ _ _
          · exact ⟨VPost.item HV.out (by omega) HK.out hlt2 H58.out, rv_below HQ9.out (Nat.le_refl _) _ _ _⟩
        · have H58 := hidden h58
          clear hp h58
          have hg4 : w4.heap[w.heap.size]? = some (.cells #[.int .i64 0, .bool false, .int .i64 0] 32 (0, 0)) := (hb4.block _ ((Array.getElem?_eq_some_iff.1 HG2a.out).1)).trans HG2a.out
          have HB4 := hidden (HB2a.out.trans (hb4.mono HB2a.out.size))
          have hsz4 := HB4.out.size
          have hg4a : (w4.alloc (Obj.cells #[.int .i64 (j2 : Nat), .bool false, .int .i64 0] 32)).heap[w.heap.size]? = some (.cells #[.int .i64 0, .bool false, .int .i64 0] 32 (0, 0)) := (((Below.refl _ w4).alloc (Nat.le_refl _) _).block _ ((Array.getElem?_eq_some_iff.1 hg4).1)).trans hg4
          have HG4a := hidden hg4a
          have HB4a := hidden (HB4.out.alloc hsz4 (Obj.cells #[.int .i64 (j2 : Nat), .bool false, .int .i64 0] 32))
          unfold rv
          clear hb4 hg4 hg4a
          obtain ⟨c0, f0, c1, f1, c2, f2⟩ := rv_open HG4a.out
          go_wp2_with fail
          refine bodyPost_ret (results_cell_row rfl _ _ w.heap.size 32 #[.int .i64 (j2 : Nat), .bool false, .int .i64 0] (0, 0) _ rfl ?_ Try.underlying32 rfl sizeR) rfl ?_
          · exact rv_cells HG4a.out _ _ _
          · exact ⟨.inr ⟨j2, rfl, fun st d hd => (HK.out st d).trans (Js.T_C_no _ st d j2 hjs2 fun h => ⟨HBL2.out h, H58.out h⟩)⟩, rv_below HB4a.out (Nat.le_refl _) _ _ _⟩
      · have H3 := hidden h3
        clear h3
        have hg2 : w2.heap[w.heap.size]? = some (.cells #[.int .i64 0, .bool false, .int .i64 0] 32 (0, 0)) := (hb2.block _ ((Array.getElem?_eq_some_iff.1 HG.out).1)).trans HG.out
        have HB2 := hidden (HB.out.trans (hb2.mono HB.out.size))
        have hsz2 := HB2.out.size
        have hg2a : (w2.alloc (Obj.cells #[.int .i64 (q : Nat), .bool false, .int .i64 0] 32)).heap[w.heap.size]? = some (.cells #[.int .i64 0, .bool false, .int .i64 0] 32 (0, 0)) := (((Below.refl _ w2).alloc (Nat.le_refl _) _).block _ ((Array.getElem?_eq_some_iff.1 hg2).1)).trans hg2
        have HG2a := hidden hg2a
        have HB2a := hidden (HB2.out.alloc hsz2 (Obj.cells #[.int .i64 (q : Nat), .bool false, .int .i64 0] 32))
        unfold rv
        clear hb2 hg2 hg2a
        obtain ⟨c0, f0, c1, f1, c2, f2⟩ := rv_open HG2a.out
        go_wp2_with fail
        refine bodyPost_ret (results_cell_row rfl _ _ w.heap.size 32 #[.int .i64 (q : Nat), .bool false, .int .i64 0] (0, 0) _ rfl ?_ Try.underlying32 rfl sizeR) rfl ?_
        · exact rv_cells HG2a.out _ _ _
        · exact ⟨.inr ⟨q, rfl, fun st d hd => (HT.out _ (Js.sp_I true st d)).trans ((Js.T_K_str _ st d j hlt H34.out).trans (H3.out true st d))⟩, rv_below HB2a.out (Nat.le_refl _) _ _ _⟩
    · have HN : Hid (∀ h : j < s.size, s[j].toNat ≠ 34) := hidden fun h1 h2 => h34 ⟨h1, h2⟩
      clear h34
      go_wp2_with fail
      refine (jStr_no s j _ hjs HN.out).mono ?_
      rintro e w2 ⟨rfl, hb2⟩
      have hg2 : w2.heap[w.heap.size]? = some (.cells #[.int .i64 0, .bool false, .int .i64 0] 32 (0, 0)) := (hb2.block _ ((Array.getElem?_eq_some_iff.1 HG.out).1)).trans HG.out
      have HB2 := hidden (HB.out.trans (hb2.mono HB.out.size))
      have hsz2 := HB2.out.size
      have hg2a : (w2.alloc (Obj.cells #[.int .i64 (j : Nat), .bool false, .int .i64 0] 32)).heap[w.heap.size]? = some (.cells #[.int .i64 0, .bool false, .int .i64 0] 32 (0, 0)) := (((Below.refl _ w2).alloc (Nat.le_refl _) _).block _ ((Array.getElem?_eq_some_iff.1 hg2).1)).trans hg2
      have HG2a := hidden hg2a
      have HB2a := hidden (HB2.out.alloc hsz2 (Obj.cells #[.int .i64 (j : Nat), .bool false, .int .i64 0] 32))
      unfold rv
      clear hb2 hg2 hg2a
      obtain ⟨c0, f0, c1, f1, c2, f2⟩ := rv_open HG2a.out
      go_wp2_with fail
      refine bodyPost_ret (results_cell_row rfl _ _ w.heap.size 32 #[.int .i64 (j : Nat), .bool false, .int .i64 0] (0, 0) _ rfl ?_ Try.underlying32 rfl sizeR) rfl ?_
      · exact rv_cells HG2a.out _ _ _
      · exact ⟨.inr ⟨j, rfl, fun st d hd => (HT.out _ (Js.sp_I true st d)).trans (Js.T_K_no _ st d j hjs fun h => ⟨HBL.out h, HN.out h⟩)⟩, rv_below HB2a.out (Nat.le_refl _) _ _ _⟩
theorem jValue_upto (s : ByteArray) (hs : s.size ≤ 1000000) (n : Nat) : ∀ i w, i ≤ s.size → s.size - i < n → Calls Try.prog 21 #[.string s, .int .i64 (i : Nat)] w fun e w' => VPost s i e ∧ Below w.heap.size w w' := by
  induction n with
  | zero => exact fun i w _ h => absurd h (Nat.not_lt_zero _)
  | succ n ih =>
    intro i w hi hn
    refine jValue_step s i w hs hi fun b i' w hi' hs' => ?_
    refine jMany_step s b i' (Js.gE b) w hs hs' rfl fun a w ha has => ?_
    exact jItem_step s b a (Js.gE b) w hs has rfl fun a2 w h2 h3 => ih a2 w h3 (by omega)
theorem jValue_any (s : ByteArray) (i : Nat) (w : World) (hs : s.size ≤ 1000000) (hi : i ≤ s.size) :
    Calls Try.prog 21 #[.string s, .int .i64 (i : Nat)] w fun e w' => VPost s i e ∧ Below w.heap.size w w' :=
  jValue_upto s hs _ i w hi (Nat.lt_succ_self _)
end Go.Proofs.Ytifkemcjificcaa
