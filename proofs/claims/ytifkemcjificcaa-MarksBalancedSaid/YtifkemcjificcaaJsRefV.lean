/-
  What laceworkref12's Value, item and many tell; the contract of Value, if many's is known behind its place.
-/
import Derived.Test.YtifkemcjificcaaJsRefN
import Derived.Test.YtifkemcjificcaaJsItem
namespace Go.Proofs.Ytifkemcjificcaa
open Go.RowKit
/-- A value at a place: where it ends and how deep it nests, or where it goes wrong. -/
def VPost (s : ByteArray) (i : Nat) (e : Ending) : Prop :=
  (∃ q D : Nat, e = .returned (rv q true D) ∧ i < q ∧ q ≤ s.size ∧ D + i ≤ q ∧ ∀ st d, st.length ≤ d → Js.T s.data.toList (Js.cV st d) i = Js.T s.data.toList (Js.cE st (max d (st.length + D))) q)
  ∨ ∃ q : Nat, e = .returned (rv q false 0) ∧ ∀ st d, st.length ≤ d → Js.T s.data.toList (Js.cV st d) i = (none, q)
/-- An array or an object behind its first bracket. -/
def MPost (s : ByteArray) (b : Bool) (i : Nat) (e : Ending) : Prop :=
  (∃ q D : Nat, e = .returned (rv q true D) ∧ i < q ∧ q ≤ s.size ∧ 1 ≤ D ∧ D + i ≤ q ∧ ∀ st d, st.length + 1 ≤ d → Js.T s.data.toList (Js.cB b (b :: st) d) i = Js.T s.data.toList (Js.cE st (max d (st.length + D))) q)
  ∨ ∃ q : Nat, e = .returned (rv q false 0) ∧ ∀ st d, st.length + 1 ≤ d → Js.T s.data.toList (Js.cB b (b :: st) d) i = (none, q)
/-- What an array or an object is made of. -/
def IPost (s : ByteArray) (b : Bool) (i : Nat) (e : Ending) : Prop :=
  (∃ q D : Nat, e = .returned (rv q true D) ∧ i < q ∧ q ≤ s.size ∧ D + i ≤ q ∧ ∀ st d, st.length ≤ d → Js.T s.data.toList (Js.cI b st d) i = Js.T s.data.toList (Js.cE st (max d (st.length + D))) q)
  ∨ ∃ q : Nat, e = .returned (rv q false 0) ∧ ∀ st d, st.length ≤ d → Js.T s.data.toList (Js.cI b st d) i = (none, q)
theorem VPost.rv {s : ByteArray} {i : Nat} {e : Ending} (h : VPost s i e) : ∃ q ok D, e = .returned (rv q ok D) := by
  rcases h with ⟨q, D, h, _⟩ | ⟨q, h, _⟩
  · exact ⟨q, true, D, h⟩
  · exact ⟨q, false, 0, h⟩
theorem MPost.rv {s : ByteArray} {b : Bool} {i : Nat} {e : Ending} (h : MPost s b i e) : ∃ q ok D, e = .returned (rv q ok D) := by
  rcases h with ⟨q, D, h, _⟩ | ⟨q, h, _⟩
  · exact ⟨q, true, D, h⟩
  · exact ⟨q, false, 0, h⟩
theorem IPost.rv {s : ByteArray} {b : Bool} {i : Nat} {e : Ending} (h : IPost s b i e) : ∃ q ok D, e = .returned (rv q ok D) := by
  rcases h with ⟨q, D, h, _⟩ | ⟨q, h, _⟩
  · exact ⟨q, true, D, h⟩
  · exact ⟨q, false, 0, h⟩
/-- Behind blanks. -/
theorem VPost.from {s : ByteArray} {i j : Nat} {e : Ending} (h : VPost s j e) (hij : i ≤ j) (ht : ∀ c, Js.Sp c → Js.T s.data.toList c i = Js.T s.data.toList c j) : VPost s i e := by
  rcases h with ⟨q, D, h1, h2, h3, h4, h5⟩ | ⟨q, h1, h2⟩
  · exact .inl ⟨q, D, h1, by omega, h3, by omega, fun st d hd => (ht _ (Js.sp_V st d)).trans (h5 st d hd)⟩
  · exact .inr ⟨q, h1, fun st d hd => (ht _ (Js.sp_V st d)).trans (h2 st d hd)⟩
theorem NPost.value {s : ByteArray} {i : Nat} {e : Ending} (h : NPost s i e) : VPost s i e := by
  rcases h with ⟨q, h1, h2, h3, h4⟩ | ⟨q, h1, h2⟩
  · refine .inl ⟨q, 0, h1, h2, h3, by omega, fun st d hd => ?_⟩
    rw [h4, Nat.add_zero, Nat.max_eq_left hd]
  · exact .inr ⟨q, h1, fun st d _ => h2 st d⟩
theorem SPost.value {s : ByteArray} {i : Nat} {e : Ending} (h : SPost s i e) (hi : i < s.size) (h34 : s[i].toNat = 34) : VPost s i e := by
  rcases h with ⟨q, h1, h2, h3, h4⟩ | ⟨q, h1, h2⟩
  · refine .inl ⟨q, 0, h1, h2, h3, by omega, fun st d hd => ?_⟩
    rw [Js.T_V_str _ st d i hi h34, h4, Nat.add_zero, Nat.max_eq_left hd]
    rfl
  · exact .inr ⟨q, h1, fun st d _ => (Js.T_V_str _ st d i hi h34).trans (h2 false st d)⟩
theorem MPost.value {s : ByteArray} {b : Bool} {i : Nat} {e : Ending} (h : MPost s b (i + 1) e) (hi : i < s.size) (hb : s[i].toNat = Js.gO b) : VPost s i e := by
  rcases h with ⟨q, D, h1, h2, h3, h4, h5, h6⟩ | ⟨q, h1, h2⟩
  · refine .inl ⟨q, D, h1, by omega, h3, by omega, fun st d hd => ?_⟩
    rw [Js.T_V_open _ b st d i hi hb, h6 st _ (by omega), show max (max d (st.length + 1)) (st.length + D) = max d (st.length + D) by omega]
  · exact .inr ⟨q, h1, fun st d _ => (Js.T_V_open _ b st d i hi hb).trans (h2 st _ (by omega))⟩
theorem WdPost.value {s v : ByteArray} {i : Nat} {e : Ending} (h : WdPost s v i e) (hw : Js.isW v.data.toList) (hi : i < s.size) (h0 : s[i].toNat = (v.data.toList.getD 0 0).toNat) : VPost s i e := by
  have hg : ∀ k (hk : k < v.size), v.data.toList.getD k 0 = v[k] := fun k hk => by
    rw [List.getD_eq_getElem?_getD, List.getElem?_eq_getElem (show k < v.data.toList.length from hk)]
    rfl
  have hl : v.data.toList.length = v.size := rfl
  rcases h with ⟨h1, h2, h3⟩ | ⟨j, hj, h1, h2, h3, h4⟩
  · have h3l : 3 ≤ v.size := by
      rw [← hl]
      rcases hw with h | h | h <;> rw [h] <;> decide
    refine .inl ⟨i + v.size, 0, h1, by omega, h2, by omega, fun st d hd => ?_⟩
    rw [Js.T_W_all _ v.data.toList st d i hw (fun k hk => ?_), Nat.add_zero, Nat.max_eq_left hd]
    · rfl
    · obtain ⟨h5, h6⟩ := h3 k hk
      exact ⟨h5, by rw [hg k hk]; exact h6⟩
  · have hj0 : 0 < j := by
      rcases Nat.eq_zero_or_pos j with h | h
      · subst h
        exact absurd (by rw [← hg 0 hj]; exact h0) (h4 hi)
      · exact h
    refine .inr ⟨i + j, h1, fun st d hd => ?_⟩
    exact Js.T_W_no _ v.data.toList st d i j hw hj h2 hj0 (fun k hk => by obtain ⟨h5, h6, h7⟩ := h3 k hk; exact ⟨h5, by rw [hg k h6]; exact h7⟩) (fun h => by rw [hg j hj]; exact h4 h)
set_option maxHeartbeats 4000000 in
theorem jValue_step (s : ByteArray) (i : Nat) (w : World) (hs : s.size ≤ 1000000) (hi : i ≤ s.size)
    (hM : ∀ b i' w, i < i' → i' ≤ s.size → Calls Try.prog 28 #[.string s, .int .i64 ((i' : Nat) : Int), .int .u8 ((Js.gE b : Nat) : Int)] w fun e w' => MPost s b i' e ∧ Below w.heap.size w w') :
    Calls Try.prog 21 #[.string s, .int .i64 (i : Nat)] w fun e w' => VPost s i e ∧ Below w.heap.size w w' := by
  have HG : Hid ((w.alloc (Obj.cells #[.int .i64 0, .bool false, .int .i64 0] 32)).heap[w.heap.size]? = some (.cells #[.int .i64 0, .bool false, .int .i64 0] 32 (0, 0))) := heap_alloc_new _ _
  have HB : Hid (Below w.heap.size w (w.alloc (Obj.cells #[.int .i64 0, .bool false, .int .i64 0] 32))) := (Below.refl _ _).alloc (Nat.le_refl _) _
  have HM := hidden hM
  clear hM
  go_enter Try.func21, Try.ntmps21
  go_wp2_with fail
  refine (jBlanks_any s i _ hs hi).mono ?_
  rintro e w1 ⟨⟨j, rfl, hij, hjs, hbl, hT⟩, hw⟩
  have hw := hw.symm
  subst hw
  have HT := hidden hT
  have HBL := hidden hbl
  clear hT hbl
  by_cases hlt : j < s.size
  · have l0 : decide ((s.size : Int) ≤ (j : Int)) = false := decide_eq_false (by omega)
    have l0n : decide (s.size ≤ j) = false := decide_eq_false (by omega)
    have hbj := HBL.out hlt
    have HNB := hidden hbj
    clear hbj
    by_cases h110 : s[j].toNat = 110
    · have e110 : (((s[j].toNat : Nat) : Int) == 110) = true := by rw [h110]; rfl
      have H110 := hidden h110
      clear h110
      go_wp2_with fail
      refine (jWord_any s ⟨#[110, 117, 108, 108]⟩ j _ hs (by decide) hjs).mono ?_
      rintro e w9 ⟨hp, hb9⟩
      have hv : VPost s i e := VPost.from (WdPost.value hp (.inl rfl) hlt (H110.out.trans rfl)) hij HT.out
      obtain ⟨q, ok, D, rfl⟩ := hv.rv
      have HV := hidden hv
      have hg9 : w9.heap[w.heap.size]? = some (.cells #[.int .i64 0, .bool false, .int .i64 0] 32 (0, 0)) := (hb9.block _ ((Array.getElem?_eq_some_iff.1 HG.out).1)).trans HG.out
      obtain ⟨c0, f0, c1, f1, c2, f2⟩ := rv_open hg9
      have HG9 := hidden hg9
      have HQ9 := hidden (HB.out.trans (hb9.mono HB.out.size))
      clear hp hv hb9 hg9
      unfold rv
      go_wp2_with fail
      refine bodyPost_ret (results_cell_row rfl _ _ w.heap.size 32 #[.int .i64 (q : Nat), .bool ok, .int .i64 (D : Nat)] (0, 0) _ rfl ?_ Try.underlying32 rfl sizeR) rfl ?_
      · exact rv_cells HG9.out _ _ _
      · exact ⟨HV.out, rv_below HQ9.out (Nat.le_refl _) _ _ _⟩
    have e110 : (((s[j].toNat : Nat) : Int) == 110) = false := by rw [beq_eq_false_iff_ne]; omega
    have H110 := hidden h110
    clear h110
    by_cases h116 : s[j].toNat = 116
    · have e116 : (((s[j].toNat : Nat) : Int) == 116) = true := by rw [h116]; rfl
      have H116 := hidden h116
      clear h116
      go_wp2_with fail
      refine (jWord_any s ⟨#[116, 114, 117, 101]⟩ j _ hs (by decide) hjs).mono ?_
      rintro e w9 ⟨hp, hb9⟩
      have hv : VPost s i e := VPost.from (WdPost.value hp (.inr (.inl rfl)) hlt (H116.out.trans rfl)) hij HT.out
      obtain ⟨q, ok, D, rfl⟩ := hv.rv
      have HV := hidden hv
      have hg9 : w9.heap[w.heap.size]? = some (.cells #[.int .i64 0, .bool false, .int .i64 0] 32 (0, 0)) := (hb9.block _ ((Array.getElem?_eq_some_iff.1 HG.out).1)).trans HG.out
      obtain ⟨c0, f0, c1, f1, c2, f2⟩ := rv_open hg9
      have HG9 := hidden hg9
      have HQ9 := hidden (HB.out.trans (hb9.mono HB.out.size))
      clear hp hv hb9 hg9
      unfold rv
      go_wp2_with fail
      refine bodyPost_ret (results_cell_row rfl _ _ w.heap.size 32 #[.int .i64 (q : Nat), .bool ok, .int .i64 (D : Nat)] (0, 0) _ rfl ?_ Try.underlying32 rfl sizeR) rfl ?_
      · exact rv_cells HG9.out _ _ _
      · exact ⟨HV.out, rv_below HQ9.out (Nat.le_refl _) _ _ _⟩
    have e116 : (((s[j].toNat : Nat) : Int) == 116) = false := by rw [beq_eq_false_iff_ne]; omega
    have H116 := hidden h116
    clear h116
    by_cases h102 : s[j].toNat = 102
    · have e102 : (((s[j].toNat : Nat) : Int) == 102) = true := by rw [h102]; rfl
      have H102 := hidden h102
      clear h102
      go_wp2_with fail
      refine (jWord_any s ⟨#[102, 97, 108, 115, 101]⟩ j _ hs (by decide) hjs).mono ?_
      rintro e w9 ⟨hp, hb9⟩
      have hv : VPost s i e := VPost.from (WdPost.value hp (.inr (.inr rfl)) hlt (H102.out.trans rfl)) hij HT.out
      obtain ⟨q, ok, D, rfl⟩ := hv.rv
      have HV := hidden hv
      have hg9 : w9.heap[w.heap.size]? = some (.cells #[.int .i64 0, .bool false, .int .i64 0] 32 (0, 0)) := (hb9.block _ ((Array.getElem?_eq_some_iff.1 HG.out).1)).trans HG.out
      obtain ⟨c0, f0, c1, f1, c2, f2⟩ := rv_open hg9
      have HG9 := hidden hg9
      have HQ9 := hidden (HB.out.trans (hb9.mono HB.out.size))
      clear hp hv hb9 hg9
      unfold rv
      go_wp2_with fail
      refine bodyPost_ret (results_cell_row rfl _ _ w.heap.size 32 #[.int .i64 (q : Nat), .bool ok, .int .i64 (D : Nat)] (0, 0) _ rfl ?_ Try.underlying32 rfl sizeR) rfl ?_
      · exact rv_cells HG9.out _ _ _
      · exact ⟨HV.out, rv_below HQ9.out (Nat.le_refl _) _ _ _⟩
    have e102 : (((s[j].toNat : Nat) : Int) == 102) = false := by rw [beq_eq_false_iff_ne]; omega
    have H102 := hidden h102
    clear h102
    by_cases h34 : s[j].toNat = 34
    · have e34 : (((s[j].toNat : Nat) : Int) == 34) = true := by rw [h34]; rfl
      have H34 := hidden h34
      clear h34
      go_wp2_with fail
      refine (jStr_in s j _ hs hlt H34.out).mono ?_
      rintro e w9 ⟨hp, hb9⟩
      have hv : VPost s i e := VPost.from (SPost.value hp hlt H34.out) hij HT.out
      obtain ⟨q, ok, D, rfl⟩ := hv.rv
      have HV := hidden hv
      have hg9 : w9.heap[w.heap.size]? = some (.cells #[.int .i64 0, .bool false, .int .i64 0] 32 (0, 0)) := (hb9.block _ ((Array.getElem?_eq_some_iff.1 HG.out).1)).trans HG.out
      obtain ⟨c0, f0, c1, f1, c2, f2⟩ := rv_open hg9
      have HG9 := hidden hg9
      have HQ9 := hidden (HB.out.trans (hb9.mono HB.out.size))
      clear hp hv hb9 hg9
      unfold rv
      go_wp2_with fail
      refine bodyPost_ret (results_cell_row rfl _ _ w.heap.size 32 #[.int .i64 (q : Nat), .bool ok, .int .i64 (D : Nat)] (0, 0) _ rfl ?_ Try.underlying32 rfl sizeR) rfl ?_
      · exact rv_cells HG9.out _ _ _
      · exact ⟨HV.out, rv_below HQ9.out (Nat.le_refl _) _ _ _⟩
    have e34 : (((s[j].toNat : Nat) : Int) == 34) = false := by rw [beq_eq_false_iff_ne]; omega
    have H34 := hidden h34
    clear h34
    by_cases h91 : s[j].toNat = 91
    · have e91 : (((s[j].toNat : Nat) : Int) == 91) = true := by rw [h91]; rfl
      have H91 := hidden h91
      clear h91
      go_wp2_with fail
      refine (HM.out false (j + 1) _ (by omega) hlt).mono ?_
      rintro e w9 ⟨hp, hb9⟩
      have hv : VPost s i e := VPost.from (MPost.value hp hlt H91.out) hij HT.out
      obtain ⟨q, ok, D, rfl⟩ := hv.rv
      have HV := hidden hv
      have hg9 : w9.heap[w.heap.size]? = some (.cells #[.int .i64 0, .bool false, .int .i64 0] 32 (0, 0)) := (hb9.block _ ((Array.getElem?_eq_some_iff.1 HG.out).1)).trans HG.out
      obtain ⟨c0, f0, c1, f1, c2, f2⟩ := rv_open hg9
      have HG9 := hidden hg9
      have HQ9 := hidden (HB.out.trans (hb9.mono HB.out.size))
      clear hp hv hb9 hg9
      unfold rv
      go_wp2_with fail
      refine bodyPost_ret (results_cell_row rfl _ _ w.heap.size 32 #[.int .i64 (q : Nat), .bool ok, .int .i64 (D : Nat)] (0, 0) _ rfl ?_ Try.underlying32 rfl sizeR) rfl ?_
      · exact rv_cells HG9.out _ _ _
      · exact ⟨HV.out, rv_below HQ9.out (Nat.le_refl _) _ _ _⟩
    have e91 : (((s[j].toNat : Nat) : Int) == 91) = false := by rw [beq_eq_false_iff_ne]; omega
    have H91 := hidden h91
    clear h91
    by_cases h123 : s[j].toNat = 123
    · have e123 : (((s[j].toNat : Nat) : Int) == 123) = true := by rw [h123]; rfl
      have H123 := hidden h123
      clear h123
      go_wp2_with fail
      refine (HM.out true (j + 1) _ (by omega) hlt).mono ?_
      rintro e w9 ⟨hp, hb9⟩
      have hv : VPost s i e := VPost.from (MPost.value hp hlt H123.out) hij HT.out
      obtain ⟨q, ok, D, rfl⟩ := hv.rv
      have HV := hidden hv
      have hg9 : w9.heap[w.heap.size]? = some (.cells #[.int .i64 0, .bool false, .int .i64 0] 32 (0, 0)) := (hb9.block _ ((Array.getElem?_eq_some_iff.1 HG.out).1)).trans HG.out
      obtain ⟨c0, f0, c1, f1, c2, f2⟩ := rv_open hg9
      have HG9 := hidden hg9
      have HQ9 := hidden (HB.out.trans (hb9.mono HB.out.size))
      clear hp hv hb9 hg9
      unfold rv
      go_wp2_with fail
      refine bodyPost_ret (results_cell_row rfl _ _ w.heap.size 32 #[.int .i64 (q : Nat), .bool ok, .int .i64 (D : Nat)] (0, 0) _ rfl ?_ Try.underlying32 rfl sizeR) rfl ?_
      · exact rv_cells HG9.out _ _ _
      · exact ⟨HV.out, rv_below HQ9.out (Nat.le_refl _) _ _ _⟩
    have e123 : (((s[j].toNat : Nat) : Int) == 123) = false := by rw [beq_eq_false_iff_ne]; omega
    have H123 := hidden h123
    clear h123
    go_wp2_with fail
    refine (jNumber_any s j _ hs hlt ⟨HNB.out, H34.out, H91.out, H123.out, H110.out, H116.out, H102.out⟩).mono ?_
    rintro e w9 ⟨hp, hb9⟩
    have hv : VPost s i e := VPost.from (NPost.value hp) hij HT.out
    obtain ⟨q, ok, D, rfl⟩ := hv.rv
    have HV := hidden hv
    have hg9 : w9.heap[w.heap.size]? = some (.cells #[.int .i64 0, .bool false, .int .i64 0] 32 (0, 0)) := (hb9.block _ ((Array.getElem?_eq_some_iff.1 HG.out).1)).trans HG.out
    obtain ⟨c0, f0, c1, f1, c2, f2⟩ := rv_open hg9
    have HG9 := hidden hg9
    have HQ9 := hidden (HB.out.trans (hb9.mono HB.out.size))
    clear hp hv hb9 hg9
    unfold rv
    go_wp2_with fail
    refine bodyPost_ret (results_cell_row rfl _ _ w.heap.size 32 #[.int .i64 (q : Nat), .bool ok, .int .i64 (D : Nat)] (0, 0) _ rfl ?_ Try.underlying32 rfl sizeR) rfl ?_
    · exact rv_cells HG9.out _ _ _
    · exact ⟨HV.out, rv_below HQ9.out (Nat.le_refl _) _ _ _⟩
  · have l0 : decide ((s.size : Int) ≤ (j : Int)) = true := decide_eq_true (by omega)
    have l0n : decide (s.size ≤ j) = true := decide_eq_true (by omega)
    have HV := hidden (show VPost s i (.returned (rv j false 0)) from .inr ⟨j, rfl, fun st d _ => (HT.out _ (Js.sp_V st d)).trans (Js.T_live _ _ _ (show s.size = j by omega) rfl)⟩)
    go_wp2_with fail
    refine (jBad_any (j : Int) j _ rfl).mono ?_
    rintro e w9 ⟨hp, hb9⟩
    have hv : VPost s i e := by rw [hp]; exact HV.out
    obtain ⟨q, ok, D, rfl⟩ := hv.rv
    have HV := hidden hv
    have hg9 : w9.heap[w.heap.size]? = some (.cells #[.int .i64 0, .bool false, .int .i64 0] 32 (0, 0)) := (hb9.block _ ((Array.getElem?_eq_some_iff.1 HG.out).1)).trans HG.out
    obtain ⟨c0, f0, c1, f1, c2, f2⟩ := rv_open hg9
    have HG9 := hidden hg9
    have HQ9 := hidden (HB.out.trans (hb9.mono HB.out.size))
    clear hp hv hb9 hg9
    unfold rv
    go_wp2_with fail
    refine bodyPost_ret (results_cell_row rfl _ _ w.heap.size 32 #[.int .i64 (q : Nat), .bool ok, .int .i64 (D : Nat)] (0, 0) _ rfl ?_ Try.underlying32 rfl sizeR) rfl ?_
    · exact rv_cells HG9.out _ _ _
    · exact ⟨HV.out, rv_below HQ9.out (Nat.le_refl _) _ _ _⟩
end Go.Proofs.Ytifkemcjificcaa
