/-
  The contracts of laceworkref12's Text and Validate: of every string; nothing that was there is changed.
-/
import Derived.Test.YtifkemcjificcaaJsRefI
import Derived.Test.YtifkemcjificcaaJsVal
namespace Go.Proofs.Ytifkemcjificcaa
open Go.RowKit
namespace Js
theorem T_zero (l : List UInt8) (c : Cf) : T l c 0 = out c l := rfl
end Js
/-- A whole text. -/
def TPost (s : ByteArray) (e : Ending) : Prop :=
  (∃ q D : Nat, e = .returned (rv q true D) ∧ D ≤ s.size ∧ (Js.out Js.c0 s.data.toList).1 = some D)
  ∨ ∃ q D : Nat, e = .returned (rv q false D) ∧ q ≤ s.size ∧ Js.out Js.c0 s.data.toList = (none, q)
set_option maxHeartbeats 2000000 in
theorem jText_any (s : ByteArray) (w : World) (hs : s.size ≤ 1000000) :
    Calls Try.prog 16 #[.string s] w fun e w' => TPost s e ∧ Below w.heap.size w w' := by
  have HG : Hid ((w.alloc (Obj.cells #[.int .i64 0, .bool false, .int .i64 0] 32)).heap[w.heap.size]? = some (.cells #[.int .i64 0, .bool false, .int .i64 0] 32 (0, 0))) := heap_alloc_new _ _
  have HB : Hid (Below w.heap.size w (w.alloc (Obj.cells #[.int .i64 0, .bool false, .int .i64 0] 32))) := (Below.refl _ _).alloc (Nat.le_refl _) _
  have hlen : s.data.toList.length = s.size := rfl
  have HLEN := hidden hlen
  clear hlen
  go_enter Try.func16, Try.ntmps16
  go_wp2_with fail
  refine (jValue_any s 0 _ hs (Nat.zero_le _)).mono ?_
  rintro e w2 ⟨⟨q, D, rfl, h1, h2, h4, h5⟩ | ⟨q, rfl, h5⟩, hb2⟩
  · have H5 : Hid (Js.out Js.c0 s.data.toList = Js.T s.data.toList (Js.cE [] D) q) := hidden (by
      have := h5 [] 0 (Nat.le_refl _)
      rw [show max 0 (([] : List Bool).length + D) = D by show max 0 (0 + D) = D; omega] at this
      exact this)
    clear h5
    have hg2 : w2.heap[w.heap.size]? = some (.cells #[.int .i64 0, .bool false, .int .i64 0] 32 (0, 0)) := (hb2.block _ ((Array.getElem?_eq_some_iff.1 HG.out).1)).trans HG.out
    have HB2 := hidden (HB.out.trans (hb2.mono HB.out.size))
    have hsz2 := HB2.out.size
    have hg2a : (w2.alloc (Obj.cells #[.int .i64 (q : Nat), .bool true, .int .i64 (D : Nat)] 32)).heap[w.heap.size]? = some (.cells #[.int .i64 0, .bool false, .int .i64 0] 32 (0, 0)) := (((Below.refl _ w2).alloc (Nat.le_refl _) _).block _ ((Array.getElem?_eq_some_iff.1 hg2).1)).trans hg2
    have HG2a := hidden hg2a
    have HB2a := hidden (HB2.out.alloc hsz2 (Obj.cells #[.int .i64 (q : Nat), .bool true, .int .i64 (D : Nat)] 32))
    unfold rv
    clear hb2 hg2 hg2a
    go_wp2_with fail
    refine (jBlanks_any s q _ hs h2).mono ?_
    rintro e w3 ⟨⟨j, rfl, hqj, hjs, hbl, hT⟩, hw3⟩
    have hw3 := hw3.symm
    subst hw3
    have HT := hidden (hT _ (Js.sp_E [] D))
    have HBL := hidden hbl
    clear hT hbl
    by_cases hlt : j < s.size
    · have e1 : ((j : Int) == (s.size : Int)) = false := by rw [beq_eq_false_iff_ne]; omega
      have e1n : (j == s.size) = false := by rw [beq_eq_false_iff_ne]; omega
      obtain ⟨c0, f0, c1, f1, c2, f2⟩ := rv_open HG2a.out
      go_wp2_with fail
      refine bodyPost_ret (results_cell_row rfl _ _ w.heap.size 32 #[.int .i64 (j : Nat), .bool false, .int .i64 (D : Nat)] (0, 0) _ rfl ?_ Try.underlying32 rfl sizeR) rfl ?_
      · exact rv_cells HG2a.out _ _ _
      · exact ⟨.inr ⟨j, D, rfl, hjs, H5.out.trans (HT.out.trans (Js.text_no _ D j hlt (HBL.out hlt)))⟩, rv_below HB2a.out (Nat.le_refl _) _ _ _⟩
    · have hj : j = s.size := by omega
      have e1 : ((j : Int) == (s.size : Int)) = true := by rw [hj]; exact beq_self_eq_true _
      have e1n : (j == s.size) = true := by rw [hj]; exact beq_self_eq_true _
      have HJ := hidden hj
      clear hj
      obtain ⟨c0, f0, c1, f1, c2, f2⟩ := rv_open HG2a.out
      go_wp2_with fail
      refine bodyPost_ret (results_cell_row rfl _ _ w.heap.size 32 #[.int .i64 (j : Nat), .bool true, .int .i64 (D : Nat)] (0, 0) _ rfl ?_ Try.underlying32 rfl sizeR) rfl ?_
      · exact rv_cells HG2a.out _ _ _
      · exact ⟨.inl ⟨j, D, rfl, by omega, by rw [H5.out, HT.out, Js.text_end _ D j (HLEN.out.trans HJ.out.symm)]⟩, rv_below HB2a.out (Nat.le_refl _) _ _ _⟩
  · have H5 : Hid (Js.out Js.c0 s.data.toList = (none, q)) := hidden (h5 [] 0 (Nat.le_refl _))
    have hq : q ≤ s.size := by
      have := Js.out_le s.data.toList Js.c0
      rw [H5.out] at this
      exact this
    clear h5
    have hg2 : w2.heap[w.heap.size]? = some (.cells #[.int .i64 0, .bool false, .int .i64 0] 32 (0, 0)) := (hb2.block _ ((Array.getElem?_eq_some_iff.1 HG.out).1)).trans HG.out
    have HB2 := hidden (HB.out.trans (hb2.mono HB.out.size))
    have hsz2 := HB2.out.size
    have hg2a : (w2.alloc (Obj.cells #[.int .i64 (q : Nat), .bool false, .int .i64 0] 32)).heap[w.heap.size]? = some (.cells #[.int .i64 0, .bool false, .int .i64 0] 32 (0, 0)) := (((Below.refl _ w2).alloc (Nat.le_refl _) _).block _ ((Array.getElem?_eq_some_iff.1 hg2).1)).trans hg2
    have HG2a := hidden hg2a
    have HB2a := hidden (HB2.out.alloc hsz2 (Obj.cells #[.int .i64 (q : Nat), .bool false, .int .i64 0] 32))
    unfold rv
    clear hb2 hg2 hg2a
    obtain ⟨c0, f0, c1, f1, c2, f2⟩ := rv_open HG2a.out
    go_wp2_with fail
    refine bodyPost_ret (results_cell_row rfl _ _ w.heap.size 32 #[.int .i64 (q : Nat), .bool false, .int .i64 0] (0, 0) _ rfl ?_ Try.underlying32 rfl sizeR) rfl ?_
    · exact rv_cells HG2a.out _ _ _
    · exact ⟨.inr ⟨q, 0, rfl, hq, H5.out⟩, rv_below HB2a.out (Nat.le_refl _) _ _ _⟩
end Go.Proofs.Ytifkemcjificcaa
