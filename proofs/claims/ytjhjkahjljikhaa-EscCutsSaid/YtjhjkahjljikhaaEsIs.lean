/-
  The contracts of package esc's Is and Equal: for every string and every text; nothing that was there is changed.
-/
import Derived.RangeFuncBox
import Derived.Test.YtjhjkahjljikhaaEsIter
namespace Go.Proofs.Ytjhjkahjljikhaa
open Go.RowKit Go.Shelf
attribute [local go_sem] Oper.semAt_some
namespace Es
theorem end_of {p pre : List Int} {a x : Int} (h2 : pre ++ [x] = p ++ [a]) : pre = p ∧ x = a := by
  obtain ⟨h3, h4⟩ := List.append_inj' h2 rfl
  exact ⟨h3, by simpa using h4⟩
theorem ok_stop (l : List UInt8) (p q : List Int) (h : yl l = p ++ -1 :: q) : ok l = false := by
  rw [ok_false, h]
  simp
theorem not_snoc {p : List Int} {x : Int} (h : (-1 : Int) ∉ p) (hx : x ≠ -1) : (-1 : Int) ∉ p ++ [x] := by
  intro h2
  rcases List.mem_append.1 h2 with h2 | h2
  · exact h h2
  · exact hx (List.mem_singleton.1 h2).symm
end Es
set_option maxRecDepth 100000 in
set_option maxHeartbeats 2000000 in
theorem esIs_any (s : ByteArray) (w : World) (hs : s.size ≤ 9223372036854775807) :
    Calls Try.prog 12 #[.string s] w fun e w' => e = .returned (.bool (Es.ok s.data.toList)) ∧ Below w.heap.size w w' := by
  refine (callsIn_wide (n := 10)).1 ?_
  refine callsIn_of_wp_marks Try.func12 rfl trivial ?_ rfl
  simp only [Try.ntmps12, List.size_toArray, List.length_cons, List.length_nil, Nat.reduceAdd, Nat.reduceSub, Array.replicate_succ, Array.replicate_zero, List.push_toArray, List.append_toArray, List.nil_append, List.cons_append]
  refine wpIn_wide.2 ?_
  go_wp2_with fail
  obtain ⟨w0, hw0⟩ : ∃ w0, w0 = w.alloc (.cells #[.bool false] 4) := ⟨_, rfl⟩
  have hb0 : Below w.heap.size w w0 := by rw [hw0]; exact (Below.refl _ _).alloc (Nat.le_refl _) _
  have e0 : w0.cell? ⟨w.heap.size, 0, none⟩ = some (.bool false) := by rw [hw0]; exact Es.cell_new_at rfl
  have f0 : w0.frozen? ⟨w.heap.size, 0, none⟩ = false := by rw [hw0]; exact Lib.frozen_of_heap (heap_new_at rfl) 0
  rw [← hw0]
  have HB0 := hidden hb0
  clear hw0 hb0
  refine (scalars_any s w0).mono ?_
  rintro e' w2 ⟨bx, rfl, hb2, hbx, cb⟩
  have e2 := Es.cell_after hb2 e0
  have f2 : w2.frozen? ⟨w.heap.size, 0, none⟩ = false := (Es.frozen_after hb2 e0).trans f0
  have HB2 := hidden (Es.below_after HB0.out hb2)
  have HSt := hidden (scalars_stops 9 (by decide) bx s w2 hs cb)
  clear hb2 cb e0 f0 HB0
  go_wp2_with fail
  refine (wpIn_wide (n := 10)).1 ?_
  refine wpIn_rangeFunc_ownF rfl (by decide) (gf := 28) (lb := #[.pointer (some ⟨bx, 0, none⟩)]) rfl trivial (enters_of Try.func28 (by kernel_rfl) rfl)
    HSt.out (fun _ _ => trivial) (fun _ _ _ _ _ _ _ _ => trivial) (Below.refl _ _) (fun _ => rfl)
    (fun pre W' => ((-1 : Int) ∉ pre ∧ W'.cell? ⟨w.heap.size, 0, none⟩ = some (.bool false) ∧ W'.frozen? ⟨w.heap.size, 0, none⟩ = false) ∧ Below w.heap.size w W')
    (fun c pre W' => (c = .ret ∧ ∃ pre', pre = pre' ++ [-1] ∧ W'.cell? ⟨w.heap.size, 0, none⟩ = some (.bool false)) ∧ Below w.heap.size w W')
    (OwnFrom.and (Own.from (fun s A B row hs hg hr => ⟨hs.1, cell_kept hs.2.1 hg hr, (frozen_kept hs.2.1 hg hr).trans hs.2.2⟩) _) (ownFrom_below (Nat.le_refl _) HB2.out.size))
    (fun c => OwnFrom.and (Own.from (fun s A B row hs hg hr => by obtain ⟨h1, pre', h2, h3⟩ := hs; exact ⟨h1, pre', h2, cell_kept h3 hg hr⟩) _) (ownFrom_below (Nat.le_refl _) HB2.out.size))
    ⟨⟨List.not_mem_nil, e2, f2⟩, HB2.out⟩ ?a1 ?assign ?body ?done ?stop
  case assign =>
    intro l' x' W' K hK
    gi_wp2
    exact hK
  case body =>
    rintro l' pre p W' ⟨⟨hp, h3, h4⟩, hB⟩ _
    have HP := hidden hp
    have HB := hidden hB
    have H3 := hidden h3
    have H4 := hidden h4
    clear hp hB
    by_cases hz : p = -1
    · subst hz
      gi_wp2
      exact ⟨KeepsOthers.setCell _ _ _, ⟨rfl, pre, rfl, World.cell?_setCell_same' _ _ _ (by rw [H3.out]; rfl)⟩, HB.out.setCell (p := ⟨w.heap.size, 0, none⟩) (Nat.le_refl _) _⟩
    · have d5 : (p == -1) = false := by rw [beq_eq_false_iff_ne]; exact hz
      have HZ := hidden hz
      clear hz
      gi_wp2
      exact ⟨KeepsOthers.refl _, trivial, ⟨Es.not_snoc HP.out HZ.out, H3.out, H4.out⟩, HB.out⟩
  case done =>
    rintro D ys W' hD rfl ⟨⟨hp, h3, h4⟩, hB⟩ hK
    have HP := hidden hp
    have HB := hidden hB
    have HK := hidden hK
    have H3 := hidden h3
    clear hp hB hK
    go_wp2_with fail
    have hK' := (KeepsOthers.setCell W' ⟨w.heap.size, 0, none⟩ (.bool true)).same D _ HK.out rfl
    refine ⟨by simp, .inl ⟨_, _, rfl, run_takeDeferred hK', ?_⟩⟩
    have hc5 := cell_kept (World.cell?_setCell_same' W' ⟨w.heap.size, 0, none⟩ (.bool true) (by rw [H3.out]; rfl)) (grownBy_putObj' _ D (.deferred none)) (fun r e => by cases e; exact ⟨_, hK', rfl⟩)
    refine ⟨.bool true, ?_, ret_bool ((Es.ok_true _).2 HP.out).symm, (HB.out.setCell (p := ⟨w.heap.size, 0, none⟩) (Nat.le_refl _) _).trans ((belowK_b (w := w2) (Nat.le_refl _) _ D _ _ hD hK' rfl rfl).mono HB2.out.size)⟩
    simp [results, Try.f12, go_sem, hc5]
  case stop =>
    rintro D c pre W' hD ⟨p, a, q, hk, rfl⟩ ⟨⟨rfl, pre', hx, hc⟩, hB⟩ hK
    obtain ⟨rfl, rfl⟩ := Es.end_of hx.symm
    have HOK := hidden (Es.ok_stop _ _ _ hk)
    have HB := hidden hB
    have HK := hidden hK
    have HC := hidden hc
    clear hx hc hB hK hk
    gi_wp2
    refine ⟨by simp, .inl ⟨_, _, rfl, run_takeDeferred HK.out, ?_⟩⟩
    have hc5 := cell_kept HC.out (grownBy_putObj' _ D (.deferred none)) (fun r e => by cases e; exact ⟨_, HK.out, rfl⟩)
    refine ⟨.bool false, ?_, ret_bool HOK.out.symm, HB.out.trans ((belowK_b (w := w2) (Nat.le_refl _) W' D _ _ hD HK.out rfl rfl).mono HB2.out.size)⟩
    simp [results, Try.f12, go_sem, hc5]
theorem below_drewN' {B : Nat} {a w : World} (h : Below B a w) (n : Nat) : Below B a (w.drewN n) := ⟨h.os, h.tape, h.output, h.size, h.block⟩
theorem keeps_drewN (w : World) (n : Nat) : KeepsOthers w (w.drewN n) := ⟨Nat.le_refl _, fun _ _ h _ => h⟩
/-- The two boxes of Equal: what is left of the text, and the result. -/
structure Eq2 (w W : World) (t : ByteArray) (b : Bool) : Prop where
  b0 : Boxed W w.heap.size 9 (.string t)
  b1 : Boxed W (w.heap.size + 1) 4 (.bool b)
theorem Eq2.kept {w A B : World} {t : ByteArray} {b : Bool} {row : Option Nat} (h : Eq2 w A t b) (hg : A.grownBy B row) (hr : ∀ r, row = some r → ∃ o : Obj, A.heap[r]? = some o ∧ o.isCells = false) : Eq2 w B t b :=
  ⟨(grownBy_keeps_cells hg hr h.b0 rfl).trans h.b0, (grownBy_keeps_cells hg hr h.b1 rfl).trans h.b1⟩
theorem Eq2.after {w A B : World} {t : ByteArray} {b : Bool} (h : Eq2 w A t b) (hb : Below A.heap.size A B) : Eq2 w B t b :=
  ⟨(hb.block _ (Array.getElem?_eq_some_iff.1 h.b0).1).trans h.b0, (hb.block _ (Array.getElem?_eq_some_iff.1 h.b1).1).trans h.b1⟩
theorem Eq2.set0 {w W : World} {t : ByteArray} {b : Bool} (h : Eq2 w W t b) (t' : ByteArray) : Eq2 w (W.setCell ⟨w.heap.size, 0, none⟩ (.string t')) t' b :=
  ⟨h.b0.set _, (Below.heap_setCell _ _ _ _ (by simp)).trans h.b1⟩
theorem Eq2.set1 {w W : World} {t : ByteArray} {b : Bool} (h : Eq2 w W t b) (b' : Bool) : Eq2 w (W.setCell ⟨w.heap.size + 1, 0, none⟩ (.bool b')) t b' :=
  ⟨(Below.heap_setCell _ _ _ _ (by simp)).trans h.b0, h.b1.set _⟩
theorem Eq2.drewN {w W : World} {t : ByteArray} {b : Bool} (h : Eq2 w W t b) (m : Nat) : Eq2 w (W.drewN m) t b := ⟨h.b0, h.b1⟩
set_option maxRecDepth 100000 in
set_option maxHeartbeats 4000000 in
theorem esEqual_any (s t : ByteArray) (w : World) (hs : s.size ≤ 9223372036854775807) (ht : t.size ≤ 9223372036854775807) :
    Calls Try.prog 13 #[.string s, .string t] w fun e w' => e = .returned (.bool (Es.eqv s.data.toList t.data.toList)) ∧ Below w.heap.size w w' := by
  refine (callsIn_wide (n := 10)).1 ?_
  refine callsIn_of_wp_marks Try.func13 rfl trivial ?_ rfl
  simp only [Try.ntmps13, List.size_toArray, List.length_cons, List.length_nil, Nat.reduceAdd, Nat.reduceSub, Array.replicate_succ, Array.replicate_zero, List.push_toArray, List.append_toArray, List.nil_append, List.cons_append]
  refine wpIn_wide.2 ?_
  go_wp2_with fail
  obtain ⟨w0, hw0⟩ : ∃ w0, w0 = (w.alloc (.cells #[.string t] 9)).alloc (.cells #[.bool false] 4) := ⟨_, rfl⟩
  have hb0 : Below w.heap.size w w0 := by rw [hw0]; exact ((Below.refl _ _).alloc (Nat.le_refl _) _).alloc (by simp) _
  have he0 : Eq2 w w0 t false := by
    rw [hw0]
    refine ⟨(Boxed.new _ _ _).alloc _, ?_⟩
    have := Boxed.new (w.alloc (.cells #[.string t] 9)) 4 (.bool false)
    rw [World.size_alloc] at this
    exact this
  rw [← hw0]
  have HB0 := hidden hb0
  clear hw0 hb0
  refine (scalars_any s w0).mono ?_
  rintro e' w2 ⟨bx, rfl, hb2, hbx, cb⟩
  have HE2 := hidden (he0.after hb2)
  have HB2 := hidden (Es.below_after HB0.out hb2)
  have HSt := hidden (scalars_stops 9 (by decide) bx s w2 hs cb)
  clear hb2 cb he0 HB0
  go_wp2_with fail
  refine (wpIn_wide (n := 10)).1 ?_
  refine wpIn_rangeFunc_ownF rfl (by decide) (gf := 28) (lb := #[.pointer (some ⟨bx, 0, none⟩)]) rfl trivial (enters_of Try.func28 (by kernel_rfl) rfl)
    HSt.out (fun _ _ => trivial) (fun _ _ _ _ _ _ _ _ => trivial) (Below.refl _ _) (fun _ => rfl)
    (fun pre W' => ((-1 : Int) ∉ pre ∧ ∃ t', t.data.toList = pre.flatMap Ut.encz ++ t'.data.toList ∧ t'.size ≤ 9223372036854775807 ∧ Eq2 w W' t' false) ∧ Below w.heap.size w W')
    (fun c pre W' => (c = .ret ∧ ∃ (pre' : List Int) (x : Int) (t' : List UInt8) (t'' : ByteArray), pre = pre' ++ [x] ∧ t.data.toList = pre'.flatMap Ut.encz ++ t' ∧ (Ut.ld 0 t' = 0 ∨ x ≠ ((Ut.sc t').1 : Nat)) ∧ Eq2 w W' t'' false) ∧ Below w.heap.size w W')
    (OwnFrom.and (Own.from (fun s A B row hs hg hr => by obtain ⟨h1, t', h2, h3, h4⟩ := hs; exact ⟨h1, t', h2, h3, h4.kept hg hr⟩) _) (ownFrom_below (Nat.le_refl _) HB2.out.size))
    (fun c => OwnFrom.and (Own.from (fun s A B row hs hg hr => by obtain ⟨h1, pre', x, t', t'', h2, h3, h4, h5⟩ := hs; exact ⟨h1, pre', x, t', t'', h2, h3, h4, h5.kept hg hr⟩) _) (ownFrom_below (Nat.le_refl _) HB2.out.size))
    ⟨⟨List.not_mem_nil, t, rfl, ht, HE2.out⟩, HB2.out⟩ ?a1 ?assign ?body ?done ?stop
  case assign =>
    intro l' x' W' K hK
    gi_wp2
    exact hK
  case body =>
    rintro l' pre p W' ⟨⟨hp, t', hT, ht', he⟩, hB⟩ _
    have HP := hidden hp
    have HB := hidden hB
    have HE := hidden he
    have HTT := hidden hT
    have HS := hidden (fun w => Scalar_all t' w ht')
    have c0 := he.b0.cell
    obtain ⟨hn1, hn2⟩ := Es.sc_two t'.data.toList
    obtain ⟨n, hn⟩ : ∃ n, n = (Ut.sc t'.data.toList).2 := ⟨_, rfl⟩
    obtain ⟨d, hd⟩ : ∃ d, d = (Ut.sc t'.data.toList).1 := ⟨_, rfl⟩
    rw [← hn, ← hd] at HS
    clear hp hB he hT
    gi_wp2_with fail
    refine ⟨trivial, (callsIn_wide.2 (HS.out _)).mono ?_⟩
    rintro e' w3 ⟨rfl, m, rfl⟩
    have HE3 := hidden (HE.out.drewN m)
    have HB3 := hidden (below_drewN' HB.out m)
    have c1 := HE3.out.b0.cell
    have c2 := HE3.out.b1.cell
    have f1 := HE3.out.b0.frozen
    have f2 := HE3.out.b1.frozen
    clear c0
    by_cases hz : n = 0
    · have hstop : Hid (Ut.ld 0 t'.data.toList = 0 ∨ p ≠ ((Ut.sc t'.data.toList).1 : Nat)) := .inl (hn1.1 (by omega))
      subst hz
      clear hn hd hn1 hn2
      gi_wp2
      exact ⟨KeepsOthers.trans (keeps_drewN _ m) (KeepsOthers.setCell _ _ _), ⟨rfl, pre, p, t'.data.toList, t', rfl, HTT.out, hstop.out, HE3.out.set1 false⟩, HB3.out.setCell (p := ⟨w.heap.size + 1, 0, none⟩) (by simp) _⟩
    · have hn0 : ((n : Int) == 0) = false := by rw [beq_eq_false_iff_ne]; omega
      by_cases hpd : p = (d : Int)
      · have hld : Ut.ld 0 t'.data.toList ≠ 0 := fun h => hz (by rw [hn, hn2 h])
        obtain ⟨h1, _, _⟩ := Es.sc_take t'.data.toList hld
        have hnl : n = Ut.ld 0 t'.data.toList := by rw [hn]; exact congrArg Prod.snd h1
        have hle := Ut.ld_le 0 t'.data.toList
        have hle2 : n ≤ t'.size := by rw [hnl]; exact hle
        have hex := Es.extract_drop t' n hle2
        have hnext := Es.eq_next t.data.toList t'.data.toList pre d HTT.out hld hd.symm
        rw [← hnl, ← hex] at hnext
        have HN := hidden hnext
        subst hpd
        clear hn hd hn1 hn2 hz hld h1 hnl hle hex hnext
        gi_wp2
        refine ⟨KeepsOthers.trans (keeps_drewN _ m) (KeepsOthers.setCell _ _ _), trivial, ⟨Es.not_snoc HP.out (by omega), t'.extract n t'.size, HN.out, by rw [ByteArray.size_extract]; omega, HE3.out.set0 _⟩, HB3.out.setCell (p := ⟨w.heap.size, 0, none⟩) (Nat.le_refl _) _⟩
      · have hstop : Hid (Ut.ld 0 t'.data.toList = 0 ∨ p ≠ ((Ut.sc t'.data.toList).1 : Nat)) := .inr (by rw [← hd]; exact hpd)
        have hpd2 : (p == (d : Int)) = false := by rw [beq_eq_false_iff_ne]; exact hpd
        clear hn hd hn1 hn2 hz hpd
        gi_wp2
        exact ⟨KeepsOthers.trans (keeps_drewN _ m) (KeepsOthers.setCell _ _ _), ⟨rfl, pre, p, t'.data.toList, t', rfl, HTT.out, hstop.out, HE3.out.set1 false⟩, HB3.out.setCell (p := ⟨w.heap.size + 1, 0, none⟩) (by simp) _⟩
  case done =>
    rintro D ys W' hD rfl ⟨⟨hp, t', hT, ht', he⟩, hB⟩ hK
    have hdone := Es.eq_done _ _ _ hp hT
    have HDN := hidden hdone
    have HB := hidden hB
    have HK := hidden hK
    have HE := hidden he
    have c1 := he.b0.cell
    have c2 := he.b1.cell
    have f2 := he.b1.frozen
    have hbb : (t'.data.toList == []) = t'.toList.isEmpty := by
      rw [Go.ByteArray.toList_eq]
      cases t'.data.toList <;> rfl
    have HBB := hidden hbb
    clear hp hB hK hT hdone he hbb
    go_wp2_with fail
    have hK' := (KeepsOthers.setCell W' ⟨w.heap.size + 1, 0, none⟩ (.bool t'.toList.isEmpty)).same D _ HK.out rfl
    refine ⟨by simp, .inl ⟨_, _, rfl, run_takeDeferred hK', ?_⟩⟩
    have hc5 := cell_kept (World.cell?_setCell_same' W' ⟨w.heap.size + 1, 0, none⟩ (.bool t'.toList.isEmpty) (by rw [HE.out.b1.cell]; rfl)) (grownBy_putObj' _ D (.deferred none)) (fun r e => by cases e; exact ⟨_, hK', rfl⟩)
    refine ⟨.bool t'.toList.isEmpty, ?_, ret_bool (by rw [HDN.out, HBB.out]), (HB.out.setCell (p := ⟨w.heap.size + 1, 0, none⟩) (by simp) _).trans ((belowK_b (w := w2) (Nat.le_refl _) _ D _ _ hD hK' rfl rfl).mono HB2.out.size)⟩
    simp [results, Try.f13, go_sem, hc5]
  case stop =>
    rintro D c pre W' hD ⟨p, a, q, hk, rfl⟩ ⟨⟨rfl, pre', x, t', t'', hx, hT, hz, he⟩, hB⟩ hK
    obtain ⟨rfl, rfl⟩ := Es.end_of hx.symm
    have HOK := hidden (Es.eq_stop _ _ _ _ _ _ hk hT hz)
    have HB := hidden hB
    have HK := hidden hK
    have HC := hidden he.b1.cell
    clear hx hB hK hk hT hz he
    gi_wp2
    refine ⟨by simp, .inl ⟨_, _, rfl, run_takeDeferred HK.out, ?_⟩⟩
    have hc5 := cell_kept HC.out (grownBy_putObj' _ D (.deferred none)) (fun r e => by cases e; exact ⟨_, HK.out, rfl⟩)
    refine ⟨.bool false, ?_, ret_bool HOK.out.symm, HB.out.trans ((belowK_b (w := w2) (Nat.le_refl _) W' D _ _ hD HK.out rfl rfl).mono HB2.out.size)⟩
    simp [results, Try.f13, go_sem, hc5]
end Go.Proofs.Ytjhjkahjljikhaa
