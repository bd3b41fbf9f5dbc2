/-
  The contract of package esc's Text: for every string; nothing that was there is changed.
-/
import Derived.Test.YtjhjkahjljikhaaEsIs
import Derived.Test.YtjhjkahjljikhaaEsShelf
namespace Go.Proofs.Ytjhjkahjljikhaa
open Go.RowKit Go.Shelf
attribute [local go_sem] Oper.semAt_some
namespace Es
theorem ys_len (l : List UInt8) : (ys l).length ≤ l.length := by
  refine ind (fun l => (ys l).length ≤ l.length) (Nat.le_refl _) ?_ ?_ l
  · intro l h0 _ e
    rw [e]
    cases l with
    | nil => exact absurd rfl h0
    | cons => simp
  · intro l c n _ h2 h3 _ _ _ e ih
    rw [e, List.length_cons]
    rw [List.length_drop] at ih
    omega
theorem yl_len (l : List UInt8) : (yl l).length ≤ l.length + 1 := by
  cases hi : ins l with
  | none =>
    rw [yl_none l hi]
    simp
  | some m =>
    rw [yl_some l m hi, ins_of l m hi, List.length_cons, List.length_append]
    have := ys_len m
    omega
theorem encz_len (z : Int) : (Ut.encz z).length ≤ 4 := by
  unfold Ut.encz
  split
  · exact Nat.zero_le _
  · by_cases h : Ut.Sc z.toNat
    · rw [Ut.enc_length _ h]
      exact Ut.wid_le _
    · rw [Ut.enc_none _ h]
      exact Nat.zero_le _
theorem flat_len (l : List Int) : (l.flatMap Ut.encz).length ≤ 4 * l.length := by
  induction l with
  | nil => exact Nat.zero_le _
  | cons z l ih =>
    rw [List.flatMap_cons, List.length_append, List.length_cons]
    have := encz_len z
    omega
theorem flat_snoc (l : List Int) (z : Int) : (l ++ [z]).flatMap Ut.encz = l.flatMap Ut.encz ++ Ut.encz z := by
  rw [List.flatMap_append, List.flatMap_cons, List.flatMap_nil, List.append_nil]
/-- What Text tells. -/
def txt (l : List UInt8) : List UInt8 := if ok l = true then tx l else []
def txe (l : List UInt8) : Int := if ok l = true then 0 else 3
theorem txt_no {l : List UInt8} (h : ok l = false) : txt l = [] ∧ txe l = 3 := by
  unfold txt txe
  rw [h]
  exact ⟨rfl, rfl⟩
theorem txt_yes {l : List UInt8} (h : ok l = true) : txt l = tx l ∧ txe l = 0 := by
  unfold txt txe
  rw [h]
  exact ⟨rfl, rfl⟩
end Es
/-- The boxes of Text: the two results, and the builder. -/
structure Tx3 (w W : World) (t : ByteArray) (e : Int) (l : List UInt8) : Prop where
  b0 : Boxed W w.heap.size 9 (.string t)
  b1 : Boxed W (w.heap.size + 1) 23 (.int .i64 e)
  b2 : Eb (w.heap.size + 1 + 1) (w.heap.size + 1 + 1) l W
theorem Tx3.kept {w A B : World} {t : ByteArray} {e : Int} {l : List UInt8} {row : Option Nat} (h : Tx3 w A t e l) (hg : A.grownBy B row) (hr : ∀ r, row = some r → ∃ o : Obj, A.heap[r]? = some o ∧ o.isCells = false) : Tx3 w B t e l :=
  ⟨(grownBy_keeps_cells hg hr h.b0 rfl).trans h.b0, (grownBy_keeps_cells hg hr h.b1 rfl).trans h.b1, h.b2.kept hg hr⟩
theorem Tx3.after {w A B : World} {t : ByteArray} {e : Int} {l : List UInt8} (h : Tx3 w A t e l) (hb : Below A.heap.size A B) : Tx3 w B t e l :=
  ⟨(hb.block _ (Array.getElem?_eq_some_iff.1 h.b0).1).trans h.b0, (hb.block _ (Array.getElem?_eq_some_iff.1 h.b1).1).trans h.b1, h.b2.below hb⟩
theorem Tx3.wrote {w A B : World} {t : ByteArray} {e : Int} {l m : List UInt8} (h : Tx3 w A t e l) (hb : Below (w.heap.size + 1 + 1) A B) (h2 : Eb (w.heap.size + 1 + 1) (w.heap.size + 1 + 1) m B) : Tx3 w B t e m :=
  ⟨(hb.block _ (by omega)).trans h.b0, (hb.block _ (by omega)).trans h.b1, h2⟩
theorem Tx3.set0 {w W : World} {t : ByteArray} {e : Int} {l : List UInt8} (h : Tx3 w W t e l) (t' : ByteArray) : Boxed (W.setCell ⟨w.heap.size, 0, none⟩ (.string t')) w.heap.size 9 (.string t') ∧ Boxed (W.setCell ⟨w.heap.size, 0, none⟩ (.string t')) (w.heap.size + 1) 23 (.int .i64 e) :=
  ⟨h.b0.set _, (Below.heap_setCell _ _ _ _ (by simp)).trans h.b1⟩
/-- The two results. -/
def Rs (w W : World) (t : ByteArray) (e : Int) : Prop := Boxed W w.heap.size 9 (.string t) ∧ Boxed W (w.heap.size + 1) 23 (.int .i64 e)
theorem Tx3.rs {w W : World} {t : ByteArray} {e : Int} {l : List UInt8} (h : Tx3 w W t e l) : Rs w W t e := ⟨h.b0, h.b1⟩
theorem Rs.kept {w A B : World} {t : ByteArray} {e : Int} {row : Option Nat} (h : Rs w A t e) (hg : A.grownBy B row) (hr : ∀ r, row = some r → ∃ o : Obj, A.heap[r]? = some o ∧ o.isCells = false) : Rs w B t e :=
  ⟨(grownBy_keeps_cells hg hr h.1 rfl).trans h.1, (grownBy_keeps_cells hg hr h.2 rfl).trans h.2⟩
theorem Rs.set {w W : World} {t : ByteArray} {e : Int} (h : Rs w W t e) (t' : ByteArray) (e' : Int) : Rs w ((W.setCell ⟨w.heap.size, 0, none⟩ (.string t')).setCell ⟨w.heap.size + 1, 0, none⟩ (.int .i64 e')) t' e' :=
  ⟨(Below.heap_setCell _ _ _ _ (by simp)).trans (h.1.set _), Boxed.set (v := .int .i64 e) _ ((Below.heap_setCell _ _ _ _ (by simp)).trans h.2)⟩
set_option maxRecDepth 100000 in
set_option maxHeartbeats 4000000 in
theorem esText_any (s : ByteArray) (w : World) (hs : s.size ≤ 1000000) :
    Calls Try.prog 10 #[.string s] w fun e w' => e = .returned (.tuple #[.string ⟨(Es.txt s.data.toList).toArray⟩, .int .i64 (Es.txe s.data.toList)]) ∧ Below w.heap.size w w' := by
  refine (callsIn_wide (n := 10)).1 ?_
  refine callsIn_of_wp_marks Try.func10 rfl trivial ?_ rfl
  simp only [Try.ntmps10, List.size_toArray, List.length_cons, List.length_nil, Nat.reduceAdd, Nat.reduceSub, Array.replicate_succ, Array.replicate_zero, List.push_toArray, List.append_toArray, List.nil_append, List.cons_append]
  refine wpIn_wide.2 ?_
  go_wp2_with fail
  obtain ⟨w0, hw0⟩ : ∃ w0, w0 = ((w.alloc (.cells #[.string ⟨#[]⟩] 9)).alloc (.cells #[.int .i64 0] 23)).alloc (.cells #[.pointer none, .slice none 0 0] 37) := ⟨_, rfl⟩
  have hb0 : Below w.heap.size w w0 := by rw [hw0]; exact (((Below.refl _ _).alloc (Nat.le_refl _) _).alloc (by simp) _).alloc (by simp; omega) _
  have he0 : Tx3 w w0 ⟨#[]⟩ 0 [] := by
    rw [hw0]
    refine ⟨((Boxed.new _ _ _).alloc _).alloc _, ?_, ?_⟩
    · have := Boxed.new (w.alloc (.cells #[.string ⟨#[]⟩] 9)) 23 (.int .i64 0)
      rw [World.size_alloc] at this
      exact this.alloc _
    · exact Eb.fresh _ _ _ (Nat.le_refl _) (heap_new_at (by simp))
  rw [← hw0]
  have HB0 := hidden hb0
  clear hw0 hb0
  refine (scalars_any s w0).mono ?_
  rintro e' w2 ⟨bx, rfl, hb2, hbx, cb⟩
  have HE2 := hidden (he0.after hb2)
  have HB2 := hidden (Es.below_after HB0.out hb2)
  have HSt := hidden (scalars_stops 9 (by decide) bx s w2 (by omega) cb)
  have hlen : (Es.yl s.data.toList).length ≤ 1000001 := Nat.le_trans (Es.yl_len _) (by show s.size + 1 ≤ _; omega)
  clear hb2 cb he0 HB0
  go_wp2_with fail
  refine (wpIn_wide (n := 10)).1 ?_
  refine wpIn_rangeFunc_ownF rfl (by decide) (gf := 28) (lb := #[.pointer (some ⟨bx, 0, none⟩)]) rfl trivial (enters_of Try.func28 (by kernel_rfl) rfl)
    HSt.out (fun _ _ => trivial) (fun _ _ _ _ _ _ _ _ => trivial) (Below.refl _ _) (fun _ => rfl)
    (fun pre W' => ((-1 : Int) ∉ pre ∧ Tx3 w W' ⟨#[]⟩ 0 (pre.flatMap Ut.encz)) ∧ Below w.heap.size w W')
    (fun c pre W' => (c = .ret ∧ (∃ pre', pre = pre' ++ [-1]) ∧ Rs w W' ⟨#[]⟩ 3) ∧ Below w.heap.size w W')
    (OwnFrom.and (Own.from (fun s A B row hs hg hr => ⟨hs.1, hs.2.kept hg hr⟩) _) (ownFrom_below (Nat.le_refl _) HB2.out.size))
    (fun c => OwnFrom.and (Own.from (fun s A B row hs hg hr => ⟨hs.1, hs.2.1, hs.2.2.kept hg hr⟩) _) (ownFrom_below (Nat.le_refl _) HB2.out.size))
    ⟨⟨List.not_mem_nil, HE2.out⟩, HB2.out⟩ ?a1 ?assign ?body ?done ?stop
  case assign =>
    intro l' x' W' K hK
    gi_wp2
    exact hK
  case body =>
    rintro l' pre p W' ⟨⟨hp, he⟩, hB⟩ hpl
    have HP := hidden hp
    have HB := hidden hB
    have HE := hidden he
    have c0 := he.b0.cell
    have c1 := he.b1.cell
    have f0 := he.b0.frozen
    have f1 := he.b1.frozen
    clear hp hB he
    by_cases hz : p = -1
    · subst hz
      gi_wp2
      exact ⟨KeepsOthers.trans (KeepsOthers.setCell _ _ _) (KeepsOthers.setCell _ _ _), ⟨rfl, ⟨pre, rfl⟩, HE.out.rs.set _ _⟩, (HB.out.setCell (p := ⟨w.heap.size, 0, none⟩) (Nat.le_refl _) _).setCell (p := ⟨w.heap.size + 1, 0, none⟩) (by simp) _⟩
    · have d5 : (p == -1) = false := by rw [beq_eq_false_iff_ne]; exact hz
      have HZ := hidden hz
      have HPL := hidden hpl
      clear hz hpl
      gi_wp2_with fail
      refine ⟨trivial, (callsIn_wide.2 (Put_any p W')).mono ?_⟩
      rintro e' w3 ⟨rfl, hb3⟩
      have HE3 := hidden (HE.out.after hb3)
      have HB3 := hidden hb3
      have hsz := HE3.out.b2.lt
      clear hb3
      gi_wp2_with fail
      refine ⟨trivial, (callsIn_wide.2 (kWriteS (w.heap.size + 1 + 1) (w.heap.size + 1 + 1) (pre.flatMap Ut.encz) (Ut.encz p) _ w3 HE3.out.b2 rfl (by have h1 := Es.flat_len pre; have h2 := Es.encz_len p; have h3 := HPL.out; omega) (by omega))).mono ?_⟩
      rintro e' w4 ⟨rfl, h4, hk4⟩
      have HE4 := hidden h4
      have HK4 := hidden hk4
      clear h4 hk4
      gi_wp2
      refine ⟨(keeps_below HB3.out).trans (HK4.out.others HE3.out.b2), trivial, ⟨Es.not_snoc HP.out HZ.out, ?_⟩, ?_⟩
      · rw [Es.flat_snoc]
        exact HE3.out.wrote HK4.out.1 HE4.out
      · exact (HB.out.trans (HB3.out.mono HB.out.size)).trans (HK4.out.1.mono (by omega))
  case done =>
    rintro D ys W' hD rfl ⟨⟨hp, he⟩, hB⟩ hK
    have HXY := hidden (Es.txt_yes ((Es.ok_true _).2 hp))
    have HB := hidden hB
    have HK := hidden hK
    have HE := hidden he
    have hsz := he.b2.lt
    clear hp hB hK he
    go_wp2_with fail
    refine (kString (w.heap.size + 1 + 1) (w.heap.size + 1 + 1) _ W' HE.out.b2 (by omega)).mono ?_
    rintro e' w4 ⟨rfl, h4, hk4⟩
    have HE4 := hidden (HE.out.wrote hk4.1 h4)
    have HK4 := hidden hk4
    have HO4 := hidden (hk4.others HE.out.b2)
    have c0 := HE4.out.b0.cell
    have c1 := HE4.out.b1.cell
    have f0 := HE4.out.b0.frozen
    have f1 := HE4.out.b1.frozen
    clear h4 hk4
    go_wp2_with fail
    obtain ⟨V, hV⟩ : ∃ V : ByteArray, V = ⟨((Es.yl s.data.toList).flatMap Ut.encz).toArray⟩ := ⟨_, rfl⟩
    have hK' := (HO4.out.trans (KeepsOthers.trans (KeepsOthers.setCell _ ⟨w.heap.size, 0, none⟩ (.string V)) (KeepsOthers.setCell _ ⟨w.heap.size + 1, 0, none⟩ (.int .i64 0)))).same D _ HK.out rfl
    rw [hV] at hK'
    refine ⟨by simp, .inl ⟨_, _, rfl, run_takeDeferred hK', ?_⟩⟩
    have H2 := (HE4.out.rs.set V 0).kept (grownBy_putObj' _ D (.deferred none)) (fun r e => by cases e; exact ⟨_, by rw [hV]; exact hK', rfl⟩)
    have h1 := H2.1.cell
    have h2 := H2.2.cell
    have hDs : w2.heap.size ≤ D := hD
    rw [HXY.out.1, HXY.out.2]
    rw [hV] at h1 h2
    refine ⟨.tuple #[.string ⟨((Es.yl s.data.toList).flatMap Ut.encz).toArray⟩, .int .i64 0], ?_, rfl, (((HB.out.trans (HK4.out.1.mono (by omega))).setCell (p := ⟨w.heap.size, 0, none⟩) (Nat.le_refl _) _).setCell (p := ⟨w.heap.size + 1, 0, none⟩) (by simp) _).trans ((belowK_b (w := w2) (Nat.le_refl _) _ D _ _ hD hK' rfl rfl).mono HB2.out.size)⟩
    simp [results, Try.f10, go_sem, h1, h2]
  case stop =>
    rintro D c pre W' hD ⟨p, a, q, hk, rfl⟩ ⟨⟨rfl, ⟨pre', hx⟩, he⟩, hB⟩ hK
    obtain ⟨rfl, rfl⟩ := Es.end_of hx.symm
    have HXY := hidden (Es.txt_no (Es.ok_stop _ _ _ hk))
    have HB := hidden hB
    have HK := hidden hK
    have HC := hidden he
    clear hx hB hK hk he
    gi_wp2
    refine ⟨by simp, .inl ⟨_, _, rfl, run_takeDeferred HK.out, ?_⟩⟩
    have hc5 := HC.out.kept (grownBy_putObj' _ D (.deferred none)) (fun r e => by cases e; exact ⟨_, HK.out, rfl⟩)
    have h1 := hc5.1.cell
    have h2 := hc5.2.cell
    rw [HXY.out.1, HXY.out.2]
    refine ⟨.tuple #[.string ⟨#[]⟩, .int .i64 3], ?_, rfl, HB.out.trans ((belowK_b (w := w2) (Nat.le_refl _) W' D _ _ hD HK.out rfl rfl).mono HB2.out.size)⟩
    simp [results, Try.f10, go_sem, h1, h2]
end Go.Proofs.Ytjhjkahjljikhaa
