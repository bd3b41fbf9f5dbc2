/-
  The contract of package num's read: for every text; memory is but made.
-/
import Derived.Lib.Builder
import Derived.Laws.ResultCell
import Derived.Laws.Rows
import Derived.Deep.RegionHeld
import Derived.Test.YthimbaflodphmaaDoorNuText
import Derived.Test.YthimbaflodphmaaDoorFwd
namespace Go.Proofs.YthimbaflodphmaaDoor
open Go.RowKit
open Nu
theorem setCell_heap_same (w : World) (g j : Nat) (cur : Array Value) (e : TypeId) (fr : Nat × Nat) (u : Value) (h : w.heap[g]? = some (.cells cur e fr)) : (w.setCell ⟨g, j, none⟩ u).heap[g]? = some (.cells (cur.setIfInBounds j u) e fr) := by
  simp [World.setCell, Array.getElem?_modify, h]
theorem results_cell_row_tmp {P : Program} {fn : Func} {p q : Tmp} {ty : TypeId} (h : fn.results = #[.cell p ty, .tmp q]) (tmps : Array Value) (w : World) (g : Nat) (t : TypeId) (cs : Array Value) (fr : Nat × Nat) (d : TypeDesc)
    (hp : tmps.getD p undef = .pointer (some ⟨g, 0, none⟩)) (hg : w.heap[g]? = some (.cells cs t fr))
    (hu : P.underlying ty = some d) (hd : (match d with | .struct _ | .array _ _ => true | _ => false) = true) (hi : (P.info? ty).map (·.size) = some cs.size) :
    (results fn tmps).run P w = .ok (.tuple #[.agg cs, tmps.getD q undef]) w := by
  have hp' : tmps[p]?.getD undef = .pointer (some ⟨g, 0, none⟩) := by simpa using hp
  rw [results_cell_tmp h]
  simp [hp', asAddr, run_loadVar_row w g t ty cs fr d hg hu hd hi, Result.andThen]
theorem heap_alloc_at (w : World) (o : Obj) (k : Nat) (hk : k = w.heap.size) : (w.alloc o).heap[k]? = some o := by
  subst hk
  exact heap_alloc_new _ _
theorem heap_alloc_old (w : World) (o : Obj) (k : Nat) (hk : k < w.heap.size) : (w.alloc o).heap[k]? = w.heap[k]? := Below.heap_alloc _ _ _ (by omega)
theorem heap_alloc_size (w : World) (o : Obj) : (w.alloc o).heap.size = w.heap.size + 1 := by simp
theorem byte_ne {c : UInt8} (u : UInt8) (z : Int) (hz : z = (u.toNat : Int)) (h : c ≠ u) : ((c.toNat : Int) == z) = false := by
  rw [beq_eq_false_iff_ne, hz]
  intro e
  exact h (UInt8.toNat_inj.1 (by omega))
namespace Nu
theorem off_not {c : UInt8} {l : List UInt8} (h : has c l = false) : off c l = l := by
  cases l with
  | nil => rfl
  | cons x l =>
    rw [off, if_neg (by rw [show (x == c) = false from h]; simp)]
/-- The parts as the program has them. -/
def pv : Option Pt → Value
  | some p => .agg #[.bool p.neg, .string (str p.wh), .string (str p.fr), .bool p.eneg, .string (str p.ex)]
  | none => .agg #[.bool false, .string ⟨#[]⟩, .string ⟨#[]⟩, .bool false, .string ⟨#[]⟩]
/-- What stands behind e or E. -/
def expo (neg : Bool) (wh fr l : List UInt8) : Option Pt :=
  if dc (if has 45 l then off 45 l else off 43 l) = 0 then none
  else if (if has 45 l then off 45 l else off 43 l).drop (dc (if has 45 l then off 45 l else off 43 l)) = [] then
    some ⟨neg, wh, fr, has 45 l, if has 45 l then off 45 l else off 43 l⟩
  else none
theorem tail_nil (neg : Bool) (wh fr : List UInt8) : tail neg wh fr [] = some ⟨neg, wh, fr, false, []⟩ := by rw [tail, if_pos rfl]
theorem tail_e (neg : Bool) (wh fr l : List UInt8) (c : UInt8) (h : c = 101 ∨ c = 69) : tail neg wh fr (c :: l) = expo neg wh fr l := by
  rw [tail, if_neg (by simp), if_pos (by rcases h with rfl | rfl <;> simp)]
  rfl
theorem tail_no (neg : Bool) (wh fr l : List UInt8) (c : UInt8) (h : ¬ (c = 101 ∨ c = 69)) : tail neg wh fr (c :: l) = none := by
  rw [tail, if_neg (by simp), if_neg (by simpa using h)]
/-- Where read stands: its result's block, its parts' block, and what memory was ahead is as it was. -/
structure RdAt (w w' : World) (v0 v1 v2 v3 v4 : Value) : Prop where
  res : w'.heap[w.heap.size]? = some (.cells #[.bool false, .string ⟨#[]⟩, .string ⟨#[]⟩, .bool false, .string ⟨#[]⟩] 36 (0, 0))
  row : w'.heap[w.heap.size + 1]? = some (.cells #[v0, v1, v2, v3, v4] 36 (0, 0))
  bel : Below w.heap.size w w'
theorem RdAt.start (w : World) : RdAt w ((w.alloc (.cells #[.bool false, .string ⟨#[]⟩, .string ⟨#[]⟩, .bool false, .string ⟨#[]⟩] 36)).alloc (.cells #[.bool false, .string ⟨#[]⟩, .string ⟨#[]⟩, .bool false, .string ⟨#[]⟩] 36)) (.bool false) (.string ⟨#[]⟩) (.string ⟨#[]⟩) (.bool false) (.string ⟨#[]⟩) where
  res := by
    rw [heap_alloc_old _ _ _ (by rw [heap_alloc_size]; omega)]
    exact heap_alloc_new _ _
  row := heap_alloc_at _ _ _ (by rw [heap_alloc_size])
  bel := ((Below.refl _ _).alloc (Nat.le_refl _) _).alloc (by simp) _
theorem RdAt.drew {w w' : World} {v0 v1 v2 v3 v4 : Value} (h : RdAt w w' v0 v1 v2 v3 v4) : RdAt w w'.drew v0 v1 v2 v3 v4 := ⟨h.res, h.row, h.bel.drew⟩
theorem RdAt.c0 {w w' : World} {v0 v1 v2 v3 v4 : Value} (h : RdAt w w' v0 v1 v2 v3 v4) : w'.cell? ⟨w.heap.size + 1, 0, none⟩ = some v0 := Lib.cell_of_heap h.row 0
theorem RdAt.c1 {w w' : World} {v0 v1 v2 v3 v4 : Value} (h : RdAt w w' v0 v1 v2 v3 v4) : w'.cell? ⟨w.heap.size + 1, 1, none⟩ = some v1 := Lib.cell_of_heap h.row 1
theorem RdAt.c2 {w w' : World} {v0 v1 v2 v3 v4 : Value} (h : RdAt w w' v0 v1 v2 v3 v4) : w'.cell? ⟨w.heap.size + 1, 2, none⟩ = some v2 := Lib.cell_of_heap h.row 2
theorem RdAt.c3 {w w' : World} {v0 v1 v2 v3 v4 : Value} (h : RdAt w w' v0 v1 v2 v3 v4) : w'.cell? ⟨w.heap.size + 1, 3, none⟩ = some v3 := Lib.cell_of_heap h.row 3
theorem RdAt.c4 {w w' : World} {v0 v1 v2 v3 v4 : Value} (h : RdAt w w' v0 v1 v2 v3 v4) : w'.cell? ⟨w.heap.size + 1, 4, none⟩ = some v4 := Lib.cell_of_heap h.row 4
theorem RdAt.fz {w w' : World} {v0 v1 v2 v3 v4 : Value} (h : RdAt w w' v0 v1 v2 v3 v4) (j : Nat) : w'.frozen? ⟨w.heap.size + 1, j, none⟩ = false := Lib.frozen_of_heap h.row j
theorem RdAt.rc {w w' : World} {v0 v1 v2 v3 v4 : Value} (h : RdAt w w' v0 v1 v2 v3 v4) (j : Nat) : w'.cell? ⟨w.heap.size, j, none⟩ = (#[Value.bool false, .string ⟨#[]⟩, .string ⟨#[]⟩, .bool false, .string ⟨#[]⟩])[j]? := Lib.cell_of_heap h.res j
theorem RdAt.rf {w w' : World} {v0 v1 v2 v3 v4 : Value} (h : RdAt w w' v0 v1 v2 v3 v4) (j : Nat) : w'.frozen? ⟨w.heap.size, j, none⟩ = false := Lib.frozen_of_heap h.res j

theorem RdAt.s0 {w w' : World} {v0 v1 v2 v3 v4 : Value} (h : RdAt w w' v0 v1 v2 v3 v4) (u : Value) : RdAt w (w'.setCell ⟨w.heap.size + 1, 0, none⟩ u) u v1 v2 v3 v4 where
  res := (Below.heap_setCell _ _ _ _ (by simp)).trans h.res
  row := setCell_heap_same _ _ 0 _ _ _ _ h.row
  bel := h.bel.setCell (by simp) _

theorem RdAt.s1 {w w' : World} {v0 v1 v2 v3 v4 : Value} (h : RdAt w w' v0 v1 v2 v3 v4) (u : Value) : RdAt w (w'.setCell ⟨w.heap.size + 1, 1, none⟩ u) v0 u v2 v3 v4 where
  res := (Below.heap_setCell _ _ _ _ (by simp)).trans h.res
  row := setCell_heap_same _ _ 1 _ _ _ _ h.row
  bel := h.bel.setCell (by simp) _

theorem RdAt.s2 {w w' : World} {v0 v1 v2 v3 v4 : Value} (h : RdAt w w' v0 v1 v2 v3 v4) (u : Value) : RdAt w (w'.setCell ⟨w.heap.size + 1, 2, none⟩ u) v0 v1 u v3 v4 where
  res := (Below.heap_setCell _ _ _ _ (by simp)).trans h.res
  row := setCell_heap_same _ _ 2 _ _ _ _ h.row
  bel := h.bel.setCell (by simp) _

theorem RdAt.s3 {w w' : World} {v0 v1 v2 v3 v4 : Value} (h : RdAt w w' v0 v1 v2 v3 v4) (u : Value) : RdAt w (w'.setCell ⟨w.heap.size + 1, 3, none⟩ u) v0 v1 v2 u v4 where
  res := (Below.heap_setCell _ _ _ _ (by simp)).trans h.res
  row := setCell_heap_same _ _ 3 _ _ _ _ h.row
  bel := h.bel.setCell (by simp) _

theorem RdAt.s4 {w w' : World} {v0 v1 v2 v3 v4 : Value} (h : RdAt w w' v0 v1 v2 v3 v4) (u : Value) : RdAt w (w'.setCell ⟨w.heap.size + 1, 4, none⟩ u) v0 v1 v2 v3 u where
  res := (Below.heap_setCell _ _ _ _ (by simp)).trans h.res
  row := setCell_heap_same _ _ 4 _ _ _ _ h.row
  bel := h.bel.setCell (by simp) _

theorem sizeParts : (Tryd.prog.info? 36).map (·.size) = some 5 := by kernel_rfl
end Nu
set_option maxHeartbeats 4000000 in
set_option maxRecDepth 100000 in
theorem read_any (l : List UInt8) (w : World) (hs : l.length ≤ 1000000) :
    Calls Tryd.prog 18 #[.string (str l)] w fun e w' => e = .returned (.tuple #[pv (Nu.read l), .bool (Nu.read l).isSome]) ∧ Below w.heap.size w w' := by
  have hd1 := dc_le (off 45 l)
  have hol := off_le 45 l
  have hr : Nu.read l = body (has 45 l) (off 45 l) := rfl
  obtain ⟨neg, hng⟩ : ∃ neg, neg = has 45 l := ⟨_, rfl⟩
  obtain ⟨l1, hl1⟩ : ∃ l1, l1 = off 45 l := ⟨_, rfl⟩
  obtain ⟨n, hn⟩ : ∃ n, n = dc l1 := ⟨_, rfl⟩
  obtain ⟨R, hR⟩ : ∃ R, R = Nu.read l := ⟨_, rfl⟩
  rw [← hl1, ← hn] at hd1
  rw [← hl1] at hol
  rw [← hR, ← hl1, ← hng] at hr
  rw [← hR]
  have H1 := hidden hl1
  have HN := hidden hn
  have HG := hidden hng
  have HR := hidden hr
  clear hl1 hn hng hr hR
  go_enter Tryd.func18, Tryd.ntmps18
  go_wp2_with fail
  refine wp_scope_fwd [1, 2, 3, 0] ?_
  go_wp2_with fail
  refine (sign_any l 45 _).mono ?_
  rintro e w1 ⟨rfl, rfl⟩
  rw [← H1.out, ← HG.out]
  have hA := RdAt.start w
  obtain ⟨w0, hw0⟩ : ∃ w0, w0 = (w.alloc (.cells #[.bool false, .string ⟨#[]⟩, .string ⟨#[]⟩, .bool false, .string ⟨#[]⟩] 36)).alloc (.cells #[.bool false, .string ⟨#[]⟩, .string ⟨#[]⟩, .bool false, .string ⟨#[]⟩] 36) := ⟨_, rfl⟩
  rw [← hw0] at hA ⊢
  have c0 := hA.c0
  have f0 := hA.fz 0
  have HA := hidden hA
  clear hA hw0
  go_wp2_with fail
  refine (digits_any l1 _ (by omega)).mono ?_
  rintro e w1 ⟨rfl, rfl⟩
  rw [← HN.out]
  have hA := HA.out.s0 (.bool neg)
  obtain ⟨w1, hw1⟩ : ∃ w1, w1 = w0.setCell ⟨w.heap.size + 1, 0, none⟩ (.bool neg) := ⟨_, rfl⟩
  rw [← hw1] at hA ⊢
  clear HA hw1 c0 f0
  have HA := hidden hA
  clear hA
  by_cases h0 : n = 0
  · have hb : body neg l1 = none := by rw [body, if_pos (by rw [← HN.out]; exact h0)]
    have HB := hidden hb
    subst h0
    clear hb
    go_wp2_with fail
    have r0 := HA.out.rc 0
    have r1 := HA.out.rc 1
    have r2 := HA.out.rc 2
    have r3 := HA.out.rc 3
    have r4 := HA.out.rc 4
    have g0 := HA.out.rf 0
    have g1 := HA.out.rf 1
    have g2 := HA.out.rf 2
    have g3 := HA.out.rf 3
    have g4 := HA.out.rf 4
    simp only [List.getElem?_toArray, List.getElem?_cons_zero, List.getElem?_cons_succ] at r0 r1 r2 r3 r4
    apply wp_goto
    refine Or.inr (Or.inr (Or.inr (Or.inl ⟨rfl, _, rfl, ?_⟩)))
    go_wp2_with fail
    apply to_ret
    refine bodyPost_ret (results_cell_row_tmp rfl _ _ w.heap.size 36 #[.bool false, .string ⟨#[]⟩, .string ⟨#[]⟩, .bool false, .string ⟨#[]⟩] (0, 0) _ rfl ?_ Tryd.underlying36 rfl sizeParts) rfl ?_
    · exact setCell_heap_same _ _ 4 _ _ _ _ (setCell_heap_same _ _ 3 _ _ _ _ (setCell_heap_same _ _ 2 _ _ _ _ (setCell_heap_same _ _ 1 _ _ _ _ (setCell_heap_same _ _ 0 _ _ _ _ HA.out.res))))
    · refine ⟨?_, ((((HA.out.bel.setCell (Nat.le_refl _) _).setCell (Nat.le_refl _) _).setCell (Nat.le_refl _) _).setCell (Nat.le_refl _) _).setCell (Nat.le_refl _) _⟩
      rw [HR.out, HB.out]
      rfl
  · have hz0 : 0 < (str l1).size := by rw [str_size]; omega
    have hz1 := str_at l1 0 hz0 (by rw [str_size] at hz0; exact hz0)
    have hsz := str_size l1
    by_cases h48 : 1 < n ∧ l1.head? = some 48
    · have hb : body neg l1 = none := by rw [body, ← HN.out, if_neg h0, if_pos h48]
      have HB := hidden hb
      have hz2 : ((str l1)[0]'hz0).toNat = 48 := by
        rw [hz1]
        have := h48.2
        rw [List.head?_eq_getElem?, List.getElem?_eq_getElem (by rw [str_size] at hz0; exact hz0)] at this
        rw [Option.some.inj this]
        rfl
      have h1n := h48.1
      clear hb hz1 h48
      go_wp2_with fail
      have r0 := HA.out.rc 0
      have r1 := HA.out.rc 1
      have r2 := HA.out.rc 2
      have r3 := HA.out.rc 3
      have r4 := HA.out.rc 4
      have g0 := HA.out.rf 0
      have g1 := HA.out.rf 1
      have g2 := HA.out.rf 2
      have g3 := HA.out.rf 3
      have g4 := HA.out.rf 4
      simp only [List.getElem?_toArray, List.getElem?_cons_zero, List.getElem?_cons_succ] at r0 r1 r2 r3 r4
      apply wp_goto
      refine Or.inr (Or.inr (Or.inr (Or.inl ⟨rfl, _, rfl, ?_⟩)))
      go_wp2_with fail
      apply to_ret
      refine bodyPost_ret (results_cell_row_tmp rfl _ _ w.heap.size 36 #[.bool false, .string ⟨#[]⟩, .string ⟨#[]⟩, .bool false, .string ⟨#[]⟩] (0, 0) _ rfl ?_ Tryd.underlying36 rfl sizeParts) rfl ?_
      · exact setCell_heap_same _ _ 4 _ _ _ _ (setCell_heap_same _ _ 3 _ _ _ _ (setCell_heap_same _ _ 2 _ _ _ _ (setCell_heap_same _ _ 1 _ _ _ _ (setCell_heap_same _ _ 0 _ _ _ _ HA.out.res))))
      · refine ⟨?_, ((((HA.out.bel.setCell (Nat.le_refl _) _).setCell (Nat.le_refl _) _).setCell (Nat.le_refl _) _).setCell (Nat.le_refl _) _).setCell (Nat.le_refl _) _⟩
        rw [HR.out, HB.out]
        rfl
    · have hb : body neg l1 = if (l1.drop n).head? = some 46 then
            if dc ((l1.drop n).drop 1) = 0 then none
            else tail neg (l1.take n) (((l1.drop n).drop 1).take (dc ((l1.drop n).drop 1))) (((l1.drop n).drop 1).drop (dc ((l1.drop n).drop 1)))
          else tail neg (l1.take n) [] (l1.drop n) := by
        rw [body, ← HN.out, if_neg h0, if_neg h48]
      have HB := hidden hb
      have hn0 : ((n : Int) == 0) = false := by
        rw [beq_eq_false_iff_ne]
        omega
      have hcase : n ≤ 1 ∨ (1 < n ∧ ((((str l1)[0]'hz0).toNat : Int) == 48) = false) := by
        by_cases h1 : n ≤ 1
        · exact .inl h1
        · refine .inr ⟨by omega, ?_⟩
          rw [beq_eq_false_iff_ne]
          intro e0
          have e : ((str l1)[0]'hz0).toNat = 48 := by omega
          refine h48 ⟨by omega, ?_⟩
          rw [hz1] at e
          rw [List.head?_eq_getElem?, List.getElem?_eq_getElem (by rw [str_size] at hz0; exact hz0)]
          exact congrArg some (UInt8.toNat_inj.1 (by simpa using e))
      clear hb hz1 h48
      have hto := run_to l1 n hd1
      have hfrom := run_from l1 n hd1
      have hL2 : (l1.drop n).length ≤ 1000000 := by rw [List.length_drop]; omega
      obtain ⟨l2, hl2⟩ : ∃ l2, l2 = l1.drop n := ⟨_, rfl⟩
      obtain ⟨wh, hwh⟩ : ∃ wh, wh = l1.take n := ⟨_, rfl⟩
      rw [← hwh] at hto
      rw [← hl2] at hfrom hL2
      have HL2 := hidden hl2
      have HWH := hidden hwh
      clear hl2 hwh
      have c1 := HA.out.c1
      have f1 := HA.out.fz 1
      rcases hcase with hc | ⟨hc, hc2⟩
      all_goals (
        go_wp2_with fail
        go_region
        simp only [Exit.then]
        have hA := (HA.out.s1 (.string (str wh))).drew
        obtain ⟨w2, hw2⟩ : ∃ w2, w2 = (w1.setCell ⟨w.heap.size + 1, 1, none⟩ (.string (str wh))).drew := ⟨_, rfl⟩
        rw [← hw2] at hA ⊢
        clear HA hw2 c1 f1 hto hfrom
        have HA := hidden hA
        clear hA
        go_wp2_with fail
        refine (first_any l2 _).mono ?_
        rintro e w1 ⟨rfl, rfl⟩
        cases l2 with
        | nil =>
          have hb2 : body neg l1 = some ⟨neg, wh, [], false, []⟩ := by
            rw [HB.out, ← HL2.out, ← HWH.out, if_neg (by simp), tail_nil]
          have HB2 := hidden hb2
          clear hb2
          have hf : (([] : List UInt8).headD 0).toNat = 0 := rfl
          have hmt : (str []).toList.isEmpty = true := str_mt []
          rw [hf]
          go_wp2_with fail
          have r0 := HA.out.rc 0
          have r1 := HA.out.rc 1
          have r2 := HA.out.rc 2
          have r3 := HA.out.rc 3
          have r4 := HA.out.rc 4
          have g0 := HA.out.rf 0
          have g1 := HA.out.rf 1
          have g2 := HA.out.rf 2
          have g3 := HA.out.rf 3
          have g4 := HA.out.rf 4
          simp only [List.getElem?_toArray, List.getElem?_cons_zero, List.getElem?_cons_succ] at r0 r1 r2 r3 r4
          have c0 := HA.out.c0
          have c1 := HA.out.c1
          have c2 := HA.out.c2
          have c3 := HA.out.c3
          have c4 := HA.out.c4
          apply wp_goto
          refine Or.inr (Or.inr (Or.inl ⟨rfl, _, rfl, ?_⟩))
          go_wp2_with fail
          apply to_ret
          refine bodyPost_ret (results_cell_row_tmp rfl _ _ w.heap.size 36 #[.bool neg, .string (str wh), .string ⟨#[]⟩, .bool false, .string ⟨#[]⟩] (0, 0) _ rfl ?_ Tryd.underlying36 rfl sizeParts) rfl ?_
          · exact setCell_heap_same _ _ 4 _ _ _ _ (setCell_heap_same _ _ 3 _ _ _ _ (setCell_heap_same _ _ 2 _ _ _ _ (setCell_heap_same _ _ 1 _ _ _ _ (setCell_heap_same _ _ 0 _ _ _ _ HA.out.res))))
          · refine ⟨?_, ((((HA.out.bel.setCell (Nat.le_refl _) _).setCell (Nat.le_refl _) _).setCell (Nat.le_refl _) _).setCell (Nat.le_refl _) _).setCell (Nat.le_refl _) _⟩
            rw [HR.out, HB2.out]
            rfl
        | cons c l3 =>
          have hcc : (c :: l3).headD 0 = c := rfl
          have hmt : (str (c :: l3)).toList.isEmpty = false := str_mt (c :: l3)
          have hone : (str (c :: l3)).extract 1 (l3.length + 1) = str l3 := by rw [str_extract]; simp
          have hsz2 := str_size (c :: l3)
          rw [List.length_cons] at hsz2 hL2
          rw [hcc]
          clear hcc
          by_cases hp : c = 46
          · subst hp
            have hu : (46 : UInt8).toNat = 46 := rfl
            rw [hu]
            clear hu hmt
            go_wp2_with fail
            apply wp_goto
            refine Or.inl ⟨rfl, _, rfl, ?_⟩
            go_wp2_with fail
            refine (digits_any l3 _ (by omega)).mono ?_
            rintro e w3 ⟨rfl, rfl⟩
            have hd3 := dc_le l3
            obtain ⟨m, hm⟩ : ∃ m, m = dc l3 := ⟨_, rfl⟩
            rw [← hm] at hd3
            rw [← hm]
            have HM := hidden hm
            clear hm hone hsz2
            by_cases hm0 : m = 0
            · have hb2 : body neg l1 = none := by
                rw [HB.out, ← HL2.out, ← HWH.out, if_pos (by simp), List.drop_one, List.tail_cons, ← HM.out, if_pos hm0]
              have HB2 := hidden hb2
              subst hm0
              clear hb2
              go_wp2_with fail
              have r0 := HA.out.rc 0
              have r1 := HA.out.rc 1
              have r2 := HA.out.rc 2
              have r3 := HA.out.rc 3
              have r4 := HA.out.rc 4
              have g0 := HA.out.rf 0
              have g1 := HA.out.rf 1
              have g2 := HA.out.rf 2
              have g3 := HA.out.rf 3
              have g4 := HA.out.rf 4
              simp only [List.getElem?_toArray, List.getElem?_cons_zero, List.getElem?_cons_succ] at r0 r1 r2 r3 r4
              apply wp_goto
              refine Or.inr (Or.inr (Or.inl ⟨rfl, _, rfl, ?_⟩))
              go_wp2_with fail
              apply to_ret
              refine bodyPost_ret (results_cell_row_tmp rfl _ _ w.heap.size 36 #[.bool false, .string ⟨#[]⟩, .string ⟨#[]⟩, .bool false, .string ⟨#[]⟩] (0, 0) _ rfl ?_ Tryd.underlying36 rfl sizeParts) rfl ?_
              · exact setCell_heap_same _ _ 4 _ _ _ _ (setCell_heap_same _ _ 3 _ _ _ _ (setCell_heap_same _ _ 2 _ _ _ _ (setCell_heap_same _ _ 1 _ _ _ _ (setCell_heap_same _ _ 0 _ _ _ _ HA.out.res))))
              · refine ⟨?_, ((((HA.out.bel.setCell (Nat.le_refl _) _).setCell (Nat.le_refl _) _).setCell (Nat.le_refl _) _).setCell (Nat.le_refl _) _).setCell (Nat.le_refl _) _⟩
                rw [HR.out, HB2.out]
                rfl
            · have hm1 : ((m : Int) == 0) = false := by
                rw [beq_eq_false_iff_ne]
                omega
              have hto := run_to l3 m hd3
              have hfrom := run_from l3 m hd3
              have hL4 : (l3.drop m).length ≤ 1000000 := by rw [List.length_drop]; omega
              have hb2 : body neg l1 = tail neg wh (l3.take m) (l3.drop m) := by
                rw [HB.out, ← HL2.out, ← HWH.out, if_pos (by simp), List.drop_one, List.tail_cons, ← HM.out, if_neg hm0]
              obtain ⟨l4, hl4⟩ : ∃ l4, l4 = l3.drop m := ⟨_, rfl⟩
              obtain ⟨fr, hfr⟩ : ∃ fr, fr = l3.take m := ⟨_, rfl⟩
              rw [← hfr] at hto hb2
              rw [← hl4] at hfrom hL4 hb2
              have HB2 := hidden hb2
              clear hl4 hfr hb2
              have c2 := HA.out.c2
              have f2 := HA.out.fz 2
              go_wp2_with fail
              go_region
              simp only [Exit.then]
              have hA := (HA.out.s2 (.string (str fr))).drew
              obtain ⟨w4, hw4⟩ : ∃ w4, w4 = (w3.setCell ⟨w.heap.size + 1, 2, none⟩ (.string (str fr))).drew := ⟨_, rfl⟩
              rw [← hw4] at hA ⊢
              clear HA hw4 c2 f2 hto hfrom
              have HA := hidden hA
              clear hA
              go_wp2_with fail
              refine (first_any l4 _).mono ?_
              rintro e w5 ⟨rfl, rfl⟩
              cases l4 with
              | nil =>
                have hb3 : body neg l1 = some ⟨neg, wh, fr, false, []⟩ := by
                  rw [HB2.out, tail_nil]
                have HB3 := hidden hb3
                clear hb3
                have hf : (([] : List UInt8).headD 0).toNat = 0 := rfl
                have hmt : (str []).toList.isEmpty = true := str_mt []
                rw [hf]
                go_wp2_with fail
                have r0 := HA.out.rc 0
                have r1 := HA.out.rc 1
                have r2 := HA.out.rc 2
                have r3 := HA.out.rc 3
                have r4 := HA.out.rc 4
                have g0 := HA.out.rf 0
                have g1 := HA.out.rf 1
                have g2 := HA.out.rf 2
                have g3 := HA.out.rf 3
                have g4 := HA.out.rf 4
                simp only [List.getElem?_toArray, List.getElem?_cons_zero, List.getElem?_cons_succ] at r0 r1 r2 r3 r4
                have c0 := HA.out.c0
                have c1 := HA.out.c1
                have c2 := HA.out.c2
                have c3 := HA.out.c3
                have c4 := HA.out.c4
                apply wp_goto
                refine Or.inr (Or.inl ⟨rfl, _, rfl, ?_⟩)
                go_wp2_with fail
                apply to_ret
                refine bodyPost_ret (results_cell_row_tmp rfl _ _ w.heap.size 36 #[.bool neg, .string (str wh), .string (str fr), .bool false, .string ⟨#[]⟩] (0, 0) _ rfl ?_ Tryd.underlying36 rfl sizeParts) rfl ?_
                · exact setCell_heap_same _ _ 4 _ _ _ _ (setCell_heap_same _ _ 3 _ _ _ _ (setCell_heap_same _ _ 2 _ _ _ _ (setCell_heap_same _ _ 1 _ _ _ _ (setCell_heap_same _ _ 0 _ _ _ _ HA.out.res))))
                · refine ⟨?_, ((((HA.out.bel.setCell (Nat.le_refl _) _).setCell (Nat.le_refl _) _).setCell (Nat.le_refl _) _).setCell (Nat.le_refl _) _).setCell (Nat.le_refl _) _⟩
                  rw [HR.out, HB3.out]
                  rfl
              | cons c l5 =>
                have hcc : (c :: l5).headD 0 = c := rfl
                have hmt : (str (c :: l5)).toList.isEmpty = false := str_mt (c :: l5)
                have hone : (str (c :: l5)).extract 1 (l5.length + 1) = str l5 := by rw [str_extract]; simp
                have hsz2 := str_size (c :: l5)
                rw [List.length_cons] at hsz2 hL4
                rw [hcc]
                clear hcc
                by_cases hE : c = 101 ∨ c = 69
                · have hb3 : body neg l1 = expo neg wh fr l5 := by rw [HB2.out, tail_e _ _ _ _ _ hE]
                  have HB3 := hidden hb3
                  clear hb3 hmt
                  rcases hE with hE | hE
                  all_goals (
                    subst hE
                    have hu1 : (101 : UInt8).toNat = 101 := rfl
                    have hu2 : (69 : UInt8).toNat = 69 := rfl
                    simp only [hu1, hu2]
                    clear hu1 hu2
                    go_wp2_with fail
                    apply wp_label
                    simp only [Exit.then]
                    have c3 := HA.out.c3
                    have f3 := HA.out.fz 3
                    go_wp2_with fail
                    refine (sign_any l5 45 _).mono ?_
                    rintro e w6 ⟨rfl, rfl⟩
                    have ho6 := off_le 45 l5
                    have hex : expo neg wh fr l5 = if dc (if has 45 l5 then off 45 l5 else off 43 l5) = 0 then none
                      else if (if has 45 l5 then off 45 l5 else off 43 l5).drop (dc (if has 45 l5 then off 45 l5 else off 43 l5)) = [] then
                        some ⟨neg, wh, fr, has 45 l5, if has 45 l5 then off 45 l5 else off 43 l5⟩
                      else none := rfl
                    have hnt := off_not (c := 45) (l := l5)
                    obtain ⟨l6, hl6⟩ : ∃ l6, l6 = off 45 l5 := ⟨_, rfl⟩
                    obtain ⟨en, hen⟩ : ∃ en, en = has 45 l5 := ⟨_, rfl⟩
                    rw [← hl6] at ho6
                    rw [← hl6, ← hen] at hex hnt
                    rw [← hl6, ← hen]
                    have hA := HA.out.s3 (.bool en)
                    clear hl6 hen hone hsz2
                    cases en with
                    | true =>
                      have hk := dc_le l6
                      obtain ⟨k, hkk⟩ : ∃ k, k = dc l6 := ⟨_, rfl⟩
                      simp only [if_true] at hex
                      rw [← hkk] at hex hk
                      have HX := hidden hex
                      have HK := hidden hkk
                      clear hex hkk hnt HA
                      have HA := hidden hA
                      clear hA
                      go_wp2_with fail
                      refine (digits_any l6 _ (by omega)).mono ?_
                      rintro e w7 ⟨rfl, rfl⟩
                      rw [← HK.out]
                      obtain ⟨w9, hw9⟩ : ∃ w9, w9 = w6.setCell ⟨w.heap.size + 1, 3, none⟩ (.bool true) := ⟨_, rfl⟩
                      rw [← hw9]
                      have hA := HA.out
                      rw [← hw9] at hA
                      clear HA hw9 c3 f3
                      have HA := hidden hA
                      clear hA
                      by_cases hk0 : k = 0
                      · have hb4 : body neg l1 = none := by rw [HB3.out, HX.out, if_pos hk0]
                        have HB4 := hidden hb4
                        subst hk0
                        clear hb4
                        go_wp2_with fail
                        have r0 := HA.out.rc 0
                        have r1 := HA.out.rc 1
                        have r2 := HA.out.rc 2
                        have r3 := HA.out.rc 3
                        have r4 := HA.out.rc 4
                        have g0 := HA.out.rf 0
                        have g1 := HA.out.rf 1
                        have g2 := HA.out.rf 2
                        have g3 := HA.out.rf 3
                        have g4 := HA.out.rf 4
                        simp only [List.getElem?_toArray, List.getElem?_cons_zero, List.getElem?_cons_succ] at r0 r1 r2 r3 r4
                        apply wp_goto
                        refine Or.inr (Or.inr (Or.inl ⟨rfl, _, rfl, ?_⟩))
                        go_wp2_with fail
                        apply to_ret
                        refine bodyPost_ret (results_cell_row_tmp rfl _ _ w.heap.size 36 #[.bool false, .string ⟨#[]⟩, .string ⟨#[]⟩, .bool false, .string ⟨#[]⟩] (0, 0) _ rfl ?_ Tryd.underlying36 rfl sizeParts) rfl ?_
                        · exact setCell_heap_same _ _ 4 _ _ _ _ (setCell_heap_same _ _ 3 _ _ _ _ (setCell_heap_same _ _ 2 _ _ _ _ (setCell_heap_same _ _ 1 _ _ _ _ (setCell_heap_same _ _ 0 _ _ _ _ HA.out.res))))
                        · refine ⟨?_, ((((HA.out.bel.setCell (Nat.le_refl _) _).setCell (Nat.le_refl _) _).setCell (Nat.le_refl _) _).setCell (Nat.le_refl _) _).setCell (Nat.le_refl _) _⟩
                          rw [HR.out, HB4.out]
                          rfl
                      · have hk1 : ((k : Int) == 0) = false := by
                          rw [beq_eq_false_iff_ne]
                          omega
                        have hto := run_to l6 k hk
                        have hfrom := run_from l6 k hk
                        have hb4 : body neg l1 = if l6.drop k = [] then some ⟨neg, wh, fr, true, l6⟩ else none := by rw [HB3.out, HX.out, if_neg hk0]
                        have htk : l6.drop k = [] → l6.take k = l6 := fun e => by
                          have := List.take_append_drop k l6
                          rwa [e, List.append_nil] at this
                        obtain ⟨l8, hl8⟩ : ∃ l8, l8 = l6.drop k := ⟨_, rfl⟩
                        rw [← hl8] at hfrom hb4 htk
                        have HB4 := hidden hb4
                        have HT := hidden htk
                        clear hl8 hb4 htk
                        have c4 := HA.out.c4
                        have f4 := HA.out.fz 4
                        have hmt := str_mt l8
                        go_wp2_with fail
                        go_region
                        simp only [Exit.then]
                        have hA := (HA.out.s4 (.string (str (l6.take k)))).drew
                        obtain ⟨w10, hw10⟩ : ∃ w10, w10 = (w9.setCell ⟨w.heap.size + 1, 4, none⟩ (.string (str (l6.take k)))).drew := ⟨_, rfl⟩
                        rw [← hw10] at hA ⊢
                        clear HA hw10 c4 f4 hto hfrom
                        have HA := hidden hA
                        clear hA
                        cases l8 with
                        | nil =>
                          have hb5 := HB4.out
                          rw [if_pos rfl] at hb5
                          have HB5 := hidden hb5
                          clear hb5
                          rw [List.isEmpty_nil] at hmt
                          have r0 := HA.out.rc 0
                          have r1 := HA.out.rc 1
                          have r2 := HA.out.rc 2
                          have r3 := HA.out.rc 3
                          have r4 := HA.out.rc 4
                          have g0 := HA.out.rf 0
                          have g1 := HA.out.rf 1
                          have g2 := HA.out.rf 2
                          have g3 := HA.out.rf 3
                          have g4 := HA.out.rf 4
                          simp only [List.getElem?_toArray, List.getElem?_cons_zero, List.getElem?_cons_succ] at r0 r1 r2 r3 r4
                          have c0 := HA.out.c0
                          have c1 := HA.out.c1
                          have c2 := HA.out.c2
                          have c3 := HA.out.c3
                          have c4 := HA.out.c4
                          have ht := HT.out rfl
                          rw [ht] at c4
                          rw [ht]
                          go_wp2_with fail
                          apply wp_label
                          simp only [Exit.then]
                          go_wp2_with fail
                          apply to_ret
                          refine bodyPost_ret (results_cell_row_tmp rfl _ _ w.heap.size 36 #[.bool neg, .string (str wh), .string (str fr), .bool true, .string (str l6)] (0, 0) _ rfl ?_ Tryd.underlying36 rfl sizeParts) rfl ?_
                          · exact setCell_heap_same _ _ 4 _ _ _ _ (setCell_heap_same _ _ 3 _ _ _ _ (setCell_heap_same _ _ 2 _ _ _ _ (setCell_heap_same _ _ 1 _ _ _ _ (setCell_heap_same _ _ 0 _ _ _ _ HA.out.res))))
                          · refine ⟨?_, ((((HA.out.bel.setCell (Nat.le_refl _) _).setCell (Nat.le_refl _) _).setCell (Nat.le_refl _) _).setCell (Nat.le_refl _) _).setCell (Nat.le_refl _) _⟩
                            rw [HR.out, HB5.out]
                            rfl
                        | cons x l9 =>
                          have hb5 := HB4.out
                          rw [if_neg (by simp)] at hb5
                          have HB5 := hidden hb5
                          clear hb5
                          rw [List.isEmpty_cons] at hmt
                          go_wp2_with fail
                          apply wp_label
                          simp only [Exit.then]
                          go_wp2_with fail
                          apply wp_label
                          simp only [Exit.then]
                          have r0 := HA.out.rc 0
                          have r1 := HA.out.rc 1
                          have r2 := HA.out.rc 2
                          have r3 := HA.out.rc 3
                          have r4 := HA.out.rc 4
                          have g0 := HA.out.rf 0
                          have g1 := HA.out.rf 1
                          have g2 := HA.out.rf 2
                          have g3 := HA.out.rf 3
                          have g4 := HA.out.rf 4
                          simp only [List.getElem?_toArray, List.getElem?_cons_zero, List.getElem?_cons_succ] at r0 r1 r2 r3 r4
                          go_wp2_with fail
                          apply to_ret
                          refine bodyPost_ret (results_cell_row_tmp rfl _ _ w.heap.size 36 #[.bool false, .string ⟨#[]⟩, .string ⟨#[]⟩, .bool false, .string ⟨#[]⟩] (0, 0) _ rfl ?_ Tryd.underlying36 rfl sizeParts) rfl ?_
                          · exact setCell_heap_same _ _ 4 _ _ _ _ (setCell_heap_same _ _ 3 _ _ _ _ (setCell_heap_same _ _ 2 _ _ _ _ (setCell_heap_same _ _ 1 _ _ _ _ (setCell_heap_same _ _ 0 _ _ _ _ HA.out.res))))
                          · refine ⟨?_, ((((HA.out.bel.setCell (Nat.le_refl _) _).setCell (Nat.le_refl _) _).setCell (Nat.le_refl _) _).setCell (Nat.le_refl _) _).setCell (Nat.le_refl _) _⟩
                            rw [HR.out, HB5.out]
                            rfl
                    | false =>
                      obtain rfl : l6 = l5 := hnt rfl
                      have hk := dc_le (off 43 l6)
                      have ho7 := off_le 43 l6
                      obtain ⟨l7, hl7⟩ : ∃ l7, l7 = off 43 l6 := ⟨_, rfl⟩
                      obtain ⟨k, hkk⟩ : ∃ k, k = dc (off 43 l6) := ⟨_, rfl⟩
                      simp only [Bool.false_eq_true, if_false] at hex
                      rw [← hkk] at hex hk
                      rw [← hl7] at hex hk ho7 hkk
                      have HX := hidden hex
                      have HK := hidden hkk
                      have HL7 := hidden hl7
                      clear hex hkk hnt HA hl7
                      have HA := hidden hA
                      clear hA
                      go_wp2_with fail
                      refine (sign_any l6 43 _).mono ?_
                      rintro e w7 ⟨rfl, rfl⟩
                      rw [← HL7.out]
                      go_wp2_with fail
                      refine (digits_any l7 _ (by omega)).mono ?_
                      rintro e w8 ⟨rfl, rfl⟩
                      rw [← HK.out]
                      obtain ⟨w9, hw9⟩ : ∃ w9, w9 = w6.setCell ⟨w.heap.size + 1, 3, none⟩ (.bool false) := ⟨_, rfl⟩
                      rw [← hw9]
                      have hA := HA.out
                      rw [← hw9] at hA
                      clear HA hw9 c3 f3
                      have HA := hidden hA
                      clear hA
                      by_cases hk0 : k = 0
                      · have hb4 : body neg l1 = none := by rw [HB3.out, HX.out, if_pos hk0]
                        have HB4 := hidden hb4
                        subst hk0
                        clear hb4
                        go_wp2_with fail
                        have r0 := HA.out.rc 0
                        have r1 := HA.out.rc 1
                        have r2 := HA.out.rc 2
                        have r3 := HA.out.rc 3
                        have r4 := HA.out.rc 4
                        have g0 := HA.out.rf 0
                        have g1 := HA.out.rf 1
                        have g2 := HA.out.rf 2
                        have g3 := HA.out.rf 3
                        have g4 := HA.out.rf 4
                        simp only [List.getElem?_toArray, List.getElem?_cons_zero, List.getElem?_cons_succ] at r0 r1 r2 r3 r4
                        apply wp_goto
                        refine Or.inr (Or.inr (Or.inl ⟨rfl, _, rfl, ?_⟩))
                        go_wp2_with fail
                        apply to_ret
                        refine bodyPost_ret (results_cell_row_tmp rfl _ _ w.heap.size 36 #[.bool false, .string ⟨#[]⟩, .string ⟨#[]⟩, .bool false, .string ⟨#[]⟩] (0, 0) _ rfl ?_ Tryd.underlying36 rfl sizeParts) rfl ?_
                        · exact setCell_heap_same _ _ 4 _ _ _ _ (setCell_heap_same _ _ 3 _ _ _ _ (setCell_heap_same _ _ 2 _ _ _ _ (setCell_heap_same _ _ 1 _ _ _ _ (setCell_heap_same _ _ 0 _ _ _ _ HA.out.res))))
                        · refine ⟨?_, ((((HA.out.bel.setCell (Nat.le_refl _) _).setCell (Nat.le_refl _) _).setCell (Nat.le_refl _) _).setCell (Nat.le_refl _) _).setCell (Nat.le_refl _) _⟩
                          rw [HR.out, HB4.out]
                          rfl
                      · have hk1 : ((k : Int) == 0) = false := by
                          rw [beq_eq_false_iff_ne]
                          omega
                        have hto := run_to l7 k hk
                        have hfrom := run_from l7 k hk
                        have hb4 : body neg l1 = if l7.drop k = [] then some ⟨neg, wh, fr, false, l7⟩ else none := by rw [HB3.out, HX.out, if_neg hk0]
                        have htk : l7.drop k = [] → l7.take k = l7 := fun e => by
                          have := List.take_append_drop k l7
                          rwa [e, List.append_nil] at this
                        obtain ⟨l8, hl8⟩ : ∃ l8, l8 = l7.drop k := ⟨_, rfl⟩
                        rw [← hl8] at hfrom hb4 htk
                        have HB4 := hidden hb4
                        have HT := hidden htk
                        clear hl8 hb4 htk
                        have c4 := HA.out.c4
                        have f4 := HA.out.fz 4
                        have hmt := str_mt l8
                        go_wp2_with fail
                        go_region
                        simp only [Exit.then]
                        have hA := (HA.out.s4 (.string (str (l7.take k)))).drew
                        obtain ⟨w10, hw10⟩ : ∃ w10, w10 = (w9.setCell ⟨w.heap.size + 1, 4, none⟩ (.string (str (l7.take k)))).drew := ⟨_, rfl⟩
                        rw [← hw10] at hA ⊢
                        clear HA hw10 c4 f4 hto hfrom
                        have HA := hidden hA
                        clear hA
                        cases l8 with
                        | nil =>
                          have hb5 := HB4.out
                          rw [if_pos rfl] at hb5
                          have HB5 := hidden hb5
                          clear hb5
                          rw [List.isEmpty_nil] at hmt
                          have r0 := HA.out.rc 0
                          have r1 := HA.out.rc 1
                          have r2 := HA.out.rc 2
                          have r3 := HA.out.rc 3
                          have r4 := HA.out.rc 4
                          have g0 := HA.out.rf 0
                          have g1 := HA.out.rf 1
                          have g2 := HA.out.rf 2
                          have g3 := HA.out.rf 3
                          have g4 := HA.out.rf 4
                          simp only [List.getElem?_toArray, List.getElem?_cons_zero, List.getElem?_cons_succ] at r0 r1 r2 r3 r4
                          have c0 := HA.out.c0
                          have c1 := HA.out.c1
                          have c2 := HA.out.c2
                          have c3 := HA.out.c3
                          have c4 := HA.out.c4
                          have ht := HT.out rfl
                          rw [ht] at c4
                          rw [ht]
                          go_wp2_with fail
                          apply wp_label
                          simp only [Exit.then]
                          go_wp2_with fail
                          apply to_ret
                          refine bodyPost_ret (results_cell_row_tmp rfl _ _ w.heap.size 36 #[.bool neg, .string (str wh), .string (str fr), .bool false, .string (str l7)] (0, 0) _ rfl ?_ Tryd.underlying36 rfl sizeParts) rfl ?_
                          · exact setCell_heap_same _ _ 4 _ _ _ _ (setCell_heap_same _ _ 3 _ _ _ _ (setCell_heap_same _ _ 2 _ _ _ _ (setCell_heap_same _ _ 1 _ _ _ _ (setCell_heap_same _ _ 0 _ _ _ _ HA.out.res))))
                          · refine ⟨?_, ((((HA.out.bel.setCell (Nat.le_refl _) _).setCell (Nat.le_refl _) _).setCell (Nat.le_refl _) _).setCell (Nat.le_refl _) _).setCell (Nat.le_refl _) _⟩
                            rw [HR.out, HB5.out]
                            rfl
                        | cons x l9 =>
                          have hb5 := HB4.out
                          rw [if_neg (by simp)] at hb5
                          have HB5 := hidden hb5
                          clear hb5
                          rw [List.isEmpty_cons] at hmt
                          go_wp2_with fail
                          apply wp_label
                          simp only [Exit.then]
                          go_wp2_with fail
                          apply wp_label
                          simp only [Exit.then]
                          have r0 := HA.out.rc 0
                          have r1 := HA.out.rc 1
                          have r2 := HA.out.rc 2
                          have r3 := HA.out.rc 3
                          have r4 := HA.out.rc 4
                          have g0 := HA.out.rf 0
                          have g1 := HA.out.rf 1
                          have g2 := HA.out.rf 2
                          have g3 := HA.out.rf 3
                          have g4 := HA.out.rf 4
                          simp only [List.getElem?_toArray, List.getElem?_cons_zero, List.getElem?_cons_succ] at r0 r1 r2 r3 r4
                          go_wp2_with fail
                          apply to_ret
                          refine bodyPost_ret (results_cell_row_tmp rfl _ _ w.heap.size 36 #[.bool false, .string ⟨#[]⟩, .string ⟨#[]⟩, .bool false, .string ⟨#[]⟩] (0, 0) _ rfl ?_ Tryd.underlying36 rfl sizeParts) rfl ?_
                          · exact setCell_heap_same _ _ 4 _ _ _ _ (setCell_heap_same _ _ 3 _ _ _ _ (setCell_heap_same _ _ 2 _ _ _ _ (setCell_heap_same _ _ 1 _ _ _ _ (setCell_heap_same _ _ 0 _ _ _ _ HA.out.res))))
                          · refine ⟨?_, ((((HA.out.bel.setCell (Nat.le_refl _) _).setCell (Nat.le_refl _) _).setCell (Nat.le_refl _) _).setCell (Nat.le_refl _) _).setCell (Nat.le_refl _) _⟩
                            rw [HR.out, HB5.out]
                            rfl)
                · have hb3 : body neg l1 = none := by rw [HB2.out, tail_no _ _ _ _ _ hE]
                  have HB3 := hidden hb3
                  have hn1 : ((c.toNat : Int) == 101) = false := byte_ne 101 101 rfl (fun e => hE (.inl e))
                  have hn2 : ((c.toNat : Int) == 69) = false := byte_ne 69 69 rfl (fun e => hE (.inr e))
                  have hq1 : ¬ (c.toNat : Int) = 101 := fun e => by rw [beq_eq_false_iff_ne] at hn1; exact hn1 e
                  have hq2 : ¬ (c.toNat : Int) = 69 := fun e => by rw [beq_eq_false_iff_ne] at hn2; exact hn2 e
                  have hm1' : ((c.toNat : Int) != 101) = true := by rw [bne, hn1]; rfl
                  have hm2' : ((c.toNat : Int) != 69) = true := by rw [bne, hn2]; rfl
                  clear hb3 hE hone hsz2
                  go_wp2_with fail
                  apply wp_goto
                  refine Or.inr (Or.inl ⟨rfl, _, rfl, ?_⟩)
                  go_wp2_with fail
                  apply wp_label
                  simp only [Exit.then]
                  have r0 := HA.out.rc 0
                  have r1 := HA.out.rc 1
                  have r2 := HA.out.rc 2
                  have r3 := HA.out.rc 3
                  have r4 := HA.out.rc 4
                  have g0 := HA.out.rf 0
                  have g1 := HA.out.rf 1
                  have g2 := HA.out.rf 2
                  have g3 := HA.out.rf 3
                  have g4 := HA.out.rf 4
                  simp only [List.getElem?_toArray, List.getElem?_cons_zero, List.getElem?_cons_succ] at r0 r1 r2 r3 r4
                  go_wp2_with fail
                  apply to_ret
                  refine bodyPost_ret (results_cell_row_tmp rfl _ _ w.heap.size 36 #[.bool false, .string ⟨#[]⟩, .string ⟨#[]⟩, .bool false, .string ⟨#[]⟩] (0, 0) _ rfl ?_ Tryd.underlying36 rfl sizeParts) rfl ?_
                  · exact setCell_heap_same _ _ 4 _ _ _ _ (setCell_heap_same _ _ 3 _ _ _ _ (setCell_heap_same _ _ 2 _ _ _ _ (setCell_heap_same _ _ 1 _ _ _ _ (setCell_heap_same _ _ 0 _ _ _ _ HA.out.res))))
                  · refine ⟨?_, ((((HA.out.bel.setCell (Nat.le_refl _) _).setCell (Nat.le_refl _) _).setCell (Nat.le_refl _) _).setCell (Nat.le_refl _) _).setCell (Nat.le_refl _) _⟩
                    rw [HR.out, HB3.out]
                    rfl
          · have hp1 : ((c.toNat : Int) == 46) = false := byte_ne 46 46 rfl hp
            by_cases hE : c = 101 ∨ c = 69
            · have hb3 : body neg l1 = expo neg wh [] l3 := by rw [HB.out, ← HL2.out, ← HWH.out, if_neg (by simpa using hp), tail_e _ _ _ _ _ hE]
              have HB3 := hidden hb3
              clear hb3 hmt
              rcases hE with hE | hE
              all_goals (
                subst hE
                have hu1 : (101 : UInt8).toNat = 101 := rfl
                have hu2 : (69 : UInt8).toNat = 69 := rfl
                simp only [hu1, hu2]
                clear hu1 hu2 hp1
                go_wp2_with fail
                apply wp_goto
                refine Or.inr (Or.inl ⟨rfl, _, rfl, ?_⟩)
                have c3 := HA.out.c3
                have f3 := HA.out.fz 3
                go_wp2_with fail
                refine (sign_any l3 45 _).mono ?_
                rintro e w6 ⟨rfl, rfl⟩
                have ho6 := off_le 45 l3
                have hex : expo neg wh [] l3 = if dc (if has 45 l3 then off 45 l3 else off 43 l3) = 0 then none
                  else if (if has 45 l3 then off 45 l3 else off 43 l3).drop (dc (if has 45 l3 then off 45 l3 else off 43 l3)) = [] then
                    some ⟨neg, wh, [], has 45 l3, if has 45 l3 then off 45 l3 else off 43 l3⟩
                  else none := rfl
                have hnt := off_not (c := 45) (l := l3)
                obtain ⟨l6, hl6⟩ : ∃ l6, l6 = off 45 l3 := ⟨_, rfl⟩
                obtain ⟨en, hen⟩ : ∃ en, en = has 45 l3 := ⟨_, rfl⟩
                rw [← hl6] at ho6
                rw [← hl6, ← hen] at hex hnt
                rw [← hl6, ← hen]
                have hA := HA.out.s3 (.bool en)
                clear hl6 hen hone hsz2
                cases en with
                | true =>
                  have hk := dc_le l6
                  obtain ⟨k, hkk⟩ : ∃ k, k = dc l6 := ⟨_, rfl⟩
                  simp only [if_true] at hex
                  rw [← hkk] at hex hk
                  have HX := hidden hex
                  have HK := hidden hkk
                  clear hex hkk hnt HA
                  have HA := hidden hA
                  clear hA
                  go_wp2_with fail
                  refine (digits_any l6 _ (by omega)).mono ?_
                  rintro e w7 ⟨rfl, rfl⟩
                  rw [← HK.out]
                  obtain ⟨w9, hw9⟩ : ∃ w9, w9 = w6.setCell ⟨w.heap.size + 1, 3, none⟩ (.bool true) := ⟨_, rfl⟩
                  rw [← hw9]
                  have hA := HA.out
                  rw [← hw9] at hA
                  clear HA hw9 c3 f3
                  have HA := hidden hA
                  clear hA
                  by_cases hk0 : k = 0
                  · have hb4 : body neg l1 = none := by rw [HB3.out, HX.out, if_pos hk0]
                    have HB4 := hidden hb4
                    subst hk0
                    clear hb4
                    go_wp2_with fail
                    have r0 := HA.out.rc 0
                    have r1 := HA.out.rc 1
                    have r2 := HA.out.rc 2
                    have r3 := HA.out.rc 3
                    have r4 := HA.out.rc 4
                    have g0 := HA.out.rf 0
                    have g1 := HA.out.rf 1
                    have g2 := HA.out.rf 2
                    have g3 := HA.out.rf 3
                    have g4 := HA.out.rf 4
                    simp only [List.getElem?_toArray, List.getElem?_cons_zero, List.getElem?_cons_succ] at r0 r1 r2 r3 r4
                    apply wp_goto
                    refine Or.inr (Or.inl ⟨rfl, _, rfl, ?_⟩)
                    go_wp2_with fail
                    apply to_ret
                    refine bodyPost_ret (results_cell_row_tmp rfl _ _ w.heap.size 36 #[.bool false, .string ⟨#[]⟩, .string ⟨#[]⟩, .bool false, .string ⟨#[]⟩] (0, 0) _ rfl ?_ Tryd.underlying36 rfl sizeParts) rfl ?_
                    · exact setCell_heap_same _ _ 4 _ _ _ _ (setCell_heap_same _ _ 3 _ _ _ _ (setCell_heap_same _ _ 2 _ _ _ _ (setCell_heap_same _ _ 1 _ _ _ _ (setCell_heap_same _ _ 0 _ _ _ _ HA.out.res))))
                    · refine ⟨?_, ((((HA.out.bel.setCell (Nat.le_refl _) _).setCell (Nat.le_refl _) _).setCell (Nat.le_refl _) _).setCell (Nat.le_refl _) _).setCell (Nat.le_refl _) _⟩
                      rw [HR.out, HB4.out]
                      rfl
                  · have hk1 : ((k : Int) == 0) = false := by
                      rw [beq_eq_false_iff_ne]
                      omega
                    have hto := run_to l6 k hk
                    have hfrom := run_from l6 k hk
                    have hb4 : body neg l1 = if l6.drop k = [] then some ⟨neg, wh, [], true, l6⟩ else none := by rw [HB3.out, HX.out, if_neg hk0]
                    have htk : l6.drop k = [] → l6.take k = l6 := fun e => by
                      have := List.take_append_drop k l6
                      rwa [e, List.append_nil] at this
                    obtain ⟨l8, hl8⟩ : ∃ l8, l8 = l6.drop k := ⟨_, rfl⟩
                    rw [← hl8] at hfrom hb4 htk
                    have HB4 := hidden hb4
                    have HT := hidden htk
                    clear hl8 hb4 htk
                    have c4 := HA.out.c4
                    have f4 := HA.out.fz 4
                    have hmt := str_mt l8
                    go_wp2_with fail
                    go_region
                    simp only [Exit.then]
                    have hA := (HA.out.s4 (.string (str (l6.take k)))).drew
                    obtain ⟨w10, hw10⟩ : ∃ w10, w10 = (w9.setCell ⟨w.heap.size + 1, 4, none⟩ (.string (str (l6.take k)))).drew := ⟨_, rfl⟩
                    rw [← hw10] at hA ⊢
                    clear HA hw10 c4 f4 hto hfrom
                    have HA := hidden hA
                    clear hA
                    cases l8 with
                    | nil =>
                      have hb5 := HB4.out
                      rw [if_pos rfl] at hb5
                      have HB5 := hidden hb5
                      clear hb5
                      rw [List.isEmpty_nil] at hmt
                      have r0 := HA.out.rc 0
                      have r1 := HA.out.rc 1
                      have r2 := HA.out.rc 2
                      have r3 := HA.out.rc 3
                      have r4 := HA.out.rc 4
                      have g0 := HA.out.rf 0
                      have g1 := HA.out.rf 1
                      have g2 := HA.out.rf 2
                      have g3 := HA.out.rf 3
                      have g4 := HA.out.rf 4
                      simp only [List.getElem?_toArray, List.getElem?_cons_zero, List.getElem?_cons_succ] at r0 r1 r2 r3 r4
                      have c0 := HA.out.c0
                      have c1 := HA.out.c1
                      have c2 := HA.out.c2
                      have c3 := HA.out.c3
                      have c4 := HA.out.c4
                      have ht := HT.out rfl
                      rw [ht] at c4
                      rw [ht]
                      go_wp2_with fail
                      apply wp_label
                      simp only [Exit.then]
                      go_wp2_with fail
                      apply to_ret
                      refine bodyPost_ret (results_cell_row_tmp rfl _ _ w.heap.size 36 #[.bool neg, .string (str wh), .string ⟨#[]⟩, .bool true, .string (str l6)] (0, 0) _ rfl ?_ Tryd.underlying36 rfl sizeParts) rfl ?_
                      · exact setCell_heap_same _ _ 4 _ _ _ _ (setCell_heap_same _ _ 3 _ _ _ _ (setCell_heap_same _ _ 2 _ _ _ _ (setCell_heap_same _ _ 1 _ _ _ _ (setCell_heap_same _ _ 0 _ _ _ _ HA.out.res))))
                      · refine ⟨?_, ((((HA.out.bel.setCell (Nat.le_refl _) _).setCell (Nat.le_refl _) _).setCell (Nat.le_refl _) _).setCell (Nat.le_refl _) _).setCell (Nat.le_refl _) _⟩
                        rw [HR.out, HB5.out]
                        rfl
                    | cons x l9 =>
                      have hb5 := HB4.out
                      rw [if_neg (by simp)] at hb5
                      have HB5 := hidden hb5
                      clear hb5
                      rw [List.isEmpty_cons] at hmt
                      go_wp2_with fail
                      apply wp_label
                      simp only [Exit.then]
                      go_wp2_with fail
                      apply wp_label
                      simp only [Exit.then]
                      have r0 := HA.out.rc 0
                      have r1 := HA.out.rc 1
                      have r2 := HA.out.rc 2
                      have r3 := HA.out.rc 3
                      have r4 := HA.out.rc 4
                      have g0 := HA.out.rf 0
                      have g1 := HA.out.rf 1
                      have g2 := HA.out.rf 2
                      have g3 := HA.out.rf 3
                      have g4 := HA.out.rf 4
                      simp only [List.getElem?_toArray, List.getElem?_cons_zero, List.getElem?_cons_succ] at r0 r1 r2 r3 r4
                      go_wp2_with fail
                      apply to_ret
                      refine bodyPost_ret (results_cell_row_tmp rfl _ _ w.heap.size 36 #[.bool false, .string ⟨#[]⟩, .string ⟨#[]⟩, .bool false, .string ⟨#[]⟩] (0, 0) _ rfl ?_ Tryd.underlying36 rfl sizeParts) rfl ?_
                      · exact setCell_heap_same _ _ 4 _ _ _ _ (setCell_heap_same _ _ 3 _ _ _ _ (setCell_heap_same _ _ 2 _ _ _ _ (setCell_heap_same _ _ 1 _ _ _ _ (setCell_heap_same _ _ 0 _ _ _ _ HA.out.res))))
                      · refine ⟨?_, ((((HA.out.bel.setCell (Nat.le_refl _) _).setCell (Nat.le_refl _) _).setCell (Nat.le_refl _) _).setCell (Nat.le_refl _) _).setCell (Nat.le_refl _) _⟩
                        rw [HR.out, HB5.out]
                        rfl
                | false =>
                  obtain rfl : l6 = l3 := hnt rfl
                  have hk := dc_le (off 43 l6)
                  have ho7 := off_le 43 l6
                  obtain ⟨l7, hl7⟩ : ∃ l7, l7 = off 43 l6 := ⟨_, rfl⟩
                  obtain ⟨k, hkk⟩ : ∃ k, k = dc (off 43 l6) := ⟨_, rfl⟩
                  simp only [Bool.false_eq_true, if_false] at hex
                  rw [← hkk] at hex hk
                  rw [← hl7] at hex hk ho7 hkk
                  have HX := hidden hex
                  have HK := hidden hkk
                  have HL7 := hidden hl7
                  clear hex hkk hnt HA hl7
                  have HA := hidden hA
                  clear hA
                  go_wp2_with fail
                  refine (sign_any l6 43 _).mono ?_
                  rintro e w7 ⟨rfl, rfl⟩
                  rw [← HL7.out]
                  go_wp2_with fail
                  refine (digits_any l7 _ (by omega)).mono ?_
                  rintro e w8 ⟨rfl, rfl⟩
                  rw [← HK.out]
                  obtain ⟨w9, hw9⟩ : ∃ w9, w9 = w6.setCell ⟨w.heap.size + 1, 3, none⟩ (.bool false) := ⟨_, rfl⟩
                  rw [← hw9]
                  have hA := HA.out
                  rw [← hw9] at hA
                  clear HA hw9 c3 f3
                  have HA := hidden hA
                  clear hA
                  by_cases hk0 : k = 0
                  · have hb4 : body neg l1 = none := by rw [HB3.out, HX.out, if_pos hk0]
                    have HB4 := hidden hb4
                    subst hk0
                    clear hb4
                    go_wp2_with fail
                    have r0 := HA.out.rc 0
                    have r1 := HA.out.rc 1
                    have r2 := HA.out.rc 2
                    have r3 := HA.out.rc 3
                    have r4 := HA.out.rc 4
                    have g0 := HA.out.rf 0
                    have g1 := HA.out.rf 1
                    have g2 := HA.out.rf 2
                    have g3 := HA.out.rf 3
                    have g4 := HA.out.rf 4
                    simp only [List.getElem?_toArray, List.getElem?_cons_zero, List.getElem?_cons_succ] at r0 r1 r2 r3 r4
                    apply wp_goto
                    refine Or.inr (Or.inl ⟨rfl, _, rfl, ?_⟩)
                    go_wp2_with fail
                    apply to_ret
                    refine bodyPost_ret (results_cell_row_tmp rfl _ _ w.heap.size 36 #[.bool false, .string ⟨#[]⟩, .string ⟨#[]⟩, .bool false, .string ⟨#[]⟩] (0, 0) _ rfl ?_ Tryd.underlying36 rfl sizeParts) rfl ?_
                    · exact setCell_heap_same _ _ 4 _ _ _ _ (setCell_heap_same _ _ 3 _ _ _ _ (setCell_heap_same _ _ 2 _ _ _ _ (setCell_heap_same _ _ 1 _ _ _ _ (setCell_heap_same _ _ 0 _ _ _ _ HA.out.res))))
                    · refine ⟨?_, ((((HA.out.bel.setCell (Nat.le_refl _) _).setCell (Nat.le_refl _) _).setCell (Nat.le_refl _) _).setCell (Nat.le_refl _) _).setCell (Nat.le_refl _) _⟩
                      rw [HR.out, HB4.out]
                      rfl
                  · have hk1 : ((k : Int) == 0) = false := by
                      rw [beq_eq_false_iff_ne]
                      omega
                    have hto := run_to l7 k hk
                    have hfrom := run_from l7 k hk
                    have hb4 : body neg l1 = if l7.drop k = [] then some ⟨neg, wh, [], false, l7⟩ else none := by rw [HB3.out, HX.out, if_neg hk0]
                    have htk : l7.drop k = [] → l7.take k = l7 := fun e => by
                      have := List.take_append_drop k l7
                      rwa [e, List.append_nil] at this
                    obtain ⟨l8, hl8⟩ : ∃ l8, l8 = l7.drop k := ⟨_, rfl⟩
                    rw [← hl8] at hfrom hb4 htk
                    have HB4 := hidden hb4
                    have HT := hidden htk
                    clear hl8 hb4 htk
                    have c4 := HA.out.c4
                    have f4 := HA.out.fz 4
                    have hmt := str_mt l8
                    go_wp2_with fail
                    go_region
                    simp only [Exit.then]
                    have hA := (HA.out.s4 (.string (str (l7.take k)))).drew
                    obtain ⟨w10, hw10⟩ : ∃ w10, w10 = (w9.setCell ⟨w.heap.size + 1, 4, none⟩ (.string (str (l7.take k)))).drew := ⟨_, rfl⟩
                    rw [← hw10] at hA ⊢
                    clear HA hw10 c4 f4 hto hfrom
                    have HA := hidden hA
                    clear hA
                    cases l8 with
                    | nil =>
                      have hb5 := HB4.out
                      rw [if_pos rfl] at hb5
                      have HB5 := hidden hb5
                      clear hb5
                      rw [List.isEmpty_nil] at hmt
                      have r0 := HA.out.rc 0
                      have r1 := HA.out.rc 1
                      have r2 := HA.out.rc 2
                      have r3 := HA.out.rc 3
                      have r4 := HA.out.rc 4
                      have g0 := HA.out.rf 0
                      have g1 := HA.out.rf 1
                      have g2 := HA.out.rf 2
                      have g3 := HA.out.rf 3
                      have g4 := HA.out.rf 4
                      simp only [List.getElem?_toArray, List.getElem?_cons_zero, List.getElem?_cons_succ] at r0 r1 r2 r3 r4
                      have c0 := HA.out.c0
                      have c1 := HA.out.c1
                      have c2 := HA.out.c2
                      have c3 := HA.out.c3
                      have c4 := HA.out.c4
                      have ht := HT.out rfl
                      rw [ht] at c4
                      rw [ht]
                      go_wp2_with fail
                      apply wp_label
                      simp only [Exit.then]
                      go_wp2_with fail
                      apply to_ret
                      refine bodyPost_ret (results_cell_row_tmp rfl _ _ w.heap.size 36 #[.bool neg, .string (str wh), .string ⟨#[]⟩, .bool false, .string (str l7)] (0, 0) _ rfl ?_ Tryd.underlying36 rfl sizeParts) rfl ?_
                      · exact setCell_heap_same _ _ 4 _ _ _ _ (setCell_heap_same _ _ 3 _ _ _ _ (setCell_heap_same _ _ 2 _ _ _ _ (setCell_heap_same _ _ 1 _ _ _ _ (setCell_heap_same _ _ 0 _ _ _ _ HA.out.res))))
                      · refine ⟨?_, ((((HA.out.bel.setCell (Nat.le_refl _) _).setCell (Nat.le_refl _) _).setCell (Nat.le_refl _) _).setCell (Nat.le_refl _) _).setCell (Nat.le_refl _) _⟩
                        rw [HR.out, HB5.out]
                        rfl
                    | cons x l9 =>
                      have hb5 := HB4.out
                      rw [if_neg (by simp)] at hb5
                      have HB5 := hidden hb5
                      clear hb5
                      rw [List.isEmpty_cons] at hmt
                      go_wp2_with fail
                      apply wp_label
                      simp only [Exit.then]
                      go_wp2_with fail
                      apply wp_label
                      simp only [Exit.then]
                      have r0 := HA.out.rc 0
                      have r1 := HA.out.rc 1
                      have r2 := HA.out.rc 2
                      have r3 := HA.out.rc 3
                      have r4 := HA.out.rc 4
                      have g0 := HA.out.rf 0
                      have g1 := HA.out.rf 1
                      have g2 := HA.out.rf 2
                      have g3 := HA.out.rf 3
                      have g4 := HA.out.rf 4
                      simp only [List.getElem?_toArray, List.getElem?_cons_zero, List.getElem?_cons_succ] at r0 r1 r2 r3 r4
                      go_wp2_with fail
                      apply to_ret
                      refine bodyPost_ret (results_cell_row_tmp rfl _ _ w.heap.size 36 #[.bool false, .string ⟨#[]⟩, .string ⟨#[]⟩, .bool false, .string ⟨#[]⟩] (0, 0) _ rfl ?_ Tryd.underlying36 rfl sizeParts) rfl ?_
                      · exact setCell_heap_same _ _ 4 _ _ _ _ (setCell_heap_same _ _ 3 _ _ _ _ (setCell_heap_same _ _ 2 _ _ _ _ (setCell_heap_same _ _ 1 _ _ _ _ (setCell_heap_same _ _ 0 _ _ _ _ HA.out.res))))
                      · refine ⟨?_, ((((HA.out.bel.setCell (Nat.le_refl _) _).setCell (Nat.le_refl _) _).setCell (Nat.le_refl _) _).setCell (Nat.le_refl _) _).setCell (Nat.le_refl _) _⟩
                        rw [HR.out, HB5.out]
                        rfl)
            · have hb3 : body neg l1 = none := by rw [HB.out, ← HL2.out, ← HWH.out, if_neg (by simpa using hp), tail_no _ _ _ _ _ hE]
              have HB3 := hidden hb3
              have hn1 : ((c.toNat : Int) == 101) = false := byte_ne 101 101 rfl (fun e => hE (.inl e))
              have hn2 : ((c.toNat : Int) == 69) = false := byte_ne 69 69 rfl (fun e => hE (.inr e))
              clear hb3 hE hone hsz2
              go_wp2_with fail
              apply wp_goto
              refine Or.inr (Or.inr (Or.inl ⟨rfl, _, rfl, ?_⟩))
              go_wp2_with fail
              apply wp_label
              simp only [Exit.then]
              have r0 := HA.out.rc 0
              have r1 := HA.out.rc 1
              have r2 := HA.out.rc 2
              have r3 := HA.out.rc 3
              have r4 := HA.out.rc 4
              have g0 := HA.out.rf 0
              have g1 := HA.out.rf 1
              have g2 := HA.out.rf 2
              have g3 := HA.out.rf 3
              have g4 := HA.out.rf 4
              simp only [List.getElem?_toArray, List.getElem?_cons_zero, List.getElem?_cons_succ] at r0 r1 r2 r3 r4
              go_wp2_with fail
              apply to_ret
              refine bodyPost_ret (results_cell_row_tmp rfl _ _ w.heap.size 36 #[.bool false, .string ⟨#[]⟩, .string ⟨#[]⟩, .bool false, .string ⟨#[]⟩] (0, 0) _ rfl ?_ Tryd.underlying36 rfl sizeParts) rfl ?_
              · exact setCell_heap_same _ _ 4 _ _ _ _ (setCell_heap_same _ _ 3 _ _ _ _ (setCell_heap_same _ _ 2 _ _ _ _ (setCell_heap_same _ _ 1 _ _ _ _ (setCell_heap_same _ _ 0 _ _ _ _ HA.out.res))))
              · refine ⟨?_, ((((HA.out.bel.setCell (Nat.le_refl _) _).setCell (Nat.le_refl _) _).setCell (Nat.le_refl _) _).setCell (Nat.le_refl _) _).setCell (Nat.le_refl _) _⟩
                rw [HR.out, HB3.out]
                rfl)
end Go.Proofs.YthimbaflodphmaaDoor
