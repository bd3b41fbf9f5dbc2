/-
  An index where Make lays it, and the contracts of its methods; nothing that was there is changed.
-/
import Derived.Deep.QuietTactic
import Derived.Test.YtoipliflphbeiaaGreatDoorSmTells
import Derived.Test.YtoipliflphbeiaaGreatDoorC08
import Derived.Test.YtoipliflphbeiaaGreatDoorNsSize
import Derived.Test.YtoipliflphbeiaaGreatDoorJFnLess
import Derived.Test.YtoipliflphbeiaaGreatDoorC06
import Derived.Test.YtoipliflphbeiaaGreatDoorJFlt
import Derived.Test.YtoipliflphbeiaaGreatDoorJRk
namespace Go.Proofs.YtoipliflphbeiaaGreatDoor
open Go Go.RowKit Go.Sort
namespace Sm
/-- Where an index's parts lie. -/
structure K where
  s : Nat
  r : Nat
  z : Nat
  q : Fn.Q
  u : Value
  k : NK
end Sm
/-- An index of the record t in block p. -/
structure Sx (w : World) (p : Nat) (t : ByteArray) (K : Sm.K) : Prop where
  er : Sm.er t.data.toList = 0
  cells : w.heap[p]? = some (.cells #[.pointer (some ⟨K.s, 0, none⟩), .pointer (some ⟨K.r, 0, none⟩), .pointer (some ⟨K.z, 0, none⟩), .string t] 53 (0, 0))
  seq : Sq w K.s (Sm.P t.data.toList) (Sm.bd t.data.toList) K.q
  row : Rw w K.r (Sm.B t.data.toList).length (Bt.num (Sm.B t.data.toList)) K.u
  nest : Nt w K.z (Sm.B t.data.toList).length (Bt.num (Sm.B t.data.toList)) K.k
theorem Sx.below {w w' : World} {p : Nat} {t : ByteArray} {K : Sm.K} {C : Nat} (h : Sx w p t K) (hb : Below C w w') (hC : w.heap.size ≤ C) : Sx w' p t K :=
  ⟨h.er, by rw [hb.block p (by have := lt_of_block h.cells; omega)]; exact h.cells, h.seq.below hb hC, h.row.below hb hC, h.nest.below hb hC⟩
theorem Sx.cell0 {w : World} {p : Nat} {t : ByteArray} {K : Sm.K} (h : Sx w p t K) : w.cell? ⟨p, 0, none⟩ = some (.pointer (some ⟨K.s, 0, none⟩)) := Lib.cell_of_heap h.cells 0
theorem Sx.cell1 {w : World} {p : Nat} {t : ByteArray} {K : Sm.K} (h : Sx w p t K) : w.cell? ⟨p, 1, none⟩ = some (.pointer (some ⟨K.r, 0, none⟩)) := Lib.cell_of_heap h.cells 1
theorem Sx.cell2 {w : World} {p : Nat} {t : ByteArray} {K : Sm.K} (h : Sx w p t K) : w.cell? ⟨p, 2, none⟩ = some (.pointer (some ⟨K.z, 0, none⟩)) := Lib.cell_of_heap h.cells 2
theorem Sx.cell3 {w : World} {p : Nat} {t : ByteArray} {K : Sm.K} (h : Sx w p t K) : w.cell? ⟨p, 3, none⟩ = some (.string t) := Lib.cell_of_heap h.cells 3
theorem xText_any (p : Nat) (t : ByteArray) (K : Sm.K) (w : World) (h : Sx w p t K) :
    Calls Tryz.prog 27 #[.pointer (some ⟨p, 0, none⟩)] w fun e w' => e = .returned (.string t) ∧ Below w.heap.size w w' := by
  have c0 := h.cell3
  clear h
  go_enter Tryz.func27, Tryz.ntmps27
  go_wp2_with fail
  go_ret
  exact ⟨rfl, Below.refl _ _⟩
theorem xNest_any (p : Nat) (t : ByteArray) (K : Sm.K) (w : World) (h : Sx w p t K) :
    Calls Tryz.prog 22 #[.pointer (some ⟨p, 0, none⟩)] w fun e w' => e = .returned (.pointer (some ⟨K.z, 0, none⟩)) ∧ w' = w := by
  have c0 := h.cell2
  clear h
  go_enter Tryz.func22, Tryz.ntmps22
  go_wp2_with fail
  go_ret
  exact ⟨rfl, rfl⟩
theorem xMarks_any (p : Nat) (t : ByteArray) (K : Sm.K) (w : World) (h : Sx w p t K) :
    Calls Tryz.prog 17 #[.pointer (some ⟨p, 0, none⟩)] w fun e w' => e = .returned (.int .i64 ((Sm.P t.data.toList).length : Nat)) ∧ Below w.heap.size w w' := by
  have c0 := h.cell0
  have HS := hidden h.seq
  clear h
  go_enter Tryz.func17, Tryz.ntmps17
  go_wp2_with fail
  refine (SLen_any K.s _ _ K.q _ HS.out).mono ?_
  rintro e' w1 ⟨rfl, rfl⟩
  go_wp2_with fail
  go_ret
  exact ⟨rfl, Below.refl _ _⟩
theorem xMark_in (p : Nat) (t : ByteArray) (K : Sm.K) (i : Nat) (w : World) (h : Sx w p t K) (hT : Tab w) (hi : i < (Sm.P t.data.toList).length) :
    Calls Tryz.prog 18 #[.pointer (some ⟨p, 0, none⟩), .int .i64 (i : Nat)] w fun e w' => e = .returned (.tuple #[.int .i64 ((Sm.P t.data.toList).getD i 0 : Nat), .int .i64 0]) ∧ Below w.heap.size w w' := by
  have c0 := h.cell0
  have HS := hidden (SGet_in K.s _ i (i : Int) _ K.q w h.seq hT hi rfl)
  clear h hT hi
  go_enter Tryz.func18, Tryz.ntmps18
  go_wp2_with fail
  refine HS.out.mono ?_
  rintro e' w1 ⟨rfl, hb⟩
  have HB := hidden hb
  clear hb
  go_wp2_with fail
  go_ret2
  exact ⟨rfl, HB.out⟩
theorem xMark_out (p : Nat) (t : ByteArray) (K : Sm.K) (i : Int) (w : World) (h : Sx w p t K) (hi : i < 0 ∨ ((Sm.P t.data.toList).length : Int) ≤ i) :
    Calls Tryz.prog 18 #[.pointer (some ⟨p, 0, none⟩), .int .i64 i] w fun e w' => (∃ y, e = .returned (.tuple #[.int .i64 y, .int .i64 2])) ∧ Below w.heap.size w w' := by
  have c0 := h.cell0
  have HS := hidden (SGet_out K.s _ i _ K.q w h.seq hi)
  clear h hi
  go_enter Tryz.func18, Tryz.ntmps18
  go_wp2_with fail
  refine HS.out.mono ?_
  rintro e' w1 ⟨rfl, hb⟩
  have HB := hidden hb
  clear hb
  go_wp2_with fail
  go_ret2
  exact ⟨⟨0, rfl⟩, HB.out⟩
theorem xUnder_any (p : Nat) (t : ByteArray) (K : Sm.K) (a : Int) (w : World) (h : Sx w p t K) (hT : Tab w) :
    Calls Tryz.prog 19 #[.pointer (some ⟨p, 0, none⟩), .int .i64 a] w fun e w' => e = .returned (.int .i64 (Fn.less (Sm.P t.data.toList) a : Nat)) ∧ Below w.heap.size w w' := by
  have c0 := h.cell0
  have HS := hidden (SLess_any K.s _ a _ K.q w h.seq hT)
  clear h hT
  go_enter Tryz.func19, Tryz.ntmps19
  go_wp2_with fail
  refine HS.out.mono ?_
  rintro e' w1 ⟨rfl, hb⟩
  have HB := hidden hb
  clear hb
  go_wp2_with fail
  go_ret
  exact ⟨rfl, HB.out⟩
set_option maxHeartbeats 1000000 in
theorem xparts_any (p : Nat) (t : ByteArray) (K : Sm.K) (w : World) (h : Sx w p t K) :
    Calls Tryz.prog 50 #[.pointer (some ⟨p, 0, none⟩)] w fun e w' => e = .returned (.complex .f64 (floatOfInt .f64 ((Fn.lows (Sm.P t.data.toList).length (Sm.bd t.data.toList) + Fn.highs (Sm.P t.data.toList).length (Sm.bd t.data.toList) + (Sm.B t.data.toList).length : Nat) : Int)) (floatOfInt .f64 ((Ck.sz (Bt.num (Fn.HB (Sm.P t.data.toList) (Sm.bd t.data.toList))) (Fn.HB (Sm.P t.data.toList) (Sm.bd t.data.toList)).length + (Mx.sz (Sm.B t.data.toList).length K.k.m + Ck.sz (Bt.num (Sm.B t.data.toList)) (Sm.B t.data.toList).length) : Nat) : Int))) ∧ Below w.heap.size w w' := by
  have c0 := cell_regrown h.cell0
  have c1 := cell_regrown h.cell1
  have d0 := h.cell0
  have d2 := h.cell2
  have hl := (Sm.er_zero h.er).1
  have hf := Sm.fit _ hl
  have hB := Sm.B_len t.data.toList
  have hP := Sm.len_le t.data.toList
  have hHl := h.seq.high.len
  have hB2 : (Sm.B t.data.toList).length ≤ 131072 := by omega
  have hHn : (Fn.HB (Sm.P t.data.toList) (Sm.bd t.data.toList)).length ≤ 4294967296 := hHl
  have z1 := Ck.sz_le _ _ h.seq.high.lt
  have z2 := Ck.sz_le _ _ h.nest.ok.lt
  have z3 := Mx.sz_le _ K.k.m (fun i hi => h.nest.tree.more i hi)
  have QS : Hid (∀ d os, Calls Tryz.prog 82 #[.pointer (some ⟨K.s, 0, none⟩)] (grow (redrawn w d) os) fun e w'' => e = .returned (.int .i64 ((Fn.lows (Sm.P t.data.toList).length (Sm.bd t.data.toList) + Fn.highs (Sm.P t.data.toList).length (Sm.bd t.data.toList) : Nat) : Int)) ∧ ∃ p : Regrown, w'' = grow (redrawn w p.d) p.os) := hidden fun d os => Calls.regrown_of (SSize_any K.s _ _ K.q _ (h.seq.below (below_regrown w d os) (Nat.le_refl _)))
  have QL : Hid (∀ d os, Calls Tryz.prog 83 #[.pointer (some ⟨K.r, 0, none⟩)] (grow (redrawn w d) os) fun e w'' => e = .returned (.int .i64 ((Sm.B t.data.toList).length : Nat)) ∧ ∃ p : Regrown, w'' = grow (redrawn w p.d) p.os) := hidden fun d os => (RLen_any K.r _ _ K.u _ (h.row.below (below_regrown w d os) (Nat.le_refl _))).mono fun e w' he => ⟨he.1, ⟨d, os⟩, he.2⟩
  have QO : Hid (∀ w', Below w.heap.size w w' → Calls Tryz.prog 84 #[.pointer (some ⟨K.s, 0, none⟩)] w' fun e w'' => e = .returned (.int .i64 ((Ck.sz (Bt.num (Fn.HB (Sm.P t.data.toList) (Sm.bd t.data.toList))) (Fn.HB (Sm.P t.data.toList) (Sm.bd t.data.toList)).length : Nat) : Int)) ∧ ∃ m, w'' = w'.drewN m) := hidden fun w' hb => SOver_any K.s _ _ K.q w' (h.seq.below hb (Nat.le_refl _))
  have QN : Hid (∀ w', Below w.heap.size w w' → Calls Tryz.prog 85 #[.pointer (some ⟨K.z, 0, none⟩)] w' fun e w'' => e = .returned (.int .i64 ((Mx.sz (Sm.B t.data.toList).length K.k.m + Ck.sz (Bt.num (Sm.B t.data.toList)) (Sm.B t.data.toList).length : Nat) : Int)) ∧ ∃ m, w'' = w'.drewN m) := hidden fun w' hb => NSize_any K.z _ _ K.k w' (h.nest.below hb (Nat.le_refl _))
  have z4 : Mx.sz (Sm.B t.data.toList).length K.k.m + Ck.sz (Bt.num (Sm.B t.data.toList)) (Sm.B t.data.toList).length ≤ 1000000 := by omega
  have z5 : Ck.sz (Bt.num (Fn.HB (Sm.P t.data.toList) (Sm.bd t.data.toList))) (Fn.HB (Sm.P t.data.toList) (Sm.bd t.data.toList)).length ≤ 3000000000 := by omega
  have z6 : Fn.lows (Sm.P t.data.toList).length (Sm.bd t.data.toList) + Fn.highs (Sm.P t.data.toList).length (Sm.bd t.data.toList) ≤ 4000000 := by omega
  clear z1 z2 z3 hHl hHn
  generalize Ck.sz (Bt.num (Fn.HB (Sm.P t.data.toList) (Sm.bd t.data.toList))) (Fn.HB (Sm.P t.data.toList) (Sm.bd t.data.toList)).length = s1 at *
  generalize Mx.sz (Sm.B t.data.toList).length K.k.m + Ck.sz (Bt.num (Sm.B t.data.toList)) (Sm.B t.data.toList).length = s2 at *
  generalize Fn.lows (Sm.P t.data.toList).length (Sm.bd t.data.toList) + Fn.highs (Sm.P t.data.toList).length (Sm.bd t.data.toList) = s3 at *
  generalize (Sm.B t.data.toList).length = s4 at *
  clear h hl hf hB hP
  go_enter Tryz.func50, Tryz.ntmps50
  go_wp2_with fail
  refine wp_region_quiet_below (by kernel_rfl) (by kernel_rfl) ?_
  repeat (go_big_quiet_step (first
    | (go_at_call 82; exact QS.out _ _)
    | (go_at_call 83; exact QL.out _ _)))
  refine wpQuiet_nil ?_
  intro _ hw'
  obtain ⟨⟨dq, osq⟩, hw''⟩ := hw'
  have hb1 := below_regrown w dq osq
  rw [hw'']
  generalize grow (redrawn w dq) osq = w1 at *
  clear hw''
  have e0 := cell_after hb1 d0
  have e2 := cell_after hb1 d2
  have HA := hidden (fun m => QO.out (w1.drewN m) (below_drewN hb1 m))
  have HN := hidden (fun m => QN.out (w1.drewN m) (below_drewN hb1 m))
  have HB1 := hidden hb1
  clear QO QN QS QL c0 c1 d0 d2 hb1
  go_wp2_with fail
  go_quiet (first
    | (go_at_call 84; exact Calls.quiet_of (HA.out _))
    | (go_at_call 85; exact Calls.quiet_of (HN.out _)))
  go_wp2_with fail
  go_ret
  refine ⟨?_, below_drewN HB1.out nq⟩
  rw [Int.natCast_add, Int.natCast_add]
  rfl
set_option maxHeartbeats 1000000 in
theorem xSize_any (p : Nat) (t : ByteArray) (K : Sm.K) (w : World) (h : Sx w p t K) :
    Calls Tryz.prog 20 #[.pointer (some ⟨p, 0, none⟩)] w fun e w' => (∃ z : Nat, e = .returned (.int .i64 (z : Nat)) ∧ ∀ W, ((Sm.P t.data.toList).length = 0 ∨ t.size ≤ (Sm.P t.data.toList).length * 2 ^ W) → z ≤ 4 * (Sm.P t.data.toList).length + (Sm.P t.data.toList).length * W + 10 * (Sm.P t.data.toList).length + 8192) ∧ Below w.heap.size w w' := by
  have HX := hidden (xparts_any p t K w h)
  have hl := (Sm.er_zero h.er).1
  have hle : Hid (∀ W, ((Sm.P t.data.toList).length = 0 ∨ t.data.toList.length ≤ (Sm.P t.data.toList).length * 2 ^ W) → _) := hidden fun W hW => Sm.size_le t.data.toList W K.k.m hl hW (fun i hi => h.nest.tree.more i hi) (Bt.num_lt _) (Bt.num_lt _)
  have hf := Sm.fit _ hl
  have hB := Sm.B_len t.data.toList
  have hP := Sm.len_le t.data.toList
  have hHn : (Fn.HB (Sm.P t.data.toList) (Sm.bd t.data.toList)).length ≤ 4294967296 := h.seq.high.len
  have z1 := Ck.sz_le _ _ h.seq.high.lt
  have z2 := Ck.sz_le _ _ h.nest.ok.lt
  have z3 := Mx.sz_le _ K.k.m (fun i hi => h.nest.tree.more i hi)
  have hlen : t.data.toList.length = t.size := rfl
  rw [hlen] at hle
  obtain ⟨a, ha⟩ : ∃ a, a = Fn.lows (Sm.P t.data.toList).length (Sm.bd t.data.toList) + Fn.highs (Sm.P t.data.toList).length (Sm.bd t.data.toList) + (Sm.B t.data.toList).length := ⟨_, rfl⟩
  obtain ⟨b, hb⟩ : ∃ b, b = Ck.sz (Bt.num (Fn.HB (Sm.P t.data.toList) (Sm.bd t.data.toList))) (Fn.HB (Sm.P t.data.toList) (Sm.bd t.data.toList)).length + (Mx.sz (Sm.B t.data.toList).length K.k.m + Ck.sz (Bt.num (Sm.B t.data.toList)) (Sm.B t.data.toList).length) := ⟨_, rfl⟩
  rw [← ha, ← hb] at HX hle
  have ha2 : a ≤ 5000000 := by omega
  have hb2 : b ≤ 4000000000 := by omega
  have cv : ∀ w, (convert 82 3 (.float .f64 (floatOfInt .f64 ((a : Int) + (b : Int))))).run Tryz.prog w = .ok (.int .i64 ((a : Int) + (b : Int))) w := fun w => run_convert_float_int w 82 3 .f64 .i64 _ _ (by rw [Tryz.underlying82]; rfl) Tryz.underlying3 (Flt.back_int _ (by omega))
  have ad := fun w => run_float_arith (P := Tryz.prog) (w := w) .add 82 .f64 _ _ _ (Flt.add_int (a : Int) (b : Int) (by omega) (by omega))
  clear z1 z2 z3 hHn hP hB hf hl ha hb hlen h
  go_enter Tryz.func20, Tryz.ntmps20
  go_wp2_with fail
  refine HX.out.mono ?_
  rintro e' w1 ⟨rfl, hb1⟩
  have HB1 := hidden hb1
  clear hb1
  go_wp2_with fail
  go_ret
  exact ⟨⟨a + b, by rw [Int.natCast_add]; rfl, hle.out⟩, HB1.out⟩
theorem Sm.bitB_len (l : List UInt8) (hl : l.length ≤ 65536) : (Sm.bitB l).length ≤ 20000 := by
  unfold Sm.bitB
  rw [Sm.rowB_len, Sm.B_len]
  have := Sm.len_le l
  omega
set_option maxHeartbeats 1000000 in
theorem xBytes_any (p : Nat) (t : ByteArray) (K : Sm.K) (w : World) (h : Sx w p t K) :
    Calls Tryz.prog 16 #[.pointer (some ⟨p, 0, none⟩)] w fun e w' => e = .returned (.string ⟨(Sm.ixB t.data.toList).toArray⟩) ∧ Below w.heap.size w w' := by
  have c0 := cell_regrown h.cell0
  have c1 := cell_regrown h.cell1
  have hl := (Sm.er_zero h.er).1
  have hf := Sm.fit _ hl
  have z1 := Sm.seqB_len _ hl
  have z2 := Sm.bitB_len _ hl
  obtain ⟨a, ha⟩ : ∃ a : ByteArray, a = ⟨(Sm.seqB t.data.toList).toArray⟩ := ⟨_, rfl⟩
  obtain ⟨b, hb⟩ : ∃ b : ByteArray, b = ⟨(Sm.bitB t.data.toList).toArray⟩ := ⟨_, rfl⟩
  have ha1 : a.data.toList = Sm.seqB t.data.toList := by rw [ha]
  have hb1 : b.data.toList = Sm.bitB t.data.toList := by rw [hb]
  have ha2 : a.size ≤ 600000 := by
    have : a.data.toList.length = a.size := rfl
    rw [← this, ha1]
    exact z1
  have hb2 : b.size ≤ 20000 := by
    have : b.data.toList.length = b.size := rfl
    rw [← this, hb1]
    exact z2
  have QS : Hid (∀ d os, Calls Tryz.prog 41 #[.pointer (some ⟨K.s, 0, none⟩)] (grow (redrawn w d) os) fun e w'' => e = .returned (.string a) ∧ ∃ p : Regrown, w'' = grow (redrawn w p.d) p.os) := hidden fun d os => Calls.regrown_of (by
    rw [ha]
    exact SBytes_any K.s _ _ K.q _ (h.seq.below (below_regrown w d os) (Nat.le_refl _)) (by omega))
  have QB : Hid (∀ d os, Calls Tryz.prog 42 #[.pointer (some ⟨K.r, 0, none⟩)] (grow (redrawn w d) os) fun e w'' => e = .returned (.string b) ∧ ∃ p : Regrown, w'' = grow (redrawn w p.d) p.os) := hidden fun d os => Calls.regrown_of (by
    rw [hb]
    exact Bytes_any K.r _ _ K.u _ (h.row.below (below_regrown w d os) (Nat.le_refl _)))
  have hix : Hid ((Sm.ixB t.data.toList) = Bt.eightB a.size ++ a.data.toList ++ b.data.toList) := hidden (by
    unfold Sm.ixB
    rw [← ha1, ← hb1, List.append_assoc]
    rfl)
  clear h hl hf z1 z2 ha hb ha1 hb1
  go_enter Tryz.func16, Tryz.ntmps16
  go_wp2_with fail
  refine wp_region_quiet_below (by kernel_rfl) (by kernel_rfl) ?_
  repeat (go_big_quiet_step (first
    | (go_at_call 41; exact QS.out _ _)
    | (go_at_call 42; exact QB.out _ _)))
  refine wpQuiet_nil ?_
  intro _ hw'
  obtain ⟨⟨dq, osq⟩, hw''⟩ := hw'
  have hb1 := hidden (below_regrown w dq osq)
  rw [hw'']
  generalize grow (redrawn w dq) osq = w1 at *
  clear hw'' QS QB c0 c1
  go_wp2_with fail
  refine (sGrow_int w1.heap.size w1.heap.size (8 + a.size + b.size) _ _ (Nat.le_refl _) (heap_alloc_new w1 _) (by simp) (by omega) (by omega)).mono ?_
  rintro e' w2 ⟨rfl, h1, h2⟩
  have HB2 := hidden (((Below.refl w1.heap.size w1).alloc (Nat.le_refl _) _).trans h2)
  have HE2 : Hid (Eb w1.heap.size w1.heap.size [] w2) := hidden (Lib.IsBuilderF.of h1)
  have hs2 := HB2.out.size
  clear h1 h2
  go_wp2_with fail
  refine (smWrite_any w1.heap.size w1.heap.size a.size [] w2 HE2.out (by simp) hs2).mono ?_
  rintro e' w3 ⟨rfl, h1, h2⟩
  have HB3 := hidden (HB2.out.trans h2)
  have HE3 := hidden h1
  have hs3 := HB3.out.size
  clear h1 h2 HE2 HB2 hs2
  go_wp2_with fail
  refine (kWriteS w1.heap.size w1.heap.size _ _ a w3 HE3.out rfl (by
    have : a.data.toList.length = a.size := rfl
    rw [List.nil_append, Bt.eightB_length]
    omega) hs3).mono ?_
  rintro e' w4 ⟨rfl, h1, h2⟩
  have HB4 := hidden (HB3.out.trans h2.1)
  have HE4 := hidden h1
  have hs4 := HB4.out.size
  clear h1 h2 HE3 HB3 hs3
  go_wp2_with fail
  refine (kWriteS w1.heap.size w1.heap.size _ _ b w4 HE4.out rfl (by
    have : a.data.toList.length = a.size := rfl
    have : b.data.toList.length = b.size := rfl
    rw [List.nil_append, List.length_append, Bt.eightB_length]
    omega) hs4).mono ?_
  rintro e' w5 ⟨rfl, h1, h2⟩
  have HB5 := hidden (HB4.out.trans h2.1)
  have HE5 := hidden h1
  have hs5 := HB5.out.size
  clear h1 h2 HE4 HB4 hs4
  go_wp2_with fail
  refine (kString w1.heap.size w1.heap.size _ w5 HE5.out hs5).mono ?_
  rintro e' w6 ⟨rfl, h1, h2⟩
  have HB6 := hidden (HB5.out.trans h2.1)
  clear h1 h2 HE5 HB5 hs5
  go_wp2_with fail
  go_ret
  refine ⟨?_, hb1.out.trans (HB6.out.mono hb1.out.size)⟩
  rw [hix.out]
  rfl
theorem Sx.ix {w : World} {p : Nat} {t : ByteArray} {K : Sm.K} (h : Sx w p t K) (hT : Tab w) : SmIx w ⟨p, 0, none⟩ t where
  er := h.er
  text := fun w' hb => xText_any p t K w' (h.below hb (Nat.le_refl _))
  marks := fun w' hb => xMarks_any p t K w' (h.below hb (Nat.le_refl _))
  mark := fun w' i hb hi => xMark_in p t K i w' (h.below hb (Nat.le_refl _)) (hT.below hb (Nat.le_refl _)) hi
  markno := fun w' i hb hi => xMark_out p t K i w' (h.below hb (Nat.le_refl _)) hi
  under := fun w' a hb => xUnder_any p t K a w' (h.below hb (Nat.le_refl _)) (hT.below hb (Nat.le_refl _))
  nest := fun w' hb => (xNest_any p t K w' (h.below hb (Nat.le_refl _))).mono fun e w'' he => ⟨⟨K.z, K.k, he.1, by rw [he.2]; exact h.nest.below hb (Nat.le_refl _)⟩, by rw [he.2]; exact Below.refl _ _⟩
  bytes := fun w' hb => xBytes_any p t K w' (h.below hb (Nat.le_refl _))
  size := fun w' hb => xSize_any p t K w' (h.below hb (Nat.le_refl _))
end Go.Proofs.YtoipliflphbeiaaGreatDoor
