/-
  The contracts of package num's moved, size and sizeOf: a number's columns are its key's digits; memory is but made.
-/
import Derived.Test.YthimbaflodphmaaDoorNuRead
import Derived.Test.YthimbaflodphmaaDoorNuSizeMath
import Derived.Test.YthimbaflodphmaaDoorNuFmt
namespace Go.Proofs.YthimbaflodphmaaDoor
open Go.RowKit
open Nu
namespace Nu
theorem run_copy_text {P : Program} (w : World) (dT sT ty elem : TypeId) (hu : P.underlying dT = some (.slice elem)) (hs : (P.info? elem).map (·.size) = some 1) (dp : Option Addr) (dLen dCap : Nat) (l : List UInt8)
    (g o : Nat) (cur : List Value) (t : TypeId) (hg : w.heap[g]? = some (.cells cur.toArray t (0, 0))) (hpos : 0 < min dLen l.length → dp = some ⟨g, o, none⟩) (hfit : o + min dLen l.length ≤ cur.length) :
    (Builtin.copy_ #[dT, sT] ty #[.slice dp dLen dCap, .string (str l)]).run P w = .ok (.int .i64 ((min dLen l.length : Nat) : Int)) (w.setRow g (cur.take o ++ (bcl (l.take dLen) ++ cur.drop (o + min dLen l.length))).toArray) := by
  have hn : Nat.min (str l).size dLen = min dLen l.length := by
    rw [str_size]
    exact Nat.min_comm _ _
  have hbl : (bcl (l.take dLen)).length = min dLen l.length := by rw [bcl_length, List.length_take]
  have hfc : ∀ sz, (Builtin.firstCells sz (min dLen l.length) (.string (str l))).run P w = .ok (bcl (l.take dLen)).toArray w := fun sz => by
    have h1 : (str l).extract 0 (min dLen l.length) = str (l.take dLen) := by
      rw [str_to]
      congr 1
      rw [List.take_eq_take_iff]
      omega
    have h2 : (Builtin.firstCells sz (min dLen l.length) (.string (str l))) = pure (((str l).extract 0 (min dLen l.length)).data.map fun b => Value.int .u8 b.toNat) := rfl
    rw [h2, h1, Sem.run_pure]
    congr 1
    simp [str, bcl]
  cases hq : P.info? elem with
  | none => simp [hq] at hs
  | some i =>
    by_cases h0 : min dLen l.length = 0
    · have hb : bcl (l.take dLen) = [] := List.eq_nil_of_length_eq_zero (by rw [hbl, h0])
      have hf0 := hfc i.size
      rw [h0, hb] at hf0
      rw [h0] at hn
      rw [h0, hb, List.nil_append, Nat.add_zero, List.take_append_drop, setRow_self w g _ t _ hg]
      cases dp with
      | none => simp [Builtin.copy_, run_underlying hu, Builtin.lenOf, sizeOf, typeInfo, hq, hn, hf0, goInt]
      | some ad => simp [Builtin.copy_, run_underlying hu, Builtin.lenOf, sizeOf, typeInfo, hq, hn, hf0, goInt, storeCells]
    · obtain rfl := hpos (by omega)
      have hst := run_storeCells_at P g o t (bcl (l.take dLen)) 0 cur.toArray w hg (by rw [hbl]; simpa using hfit) (bcl_each _)
      rw [hbl] at hst
      simp [Builtin.copy_, run_underlying hu, Builtin.lenOf, sizeOf, typeInfo, hq, hn, hfc, hst, goInt]
theorem bcl_splice (L M : List UInt8) (o n : Nat) : (bcl L).take o ++ (bcl M ++ (bcl L).drop (o + n)) = bcl (L.take o ++ (M ++ L.drop (o + n))) := by
  simp [bcl]
theorem wpList_copy_text {P : Program} {w : World} {ops : Array Oper} {rest : List Oper} {op : Oper} {a : Act} {Q : Exit → Act → World → Prop} (hgd : op.guard = none) (d s : Operand) (dT sT : TypeId)
    (ho : op.op = .call { callee := .builtin .copy, args := #[d, s], argTypes := #[dT, sT] }) (elem : TypeId) (hu : P.underlying dT = some (.slice elem)) (hs : (P.info? elem).map (·.size) = some 1)
    (dp : Option Addr) (dLen dCap : Nat) (l : List UInt8) (hd : a.eval d = .slice dp dLen dCap) (hsv : a.eval s = .string (str l))
    (g o : Nat) (L M : List UInt8) (t : TypeId) (hg : w.heap[g]? = some (.cells (bcl L).toArray t (0, 0))) (n : Nat) (hn : n = min dLen l.length) (hM : M = L.take o ++ (l.take dLen ++ L.drop (o + n))) (hpos : 0 < n → dp = some ⟨g, o, none⟩) (hfit : o + n ≤ L.length)
    (h : wpList P ops Q rest (a.put op.dst (.int .i64 (n : Int))) (w.setRow g (bcl M).toArray)) : wpList P ops Q (op :: rest) a w := by
  refine wpList_plain hgd fun K hK => ?_
  have hrun := run_copy_text (P := P) w dT sT op.type elem hu hs dp dLen dCap l g o (bcl L) t hg (by rw [← hn]; exact hpos) (by rw [← hn, bcl_length]; exact hfit)
  rw [← hn, bcl_splice, ← hM] at hrun
  unfold Oper.wp
  simp only [execOp, ho, resolve, invoke, builtin, hd, hsv, List.map_toArray, List.map_cons, List.map_nil, Result.andThen, Sem.run_bind, Sem.run_pure]
  simp [hrun]
  exact hK _ _ h
end Nu
set_option maxHeartbeats 1000000 in
set_option maxRecDepth 100000 in
theorem moved_any (p : Pt) (m : Nat) (hp : p.Ok m) (hm : m ≤ 1000000) (w : World) :
    Calls Tryd.prog 38 #[pv (some p)] w fun e w' => e = .returned (.int .i64 (clip 1099511627776 p)) ∧ Below w.heap.size w w' := by
  obtain ⟨neg, wh, fr, en, ex⟩ := p
  have hc4 : (w.alloc (.cells #[.bool neg, .string (str wh), .string (str fr), .bool en, .string (str ex)] 36)).cell? ⟨w.heap.size, 4, none⟩ = some (.string (str ex)) := Lib.cell_of_heap (heap_alloc_at w _ _ rfl) 4
  have hc3 : (w.alloc (.cells #[.bool neg, .string (str wh), .string (str fr), .bool en, .string (str ex)] 36)).cell? ⟨w.heap.size, 3, none⟩ = some (.bool en) := Lib.cell_of_heap (heap_alloc_at w _ _ rfl) 3
  have hb : Below w.heap.size w (w.alloc (.cells #[.bool neg, .string (str wh), .string (str fr), .bool en, .string (str ex)] 36)) := (Below.refl _ _).alloc (Nat.le_refl _) _
  have hdx := hp.ex
  have hle := hp.le
  simp only at hdx hle
  have hpv : pv (some ⟨neg, wh, fr, en, ex⟩) = .agg #[.bool neg, .string (str wh), .string (str fr), .bool en, .string (str ex)] := rfl
  rw [hpv]
  have hcl : clip 1099511627776 ⟨neg, wh, fr, en, ex⟩ = if en then -((min (num ex) 1099511627776 : Nat) : Int) else ((min (num ex) 1099511627776 : Nat) : Int) := rfl
  rw [hcl]
  obtain ⟨s, hS, hsz, hat⟩ := str_open ex
  rw [← hS] at hc4 hc3 hb
  rw [← hS]
  have HB := hidden hb
  have HD := hidden hdx
  have HAT := hidden hat
  clear hcl hpv hb hdx hS hat
  go_enter Tryd.func38, Tryd.ntmps38
  go_wp2_with fail
  go_loop [3, 8] (fun v i => ∃ k : Nat, k ≤ s.size ∧ i = .int .i64 k ∧ v = .int .i64 ((min (num (ex.take k)) 1099511627776 : Nat) : Int)) (fun _ i => s.size - (intOf i).toNat)
  case atStart => exact ⟨0, by omega, rfl, rfl⟩
  case round =>
    obtain ⟨k, hk, rfl, rfl⟩ := hrel
    by_cases hlt : k < s.size
    · have hlt2 : k < ex.length := by omega
      have h1 := HAT.out k hlt hlt2
      have h2 := dig_le (HD.out _ (List.getElem_mem hlt2))
      have h3 := clip_snoc (ex.take k) (ex[k]) 1099511627776
      have h4 : ex.take k ++ [ex[k]] = ex.take (k + 1) := by rw [List.take_add_one, List.getElem?_eq_getElem hlt2]; rfl
      rw [h4, ← h1] at h3
      rw [← h1] at h2
      have hxle : min (num (ex.take k)) 1099511627776 ≤ 1099511627776 := Nat.min_le_right _ _
      obtain ⟨x, hx⟩ : ∃ x, x = min (num (ex.take k)) 1099511627776 := ⟨_, rfl⟩
      obtain ⟨y, hy⟩ : ∃ y, y = min (num (ex.take (k + 1))) 1099511627776 := ⟨_, rfl⟩
      rw [← hx, ← hy] at h3
      rw [← hx] at hxle
      rw [← hx]
      obtain ⟨h2a, h2b⟩ := h2
      have hmn : min (10 * (x : Int) + (((s[k]).toNat : Int) - 48)) 1099511627776 = (y : Int) := by omega
      have HY := hidden hy
      clear h1 h3 h4 hx hy
      go_wp2_with fail
      go_round
      case rel => exact ⟨k + 1, by omega, by go_num, by rw [← HY.out]⟩
      case measure => simp [intOf]; omega
    · obtain rfl : k = s.size := by omega
      have ht : ex.take s.size = ex := List.take_of_length_le (by omega)
      rw [ht]
      have hxle : min (num ex) 1099511627776 ≤ 1099511627776 := Nat.min_le_right _ _
      obtain ⟨x, hx⟩ : ∃ x, x = min (num ex) 1099511627776 := ⟨_, rfl⟩
      rw [← hx] at hxle ⊢
      have HX := hidden hx
      clear hx
      cases en with
      | true =>
        go_wp2_with fail
        go_ret
        exact ⟨by rw [← HX.out]; rfl, HB.out⟩
      | false =>
        go_wp2_with fail
        go_ret
        exact ⟨by rw [← HX.out]; rfl, HB.out⟩
theorem below_after {a b c : World} (h : Below a.heap.size a b) (k : Below b.heap.size b c) : Below a.heap.size a c := h.trans (k.mono h.size)
namespace Nu
/-- Where size stands: its parts, its result's block, its columns' block, and what memory was ahead is as it was. -/
structure SzAt (w w' : World) (neg : Bool) (wh fr : List UInt8) (en : Bool) (ex : List UInt8) (L : List UInt8) : Prop where
  prt : w'.heap[w.heap.size]? = some (.cells #[.bool neg, .string (str wh), .string (str fr), .bool en, .string (str ex)] 36 (0, 0))
  ret : w'.heap[w.heap.size + 1]? = some (.cells (bcl (List.replicate 21 0)).toArray 40 (0, 0))
  row : w'.heap[w.heap.size + 1 + 1]? = some (.cells (bcl L).toArray 40 (0, 0))
  bel : Below w.heap.size w w'
section
variable {w w' : World} {neg en : Bool} {wh fr ex L : List UInt8}
theorem SzAt.start : SzAt w (((w.alloc (.cells #[.bool neg, .string (str wh), .string (str fr), .bool en, .string (str ex)] 36)).alloc (.cells (bcl (List.replicate 21 0)).toArray 40)).alloc (.cells (bcl (List.replicate 21 0)).toArray 40)) neg wh fr en ex (List.replicate 21 0) where
  prt := by
    rw [heap_alloc_old _ _ _ (by simp; omega), heap_alloc_old _ _ _ (by simp)]
    exact heap_alloc_at _ _ _ rfl
  ret := by
    rw [heap_alloc_old _ _ _ (by simp)]
    exact heap_alloc_at _ _ _ (by simp)
  row := heap_alloc_at _ _ _ (by simp)
  bel := (((Below.refl _ _).alloc (Nat.le_refl _) _).alloc (by simp) _).alloc (by simp; omega) _
theorem SzAt.drewN (h : SzAt w w' neg wh fr en ex L) (n : Nat) : SzAt w (w'.drewN n) neg wh fr en ex L := ⟨h.prt, h.ret, h.row, below_drewN h.bel n⟩
theorem SzAt.after {w2 : World} (h : SzAt w w' neg wh fr en ex L) (hb : Below w'.heap.size w' w2) : SzAt w w2 neg wh fr en ex L where
  prt := (hb.block _ (lt_of_block h.prt)).trans h.prt
  ret := (hb.block _ (lt_of_block h.ret)).trans h.ret
  row := (hb.block _ (lt_of_block h.row)).trans h.row
  bel := below_after h.bel hb
theorem SzAt.set (h : SzAt w w' neg wh fr en ex L) (i : Nat) (c : UInt8) : SzAt w (w'.setCell ⟨w.heap.size + 1 + 1, i, none⟩ (.int .u8 (c.toNat : Int))) neg wh fr en ex (L.set i c) where
  prt := (Below.heap_setCell _ _ _ _ (by show w.heap.size ≠ w.heap.size + 1 + 1; omega)).trans h.prt
  ret := (Below.heap_setCell _ _ _ _ (by show w.heap.size + 1 ≠ w.heap.size + 1 + 1; omega)).trans h.ret
  row := by rw [← bcl_set]; exact setCell_heap_same _ _ i _ _ _ _ h.row
  bel := h.bel.setCell (by show w.heap.size ≤ w.heap.size + 1 + 1; omega) _
theorem SzAt.copy (h : SzAt w w' neg wh fr en ex L) (M : List UInt8) : SzAt w (w'.setRow (w.heap.size + 1 + 1) (bcl M).toArray) neg wh fr en ex M where
  prt := (setRow_other _ _ _ _ (by omega)).trans h.prt
  ret := (setRow_other _ _ _ _ (by omega)).trans h.ret
  row := setRow_heap _ _ _ _ _ _ h.row
  bel := below_setRow h.bel (by omega) _
theorem SzAt.p0 (h : SzAt w w' neg wh fr en ex L) : w'.cell? ⟨w.heap.size, 0, none⟩ = some (.bool neg) := Lib.cell_of_heap h.prt 0
theorem SzAt.p1 (h : SzAt w w' neg wh fr en ex L) : w'.cell? ⟨w.heap.size, 1, none⟩ = some (.string (str wh)) := Lib.cell_of_heap h.prt 1
theorem SzAt.p2 (h : SzAt w w' neg wh fr en ex L) : w'.cell? ⟨w.heap.size, 2, none⟩ = some (.string (str fr)) := Lib.cell_of_heap h.prt 2
theorem SzAt.p3 (h : SzAt w w' neg wh fr en ex L) : w'.cell? ⟨w.heap.size, 3, none⟩ = some (.bool en) := Lib.cell_of_heap h.prt 3
theorem SzAt.p4 (h : SzAt w w' neg wh fr en ex L) : w'.cell? ⟨w.heap.size, 4, none⟩ = some (.string (str ex)) := Lib.cell_of_heap h.prt 4
theorem SzAt.cell (h : SzAt w w' neg wh fr en ex L) (i : Nat) (c : UInt8) (hi : L[i]? = some c) : w'.cell? ⟨w.heap.size + 1 + 1, i, none⟩ = some (.int .u8 (c.toNat : Int)) := (Lib.cell_of_heap h.row i).trans (bcl_at L i c hi)
theorem SzAt.fz (h : SzAt w w' neg wh fr en ex L) (i : Nat) : w'.frozen? ⟨w.heap.size + 1 + 1, i, none⟩ = false := Lib.frozen_of_heap h.row i
end
theorem szc (l : List UInt8) (h : l.length = 21) : (Tryd.prog.info? 40).map (·.size) = some (bcl l).toArray.size := by rw [List.size_toArray, bcl_length, h]; exact sizeCols
theorem szo (l l' : List UInt8) (h : l.length = 21) (h' : l'.length = 21) : (bcl l).toArray.size = (bcl l').toArray.size := by rw [List.size_toArray, List.size_toArray, bcl_length, bcl_length, h, h']
theorem fill_next (k : Nat) (hk : k < 21) : (List.replicate k (48 : UInt8) ++ List.replicate (21 - k) 0).set k 48 = List.replicate (k + 1) 48 ++ List.replicate (21 - (k + 1)) 0 := by
  obtain ⟨d, hd⟩ : ∃ d, 21 - k = d + 1 := ⟨21 - k - 1, by omega⟩
  rw [hd, show 21 - (k + 1) = d by omega, List.set_append_right _ _ (by simp), List.length_replicate, Nat.sub_self, List.replicate_succ, List.set_cons_zero, List.replicate_succ', List.append_assoc]
  rfl
theorem fill_at (k : Nat) (hk : k < 21) : (List.replicate k (48 : UInt8) ++ List.replicate (21 - k) 0)[k]? = some 0 := by
  rw [List.getElem?_append_right (by simp), List.length_replicate, Nat.sub_self, List.getElem?_replicate, if_pos (by omega)]
/-- What is left behind both copies. -/
theorem rest_nought (W R : List UInt8) (hW : ∀ c ∈ W, dig c = true) (hR : ∀ c ∈ R, dig c = true) (m : Nat) :
    (num ((W ++ R).drop m) ≠ 0) ↔ (unled (W.drop (min m W.length)) ≠ [] ∨ unled (R.drop (min (m - min m W.length) R.length)) ≠ []) := by
  have e : (W ++ R).drop m = W.drop (min m W.length) ++ R.drop (min (m - min m W.length) R.length) := by
    rw [List.drop_append]
    congr 1
    · by_cases h : m ≤ W.length
      · rw [Nat.min_eq_left h]
      · rw [Nat.min_eq_right (by omega), List.drop_eq_nil_of_le (by omega), List.drop_eq_nil_of_le (Nat.le_refl _)]
    · by_cases h : m - W.length ≤ R.length
      · congr 1
        omega
      · rw [List.drop_eq_nil_of_le (by omega), List.drop_eq_nil_of_le (by omega)]
  have d1 : ∀ c ∈ W.drop (min m W.length), dig c = true := fun c hc => hW c (List.mem_of_mem_drop hc)
  have d2 : ∀ c ∈ R.drop (min (m - min m W.length) R.length), dig c = true := fun c hc => hR c (List.mem_of_mem_drop hc)
  rw [e, num_append, ne_eq, ne_eq, ne_eq, unled_nil _ d1, unled_nil _ d2]
  have hp : 0 < 10 ^ (R.drop (min (m - min m W.length) R.length)).length := Nat.pow_pos (by omega)
  constructor
  · intro h
    by_cases h1 : num (W.drop (min m W.length)) = 0
    · refine .inr fun h2 => h ?_
      rw [h1, h2]
      simp
    · exact .inl h1
  · intro h h3
    have h4 : num (W.drop (min m W.length)) * 10 ^ (R.drop (min (m - min m W.length) R.length)).length = 0 := by omega
    rcases Nat.mul_eq_zero.1 h4 with h5 | h5
    · rcases h with h | h
      · exact h h5
      · exact h (by omega)
    · omega
theorem run_cut (b o m n : Nat) (h : n ≤ m) (u : World) :
    (Instr.slice 56 (.slice (some ⟨b, o, none⟩) m (m + 1)) (some (.int .i64 (n : Int))) none none).run Tryd.prog u = .ok (.slice (some ⟨b, o + n, none⟩) (m - n) (m + 1 - n)) u := by
  have he : Tryd.prog.elem 56 = 5 := by simp [Program.elem, Tryd.underlying56]
  rw [run_slice_l u 56 (some ⟨b, o, none⟩) m (m + 1) (by rw [he]; exact Tryd.underlying56) .i64 (n : Int) (by omega) (by omega), he, Tryd.sizeOf5 u]
  have hadd : (⟨b, o, none⟩ : Addr).add n = ⟨b, o + n, none⟩ := by unfold Addr.add; split <;> simp_all
  simp only [Result.andThen, sliced, Int.toNat_natCast, Nat.mul_one, if_neg (show ¬ m + 1 = n by omega), Option.map_some, hadd]
theorem run_cols (b m : Nat) (h : m ≤ 19) (u : World) :
    (Instr.sliceAt 40 (.pointer (some ⟨b, 0, none⟩)) (some (.int .i64 (20 - (m : Int)))) (some (.int .i64 20)) none).run Tryd.prog u = .ok (.slice (some ⟨b, 20 - m, none⟩) m (m + 1)) u := by
  have hal : Tryd.prog.arrayLen 40 = 21 := by simp [Program.arrayLen, Tryd.underlying40]
  have he : Tryd.prog.elem 40 = 5 := by simp [Program.elem, Tryd.underlying40]
  rw [run_sliceAt_array_lh u 40 ⟨b, 0, none⟩ (by simp [Program.arrayLen, Program.elem, Tryd.underlying40]) .i64 .i64 (20 - (m : Int)) 20 (by omega) (by omega) (by rw [hal]; omega), he, Tryd.sizeOf5 u, hal]
  have hadd : (⟨b, 0, none⟩ : Addr).add (20 - m) = ⟨b, 20 - m, none⟩ := by unfold Addr.add; rw [if_neg (by omega), Nat.zero_add]
  have e1 : (20 - (m : Int)).toNat = 20 - m := by omega
  have e2 : (20 : Int).toNat = 20 := rfl
  simp only [Result.andThen, slicedAt, e1, e2, Nat.mul_one]
  rw [if_neg (show ¬ 21 = 20 - m by omega), hadd, show 20 - (20 - m) = m by omega, show 21 - (20 - m) = m + 1 by omega]
theorem fin_20 (m : Nat) (D : List UInt8) (r : Bool) (h : m ≤ 19) : (fin m D r)[20]? = some (if r then 49 else 48) := by
  have hl : (List.replicate (20 - m) (48 : UInt8) ++ (D.take m ++ List.replicate (m - D.length) 48)).length = 20 := by simp; omega
  unfold fin
  rw [List.getElem?_append_right (by omega), hl]
  rfl
theorem cv_fin {m K : Nat} {D : List UInt8} {r : Bool} (hm : m ≤ 19) (hD : ∀ c ∈ D, dig c = true) (h : num (fin m D r) = K) : cv K = (bcl (fin m D r)).toArray := by
  rw [cv_bcl, ← h, colB_of _ (fin_digs m D r hD) (fin_length m D r hm)]
theorem clip_le (C : Nat) (p : Pt) : -(C : Int) ≤ clip C p ∧ clip C p ≤ C := by
  unfold clip
  split <;> omega
theorem unled_first (l : List UInt8) (h : ∀ c ∈ l, dig c = true) (e : unled l ≠ []) (m : List UInt8) : 10 ^ ((unled l ++ m).length - 1) ≤ num (unled l ++ m) ∧ 1 ≤ (unled l ++ m).length := by
  rcases unled_head l h with h1 | ⟨c, r, h1, h2⟩
  · exact absurd h1 e
  · rw [h1]
    have := num_ge c (r ++ m) h2
    simp only [List.cons_append, List.length_cons]
    exact ⟨by simpa using this, by omega⟩
end Nu
set_option maxHeartbeats 4000000 in
set_option maxRecDepth 100000 in
theorem size_any (p : Pt) (m0 : Nat) (hp : p.Ok m0) (hm0 : m0 ≤ 1000000) (w : World) :
    Calls Tryd.prog 19 #[pv (some p)] w fun e w' => e = .returned (.agg (cv p.key)) ∧ Below w.heap.size w w' := by
  have hk := key_clip 1099511627776 p m0 hp (by omega)
  have hkp := key_parts p m0 hp (clip 1099511627776 p)
  have hcb := clip_le 1099511627776 p
  have hmv := fun u => moved_any p m0 hp hm0 u
  obtain ⟨E, hE⟩ : ∃ E, E = clip 1099511627776 p := ⟨_, rfl⟩
  obtain ⟨K, hK⟩ : ∃ K, K = p.key := ⟨_, rfl⟩
  rw [← hE] at hk hkp hcb
  rw [← hK] at hk
  rw [hk] at hkp
  rw [← hK]
  have hn0 : num (p.wh ++ p.fr) = 0 → K = 0 := fun e => by
    rw [hK, Pt.key, Pt.n, e, key_zero]
  obtain ⟨neg, wh, fr, en, ex⟩ := p
  have hpv : pv (some ⟨neg, wh, fr, en, ex⟩) = .agg #[.bool neg, .string (str wh), .string (str fr), .bool en, .string (str ex)] := rfl
  simp only [hpv, ← hE] at hmv
  rw [hpv]
  simp only at hkp hn0
  obtain ⟨hdw, hdf, hdx, hle⟩ := hp
  simp only at hdw hdf hle
  have hul := unled_le wh
  have hul2 := unled_le fr
  have hz21 : (bcl (List.replicate 21 0)).toArray = #[Value.int .u8 0, .int .u8 0, .int .u8 0, .int .u8 0, .int .u8 0, .int .u8 0, .int .u8 0, .int .u8 0, .int .u8 0, .int .u8 0, .int .u8 0, .int .u8 0, .int .u8 0, .int .u8 0, .int .u8 0, .int .u8 0, .int .u8 0, .int .u8 0, .int .u8 0, .int .u8 0, .int .u8 0] := rfl
  have hA := SzAt.start (w := w) (neg := neg) (wh := wh) (fr := fr) (en := en) (ex := ex)
  rw [hz21] at hA
  have HMV := hidden hmv
  have HKP := hidden hkp
  have HN0 := hidden hn0
  have HDW := hidden hdw
  have HDF := hidden hdf
  have HZ := hidden hz21
  have HCB := hidden hcb
  have HLE := hidden hle
  have HUL := hidden hul
  have HUL2 := hidden hul2
  have HA := hidden hA
  have hal : Tryd.prog.arrayLen 40 = 21 := by simp [Program.arrayLen, Tryd.underlying40]
  have HAL := hidden hal
  clear hk hkp hcb hmv hE hK hn0 hpv hdw hdf hdx hz21 hA hle hul hul2 hal
  go_enter Tryd.func19, Tryd.ntmps19
  go_wp2_with fail
  generalize hwa : (((w.alloc (.cells #[.bool neg, .string (str wh), .string (str fr), .bool en, .string (str ex)] 36)).alloc (.cells #[Value.int .u8 0, .int .u8 0, .int .u8 0, .int .u8 0, .int .u8 0, .int .u8 0, .int .u8 0, .int .u8 0, .int .u8 0, .int .u8 0, .int .u8 0, .int .u8 0, .int .u8 0, .int .u8 0, .int .u8 0, .int .u8 0, .int .u8 0, .int .u8 0, .int .u8 0, .int .u8 0, .int .u8 0] 40)).alloc (.cells #[Value.int .u8 0, .int .u8 0, .int .u8 0, .int .u8 0, .int .u8 0, .int .u8 0, .int .u8 0, .int .u8 0, .int .u8 0, .int .u8 0, .int .u8 0, .int .u8 0, .int .u8 0, .int .u8 0, .int .u8 0, .int .u8 0, .int .u8 0, .int .u8 0, .int .u8 0, .int .u8 0, .int .u8 0] 40)) = wa
  rw [hwa] at HA
  clear hwa
  go_loopw [11] (fun i wr => ∃ k : Nat, k ≤ 21 ∧ i = .int .i64 k ∧ Hid (SzAt w wr neg wh fr en ex (List.replicate k 48 ++ List.replicate (21 - k) 0))) (fun i _ => 21 - (intOf i).toNat)
  case atStart => exact ⟨0, by omega, rfl, HA.out⟩
  case round =>
    obtain ⟨k, hk, rfl, HS⟩ := hrel
    by_cases hlt : k < 21
    · have hc := HS.out.cell k 0 (fill_at k hlt)
      have hf := HS.out.fz k
      have hal := HAL.out
      go_wp2_with fail
      go_round
      case rel => exact ⟨k + 1, by omega, by go_num, by have := HS.out.set k 48; rw [fill_next k hlt] at this; exact hidden this⟩
      case measure => simp [intOf]; omega
    · obtain rfl : k = 21 := by omega
      have hS := HS.out
      rw [Nat.sub_self, List.replicate_zero, List.append_nil] at hS
      have q0 := hS.p0
      have q1 := hS.p1
      have q2 := hS.p2
      have q3 := hS.p3
      have q4 := hS.p4
      have HS := hidden hS
      clear hS HA
      go_wp2_with fail
      go_quiet ((go_at_call 37; exact Calls.quiet_of_same (unled_any _ _)))
      have HS := hidden (HS.out.drewN nq)
      obtain ⟨w1, hw1⟩ : ∃ w1, w1 = wr.drewN nq := ⟨_, rfl⟩
      rw [← hw1] at HS ⊢
      clear q0 q1 q2 q3 q4 hw1
      have q0 := HS.out.p0
      have q1 := HS.out.p1
      have q2 := HS.out.p2
      have q3 := HS.out.p3
      have q4 := HS.out.p4
      obtain ⟨W, hW⟩ : ∃ W, W = unled wh := ⟨_, rfl⟩
      rw [← hW]
      have HW := hidden hW
      have hwl : W.length ≤ 1000000 := by
        have h1 := HUL.out
        have h2 := HLE.out
        rw [hW]
        omega
      have hE1 : -1099511627776 ≤ E := by have := HCB.out.1; omega
      have hE2 : E ≤ 1099511627776 := by have := HCB.out.2; omega
      have hsz := str_size W
      have hmt := str_mt W
      clear hW
      go_wp2_with fail
      refine (HMV.out _).mono ?_
      rintro e w2 ⟨rfl, hb2⟩
      have HS := hidden (HS.out.after hb2)
      clear hb2 q0 q1 q2 q3 q4
      have hdW : ∀ c ∈ W, dig c = true := by
        rw [HW.out]
        exact unled_digs wh HDW.out
      have HDW1 := hidden hdW
      clear hdW
      by_cases hW0 : W = []
      · have hkey := HKP.out.2 (by rw [← HW.out]; exact hW0)
        have hnw := (unled_nil wh HDW.out).1 (by rw [← HW.out]; exact hW0)
        subst hW0
        rw [List.isEmpty_nil] at hmt
        rw [List.length_nil] at hsz
        obtain ⟨R, hR⟩ : ∃ R, R = unled fr := ⟨_, rfl⟩
        rw [← hR] at hkey
        have hrl : R.length ≤ fr.length := by rw [hR]; exact HUL2.out
        have hfl : fr.length ≤ 1000000 := by
          have h2 := HLE.out
          omega
        have HR := hidden hR
        have HNW := hidden hnw
        have HKY := hidden hkey
        clear hR hnw hkey
        have q0 := HS.out.p0
        have q1 := HS.out.p1
        have q2 := HS.out.p2
        have q3 := HS.out.p3
        have q4 := HS.out.p4
        have hszf := str_size fr
        have hszr := str_size R
        have hmtr := str_mt R
        go_wp2_with fail
        refine (unled_any fr _).mono ?_
        rintro e w3 ⟨rfl, rfl⟩
        rw [← HR.out]
        by_cases hR0 : R = []
        · subst hR0
          rw [List.isEmpty_nil] at hmtr
          rw [List.length_nil] at hszr
          have hK0 : K = 0 := HN0.out (by
            rw [num_append, HNW.out, Nat.zero_mul, Nat.zero_add]
            exact (unled_nil fr HDF.out).1 HR.out.symm)
          have hcv : cv K = (bcl (List.replicate 21 48)).toArray := by rw [hK0, cv_bcl, colB_zero]
          have HCV := hidden hcv
          have hrow := HS.out.row
          have hret := HS.out.ret
          have HLL : Hid ((List.replicate 21 (48 : UInt8)).length = 21) := hidden (by simp)
          clear hcv hK0
          go_wp2_with (first
            | (refine wpList_load_row rfl 40 _ rfl (w.heap.size + 1 + 1) rfl 40 _ (0, 0) _ hrow Tryd.underlying40 rfl (by exact szc _ HLL.out) ?_)
            | (refine wpList_store_row rfl 40 _ _ rfl (w.heap.size + 1) _ rfl rfl 40 _ hret (by exact szc _ HLL.out) (by exact szo _ _ (by simp) HLL.out) (bcl_one _) ?_))
          refine bodyPost_ret (results_cell_row rfl _ _ (w.heap.size + 1) 40 _ (0, 0) _ rfl (setRow_heap _ _ _ _ _ _ hret) Tryd.underlying40 rfl (by exact szc _ HLL.out)) rfl ?_
          refine ⟨?_, below_setRow HS.out.bel (by omega) _⟩
          rw [HCV.out]
        
        · have hdR : ∀ c ∈ R, dig c = true := by
            rw [HR.out]
            exact unled_digs fr HDF.out
          have HDR := hidden hdR
          have hfst := unled_first fr HDF.out (by rw [← HR.out]; exact hR0) []
          rw [← HR.out, List.append_nil] at hfst
          have HH : Hid (10 ^ (([] ++ R).length - 1) ≤ num ([] ++ R) ∧ 1 ≤ ([] ++ R).length) := hidden hfst
          have hmtR : R.isEmpty = false := by simpa using hR0
          rw [hmtR] at hmtr
          obtain ⟨a, hav⟩ : ∃ a : Int, E - ((fr.length : Int) - (R.length : Int)) = a := ⟨_, rfl⟩
          have ha1 : -1099513000000 ≤ a := by omega
          have ha2 : a ≤ 1099513000000 := by omega
          have HKA : Hid (Nu.key (num ([] ++ R)) (a - (([] ++ R).length : Nat)) = K) := by
            have := HKY.out
            rw [hav] at this
            exact hidden this
          clear hdR hfst hmtR hR0
          by_cases ha : 19 < a
          · have hc0 := HS.out.cell 0 48 rfl
            have hf0 := HS.out.fz 0
            have hK : cv K = (bcl ((List.replicate 21 (48 : UInt8)).set 0 49)).toArray := by
              rw [cv_bcl, ← HKA.out, key_big _ (([] : List UInt8) ++ R).length _ HH.out.1 HH.out.2 (by omega), colB_cap]
            have HKK := hidden hK
            have hS := HS.out.set 0 49
            have hrow := hS.row
            have hret := hS.ret
            have HBL := hidden hS.bel
            clear hK hS
            go_wp2_with
              (first
              | (refine wpList_load_row rfl 40 _ rfl (w.heap.size + 1 + 1) rfl 40 _ (0, 0) _ hrow Tryd.underlying40 rfl (by exact szc _ (by simp)) ?_)
              | (refine wpList_store_row rfl 40 _ _ rfl (w.heap.size + 1) _ rfl rfl 40 _ hret (by exact szc _ (by simp)) (by exact szo _ _ (by simp) (by simp)) (bcl_one _) ?_))
            refine bodyPost_ret (results_cell_row rfl _ _ (w.heap.size + 1) 40 _ (0, 0) _ rfl (setRow_heap _ _ _ _ _ _ hret) Tryd.underlying40 rfl (by exact szc _ (by simp))) rfl ?_
            refine ⟨?_, below_setRow HBL.out (by omega) _⟩
            rw [HKK.out]
          · obtain ⟨m, hm⟩ : ∃ m, m = a.toNat := ⟨_, rfl⟩
            have hmx : max a 0 = (m : Int) := by omega
            have hm19 : m ≤ 19 := by omega
            have hal := HAL.out
            obtain ⟨n1, hn1⟩ : ∃ n1, n1 = min m ([] : List UInt8).length := ⟨_, rfl⟩
            obtain ⟨n2, hn2⟩ : ∃ n2, n2 = min (m - n1) R.length := ⟨_, rfl⟩
            have hn1m : n1 ≤ m := by omega
            have hn1w : n1 ≤ ([] : List UInt8).length := by omega
            have hn2m : n2 ≤ m - n1 := by omega
            have hn2r : n2 ≤ R.length := by omega
            have e1 : n1 = (([] : List UInt8).take m).length := by rw [List.length_take, hn1]
            have e2 : n2 = (R.take (m - n1)).length := by rw [List.length_take, hn2]
            obtain ⟨L1, hL1⟩ : ∃ L1, L1 = (List.replicate 21 (48 : UInt8)).take (20 - m) ++ (([] : List UInt8).take m ++ (List.replicate 21 (48 : UInt8)).drop (20 - m + n1)) := ⟨_, rfl⟩
            obtain ⟨L2, hL2⟩ : ∃ L2, L2 = L1.take (20 - m + n1) ++ (R.take (m - n1) ++ L1.drop (20 - m + n1 + n2)) := ⟨_, rfl⟩
            have hl1 : L1.length = 21 := by
              rw [hL1, List.length_append, List.length_append, ← e1, List.length_take, List.length_drop, List.length_replicate]
              omega
            have hl2 : L2.length = 21 := by
              rw [hL2, List.length_append, List.length_append, ← e2, List.length_take, List.length_drop, hl1]
              omega
            have hfin := fun r => lay_two ([] : List UInt8) R m hm19 r L1 L2 (by rw [← e1]; exact hL1) (by rw [← e1, ← e2]; exact hL2)
            have hrest := rest_nought ([] : List UInt8) R HDW1.out HDR.out m
            rw [← hn1, ← hn2, List.drop_nil] at hrest
            have hkf := key_fin (([] : List UInt8) ++ R) a (fun c hc => (List.mem_append.1 hc).elim (HDW1.out c) (HDR.out c)) (by omega)
            rw [← hm, HKA.out] at hkf
            have hsl := run_cols (w.heap.size + 1 + 1) m hm19
            have hsl2 := run_cut (w.heap.size + 1 + 1) (20 - m) m n1 hn1m
            have hsW := run_from ([] : List UInt8) n1 hn1w
            have hsR := run_from R n2 hn2r
            have hrow := HS.out.row
            have HFIN := hidden hfin
            have HREST := hidden hrest
            have HKF := hidden hkf
            have HL1 := hidden hL1
            have HL2 := hidden hL2
            have HN1 := hidden hn1
            have HN2 := hidden hn2
            have HLL := hidden hl2
            have HRL := hidden hl1
            clear hm hfin hrest hkf hL1 hL2 hn1 hn2 e1 e2 hl1 hl2 hal
            go_wp2_with (first
              | (refine wpList_copy_text rfl (.tmp 54) (.tmp 55) 56 9 rfl 5 Tryd.underlying56 (by kernel_rfl) _ m _ ([] : List UInt8) rfl rfl (w.heap.size + 1 + 1) (20 - m) _ L1 40 hrow n1 HN1.out HL1.out (fun _ => rfl) (by rw [List.length_replicate]; omega) ?_)
              | (refine wpList_copy_text rfl (.tmp 59) (.tmp 60) 56 9 rfl 5 Tryd.underlying56 (by kernel_rfl) _ (m - n1) _ R rfl rfl (w.heap.size + 1 + 1) (20 - m + n1) L1 L2 40 (setRow_heap _ _ _ _ _ _ hrow) n2 HN2.out HL2.out (fun _ => rfl) (by rw [HRL.out]; omega) ?_))
            have HS := hidden ((HS.out.copy L1).copy L2)
            generalize hw5 : (w3.setRow (w.heap.size + 1 + 1) (bcl L1).toArray).setRow (w.heap.size + 1 + 1) (bcl L2).toArray = w5 at HS ⊢
            clear hw5 hrow hsl hsl2
            refine (unled_any ([]) _).mono ?_
            rintro e w6 ⟨rfl, rfl⟩
            have hD : ∀ c ∈ ([] : List UInt8) ++ R, dig c = true := fun c hc => (List.mem_append.1 hc).elim (HDW1.out c) (HDR.out c)
            have HD := hidden hD
            clear hD
            have hq1 := str_mt (unled ([]))
            by_cases hu1 : unled ([]) = []
            · rw [hu1, List.isEmpty_nil] at hq1
              rw [hu1]
              go_wp2_with fail
              refine (unled_any (R.drop n2) _).mono ?_
              rintro e w7 ⟨rfl, rfl⟩
              have hq2 := str_mt (unled (R.drop n2))
              by_cases hu2 : unled (R.drop n2) = []
              · rw [hu2, List.isEmpty_nil] at hq2
                rw [hu2]
                have hr : decide (num ((([] : List UInt8) ++ R).drop m) ≠ 0) = false := decide_eq_false (fun h => (HREST.out.1 h).elim (fun h => h hu1) (fun h => h hu2))
                have hkf := HKF.out
                rw [hr] at hkf
                have hL : L2 = fin m (([] : List UInt8) ++ R) false := HFIN.out false
                have hcv := cv_fin hm19 HD.out hkf
                rw [← hL] at hcv
                have HCV := hidden hcv
                have hrow := HS.out.row
                have hret := HS.out.ret
                have HLL2 := HLL
                clear hr hkf hL hcv hu1 hu2
                go_wp2_with (first
                  | (refine wpList_load_row rfl 40 _ rfl (w.heap.size + 1 + 1) rfl 40 _ (0, 0) _ hrow Tryd.underlying40 rfl (by exact szc _ HLL.out) ?_)
                  | (refine wpList_store_row rfl 40 _ _ rfl (w.heap.size + 1) _ rfl rfl 40 _ hret (by exact szc _ HLL.out) (by exact szo _ _ (by simp) HLL.out) (bcl_one _) ?_))
                refine bodyPost_ret (results_cell_row rfl _ _ (w.heap.size + 1) 40 _ (0, 0) _ rfl (setRow_heap _ _ _ _ _ _ hret) Tryd.underlying40 rfl (by exact szc _ HLL.out)) rfl ?_
                refine ⟨?_, below_setRow HS.out.bel (by omega) _⟩
                rw [HCV.out]
              · have hmq : (unled (R.drop n2)).isEmpty = false := by simpa using hu2
                rw [hmq] at hq2
                have hr : decide (num ((([] : List UInt8) ++ R).drop m) ≠ 0) = true := decide_eq_true (HREST.out.2 (.inr hu2))
                have hkf := HKF.out
                rw [hr] at hkf
                have hL : L2 = fin m (([] : List UInt8) ++ R) false := HFIN.out false
                have hL' : L2.set 20 49 = fin m (([] : List UInt8) ++ R) true := HFIN.out true
                have hcv := cv_fin hm19 HD.out hkf
                rw [← hL'] at hcv
                have HCV := hidden hcv
                have h20 : L2[20]? = some 48 := by rw [hL]; exact fin_20 m _ false hm19
                have hc0 := HS.out.cell 20 48 h20
                have hf0 := HS.out.fz 20
                have HLL := hidden (show (L2.set 20 49).length = 21 by rw [List.length_set]; exact HLL.out)
                have HS := hidden (HS.out.set 20 49)
                have hrow := HS.out.row
                have hret := HS.out.ret
                clear hr hkf hL hL' hcv h20 hu1 hu2 hmq
                go_wp2_with (first
                  | (refine wpList_load_row rfl 40 _ rfl (w.heap.size + 1 + 1) rfl 40 _ (0, 0) _ hrow Tryd.underlying40 rfl (by exact szc _ HLL.out) ?_)
                  | (refine wpList_store_row rfl 40 _ _ rfl (w.heap.size + 1) _ rfl rfl 40 _ hret (by exact szc _ HLL.out) (by exact szo _ _ (by simp) HLL.out) (bcl_one _) ?_))
                refine bodyPost_ret (results_cell_row rfl _ _ (w.heap.size + 1) 40 _ (0, 0) _ rfl (setRow_heap _ _ _ _ _ _ hret) Tryd.underlying40 rfl (by exact szc _ HLL.out)) rfl ?_
                refine ⟨?_, below_setRow HS.out.bel (by omega) _⟩
                rw [HCV.out]
            · have hmq : (unled ([])).isEmpty = false := by simpa using hu1
              rw [hmq] at hq1
              have hr : decide (num ((([] : List UInt8) ++ R).drop m) ≠ 0) = true := decide_eq_true (HREST.out.2 (.inl hu1))
              have hkf := HKF.out
              rw [hr] at hkf
              have hL : L2 = fin m (([] : List UInt8) ++ R) false := HFIN.out false
              have hL' : L2.set 20 49 = fin m (([] : List UInt8) ++ R) true := HFIN.out true
              have hcv := cv_fin hm19 HD.out hkf
              rw [← hL'] at hcv
              have HCV := hidden hcv
              have h20 : L2[20]? = some 48 := by rw [hL]; exact fin_20 m _ false hm19
              have hc0 := HS.out.cell 20 48 h20
              have hf0 := HS.out.fz 20
              have HLL := hidden (show (L2.set 20 49).length = 21 by rw [List.length_set]; exact HLL.out)
              have HS := hidden (HS.out.set 20 49)
              have hrow := HS.out.row
              have hret := HS.out.ret
              clear hr hkf hL hL' hcv h20 hu1 hmq
              go_wp2_with (first
                | (refine wpList_load_row rfl 40 _ rfl (w.heap.size + 1 + 1) rfl 40 _ (0, 0) _ hrow Tryd.underlying40 rfl (by exact szc _ HLL.out) ?_)
                | (refine wpList_store_row rfl 40 _ _ rfl (w.heap.size + 1) _ rfl rfl 40 _ hret (by exact szc _ HLL.out) (by exact szo _ _ (by simp) HLL.out) (bcl_one _) ?_))
              refine bodyPost_ret (results_cell_row rfl _ _ (w.heap.size + 1) 40 _ (0, 0) _ rfl (setRow_heap _ _ _ _ _ _ hret) Tryd.underlying40 rfl (by exact szc _ HLL.out)) rfl ?_
              refine ⟨?_, below_setRow HS.out.bel (by omega) _⟩
              rw [HCV.out]
      · have hkey := HKP.out.1 (by rw [← HW.out]; exact hW0)
        rw [← HW.out] at hkey
        have hfst := unled_first wh HDW.out (by rw [← HW.out]; exact hW0) fr
        rw [← HW.out] at hfst
        have hmtW : W.isEmpty = false := by simpa using hW0
        rw [hmtW] at hmt
        obtain ⟨R, hR⟩ : ∃ R, fr = R := ⟨_, rfl⟩
        subst hR
        obtain ⟨a, hav⟩ : ∃ a : Int, (W.length : Int) + E = a := ⟨_, rfl⟩
        rw [hav] at hkey
        have ha1 : -1099513000000 ≤ a := by omega
        have ha2 : a ≤ 1099513000000 := by omega
        have HKA := hidden hkey
        have HH := hidden hfst
        have HDR := hidden HDF.out
        clear hkey hfst hmtW hW0
        by_cases ha : 19 < a
        · have hc0 := HS.out.cell 0 48 rfl
          have hf0 := HS.out.fz 0
          have hK : cv K = (bcl ((List.replicate 21 (48 : UInt8)).set 0 49)).toArray := by
            rw [cv_bcl, ← HKA.out, key_big _ (W ++ fr).length _ HH.out.1 HH.out.2 (by omega), colB_cap]
          have HKK := hidden hK
          have hS := HS.out.set 0 49
          have hrow := hS.row
          have hret := hS.ret
          have HBL := hidden hS.bel
          clear hK hS
          go_wp2_with
            (first
            | (refine wpList_load_row rfl 40 _ rfl (w.heap.size + 1 + 1) rfl 40 _ (0, 0) _ hrow Tryd.underlying40 rfl (by exact szc _ (by simp)) ?_)
            | (refine wpList_store_row rfl 40 _ _ rfl (w.heap.size + 1) _ rfl rfl 40 _ hret (by exact szc _ (by simp)) (by exact szo _ _ (by simp) (by simp)) (bcl_one _) ?_))
          refine bodyPost_ret (results_cell_row rfl _ _ (w.heap.size + 1) 40 _ (0, 0) _ rfl (setRow_heap _ _ _ _ _ _ hret) Tryd.underlying40 rfl (by exact szc _ (by simp))) rfl ?_
          refine ⟨?_, below_setRow HBL.out (by omega) _⟩
          rw [HKK.out]
        · obtain ⟨m, hm⟩ : ∃ m, m = a.toNat := ⟨_, rfl⟩
          have hmx : max a 0 = (m : Int) := by omega
          have hm19 : m ≤ 19 := by omega
          have hal := HAL.out
          obtain ⟨n1, hn1⟩ : ∃ n1, n1 = min m W.length := ⟨_, rfl⟩
          obtain ⟨n2, hn2⟩ : ∃ n2, n2 = min (m - n1) fr.length := ⟨_, rfl⟩
          have hn1m : n1 ≤ m := by omega
          have hn1w : n1 ≤ W.length := by omega
          have hn2m : n2 ≤ m - n1 := by omega
          have hn2r : n2 ≤ fr.length := by omega
          have e1 : n1 = (W.take m).length := by rw [List.length_take, hn1]
          have e2 : n2 = (fr.take (m - n1)).length := by rw [List.length_take, hn2]
          obtain ⟨L1, hL1⟩ : ∃ L1, L1 = (List.replicate 21 (48 : UInt8)).take (20 - m) ++ (W.take m ++ (List.replicate 21 (48 : UInt8)).drop (20 - m + n1)) := ⟨_, rfl⟩
          obtain ⟨L2, hL2⟩ : ∃ L2, L2 = L1.take (20 - m + n1) ++ (fr.take (m - n1) ++ L1.drop (20 - m + n1 + n2)) := ⟨_, rfl⟩
          have hl1 : L1.length = 21 := by
            rw [hL1, List.length_append, List.length_append, ← e1, List.length_take, List.length_drop, List.length_replicate]
            omega
          have hl2 : L2.length = 21 := by
            rw [hL2, List.length_append, List.length_append, ← e2, List.length_take, List.length_drop, hl1]
            omega
          have hfin := fun r => lay_two W fr m hm19 r L1 L2 (by rw [← e1]; exact hL1) (by rw [← e1, ← e2]; exact hL2)
          have hrest := rest_nought W fr HDW1.out HDR.out m
          rw [← hn1, ← hn2] at hrest
          have hkf := key_fin (W ++ fr) a (fun c hc => (List.mem_append.1 hc).elim (HDW1.out c) (HDR.out c)) (by omega)
          rw [← hm, HKA.out] at hkf
          have hsl := run_cols (w.heap.size + 1 + 1) m hm19
          have hsl2 := run_cut (w.heap.size + 1 + 1) (20 - m) m n1 hn1m
          have hsW := run_from W n1 hn1w
          have hsR := run_from fr n2 hn2r
          have hrow := HS.out.row
          have HFIN := hidden hfin
          have HREST := hidden hrest
          have HKF := hidden hkf
          have HL1 := hidden hL1
          have HL2 := hidden hL2
          have HN1 := hidden hn1
          have HN2 := hidden hn2
          have HLL := hidden hl2
          have HRL := hidden hl1
          clear hm hfin hrest hkf hL1 hL2 hn1 hn2 e1 e2 hl1 hl2 hal
          go_wp2_with (first
            | (refine wpList_copy_text rfl (.tmp 54) (.tmp 55) 56 9 rfl 5 Tryd.underlying56 (by kernel_rfl) _ m _ W rfl rfl (w.heap.size + 1 + 1) (20 - m) _ L1 40 hrow n1 HN1.out HL1.out (fun _ => rfl) (by rw [List.length_replicate]; omega) ?_)
            | (refine wpList_copy_text rfl (.tmp 59) (.tmp 60) 56 9 rfl 5 Tryd.underlying56 (by kernel_rfl) _ (m - n1) _ fr rfl rfl (w.heap.size + 1 + 1) (20 - m + n1) L1 L2 40 (setRow_heap _ _ _ _ _ _ hrow) n2 HN2.out HL2.out (fun _ => rfl) (by rw [HRL.out]; omega) ?_))
          have HS := hidden ((HS.out.copy L1).copy L2)
          generalize hw5 : (w2.setRow (w.heap.size + 1 + 1) (bcl L1).toArray).setRow (w.heap.size + 1 + 1) (bcl L2).toArray = w5 at HS ⊢
          clear hw5 hrow hsl hsl2
          refine (unled_any (W.drop n1) _).mono ?_
          rintro e w6 ⟨rfl, rfl⟩
          have hD : ∀ c ∈ W ++ fr, dig c = true := fun c hc => (List.mem_append.1 hc).elim (HDW1.out c) (HDR.out c)
          have HD := hidden hD
          clear hD
          have hq1 := str_mt (unled (W.drop n1))
          by_cases hu1 : unled (W.drop n1) = []
          · rw [hu1, List.isEmpty_nil] at hq1
            rw [hu1]
            go_wp2_with fail
            refine (unled_any (fr.drop n2) _).mono ?_
            rintro e w7 ⟨rfl, rfl⟩
            have hq2 := str_mt (unled (fr.drop n2))
            by_cases hu2 : unled (fr.drop n2) = []
            · rw [hu2, List.isEmpty_nil] at hq2
              rw [hu2]
              have hr : decide (num ((W ++ fr).drop m) ≠ 0) = false := decide_eq_false (fun h => (HREST.out.1 h).elim (fun h => h hu1) (fun h => h hu2))
              have hkf := HKF.out
              rw [hr] at hkf
              have hL : L2 = fin m (W ++ fr) false := HFIN.out false
              have hcv := cv_fin hm19 HD.out hkf
              rw [← hL] at hcv
              have HCV := hidden hcv
              have hrow := HS.out.row
              have hret := HS.out.ret
              have HLL2 := HLL
              clear hr hkf hL hcv hu1 hu2
              go_wp2_with (first
                | (refine wpList_load_row rfl 40 _ rfl (w.heap.size + 1 + 1) rfl 40 _ (0, 0) _ hrow Tryd.underlying40 rfl (by exact szc _ HLL.out) ?_)
                | (refine wpList_store_row rfl 40 _ _ rfl (w.heap.size + 1) _ rfl rfl 40 _ hret (by exact szc _ HLL.out) (by exact szo _ _ (by simp) HLL.out) (bcl_one _) ?_))
              refine bodyPost_ret (results_cell_row rfl _ _ (w.heap.size + 1) 40 _ (0, 0) _ rfl (setRow_heap _ _ _ _ _ _ hret) Tryd.underlying40 rfl (by exact szc _ HLL.out)) rfl ?_
              refine ⟨?_, below_setRow HS.out.bel (by omega) _⟩
              rw [HCV.out]
            · have hmq : (unled (fr.drop n2)).isEmpty = false := by simpa using hu2
              rw [hmq] at hq2
              have hr : decide (num ((W ++ fr).drop m) ≠ 0) = true := decide_eq_true (HREST.out.2 (.inr hu2))
              have hkf := HKF.out
              rw [hr] at hkf
              have hL : L2 = fin m (W ++ fr) false := HFIN.out false
              have hL' : L2.set 20 49 = fin m (W ++ fr) true := HFIN.out true
              have hcv := cv_fin hm19 HD.out hkf
              rw [← hL'] at hcv
              have HCV := hidden hcv
              have h20 : L2[20]? = some 48 := by rw [hL]; exact fin_20 m _ false hm19
              have hc0 := HS.out.cell 20 48 h20
              have hf0 := HS.out.fz 20
              have HLL := hidden (show (L2.set 20 49).length = 21 by rw [List.length_set]; exact HLL.out)
              have HS := hidden (HS.out.set 20 49)
              have hrow := HS.out.row
              have hret := HS.out.ret
              clear hr hkf hL hL' hcv h20 hu1 hu2 hmq
              go_wp2_with (first
                | (refine wpList_load_row rfl 40 _ rfl (w.heap.size + 1 + 1) rfl 40 _ (0, 0) _ hrow Tryd.underlying40 rfl (by exact szc _ HLL.out) ?_)
                | (refine wpList_store_row rfl 40 _ _ rfl (w.heap.size + 1) _ rfl rfl 40 _ hret (by exact szc _ HLL.out) (by exact szo _ _ (by simp) HLL.out) (bcl_one _) ?_))
              refine bodyPost_ret (results_cell_row rfl _ _ (w.heap.size + 1) 40 _ (0, 0) _ rfl (setRow_heap _ _ _ _ _ _ hret) Tryd.underlying40 rfl (by exact szc _ HLL.out)) rfl ?_
              refine ⟨?_, below_setRow HS.out.bel (by omega) _⟩
              rw [HCV.out]
          · have hmq : (unled (W.drop n1)).isEmpty = false := by simpa using hu1
            rw [hmq] at hq1
            have hr : decide (num ((W ++ fr).drop m) ≠ 0) = true := decide_eq_true (HREST.out.2 (.inl hu1))
            have hkf := HKF.out
            rw [hr] at hkf
            have hL : L2 = fin m (W ++ fr) false := HFIN.out false
            have hL' : L2.set 20 49 = fin m (W ++ fr) true := HFIN.out true
            have hcv := cv_fin hm19 HD.out hkf
            rw [← hL'] at hcv
            have HCV := hidden hcv
            have h20 : L2[20]? = some 48 := by rw [hL]; exact fin_20 m _ false hm19
            have hc0 := HS.out.cell 20 48 h20
            have hf0 := HS.out.fz 20
            have HLL := hidden (show (L2.set 20 49).length = 21 by rw [List.length_set]; exact HLL.out)
            have HS := hidden (HS.out.set 20 49)
            have hrow := HS.out.row
            have hret := HS.out.ret
            clear hr hkf hL hL' hcv h20 hu1 hmq
            go_wp2_with (first
              | (refine wpList_load_row rfl 40 _ rfl (w.heap.size + 1 + 1) rfl 40 _ (0, 0) _ hrow Tryd.underlying40 rfl (by exact szc _ HLL.out) ?_)
              | (refine wpList_store_row rfl 40 _ _ rfl (w.heap.size + 1) _ rfl rfl 40 _ hret (by exact szc _ HLL.out) (by exact szo _ _ (by simp) HLL.out) (bcl_one _) ?_))
            refine bodyPost_ret (results_cell_row rfl _ _ (w.heap.size + 1) 40 _ (0, 0) _ rfl (setRow_heap _ _ _ _ _ _ hret) Tryd.underlying40 rfl (by exact szc _ HLL.out)) rfl ?_
            refine ⟨?_, below_setRow HS.out.bel (by omega) _⟩
            rw [HCV.out]
end Go.Proofs.YthimbaflodphmaaDoor
