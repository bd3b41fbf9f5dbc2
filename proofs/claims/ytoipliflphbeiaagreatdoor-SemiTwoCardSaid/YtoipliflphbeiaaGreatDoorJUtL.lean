/-
  Bytes that a call owns, also those that []byte(s) has laid (their row bears a mark behind its end): read as a string, appended to by one byte.
  The contract of laceworkref09's part: of one to three bytes whether some scalar's bytes begin so, and go on; nothing that was there is changed.
  The contracts of laceworkref09's Right and Live: of every string of at most 300 bytes; nothing that was there is changed.
-/
import Derived.ArgAppend
import Derived.RegionTactic
import Derived.Deep.AppendLies
import Derived.WalkMore
import Derived.Deep.RegionHeldLaw
import Derived.Deep.RegionLaw
import Derived.Test.YtoipliflphbeiaaGreatDoorC00
import Derived.Test.YtoipliflphbeiaaGreatDoorJUt
namespace Go.Proofs.YtoipliflphbeiaaGreatDoor
open Go.RowKit
/-- The slice v holds the bytes l, in a row of its own from block B on. -/
def Ob (w : World) (B : Nat) (v : Value) (n : Nat) (l : List UInt8) : Prop :=
  ∃ g cap cur fr, v = .slice (some ⟨g, 0, none⟩) n cap ∧ n = l.length ∧ B ≤ g ∧ w.heap[g]? = some (.cells cur 5 fr) ∧ n ≤ cap ∧ cap ≤ cur.size ∧ (fr.2 ≤ n ∨ cap ≤ fr.1) ∧ cur.toList.take n = Ut.bc l
theorem Ob.lt {w : World} {B n : Nat} {v : Value} {l : List UInt8} (h : Ob w B v n l) : ∀ k, v.ownBlock = some k → B ≤ k ∧ k < w.heap.size := by
  obtain ⟨g, cap, cur, fr, rfl, _, hB, hg, _⟩ := h
  intro k hk
  simp only [Value.ownBlock, Option.some.injEq] at hk
  subst hk
  exact ⟨hB, (Array.getElem?_eq_some_iff.1 hg).1⟩
theorem Ob.shape {w : World} {B n : Nat} {v : Value} {l : List UInt8} (h : Ob w B v n l) : ∃ g cap, v = .slice (some ⟨g, 0, none⟩) n cap := by
  obtain ⟨g, cap, cur, fr, rfl, _⟩ := h
  exact ⟨g, cap, rfl⟩
/-- It stays so where its block stays. -/
theorem Ob.same {w w' : World} {B n : Nat} {v : Value} {l : List UInt8} (h : Ob w B v n l) (hs : ∀ k, v.ownBlock = some k → w'.heap[k]? = w.heap[k]?) : Ob w' B v n l := by
  obtain ⟨g, cap, cur, fr, rfl, h1, hB, hg, rest⟩ := h
  exact ⟨g, cap, cur, fr, rfl, h1, hB, by rw [hs g rfl]; exact hg, rest⟩
theorem Ob.alloc {w : World} {B n : Nat} {v : Value} {l : List UInt8} (h : Ob w B v n l) (o : Obj) : Ob (w.alloc o) B v n l :=
  h.same fun k hk => Below.heap_alloc w o k (h.lt k hk).2
theorem Ob.drew {w : World} {B n : Nat} {v : Value} {l : List UInt8} (h : Ob w B v n l) : Ob w.drew B v n l := h.same fun _ _ => rfl
/-- string(v). -/
theorem Ob.string {w : World} {B n : Nat} {v : Value} {l : List UInt8} (h : Ob w B v n l) : Sem.run Tryz.prog (convert 38 9 v) w = .ok (.string ⟨l.toArray⟩) w := by
  obtain ⟨g, cap, cur, fr, rfl, hn, hB, hg, h1, h2, h3, h4⟩ := h
  subst hn
  refine run_convert_bytes_back w 38 9 5 ⟨g, 0, none⟩ cap l Tryz.underlying38 Tryz.underlying5 Tryz.underlying9 ?_
  intro j hj
  have e : (⟨g, 0, none⟩ : Addr).add j = ⟨g, j, none⟩ := by cases j <;> simp [Addr.add]
  have h5 : (Ut.bc l)[j]? = some (.int .u8 (l[j].toNat : Int)) := by
    unfold Ut.bc
    rw [List.getElem?_map, List.getElem?_eq_getElem hj]
    rfl
  rw [e, Lib.cell_of_heap hg, ← Array.getElem?_toList, ← h5, ← h4, List.getElem?_take, if_pos hj]
/-- []byte(s). -/
theorem Ob.of_string (w : World) (s : ByteArray) (cap : Nat) (h : s.size ≤ cap) : Ob (w.alloc (.cells (bytesRow s cap) 5 ((bytesRow s cap).size, (bytesRow s cap).size + 1))).drew w.heap.size (.slice (some ⟨w.heap.size, 0, none⟩) s.size cap) s.size s.data.toList := by
  have hz : (bytesRow s cap).size = cap := by
    unfold bytesRow
    rw [Array.size_append, Array.size_map, Array.size_replicate]
    show s.size + (cap - s.size) = cap
    omega
  refine Ob.drew ⟨w.heap.size, cap, bytesRow s cap, _, rfl, rfl, Nat.le_refl _, heap_alloc_new _ _, h, by omega, .inr (by rw [hz]; exact Nat.le_refl _), ?_⟩
  unfold bytesRow Ut.bc
  rw [Array.toList_append, List.take_append_of_le_length (by rw [Array.length_toList, Array.size_map]; exact Nat.le_refl _), Array.toList_map, List.take_of_length_le (by rw [List.length_map]; exact Nat.le_refl _)]
section
variable (w : World)
theorem run_append_ob (t ty : TypeId) (ht : t = 38) (B : Nat) (v : Value) (n : Nat) (l : List UInt8) (h : Ob w B v n l) (k c : Nat) (b : UInt8) (fr2 : Nat × Nat) (hk : w.heap[k]? = some (.cells #[.int .u8 (b.toNat : Int)] 5 fr2)) (hn : n ≤ 1000) (hB : B ≤ w.heap.size) :
    ∃ g cap w', (Builtin.append_ #[t, t] ty #[v, .slice (some ⟨k, 0, none⟩) 1 c]).run Tryz.prog w = .ok (.slice (some ⟨g, 0, none⟩) (n + 1) cap) w' ∧ Ob w' B (.slice (some ⟨g, 0, none⟩) (n + 1) cap) (n + 1) (l ++ [b]) ∧ w.grownBy w' v.ownBlock := by
  subst ht
  obtain ⟨i0, hi, hz0, hz1, hz2⟩ := info_parts Tryz.infoU8
  have hold := h
  obtain ⟨g, cap, cur, fr, rfl, hl, hBg, hg, h1, h2, h3, h4⟩ := h
  have hbl : Ut.bc (l ++ [b]) = Ut.bc l ++ [.int .u8 (b.toNat : Int)] := by
    unfold Ut.bc
    rw [List.map_append]
    rfl
  have hnews : ∀ j u, [Value.int .u8 (b.toNat : Int)][j]? = some u → w.cell? ((⟨k, 0, none⟩ : Addr).add j) = some u := World.news_of_block hk
  have h1c : ∀ u ∈ [Value.int .u8 (b.toNat : Int)], u.oneCell' = true := by
    intro u hu
    simp at hu
    subst hu
    rfl
  by_cases hroom : n + 1 ≤ cap
  · have hlt : n < cur.size := by omega
    have hr := run_append_room_cells (P := Tryz.prog) w 38 ty 5 i0 Tryz.underlying38 hi g 0 n cap ⟨k, 0, none⟩ 1 c [.int .u8 (b.toNat : Int)] (by rw [hz1]; rfl) hnews h1c hroom
      (fun j hj => by
        obtain rfl : j = 0 := by simpa using hj
        rw [hz1, Lib.cell_of_heap hg, Array.getElem?_eq_getElem (by omega)]
        rfl)
      (fun j hj => by
        obtain rfl : j = 0 := by simpa using hj
        rw [hz1]
        unfold World.frozen?
        rw [hg]
        simp only [Bool.and_eq_false_iff, decide_eq_false_iff_not]
        omega)
    rw [hz1, Nat.mul_one, Nat.zero_add] at hr
    have hset : (w.setCells g n [.int .u8 (b.toNat : Int)]).heap[g]? = some (.cells (cur.setIfInBounds n (.int .u8 (b.toNat : Int))) 5 fr) := usetCell_heap_same w g n cur _ fr _ hg
    refine ⟨g, cap, _, hr, ⟨g, cap, _, fr, rfl, by rw [List.length_append, hl]; rfl, hBg, hset, hroom, by rw [Array.size_setIfInBounds]; exact h2, by omega, ?_⟩, ?_⟩
    · rw [hbl, ← h4, Array.toList_setIfInBounds]
      rw [List.take_add_one, List.take_set_of_le (Nat.le_refl _), List.getElem?_set_self (by rw [Array.length_toList]; exact hlt)]
      rfl
    · refine ⟨rfl, rfl, rfl, ?_, fun i hi2 hne => ?_⟩
      · show w.heap.size ≤ (w.setCell ⟨g, n, none⟩ _).heap.size
        simp [World.setCell]
      · show (w.setCell ⟨g, n, none⟩ _).heap[i]? = _
        exact Below.heap_setCell w _ _ i (fun e => hne (by rw [e]; rfl))
  · have hcap : cap = n := by omega
    have holds : ∀ j u, (Ut.bc l)[j]? = some u → w.cell? ((⟨g, 0, none⟩ : Addr).add j) = some u := by
      intro j u hj
      have e : (⟨g, 0, none⟩ : Addr).add j = ⟨g, j, none⟩ := by cases j <;> simp [Addr.add]
      rw [e, Lib.cell_of_heap hg, ← Array.getElem?_toList]
      rw [← h4, List.getElem?_take] at hj
      split at hj
      · exact hj
      · cases hj
    obtain ⟨v', w', hr, hown, hgr⟩ := run_append_arg_grows (P := Tryz.prog) w 38 ty 5 i0 (.int .u8 0) 1 1 Tryz.underlying38 hi hz0 hz1 hz2 rfl (by decide) ⟨g, 0, none⟩ n cap (Ut.bc l) (by rw [Ut.bc_length, hl, Nat.mul_one]) holds ⟨k, 0, none⟩ 1 c [.int .u8 (b.toNat : Int)] rfl hnews (by omega) (by unfold maxLen; omega) (by omega)
    rcases hown.2 with ⟨_, h0⟩ | ⟨g', cap', cur', rfl, hB', hg', hn', _, hs', ht'⟩
    · omega
    · refine ⟨g', cap', w', hr, ⟨g', cap', cur', (0, 0), rfl, by rw [List.length_append, hl]; rfl, by omega, hg', hn', by omega, .inl (Nat.zero_le _), ?_⟩, ?_⟩
      · rw [Nat.mul_one] at ht'
        rw [hbl]
        exact ht'
      · exact ⟨hgr.os, hgr.tape, hgr.output, hgr.size, fun i hi2 _ => hgr.block i hi2 (by simp)⟩
theorem wp_append_ob {o : Oper} {a : Act} {K : Act → World → Prop} {Q : Exit → Act → World → Prop} (s x : Operand) (t : TypeId) (ht : t = 38)
    (ho : o.op = .call { callee := .builtin .append, args := #[s, x], argTypes := #[t, t] })
    (B : Nat) (v : Value) (n : Nat) (l : List UInt8) (hs : a.eval s = v) (hown : Ob w B v n l)
    (k c : Nat) (b : UInt8) (fr2 : Nat × Nat) (hx : a.eval x = .slice (some ⟨k, 0, none⟩) 1 c) (hk : w.heap[k]? = some (.cells #[.int .u8 (b.toNat : Int)] 5 fr2)) (hn : n ≤ 1000) (hB : B ≤ w.heap.size)
    (h : ∀ g cap w', Ob w' B (.slice (some ⟨g, 0, none⟩) (n + 1) cap) (n + 1) (l ++ [b]) → w.grownBy w' v.ownBlock → K (a.put o.dst (.slice (some ⟨g, 0, none⟩) (n + 1) cap)) w') : o.wp Tryz.prog a w K Q := by
  obtain ⟨g, cap, w', hr, h2, h3⟩ := run_append_ob w t o.type ht B v n l hown k c b fr2 hk hn hB
  unfold Oper.wp execOp
  simp only [ho, resolve, invoke, builtin, Sem.run_bind, Sem.run_pure, Result.andThen_ok, List.map_toArray, List.map_cons, List.map_nil, hs, hx, hr]
  exact h g cap w' h2 h3
theorem wpList_append_ob {ops : Array Oper} {rest : List Oper} {o : Oper} {a : Act} {Q : Exit → Act → World → Prop} (hgd : o.guard = none) (s x : Operand) (t : TypeId) (ht : t = 38)
    (ho : o.op = .call { callee := .builtin .append, args := #[s, x], argTypes := #[t, t] })
    (B : Nat) (v : Value) (n : Nat) (l : List UInt8) (hs : a.eval s = v) (hown : Ob w B v n l)
    (k c : Nat) (b : UInt8) (fr2 : Nat × Nat) (hx : a.eval x = .slice (some ⟨k, 0, none⟩) 1 c) (hk : w.heap[k]? = some (.cells #[.int .u8 (b.toNat : Int)] 5 fr2)) (hn : n ≤ 1000) (hB : B ≤ w.heap.size)
    (h : ∀ g cap w', Ob w' B (.slice (some ⟨g, 0, none⟩) (n + 1) cap) (n + 1) (l ++ [b]) → w.grownBy w' v.ownBlock → wpList Tryz.prog ops Q rest (a.put o.dst (.slice (some ⟨g, 0, none⟩) (n + 1) cap)) w') : wpList Tryz.prog ops Q (o :: rest) a w :=
  wpList_plain hgd fun _ hK => wp_append_ob w s x t ht ho B v n l hs hown k c b fr2 hx hk hn hB fun g cap w' h2 h3 => hK _ _ (h g cap w' h2 h3)
theorem step_append_ob {ops : Array Oper} {o : Oper} {a : Act} {K : Act → World → Prop} {Q : Exit → Act → World → Prop} {E : Prop} (hgd : o.guard = none) (s x : Operand) (t : TypeId) (ht : t = 38)
    (ho : o.op = .call { callee := .builtin .append, args := #[s, x], argTypes := #[t, t] })
    (B : Nat) (v : Value) (n : Nat) (l : List UInt8) (hs : a.eval s = v) (hown : Ob w B v n l)
    (k c : Nat) (b : UInt8) (fr2 : Nat × Nat) (hx : a.eval x = .slice (some ⟨k, 0, none⟩) 1 c) (hk : w.heap[k]? = some (.cells #[.int .u8 (b.toNat : Int)] 5 fr2)) (hn : n ≤ 1000) (hB : B ≤ w.heap.size)
    (h : ∀ g cap w', Ob w' B (.slice (some ⟨g, 0, none⟩) (n + 1) cap) (n + 1) (l ++ [b]) → w.grownBy w' v.ownBlock → K (a.put o.dst (.slice (some ⟨g, 0, none⟩) (n + 1) cap)) w') :
    if Region.wanted o (yielded ops a.tmps) = true then Oper.wp Tryz.prog o a w K Q else E := by
  have hw : Region.wanted o (yielded ops a.tmps) = true := by simp [Region.wanted, hgd]
  rw [if_pos hw]
  exact wp_append_ob w s x t ht ho B v n l hs hown k c b fr2 hx hk hn hB h
end
end Go.Proofs.YtoipliflphbeiaaGreatDoor
namespace Go.Proofs.YtoipliflphbeiaaGreatDoor
open Go.RowKit
def lenV : Value → Nat | .slice _ n _ => n | _ => 0
theorem two_at (w : World) (a o : Obj) : ((w.alloc a).alloc o).drew.heap[w.heap.size + 1]? = some o := by
  show ((w.alloc a).alloc o).heap[w.heap.size + 1]? = some o
  exact uheap_new_at (by simp)
theorem two_size (w : World) (a o : Obj) (B : Nat) (h : B ≤ w.heap.size) : B ≤ ((w.alloc a).alloc o).drew.heap.size := by
  show B ≤ ((w.alloc a).alloc o).heap.size
  simp
  omega
theorem two_below {B : Nat} {w w' : World} (h : Below B w w') (hs : B ≤ w'.heap.size) (a o : Obj) : Below B w ((w'.alloc a).alloc o).drew := ((h.alloc hs _).alloc (by simp; omega) _).drew
theorem below_grown {B : Nat} {w w' w'' : World} {v : Value} (h : Below B w w') (hg : w'.grownBy w'' v.ownBlock) (hs : B ≤ w'.heap.size) (hv : ∀ k, v.ownBlock = some k → B ≤ k) : Below B w w'' := h.grown hg hs hv
set_option maxHeartbeats 4000000 in
set_option maxRecDepth 100000 in
theorem upart_any (s : ByteArray) (w : World) (h0 : 0 < s.size) (h3 : s.size ≤ 3) :
    Calls Tryz.prog 183 #[.string s] w fun e w' => e = .returned (.bool (Ut.parB s.data.toList)) ∧ Below w.heap.size w w' := by
  have hcv : ∀ u : World, Sem.run Tryz.prog (convert 9 38 (.string s)) u = .ok (.slice (some ⟨u.heap.size, 0, none⟩) s.size (grownCap u s.size 0 5)) (u.drew.alloc (.cells (bytesRow s (grownCap u s.size 0 5)) 5 ((bytesRow s (grownCap u s.size 0 5)).size, (bytesRow s (grownCap u s.size 0 5)).size + 1))) := fun u => run_bytes_of_string u 9 38 5 s Tryz.underlying9 Tryz.underlying38 Tryz.underlying5
  obtain ⟨p, hp⟩ : ∃ p, p = s.data.toList := ⟨_, rfl⟩
  have hpl : p.length = s.size := by rw [hp]; rfl
  obtain ⟨N, hN⟩ : ∃ N, N = s.size := ⟨_, rfl⟩
  have HOF := hidden (fun u cap h => Ob.of_string u s cap h)
  rw [← hp, ← hN] at HOF
  rw [← hp]
  rw [← hN] at hpl h0 h3 hcv
  have HPL := hidden hpl
  have HN := hidden hN
  have hsz : s.size = N := hN.symm
  clear hp hpl hN
  go_enter Tryz.func183, Tryz.ntmps183
  go_wp2_with fail
  obtain ⟨w1, hw1⟩ : ∃ w1 : World, w1 = (w.alloc (.cells #[.int .u8 128, .int .u8 160, .int .u8 144] 5)).alloc (.cells #[.int .u8 191, .int .u8 159, .int .u8 143] 5) := ⟨_, rfl⟩
  rw [← hw1]
  have HB1 : Hid (Below w.heap.size w w1) := by
    show Below _ _ _
    rw [hw1]
    exact ((Below.refl _ _).alloc (Nat.le_refl _) _).alloc (by simp) _
  have hL : w1.heap[w.heap.size]? = some (.cells #[.int .u8 128, .int .u8 160, .int .u8 144] 5 (0, 0)) := by
    rw [hw1, Below.heap_alloc _ _ _ (by simp), heap_alloc_new]
  have hH : w1.heap[w.heap.size + 1]? = some (.cells #[.int .u8 191, .int .u8 159, .int .u8 143] 5 (0, 0)) := by
    rw [hw1]
    exact uheap_new_at (by simp)
  have HL : Hid (∀ wr i, Below w1.heap.size w1 wr → i < 3 → wr.cell? ⟨w.heap.size, i, none⟩ = some (.int .u8 ((Ut.plo i).toNat : Int))) := fun wr i hb hi => by
    rw [hb.cell (p := ⟨w.heap.size, i, none⟩) (lt_of_block hL), Lib.cell_of_heap hL]
    obtain rfl | rfl | rfl : i = 0 ∨ i = 1 ∨ i = 2 := by omega
    all_goals rfl
  have HH : Hid (∀ wr i, Below w1.heap.size w1 wr → i < 3 → wr.cell? ⟨w.heap.size + 1, i, none⟩ = some (.int .u8 ((Ut.phi i).toNat : Int))) := fun wr i hb hi => by
    rw [hb.cell (p := ⟨w.heap.size + 1, i, none⟩) (lt_of_block hH), Lib.cell_of_heap hH]
    obtain rfl | rfl | rfl : i = 0 ∨ i = 1 ∨ i = 2 := by omega
    all_goals rfl
  clear hL hH hw1
  go_loopw [5] (fun v wr => ∃ i : Nat, i ≤ 3 ∧ v = .int .i64 (i : Nat) ∧ Below w1.heap.size w1 wr ∧ ∀ i' k j, i' < i → k < 3 → 0 < j → N + j ≤ 4 → Ut.Ms p i' k j) (fun v _ => 3 - (intOf v).toNat)
  case atStart => exact ⟨0, by omega, rfl, Below.refl _ _, fun i' k j h => by omega⟩
  case round =>
    obtain ⟨i, hi, rfl, hb, hm⟩ := hrel
    have HB := hidden hb
    have HM := hidden hm
    clear hb hm
    by_cases hlt : i < 3
    · have hi3 : (i : Int) < 3 := by omega
      have HLT := hidden hlt
      clear hlt hi
      go_wp2_with fail
      go_hide hQ
      go_loopw [6] (fun v wr2 => ∃ k : Nat, k ≤ 3 ∧ v = .int .i64 (k : Nat) ∧ Below w1.heap.size w1 wr2 ∧ ∀ k' j, k' < k → 0 < j → N + j ≤ 4 → Ut.Ms p i k' j) (fun v _ => 3 - (intOf v).toNat)
      case atStart => exact ⟨0, by omega, rfl, HB.out, fun k' j h => by omega⟩
      case round =>
        obtain ⟨k, hk, rfl, hb, hm⟩ := hrel
        have HB2 := hidden hb
        have HM2 := hidden hm
        clear hb hm
        by_cases hlt2 : k < 3
        · have hk3 : (k : Int) < 3 := by omega
          have HLT2 := hidden hlt2
          clear hlt2 hk
          go_wp2_with fail
          go_hide hQ2
          go_loopw [7] (fun v wr3 => ∃ r : Nat, N + r ≤ 4 ∧ v = .int .i64 ((N : Int) + 1 + (r : Int)) ∧ Below w1.heap.size w1 wr3 ∧ ∀ j, 0 < j → j ≤ r → Ut.Ms p i k j) (fun v _ => 5 - (intOf v).toNat)
          case atStart => exact ⟨0, by omega, by simp, HB2.out, fun j h1 h2 => by omega⟩
          case round =>
            obtain ⟨r, hr, rfl, hb, hm⟩ := hrel
            have HB3 := hidden hb
            have HM3 := hidden hm
            clear hb hm
            by_cases hlt3 : N + 1 + r ≤ 4
            · have hr4 : (N : Int) + 1 + (r : Int) ≤ 4 := by omega
              have HLT3 := hidden hlt3
              clear hlt3 hr
              go_wp2_with fail
              have hge := grownCap_ge wr N 0 5
              obtain ⟨C, hC⟩ : ∃ C, C = grownCap wr N 0 5 := ⟨_, rfl⟩
              rw [← hC] at hge
              rw [← hC]
              have hO := HOF.out wr C hge
              have hsw := HB3.out.size
              have HB4 : Hid (Below w1.heap.size w1 (wr.alloc (.cells (bytesRow s C) 5 ((bytesRow s C).size, (bytesRow s C).size + 1))).drew) := (HB3.out.alloc hsw _).drew
              obtain ⟨wz, hwz⟩ : ∃ wz, wz = (wr.alloc (.cells (bytesRow s C) 5 ((bytesRow s C).size, (bytesRow s C).size + 1))).drew := ⟨_, rfl⟩
              rw [← hwz] at hO HB4
              rw [← hwz]
              have HO4 : Hid (Ob wz w1.heap.size (.slice (some ⟨wr.heap.size, 0, none⟩) N C) N p) := by
                obtain ⟨g, cap, cur, fr, e1, e2, e3, e4⟩ := hO
                exact ⟨g, cap, cur, fr, e1, e2, Nat.le_trans hsw e3, e4⟩
              clear hO hwz hC hge hsw
              go_hide hQ3
              go_loopw [8] (fun v wr4 => ∃ e n : Nat, e ≤ r + 1 ∧ n = N + e ∧ Ob wr4 w1.heap.size v n (Ut.ext (Ut.px i k) p e) ∧ Below w1.heap.size w1 wr4) (fun v _ => N + r + 1 - lenV v)
              case atStart => exact ⟨0, N, by omega, by omega, HO4.out, HB4.out⟩
              case round =>
                obtain ⟨e, n, he, hn, hob, hb⟩ := hrel
                have HB5 := hidden hb
                have HO5 := hidden hob
                obtain ⟨g, cap, hv⟩ := hob.shape
                subst hv
                have hsz5 := hb.size
                clear hb hob
                by_cases hlt4 : e < r + 1
                · have hnm : (n : Int) < (N : Int) + 1 + (r : Int) := by omega
                  have HNE := hidden hn
                  clear hn
                  by_cases h1 : n = 1
                  · have d0 := HL.out wr i HB5.out HLT.out
                    have d1 := HH.out wr i HB5.out HLT.out
                    have i0 : (0 : Int) ≤ (i : Int) := by omega
                    have hn1 : ((n : Int) == 1) = true := by rw [h1]; rfl
                    have H1 := hidden h1
                    clear h1
                    have HX : Hid (Ut.ext (Ut.px i k) p (e + 1) = Ut.ext (Ut.px i k) p e ++ [Ut.px i k]) := by
                      show Ut.ext (Ut.px i k) p e ++ [_] = _
                      rw [Ut.ext_length, HPL.out, ← HNE.out, if_pos H1.out]
                    have hk2 : (k : Int).tmod 2 = 0 ∧ Ut.px i k = Ut.plo i ∨ (k : Int).tmod 2 = 1 ∧ Ut.px i k = Ut.phi i := by
                      have e2 : (k : Int).tmod 2 = ((k % 2 : Nat) : Int) := rfl
                      unfold Ut.px
                      rw [e2]
                      by_cases h2 : k % 2 = 0
                      · exact .inl ⟨by omega, if_pos h2⟩
                      · exact .inr ⟨by omega, if_neg h2⟩
                    obtain ⟨A, hA⟩ : ∃ A, A = Ut.plo i := ⟨_, rfl⟩
                    obtain ⟨D, hD⟩ : ∃ D, D = Ut.phi i := ⟨_, rfl⟩
                    rw [← hA] at hk2 d0
                    rw [← hD] at hk2 d1
                    obtain ⟨x, hx⟩ : ∃ x, x = Ut.px i k := ⟨_, rfl⟩
                    rw [← hx] at hk2 HX HO5
                    have HXE := hidden hx
                    clear hA hD hx
                    rcases hk2 with ⟨hk2, hxa⟩ | ⟨hk2, hxa⟩
                    · have HXA := hidden hxa
                      clear hxa
                      go_wp2_with fail
                      subst hQ3
                      subst hQ2
                      subst hQ
                      go_region_law ((refine step_append_ob _ rfl (.tmp 37) (.tmp 51) 38 rfl rfl w1.heap.size (.slice (some ⟨g, 0, none⟩) n cap) n (Ut.ext x p e) rfl (by exact ((HO5.out.alloc _).alloc _).drew) _ 1 A _ rfl (by exact two_at _ _ _) (by omega) (by exact two_size _ _ _ _ hsz5) ?_; intro g2 cap2 w5 hob5 hgr5; have HO6 := hidden hob5; have HB6 : Hid (Below w1.heap.size w1 w5) := below_grown (two_below HB5.out hsz5 _ _) hgr5 (two_size _ _ _ _ hsz5) (fun q e => (HO5.out.lt q e).1); clear hob5 hgr5))
                      all_goals go_simp
                      all_goals
                        (go_roundw
                         case rel =>
                           have hob6 := HO6.out
                           rw [← HXA.out, ← HX.out, HXE.out] at hob6
                           repeat apply Exists.intro
                           exact ⟨⟨e + 1, n + 1, by omega, by have := HNE.out; omega, hob6, HB6.out⟩, rfl⟩
                         case measure => have := HNE.out; simp [lenV]; omega)
                    · have HXA := hidden hxa
                      clear hxa
                      go_wp2_with fail
                      subst hQ3
                      subst hQ2
                      subst hQ
                      go_region_law ((refine step_append_ob _ rfl (.tmp 37) (.tmp 51) 38 rfl rfl w1.heap.size (.slice (some ⟨g, 0, none⟩) n cap) n (Ut.ext x p e) rfl (by exact ((HO5.out.alloc _).alloc _).drew) _ 1 D _ rfl (by exact two_at _ _ _) (by omega) (by exact two_size _ _ _ _ hsz5) ?_; intro g2 cap2 w5 hob5 hgr5; have HO6 := hidden hob5; have HB6 : Hid (Below w1.heap.size w1 w5) := below_grown (two_below HB5.out hsz5 _ _) hgr5 (two_size _ _ _ _ hsz5) (fun q e => (HO5.out.lt q e).1); clear hob5 hgr5))
                      all_goals go_simp
                      all_goals
                        (go_roundw
                         case rel =>
                           have hob6 := HO6.out
                           rw [← HXA.out, ← HX.out, HXE.out] at hob6
                           repeat apply Exists.intro
                           exact ⟨⟨e + 1, n + 1, by omega, by have := HNE.out; omega, hob6, HB6.out⟩, rfl⟩
                         case measure => have := HNE.out; simp [lenV]; omega)
                  · have hn1 : ((n : Int) == 1) = false := by rw [beq_eq_false_iff_ne]; omega
                    have HX : Hid (Ut.ext (Ut.px i k) p (e + 1) = Ut.ext (Ut.px i k) p e ++ [128]) := by
                      show Ut.ext (Ut.px i k) p e ++ [_] = _
                      rw [Ut.ext_length, HPL.out, ← HNE.out, if_neg h1]
                    have H1 := hidden h1
                    clear h1
                    go_wp2_with (at_builtin; refine wpList_append_ob _ rfl (.tmp 53) (.tmp 54) 38 rfl rfl w1.heap.size (.slice (some ⟨g, 0, none⟩) n cap) n (Ut.ext (Ut.px i k) p e) rfl (by exact HO5.out.alloc _) _ 1 128 _ rfl (by exact heap_alloc_new _ _) (by omega) (by simp; omega) ?_; intro g2 cap2 w5 hob5 hgr5; have HO6 := hidden hob5; have HB6 : Hid (Below w1.heap.size w1 w5) := (HB5.out.alloc hsz5 _).grown hgr5 (by simp; omega) (fun q e => (HO5.out.lt q e).1); clear hob5 hgr5)
                    go_roundw
                    case rel => exact ⟨e + 1, n + 1, by omega, by have := HNE.out; omega, by rw [HX.out]; exact HO6.out, HB6.out⟩
                    case measure => have := HNE.out; simp [lenV]; omega
                · obtain rfl : e = r + 1 := by omega
                  have hnm : (n : Int) = (N : Int) + 1 + (r : Int) := by omega
                  have hnm2 : ¬ ((n : Int) < (N : Int) + 1 + (r : Int)) := by omega
                  have hcs := HO5.out.string
                  obtain ⟨L, hL⟩ : ∃ L, L = Ut.ext (Ut.px i k) p (r + 1) := ⟨_, rfl⟩
                  have hll : L.length = N + (r + 1) := by rw [hL, Ut.ext_length, HPL.out]
                  have HRS := hidden (fun w => rScalar_any ⟨L.toArray⟩ w (by show L.length ≤ _; omega))
                  rw [← hL] at hcs
                  have hsc : (Ut.sc L).2 = Ut.ld 0 L := by
                    unfold Ut.sc
                    split
                    · rename_i h; exact h.symm
                    · rfl
                  have HLQ := hidden hL
                  have HNE := hidden hn
                  have HNM := hidden hnm
                  obtain ⟨F, hF⟩ : ∃ F, F = (Ut.sc L).1 := ⟨_, rfl⟩
                  obtain ⟨G, hG⟩ : ∃ G, G = (Ut.sc L).2 := ⟨_, rfl⟩
                  have hRS : ∀ w, Calls Tryz.prog 163 #[.string ⟨L.toArray⟩] w fun e w' => e = .returned (.tuple #[.int .i64 (F : Nat), .int .i64 (G : Nat)]) ∧ Below w.heap.size w w' := by
                    rw [hF, hG]
                    exact HRS.out
                  have HRS2 := hidden hRS
                  have HG : Hid (G = Ut.ld 0 (Ut.ext (Ut.px i k) p (r + 1))) := by
                    show _ = _
                    rw [hG, hsc, HLQ.out]
                  clear hL hll HRS hsc hn hnm hF hG hRS
                  by_cases hit : G = N + (r + 1)
                  · have hgi : ((G : Int) == (N : Int) + 1 + (r : Int)) = true := by rw [beq_iff_eq]; omega
                    have HPAR : Hid (Ut.Par p) := Ut.par_of_hit (Ut.px i k) p (r + 1) (by rw [HPL.out]; exact h0) (by omega) (by rw [HPL.out, ← HG.out]; exact hit)
                    clear hit
                    go_wp2_with fail
                    subst hQ3
                    go_wp2_with fail
                    refine (HRS2.out _).mono ?_
                    rintro e w5 ⟨rfl, hq⟩
                    have HB7 : Hid (Below w1.heap.size w1 w5) := HB5.out.trans (hq.mono hsz5)
                    clear hq
                    go_wp2_with fail
                    subst hQ2
                    go_wp2_with fail
                    subst hQ
                    go_wp2_with fail
                    go_ret
                    rw [Ut.parB_yes p HPAR.out]
                    exact ⟨rfl, HB1.out.trans (HB7.out.mono HB1.out.size)⟩
                  · have hgi : ((G : Int) == (N : Int) + 1 + (r : Int)) = false := by rw [beq_eq_false_iff_ne]; omega
                    have HMS : Hid (∀ j, 0 < j → j ≤ r + 1 → Ut.Ms p i k j) := fun j h1 h2 => by
                      by_cases h3 : j ≤ r
                      · exact HM3.out j h1 h3
                      · obtain rfl : j = r + 1 := by omega
                        unfold Ut.Ms
                        rw [HPL.out, ← HG.out]
                        exact hit
                    clear hit
                    go_wp2_with fail
                    subst hQ3
                    go_wp2_with fail
                    refine (HRS2.out _).mono ?_
                    rintro e w5 ⟨rfl, hq⟩
                    have HB7 : Hid (Below w1.heap.size w1 w5) := HB5.out.trans (hq.mono hsz5)
                    clear hq
                    go_wp2_with fail
                    go_roundw
                    case rel => exact ⟨r + 1, by have := HLT3.out; omega, by go_num, HB7.out, HMS.out⟩
                    case measure => have := HLT3.out; simp [intOf]; omega
            · have hr4 : ¬ ((N : Int) + 1 + (r : Int) ≤ 4) := by omega
              have HMS : Hid (∀ k' j, k' < k + 1 → 0 < j → N + j ≤ 4 → Ut.Ms p i k' j) := fun k' j h1 h2 h3 => by
                by_cases h4 : k' < k
                · exact HM2.out k' j h4 h2 h3
                · obtain rfl : k' = k := by omega
                  exact HM3.out j h2 (by omega)
              clear hlt3 hr
              go_wp2_with fail
              subst hQ2
              go_wp2_with fail
              go_roundw
              case rel => exact ⟨k + 1, by have := HLT2.out; omega, by go_num, HB3.out, HMS.out⟩
              case measure => have := HLT2.out; simp [intOf]; omega
        · have hk3 : ¬ ((k : Int) < 3) := by omega
          have HMS : Hid (∀ i' k j, i' < i + 1 → k < 3 → 0 < j → N + j ≤ 4 → Ut.Ms p i' k j) := fun i' k' j h1 h2 h3 h4 => by
            by_cases h5 : i' < i
            · exact HM.out i' k' j h5 h2 h3 h4
            · obtain rfl : i' = i := by omega
              exact HM2.out k' j (by omega) h3 h4
          clear hlt2 hk
          go_wp2_with fail
          subst hQ
          go_wp2_with fail
          go_roundw
          case rel => exact ⟨i + 1, by have := HLT.out; omega, by go_num, HB2.out, HMS.out⟩
          case measure => have := HLT.out; simp [intOf]; omega
    · have hi3 : ¬ ((i : Int) < 3) := by omega
      have HNP : Hid (¬ Ut.Par p) := fun hpar => by
        obtain ⟨i', k', j', h1, h2, h4, h5, h6⟩ := Ut.hit_of_par p (by rw [HPL.out]; exact h0) (by rw [HPL.out]; exact h3) hpar
        rw [HPL.out] at h5
        exact h6 (HM.out i' k' j' (by omega) h2 h4 h5)
      clear hlt hi
      go_wp2_with fail
      go_ret
      rw [Ut.parB_no p HNP.out]
      exact ⟨rfl, HB1.out.trans (HB.out.mono HB1.out.size)⟩
end Go.Proofs.YtoipliflphbeiaaGreatDoor
namespace Go.Proofs.YtoipliflphbeiaaGreatDoor
open Go.RowKit
namespace Ut
theorem sc_snd (l : List UInt8) : (sc l).2 = ld 0 l := by
  unfold sc
  split
  · rename_i h
    exact h.symm
  · rfl
theorem at_next (l : List UInt8) (a : Nat) (ha : a ≤ l.length) (h : run 0 (l.take a) = 0) (h2 : ld 0 (l.drop a) ≠ 0) : a + ld 0 (l.drop a) ≤ l.length ∧ run 0 (l.take (a + ld 0 (l.drop a))) = 0 := by
  have h3 := ld_le 0 (l.drop a)
  rw [List.length_drop] at h3
  refine ⟨by omega, ?_⟩
  rw [List.take_add, run_append, h]
  exact (ld_some 0 _ h2).1
theorem at_alive (l : List UInt8) (a : Nat) (ha : a ≤ l.length) (h : run 0 (l.take a) = 0) : alive 0 l = a + alive 0 (l.drop a) := by
  have := run_alive 0 (l.take a) (l.drop a) (by rw [h]; decide)
  rw [List.take_append_drop, h, List.length_take, Nat.min_eq_left ha] at this
  exact this
end Ut
theorem rScalar_from (s : ByteArray) (a b : Nat) (w : World) (hs : s.size ≤ 300) (hb : b = s.size) : ∃ F : Nat, 
    Calls Tryz.prog 163 #[.string (s.extract a b)] w fun e w' => e = .returned (.tuple #[.int .i64 (F : Nat), .int .i64 ((Ut.ld 0 (s.data.toList.drop a) : Nat) : Int)]) ∧ Below w.heap.size w w' := by
  subst hb
  have h := rScalar_any (s.extract a s.size) w (by rw [ByteArray.size_extract]; omega)
  rw [Ut.extract_list, Ut.sc_snd, List.take_of_length_le (by rw [List.length_drop]; exact Nat.le_refl _)] at h
  exact ⟨_, h⟩
theorem part_from (s : ByteArray) (a b k : Nat) (w : World) (hb : b = a + k + 1) (hs : b ≤ s.size) (hk : k < 3) (h : Ut.ld 0 (s.data.toList.drop a) = 0) :
    Calls Tryz.prog 183 #[.string (s.extract a b)] w fun e w' => e = .returned (.bool (decide (k + 1 ≤ Ut.alive 0 (s.data.toList.drop a)))) ∧ Below w.heap.size w w' := by
  subst hb
  have hl : s.data.toList.length = s.size := rfl
  have hp := upart_any (s.extract a (a + k + 1)) w (by rw [ByteArray.size_extract]; omega) (by rw [ByteArray.size_extract]; omega)
  rw [Ut.extract_list, show a + k + 1 - a = k + 1 from by omega] at hp
  have := Ut.par_take (s.data.toList.drop a) k h (by rw [List.length_drop, hl]; omega)
  rw [Ut.parB_iff _ _ this] at hp
  exact hp
set_option maxHeartbeats 2000000 in
theorem rLive_any (s : ByteArray) (w : World) (hs : s.size ≤ 300) :
    Calls Tryz.prog 164 #[.string s] w fun e w' => e = .returned (.int .i64 ((Ut.alive 0 s.data.toList : Nat) : Int)) ∧ Below w.heap.size w w' := by
  have HS : Hid (s.data.toList.length = s.size) := hidden rfl
  go_enter Tryz.func164, Tryz.ntmps164
  go_wp2_with fail
  go_loopw [3] (fun v wr => ∃ a : Nat, a ≤ s.size ∧ v = .int .i64 (a : Nat) ∧ Ut.run 0 (s.data.toList.take a) = 0 ∧ Below w.heap.size w wr) (fun v _ => s.size - (intOf v).toNat)
  case atStart => exact ⟨0, Nat.zero_le _, rfl, rfl, Below.refl _ _⟩
  case round =>
    obtain ⟨a, ha, rfl, hr, hb⟩ := hrel
    have HR := hidden hr
    have HB := hidden hb
    have hal := Ut.at_alive s.data.toList a (by rw [HS.out]; exact ha) hr
    have hml := Ut.alive_le 0 (s.data.toList.drop a)
    rw [List.length_drop, HS.out] at hml
    clear hr hb
    obtain ⟨M, hM⟩ : ∃ M, M = Ut.alive 0 (s.data.toList.drop a) := ⟨_, rfl⟩
    rw [← hM] at hal hml
    have HA := hidden hal
    have HMQ := hidden hM
    clear hal
    by_cases hz : Ut.ld 0 (s.data.toList.drop a) = 0
    · have hm3 := Ut.alive_three _ hz
      rw [← hM] at hm3
      have HPT : Hid (∀ k b w, b = a + k + 1 → b ≤ s.size → k < 3 → Calls Tryz.prog 183 #[.string (s.extract a b)] w fun e w' => e = .returned (.bool (decide (k + 1 ≤ M))) ∧ Below w.heap.size w w') := fun k b w h1 h2 h3 => by
        have := part_from s a b k w h1 h2 h3 hz
        rw [← HMQ.out] at this
        exact this
      clear hM
      by_cases hlt : a < s.size
      · obtain ⟨F, hF⟩ := rScalar_from s a s.size wr hs rfl
        rw [hz] at hF
        have HF := hidden hF
        have hlt2 : (a : Int) < (s.size : Int) := by omega
        have HLT := hidden hlt
        clear hF hz hlt
        go_wp2_with fail
        refine HF.out.mono ?_
        rintro e w1 ⟨rfl, hq⟩
        have HQ := hidden (HB.out.trans (hq.mono HB.out.size))
        clear hq
        go_wp2_with fail
        go_loopw [6] (fun v wr2 => ∃ k : Nat, k ≤ M ∧ v = .int .i64 (k : Nat) ∧ Below w.heap.size w wr2) (fun v _ => M - (intOf v).toNat)
        case atStart => exact ⟨0, Nat.zero_le _, rfl, HQ.out⟩
        case round =>
          obtain ⟨k, hk, rfl, hb2⟩ := hrel
          have HB2 := hidden hb2
          clear hb2
          by_cases hk3 : (k : Int) < 3
          · by_cases hks : (a : Int) + (k : Int) < (s.size : Int)
            · by_cases hkm : k < M
              · have HKM := hidden hkm
                clear hkm
                go_wp2_with fail
                refine (HPT.out k _ _ (by omega) (by omega) (by omega)).mono ?_
                rw [decide_eq_true (show k + 1 ≤ M from HKM.out)]
                rintro e w5 ⟨rfl, hq⟩
                have HQ5 := hidden (HB2.out.trans (hq.mono HB2.out.size))
                clear hq
                go_wp2_with fail
                go_roundw
                case rel => exact ⟨k + 1, HKM.out, by go_num, HQ5.out⟩
                case measure => have := HKM.out; simp [intOf]; omega
              · obtain rfl : k = M := by omega
                clear hkm
                go_wp2_with fail
                refine (HPT.out k _ _ (by omega) (by omega) (by omega)).mono ?_
                rw [decide_eq_false (show ¬ k + 1 ≤ k from by omega)]
                rintro e w5 ⟨rfl, hq⟩
                have HQ5 := hidden (HB2.out.trans (hq.mono HB2.out.size))
                clear hq
                go_wp2_with fail
                go_ret
                rw [HA.out]
                exact ⟨ret_int (by omega), HQ5.out⟩
            · obtain rfl : k = M := by omega
              go_wp2_with fail
              go_ret
              rw [HA.out]
              exact ⟨ret_int (by omega), HB2.out⟩
          · obtain rfl : k = M := by omega
            go_wp2_with fail
            go_ret
            rw [HA.out]
            exact ⟨ret_int (by omega), HB2.out⟩
      · have hlt2 : ¬ ((a : Int) < (s.size : Int)) := by omega
        clear hz hlt
        go_wp2_with fail
        go_loopw [6] (fun v wr2 => ∃ k : Nat, k ≤ M ∧ v = .int .i64 (k : Nat) ∧ Below w.heap.size w wr2) (fun v _ => M - (intOf v).toNat)
        case atStart => exact ⟨0, Nat.zero_le _, rfl, HB.out⟩
        case round =>
          obtain ⟨k, hk, rfl, hb2⟩ := hrel
          have HB2 := hidden hb2
          clear hb2
          by_cases hk3 : (k : Int) < 3
          · by_cases hks : (a : Int) + (k : Int) < (s.size : Int)
            · by_cases hkm : k < M
              · have HKM := hidden hkm
                clear hkm
                go_wp2_with fail
                refine (HPT.out k _ _ (by omega) (by omega) (by omega)).mono ?_
                rw [decide_eq_true (show k + 1 ≤ M from HKM.out)]
                rintro e w5 ⟨rfl, hq⟩
                have HQ5 := hidden (HB2.out.trans (hq.mono HB2.out.size))
                clear hq
                go_wp2_with fail
                go_roundw
                case rel => exact ⟨k + 1, HKM.out, by go_num, HQ5.out⟩
                case measure => have := HKM.out; simp [intOf]; omega
              · obtain rfl : k = M := by omega
                clear hkm
                go_wp2_with fail
                refine (HPT.out k _ _ (by omega) (by omega) (by omega)).mono ?_
                rw [decide_eq_false (show ¬ k + 1 ≤ k from by omega)]
                rintro e w5 ⟨rfl, hq⟩
                have HQ5 := hidden (HB2.out.trans (hq.mono HB2.out.size))
                clear hq
                go_wp2_with fail
                go_ret
                rw [HA.out]
                exact ⟨ret_int (by omega), HQ5.out⟩
            · obtain rfl : k = M := by omega
              go_wp2_with fail
              go_ret
              rw [HA.out]
              exact ⟨ret_int (by omega), HB2.out⟩
          · obtain rfl : k = M := by omega
            go_wp2_with fail
            go_ret
            rw [HA.out]
            exact ⟨ret_int (by omega), HB2.out⟩
    · have hlt : a < s.size := by
        rcases Nat.lt_or_ge a s.size with h | h
        · exact h
        · exfalso
          apply hz
          rw [List.drop_of_length_le (by rw [HS.out]; exact h)]
          rfl
      obtain ⟨F, hF⟩ := rScalar_from s a s.size wr hs rfl
      have HF := hidden hF
      clear hF
      have hn := Ut.at_next s.data.toList a (by rw [HS.out]; exact ha) HR.out hz
      obtain ⟨G, hG⟩ : ∃ G, G = Ut.ld 0 (s.data.toList.drop a) := ⟨_, rfl⟩
      rw [← hG] at HF hn hz
      rw [HS.out] at hn
      have HNX := hidden hn.2
      have hle := hn.1
      have hg0 : ((G : Int) == 0) = false := by rw [beq_eq_false_iff_ne]; omega
      have HZ := hidden hz
      clear hn hG hM hz
      go_wp2_with fail
      refine HF.out.mono ?_
      rintro e w1 ⟨rfl, hq⟩
      have HQ := hidden (HB.out.trans (hq.mono HB.out.size))
      clear hq
      go_wp2_with fail
      go_roundw
      case rel => exact ⟨a + G, hle, by go_num, HNX.out, HQ.out⟩
      case measure => have := HZ.out; simp [intOf]; omega
end Go.Proofs.YtoipliflphbeiaaGreatDoor
