/-
  Bytes that a call owns, also those that []byte(s) has laid (their row bears a mark behind its end): read as a string, appended to by one byte.
-/
import Derived.ArgAppend
import Derived.RegionTactic
import Derived.Deep.AppendLies
import Derived.Test.YtifkemcjificcaaUtPar
import Derived.Test.YtifkemcjificcaaUtRefP
namespace Go.Proofs.Ytifkemcjificcaa
open Go.RowKit
/-- The slice v holds the bytes l, in a row of its own from block B on. -/
def Ob (w : World) (B : Nat) (v : Value) (n : Nat) (l : List UInt8) : Prop :=
  ∃ g cap cur fr, v = .slice (some ⟨g, 0, none⟩) n cap ∧ n = l.length ∧ B ≤ g ∧ w.heap[g]? = some (.cells cur 5 fr) ∧ n ≤ cap ∧ cap ≤ cur.size ∧ (fr.2 ≤ n ∨ cap ≤ fr.1) ∧ cur.toList.take n = Ut.bc l
theorem Ob.lt {w : World} {B n : Nat} {v : Value} {l : List UInt8} (h : Ob w B v n l) : ∀ k, v.ownBlock = some k → B ≤ k ∧ k < w.heap.size := by
  obtain ⟨g, cap, cur, fr, rfl, _, hB, hg, _⟩ := h
  intro k hk
  simp only [Value.ownBlock, Option.some.injEq] at hk
  subst hk
  exact ⟨hB, (Array.getElem?_eq_some_iff.1 hg).1⟩
theorem Ob.shape {w : World} {B n : Nat} {v : Value} {l : List UInt8} (h : Ob w B v n l) : ∃ g cap, v = .slice (some ⟨g, 0, none⟩) n cap := by
  obtain ⟨g, cap, cur, fr, rfl, _⟩ := h
  exact ⟨g, cap, rfl⟩
/-- It stays so where its block stays. -/
theorem Ob.same {w w' : World} {B n : Nat} {v : Value} {l : List UInt8} (h : Ob w B v n l) (hs : ∀ k, v.ownBlock = some k → w'.heap[k]? = w.heap[k]?) : Ob w' B v n l := by
  obtain ⟨g, cap, cur, fr, rfl, h1, hB, hg, rest⟩ := h
  exact ⟨g, cap, cur, fr, rfl, h1, hB, by rw [hs g rfl]; exact hg, rest⟩
theorem Ob.alloc {w : World} {B n : Nat} {v : Value} {l : List UInt8} (h : Ob w B v n l) (o : Obj) : Ob (w.alloc o) B v n l :=
  h.same fun k hk => Below.heap_alloc w o k (h.lt k hk).2
theorem Ob.drew {w : World} {B n : Nat} {v : Value} {l : List UInt8} (h : Ob w B v n l) : Ob w.drew B v n l := h.same fun _ _ => rfl
/-- string(v). -/
theorem Ob.string {w : World} {B n : Nat} {v : Value} {l : List UInt8} (h : Ob w B v n l) : Sem.run Try.prog (convert 47 9 v) w = .ok (.string ⟨l.toArray⟩) w := by
  obtain ⟨g, cap, cur, fr, rfl, hn, hB, hg, h1, h2, h3, h4⟩ := h
  subst hn
  refine run_convert_bytes_back w 47 9 5 ⟨g, 0, none⟩ cap l Try.underlying47 Try.underlying5 Try.underlying9 ?_
  intro j hj
  have e : (⟨g, 0, none⟩ : Addr).add j = ⟨g, j, none⟩ := by cases j <;> simp [Addr.add]
  have h5 : (Ut.bc l)[j]? = some (.int .u8 (l[j].toNat : Int)) := by
    unfold Ut.bc
    rw [List.getElem?_map, List.getElem?_eq_getElem hj]
    rfl
  rw [e, Lib.cell_of_heap hg, ← Array.getElem?_toList, ← h5, ← h4, List.getElem?_take, if_pos hj]
/-- []byte(s). -/
theorem Ob.of_string (w : World) (s : ByteArray) (cap : Nat) (h : s.size ≤ cap) : Ob (w.alloc (.cells (bytesRow s cap) 5 ((bytesRow s cap).size, (bytesRow s cap).size + 1))).drew w.heap.size (.slice (some ⟨w.heap.size, 0, none⟩) s.size cap) s.size s.data.toList := by
  have hz : (bytesRow s cap).size = cap := by
    unfold bytesRow
    rw [Array.size_append, Array.size_map, Array.size_replicate]
    show s.size + (cap - s.size) = cap
    omega
  refine Ob.drew ⟨w.heap.size, cap, bytesRow s cap, _, rfl, rfl, Nat.le_refl _, heap_alloc_new _ _, h, by omega, .inr (by rw [hz]; exact Nat.le_refl _), ?_⟩
  unfold bytesRow Ut.bc
  rw [Array.toList_append, List.take_append_of_le_length (by rw [Array.length_toList, Array.size_map]; exact Nat.le_refl _), Array.toList_map, List.take_of_length_le (by rw [List.length_map]; exact Nat.le_refl _)]
section
variable (w : World)
theorem run_append_ob (t ty : TypeId) (ht : t = 47) (B : Nat) (v : Value) (n : Nat) (l : List UInt8) (h : Ob w B v n l) (k c : Nat) (b : UInt8) (fr2 : Nat × Nat) (hk : w.heap[k]? = some (.cells #[.int .u8 (b.toNat : Int)] 5 fr2)) (hn : n ≤ 1000) (hB : B ≤ w.heap.size) :
    ∃ g cap w', (Builtin.append_ #[t, t] ty #[v, .slice (some ⟨k, 0, none⟩) 1 c]).run Try.prog w = .ok (.slice (some ⟨g, 0, none⟩) (n + 1) cap) w' ∧ Ob w' B (.slice (some ⟨g, 0, none⟩) (n + 1) cap) (n + 1) (l ++ [b]) ∧ w.grownBy w' v.ownBlock := by
  subst ht
  obtain ⟨i0, hi, hz0, hz1, hz2⟩ := info_parts Try.infoU8
  have hold := h
  obtain ⟨g, cap, cur, fr, rfl, hl, hBg, hg, h1, h2, h3, h4⟩ := h
  have hbl : Ut.bc (l ++ [b]) = Ut.bc l ++ [.int .u8 (b.toNat : Int)] := by
    unfold Ut.bc
    rw [List.map_append]
    rfl
  have hnews : ∀ j u, [Value.int .u8 (b.toNat : Int)][j]? = some u → w.cell? ((⟨k, 0, none⟩ : Addr).add j) = some u := World.news_of_block hk
  have h1c : ∀ u ∈ [Value.int .u8 (b.toNat : Int)], u.oneCell' = true := by
    intro u hu
    simp at hu
    subst hu
    rfl
  by_cases hroom : n + 1 ≤ cap
  · have hlt : n < cur.size := by omega
    have hr := run_append_room_cells (P := Try.prog) w 47 ty 5 i0 Try.underlying47 hi g 0 n cap ⟨k, 0, none⟩ 1 c [.int .u8 (b.toNat : Int)] (by rw [hz1]; rfl) hnews h1c hroom
      (fun j hj => by
        obtain rfl : j = 0 := by simpa using hj
        rw [hz1, Lib.cell_of_heap hg, Array.getElem?_eq_getElem (by omega)]
        rfl)
      (fun j hj => by
        obtain rfl : j = 0 := by simpa using hj
        rw [hz1]
        unfold World.frozen?
        rw [hg]
        simp only [Bool.and_eq_false_iff, decide_eq_false_iff_not]
        omega)
    rw [hz1, Nat.mul_one, Nat.zero_add] at hr
    have hset : (w.setCells g n [.int .u8 (b.toNat : Int)]).heap[g]? = some (.cells (cur.setIfInBounds n (.int .u8 (b.toNat : Int))) 5 fr) := usetCell_heap_same w g n cur _ fr _ hg
    refine ⟨g, cap, _, hr, ⟨g, cap, _, fr, rfl, by rw [List.length_append, hl]; rfl, hBg, hset, hroom, by rw [Array.size_setIfInBounds]; exact h2, by omega, ?_⟩, ?_⟩
    · rw [hbl, ← h4, Array.toList_setIfInBounds]
      rw [List.take_add_one, List.take_set_of_le (Nat.le_refl _), List.getElem?_set_self (by rw [Array.length_toList]; exact hlt)]
      rfl
    · refine ⟨rfl, rfl, rfl, ?_, fun i hi2 hne => ?_⟩
      · show w.heap.size ≤ (w.setCell ⟨g, n, none⟩ _).heap.size
        simp [World.setCell]
      · show (w.setCell ⟨g, n, none⟩ _).heap[i]? = _
        exact Below.heap_setCell w _ _ i (fun e => hne (by rw [e]; rfl))
  · have hcap : cap = n := by omega
    have holds : ∀ j u, (Ut.bc l)[j]? = some u → w.cell? ((⟨g, 0, none⟩ : Addr).add j) = some u := by
      intro j u hj
      have e : (⟨g, 0, none⟩ : Addr).add j = ⟨g, j, none⟩ := by cases j <;> simp [Addr.add]
      rw [e, Lib.cell_of_heap hg, ← Array.getElem?_toList]
      rw [← h4, List.getElem?_take] at hj
      split at hj
      · exact hj
      · cases hj
    obtain ⟨v', w', hr, hown, hgr⟩ := run_append_arg_grows (P := Try.prog) w 47 ty 5 i0 (.int .u8 0) 1 1 Try.underlying47 hi hz0 hz1 hz2 rfl (by decide) ⟨g, 0, none⟩ n cap (Ut.bc l) (by rw [Ut.bc_length, hl, Nat.mul_one]) holds ⟨k, 0, none⟩ 1 c [.int .u8 (b.toNat : Int)] rfl hnews (by omega) (by unfold maxLen; omega) (by omega)
    rcases hown.2 with ⟨_, h0⟩ | ⟨g', cap', cur', rfl, hB', hg', hn', _, hs', ht'⟩
    · omega
    · refine ⟨g', cap', w', hr, ⟨g', cap', cur', (0, 0), rfl, by rw [List.length_append, hl]; rfl, by omega, hg', hn', by omega, .inl (Nat.zero_le _), ?_⟩, ?_⟩
      · rw [Nat.mul_one] at ht'
        rw [hbl]
        exact ht'
      · exact ⟨hgr.os, hgr.tape, hgr.output, hgr.size, fun i hi2 _ => hgr.block i hi2 (by simp)⟩
theorem wp_append_ob {o : Oper} {a : Act} {K : Act → World → Prop} {Q : Exit → Act → World → Prop} (s x : Operand) (t : TypeId) (ht : t = 47)
    (ho : o.op = .call { callee := .builtin .append, args := #[s, x], argTypes := #[t, t] })
    (B : Nat) (v : Value) (n : Nat) (l : List UInt8) (hs : a.eval s = v) (hown : Ob w B v n l)
    (k c : Nat) (b : UInt8) (fr2 : Nat × Nat) (hx : a.eval x = .slice (some ⟨k, 0, none⟩) 1 c) (hk : w.heap[k]? = some (.cells #[.int .u8 (b.toNat : Int)] 5 fr2)) (hn : n ≤ 1000) (hB : B ≤ w.heap.size)
    (h : ∀ g cap w', Ob w' B (.slice (some ⟨g, 0, none⟩) (n + 1) cap) (n + 1) (l ++ [b]) → w.grownBy w' v.ownBlock → K (a.put o.dst (.slice (some ⟨g, 0, none⟩) (n + 1) cap)) w') : o.wp Try.prog a w K Q := by
  obtain ⟨g, cap, w', hr, h2, h3⟩ := run_append_ob w t o.type ht B v n l hown k c b fr2 hk hn hB
  unfold Oper.wp execOp
  simp only [ho, resolve, invoke, builtin, Sem.run_bind, Sem.run_pure, Result.andThen_ok, List.map_toArray, List.map_cons, List.map_nil, hs, hx, hr]
  exact h g cap w' h2 h3
theorem wpList_append_ob {ops : Array Oper} {rest : List Oper} {o : Oper} {a : Act} {Q : Exit → Act → World → Prop} (hgd : o.guard = none) (s x : Operand) (t : TypeId) (ht : t = 47)
    (ho : o.op = .call { callee := .builtin .append, args := #[s, x], argTypes := #[t, t] })
    (B : Nat) (v : Value) (n : Nat) (l : List UInt8) (hs : a.eval s = v) (hown : Ob w B v n l)
    (k c : Nat) (b : UInt8) (fr2 : Nat × Nat) (hx : a.eval x = .slice (some ⟨k, 0, none⟩) 1 c) (hk : w.heap[k]? = some (.cells #[.int .u8 (b.toNat : Int)] 5 fr2)) (hn : n ≤ 1000) (hB : B ≤ w.heap.size)
    (h : ∀ g cap w', Ob w' B (.slice (some ⟨g, 0, none⟩) (n + 1) cap) (n + 1) (l ++ [b]) → w.grownBy w' v.ownBlock → wpList Try.prog ops Q rest (a.put o.dst (.slice (some ⟨g, 0, none⟩) (n + 1) cap)) w') : wpList Try.prog ops Q (o :: rest) a w :=
  wpList_plain hgd fun _ hK => wp_append_ob w s x t ht ho B v n l hs hown k c b fr2 hx hk hn hB fun g cap w' h2 h3 => hK _ _ (h g cap w' h2 h3)
theorem step_append_ob {ops : Array Oper} {o : Oper} {a : Act} {K : Act → World → Prop} {Q : Exit → Act → World → Prop} {E : Prop} (hgd : o.guard = none) (s x : Operand) (t : TypeId) (ht : t = 47)
    (ho : o.op = .call { callee := .builtin .append, args := #[s, x], argTypes := #[t, t] })
    (B : Nat) (v : Value) (n : Nat) (l : List UInt8) (hs : a.eval s = v) (hown : Ob w B v n l)
    (k c : Nat) (b : UInt8) (fr2 : Nat × Nat) (hx : a.eval x = .slice (some ⟨k, 0, none⟩) 1 c) (hk : w.heap[k]? = some (.cells #[.int .u8 (b.toNat : Int)] 5 fr2)) (hn : n ≤ 1000) (hB : B ≤ w.heap.size)
    (h : ∀ g cap w', Ob w' B (.slice (some ⟨g, 0, none⟩) (n + 1) cap) (n + 1) (l ++ [b]) → w.grownBy w' v.ownBlock → K (a.put o.dst (.slice (some ⟨g, 0, none⟩) (n + 1) cap)) w') :
    if Region.wanted o (yielded ops a.tmps) = true then Oper.wp Try.prog o a w K Q else E := by
  have hw : Region.wanted o (yielded ops a.tmps) = true := by simp [Region.wanted, hgd]
  rw [if_pos hw]
  exact wp_append_ob w s x t ht ho B v n l hs hown k c b fr2 hx hk hn hB h
end
end Go.Proofs.Ytifkemcjificcaa
