/-
  The contract of laceworkref10's Of: a whole number's digits, in new memory; nothing that was there is changed.
-/
import Derived.Lib.Builder
import Derived.Lib.ItoaNum
import Derived.Laws.ResultCell
import Derived.Laws.Rows
import Derived.Laws.AppendOwn
import Derived.Maps.AppendAt
import Derived.Deep.RegionLaw
import Derived.Test.YthimbaflodphmaaDoorNuText
namespace Go.Proofs.YthimbaflodphmaaDoor
open Go.RowKit
open Nu
namespace Nu
/-- Numbers as cells. -/
def iv (l : List Int) : List Value := l.map (Value.int .i64)
theorem iv_append (a b : List Int) : iv (a ++ b) = iv a ++ iv b := List.map_append
theorem iv_length (l : List Int) : (iv l).length = l.length := List.length_map ..
/-- A number's first k digits from its end on; all its digits. -/
def bk (u k : Nat) : List Int := (List.range k).map fun j => ((u / 10 ^ j % 10 : Nat) : Int)
def dgs (u : Nat) : List Int := (bk u (Lib.nDigits u)).reverse
theorem bk_length (u k : Nat) : (bk u k).length = k := by simp [bk]
theorem bk_succ (u k : Nat) : bk u (k + 1) = bk u k ++ [((u / 10 ^ k % 10 : Nat) : Int)] := by
  rw [bk, List.range_succ, List.map_append]
  rfl
theorem dgs_length (u : Nat) : (dgs u).length = Lib.nDigits u := by rw [dgs, List.length_reverse, bk_length]
theorem bk_at (u k j : Nat) (h : j < k) : (bk u k)[j]? = some ((u / 10 ^ j % 10 : Nat) : Int) := by
  rw [bk, List.getElem?_map, List.getElem?_range h]
  rfl
theorem dgs_at (u i : Nat) (h : i < Lib.nDigits u) : (dgs u)[i]? = some ((u / 10 ^ (Lib.nDigits u - 1 - i) % 10 : Nat) : Int) := by
  rw [dgs, List.getElem?_reverse (by rw [bk_length]; exact h), bk_length]
  exact bk_at u _ _ (by omega)
theorem nDigits_le (u k : Nat) (hk : 1 ≤ k) : Lib.nDigits u ≤ k ↔ u / 10 ^ k = 0 := by
  have h1 := Lib.lt_pow_nDigits u
  constructor
  · intro h
    exact Nat.div_eq_of_lt (Nat.lt_of_lt_of_le h1 (Nat.pow_le_pow_right (by omega) h))
  · intro h
    have h2 : u < 10 ^ k := by
      rcases Nat.lt_or_ge u (10 ^ k) with h3 | h3
      · exact h3
      · have := Nat.div_pos h3 (Nat.pow_pos (by omega))
        omega
    rcases Nat.lt_or_ge k (Lib.nDigits u) with h3 | h3
    · exfalso
      have h4 : 10 ^ (Lib.nDigits u - 1) ≤ u := by
        by_cases h5 : u < 10
        · rw [Lib.nDigits_small h5] at h3
          omega
        · obtain ⟨d, hd⟩ : ∃ d, Lib.nDigits u = d + 1 := ⟨Lib.nDigits u - 1, by omega⟩
          rcases Nat.lt_or_ge u (10 ^ (Lib.nDigits u - 1)) with h6 | h6
          · exfalso
            have : ∀ e v, v < 10 ^ e → 1 ≤ e → Lib.nDigits v ≤ e := by
              intro e
              induction e with
              | zero => intro v _ h; omega
              | succ e ih =>
                intro v hv _
                by_cases hv2 : v < 10
                · rw [Lib.nDigits_small hv2]
                  omega
                · rw [Lib.nDigits_big hv2]
                  have h7 : v / 10 < 10 ^ e := by
                    rw [Nat.div_lt_iff_lt_mul (by omega), ← Nat.pow_succ]
                    exact hv
                  have h8 : 1 ≤ e := by
                    rcases Nat.eq_zero_or_pos e with h9 | h9
                    · subst h9
                      simp at hv
                      omega
                    · exact h9
                  have := ih (v / 10) h7 h8
                  omega
            have := this (Lib.nDigits u - 1) u h6 (by omega)
            omega
          · exact h6
      have h7 : 10 ^ k ≤ 10 ^ (Lib.nDigits u - 1) := Nat.pow_le_pow_right (by omega) (by omega)
      omega
    · exact h3
theorem own_same {w w' : World} {B : Nat} {e : TypeId} {s : Nat} {v : Value} {n : Nat} {xs : List Value} (h : w.ownsRow B e s v n xs) (hs : ∀ k, v.ownBlock = some k → w'.heap[k]? = w.heap[k]?) : w'.ownsRow B e s v n xs := by
  refine ⟨h.1, ?_⟩
  rcases h.2 with h | ⟨g, cap, cur, hv, hb, hg, r⟩
  · exact .inl h
  · exact .inr ⟨g, cap, cur, hv, hb, by rw [hs g (by rw [hv]; rfl)]; exact hg, r⟩
theorem heap_set_same (w : World) (g j : Nat) (cur : Array Value) (e : TypeId) (fr : Nat × Nat) (u : Value) (h : w.heap[g]? = some (.cells cur e fr)) : (w.setCell ⟨g, j, none⟩ u).heap[g]? = some (.cells (cur.setIfInBounds j u) e fr) := by
  simp [World.setCell, Array.getElem?_modify, h]
/-- Where Of stands: its result's block, its number's block with the digits that are laid, and the digits that wait. -/
structure OfAt (w w' : World) (neg : Bool) (v b : Value) (D K : List Int) : Prop where
  res : w'.heap[w.heap.size]? = some (.cells #[.bool false, .slice none 0 0, .int .i64 0, .int .i64 0] 47 (0, 0))
  row : w'.heap[w.heap.size + 1]? = some (.cells #[.bool neg, v, .int .i64 0, .int .i64 0] 47 (0, 0))
  bck : w'.ownsRow w.heap.size 3 1 b K.length (iv K)
  dig : w'.ownsRow w.heap.size 3 1 v D.length (iv D)
  apart : ∀ k, b.ownBlock = some k → v.ownBlock ≠ some k
  bel : Below w.heap.size w w'
theorem ne_num : (47 : TypeId) ≠ 3 := by decide
section
variable {w w' w2 : World} {neg : Bool} {v b b' v' : Value} {D K : List Int}
theorem OfAt.growB (h : OfAt w w' neg v b D K) (o : Obj) (x : Int) (hown : w2.ownsRow w.heap.size 3 1 b' (K.length + 1) (iv K ++ [.int .i64 x])) (hg : (w'.alloc o).grownBy w2 b.ownBlock)
    (hat : b'.ownBlock = b.ownBlock ∨ b'.ownBlock = some (w'.alloc o).heap.size) : OfAt w w2 neg v b' D (K ++ [x]) := by
  have hr := lt_of_block h.res
  have hw := lt_of_block h.row
  have e1 : ∀ k, k < w'.heap.size → some k ≠ b.ownBlock → w2.heap[k]? = w'.heap[k]? := fun k hk hne => (hg.block k (by simp; omega) hne).trans (Below.heap_alloc _ _ _ hk)
  have n1 : some w.heap.size ≠ b.ownBlock := fun e => Lib.ownBlock_ne h.bck h.res ne_num e.symm
  have n2 : some (w.heap.size + 1) ≠ b.ownBlock := fun e => Lib.ownBlock_ne h.bck h.row ne_num e.symm
  refine ⟨(e1 _ hr n1).trans h.res, (e1 _ hw n2).trans h.row, ?_, ?_, ?_, ?_⟩
  · rw [List.length_append, iv_append]
    exact hown
  · exact own_same h.dig fun k hk => e1 k (h.dig.lt k hk).2 fun e => h.apart k e.symm hk
  · intro k hk
    rcases hat with e | e
    · exact h.apart k (e ▸ hk)
    · intro hv
      have := (h.dig.lt k hv).2
      rw [e] at hk
      have hk2 := Option.some.inj hk
      simp at hk2
      omega
  · exact (h.bel.alloc h.bel.size o).grown hg (by have := h.bel.size; simp; omega) fun k hk => (h.bck.lt k hk).1
theorem OfAt.growD (h : OfAt w w' neg v b D K) (o : Obj) (x : Int) (hown : w2.ownsRow w.heap.size 3 1 v' (D.length + 1) (iv D ++ [.int .i64 x])) (hg : (w'.alloc o).grownBy w2 v.ownBlock)
    (hat : v'.ownBlock = v.ownBlock ∨ v'.ownBlock = some (w'.alloc o).heap.size) : OfAt w (w2.setCell ⟨w.heap.size + 1, 1, none⟩ v') neg v' b (D ++ [x]) K := by
  have hr := lt_of_block h.res
  have hw := lt_of_block h.row
  have e1 : ∀ k, k < w'.heap.size → some k ≠ v.ownBlock → w2.heap[k]? = w'.heap[k]? := fun k hk hne => (hg.block k (by simp; omega) hne).trans (Below.heap_alloc _ _ _ hk)
  have n1 : some w.heap.size ≠ v.ownBlock := fun e => Lib.ownBlock_ne h.dig h.res ne_num e.symm
  have n2 : some (w.heap.size + 1) ≠ v.ownBlock := fun e => Lib.ownBlock_ne h.dig h.row ne_num e.symm
  have hrow2 := (e1 _ hw n2).trans h.row
  have n3 : v'.ownBlock ≠ some (w.heap.size + 1) := Lib.ownBlock_ne hown hrow2 ne_num
  have hb2 : Below w.heap.size w w2 := (h.bel.alloc h.bel.size o).grown hg (by have := h.bel.size; simp; omega) fun k hk => (h.dig.lt k hk).1
  have hbk : w2.ownsRow w.heap.size 3 1 b K.length (iv K) := own_same h.bck fun k hk => e1 k (h.bck.lt k hk).2 fun e => h.apart k hk e.symm
  have n4 : b.ownBlock ≠ some (w.heap.size + 1) := Lib.ownBlock_ne hbk hrow2 ne_num
  refine ⟨?_, heap_set_same _ _ 1 _ _ _ _ hrow2, ?_, ?_, ?_, hb2.setCell (by simp) _⟩
  · rw [Below.heap_setCell _ _ _ _ (by simp)]
    exact (e1 _ hr n1).trans h.res
  · exact own_same hbk fun k hk => Below.heap_setCell _ _ _ _ (fun e => n4 (by rw [hk, e]))
  · rw [List.length_append, iv_append]
    exact own_same hown fun k hk => Below.heap_setCell _ _ _ _ (fun e => n3 (by rw [hk, e]))
  · intro k hk
    rcases hat with e | e
    · rw [e]
      exact h.apart k hk
    · intro hv
      have := (h.bck.lt k hk).2
      rw [e] at hv
      have hk2 := Option.some.inj hv
      simp at hk2
      omega
end
theorem sizeNum : (Tryd.prog.info? 47).map (·.size) = some 4 := by kernel_rfl
def lenV : Value → Nat
  | .slice _ n _ => n
  | _ => 0
theorem own_any {B : Nat} {w : World} {e : TypeId} {z n : Nat} {v : Value} {xs : List Value} (h : w.ownsRow B e z v n xs) : ∃ c cap, v = .slice c n cap ∧ n ≤ cap := by
  rcases h.2 with ⟨rfl, rfl⟩ | ⟨g, cap, cur, hv, _, _, hc, _⟩
  · exact ⟨none, 0, rfl, Nat.le_refl _⟩
  · exact ⟨_, cap, hv, hc⟩
theorem news_at {w : World} {k : Nat} {y : Value} {t : TypeId} {fr : Nat × Nat} (hk : w.heap[k]? = some (.cells #[y] t fr)) : ∀ j u, [y][j]? = some u → w.cell? ((⟨k, 0, none⟩ : Addr).add j) = some u := by
  intro j u hj
  match j, hj with
  | 0, hj =>
    simp at hj
    subst hj
    have e : (⟨k, 0, none⟩ : Addr).add 0 = ⟨k, 0, none⟩ := rfl
    rw [e, Lib.cell_of_heap hk]
    rfl
theorem infoInt : (Tryd.prog.info? 3).map (fun i => (i.zero, i.size, i.bytes)) = some (some (.int .i64 0), 1, 8) := by kernel_rfl
section
variable {w : World}
/-- 'append(v, x)' of numbers, x laid into block k, and where the new one lies. -/
theorem wp_append_int {o : Oper} {a : Act} {K : Act → World → Prop} {Q : Exit → Act → World → Prop} (s x : Operand) (t : TypeId) (ht : t = 45)
    (ho : o.op = .call { callee := .builtin .append, args := #[s, x], argTypes := #[t, t] })
    (B : Nat) (v : Value) (n : Nat) (L : List Int) (hs : a.eval s = v) (hown : w.ownsRow B 3 1 v n (iv L))
    (k c : Nat) (y : Int) (fr : Nat × Nat) (hx : a.eval x = .slice (some ⟨k, 0, none⟩) 1 c) (hk : w.heap[k]? = some (.cells #[.int .i64 y] 3 fr)) (hn : n ≤ 1000000) (hB : B ≤ w.heap.size)
    (h : ∀ v' w', w'.ownsRow B 3 1 v' (n + 1) (iv L ++ [.int .i64 y]) → w.grownBy w' v.ownBlock → (v'.ownBlock = v.ownBlock ∨ v'.ownBlock = some w.heap.size) → K (a.put o.dst v') w') : o.wp Tryd.prog a w K Q := by
  subst ht
  obtain ⟨i0, hi, hz0, hz1, hz2⟩ := info_parts infoInt
  obtain ⟨v', w', hr, h2, h3, h4, h5⟩ := run_append_own_at (P := Tryd.prog) w B 45 o.type 3 i0 (.int .i64 0) 1 8 Tryd.underlying45 hi hz0 hz1 hz2 rfl (by decide) v n (iv L) hown ⟨k, 0, none⟩ 1 c [.int .i64 y] rfl (news_at hk) (by intro u hu; simp at hu; subst hu; rfl) (by unfold maxLen; omega) (by omega) hB
  unfold Oper.wp execOp
  simp only [ho, resolve, invoke, builtin, Sem.run_bind, Sem.run_pure, Result.andThen_ok, List.map_toArray, List.map_cons, List.map_nil, hs, hx, hr]
  exact h v' w' h2 h3 h5
theorem wpList_append_int {ops : Array Oper} {rest : List Oper} {o : Oper} {a : Act} {Q : Exit → Act → World → Prop} (hgd : o.guard = none) (s x : Operand) (t : TypeId) (ht : t = 45)
    (ho : o.op = .call { callee := .builtin .append, args := #[s, x], argTypes := #[t, t] })
    (B : Nat) (v : Value) (n : Nat) (L : List Int) (hs : a.eval s = v) (hown : w.ownsRow B 3 1 v n (iv L))
    (k c : Nat) (y : Int) (fr : Nat × Nat) (hx : a.eval x = .slice (some ⟨k, 0, none⟩) 1 c) (hk : w.heap[k]? = some (.cells #[.int .i64 y] 3 fr)) (hn : n ≤ 1000000) (hB : B ≤ w.heap.size)
    (h : ∀ v' w', w'.ownsRow B 3 1 v' (n + 1) (iv L ++ [.int .i64 y]) → w.grownBy w' v.ownBlock → (v'.ownBlock = v.ownBlock ∨ v'.ownBlock = some w.heap.size) → wpList Tryd.prog ops Q rest (a.put o.dst v') w') : wpList Tryd.prog ops Q (o :: rest) a w :=
  wpList_plain hgd fun _ hK => wp_append_int s x t ht ho B v n L hs hown k c y fr hx hk hn hB fun v' w' h2 h3 h5 => hK _ _ (h v' w' h2 h3 h5)
theorem step_append_int {ops : Array Oper} {o : Oper} {a : Act} {K : Act → World → Prop} {Q : Exit → Act → World → Prop} {E : Prop} (hgd : o.guard = none) (s x : Operand) (t : TypeId) (ht : t = 45)
    (ho : o.op = .call { callee := .builtin .append, args := #[s, x], argTypes := #[t, t] })
    (B : Nat) (v : Value) (n : Nat) (L : List Int) (hs : a.eval s = v) (hown : w.ownsRow B 3 1 v n (iv L))
    (k c : Nat) (y : Int) (fr : Nat × Nat) (hx : a.eval x = .slice (some ⟨k, 0, none⟩) 1 c) (hk : w.heap[k]? = some (.cells #[.int .i64 y] 3 fr)) (hn : n ≤ 1000000) (hB : B ≤ w.heap.size)
    (h : ∀ v' w', w'.ownsRow B 3 1 v' (n + 1) (iv L ++ [.int .i64 y]) → w.grownBy w' v.ownBlock → (v'.ownBlock = v.ownBlock ∨ v'.ownBlock = some w.heap.size) → K (a.put o.dst v') w') :
    if Region.wanted o (yielded ops a.tmps) = true then Oper.wp Tryd.prog o a w K Q else E := by
  have hw : Region.wanted o (yielded ops a.tmps) = true := by simp [Region.wanted, hgd]
  rw [if_pos hw]
  exact wp_append_int s x t ht ho B v n L hs hown k c y fr hx hk hn hB h
end
theorem OfAt.rowD {w w' w2 : World} {neg : Bool} {v b : Value} {D K : List Int} {o : Obj} (h : OfAt w w' neg v b D K) (hg : (w'.alloc o).grownBy w2 v.ownBlock) : w2.heap[w.heap.size + 1]? = some (.cells #[.bool neg, v, .int .i64 0, .int .i64 0] 47 (0, 0)) := by
  have hw := lt_of_block h.row
  have n2 : some (w.heap.size + 1) ≠ v.ownBlock := fun e => Lib.ownBlock_ne h.dig h.row ne_num e.symm
  exact ((hg.block _ (by simp; omega) n2).trans (Below.heap_alloc _ _ _ hw)).trans h.row
theorem OfAt.drew {w w' : World} {neg : Bool} {v b : Value} {D K : List Int} (h : OfAt w w' neg v b D K) : OfAt w w'.drew neg v b D K := ⟨h.res, h.row, own_same h.bck (fun _ _ => rfl), own_same h.dig (fun _ _ => rfl), h.apart, h.bel.drew⟩
/-- What Of leaves. -/
def OfPost (w : World) (n : Int) (e : Ending) (w' : World) : Prop := ∃ v, e = .returned (.agg #[.bool (decide (n < 0)), v, .int .i64 ((Lib.nDigits n.natAbs : Nat) : Int), .int .i64 0]) ∧ w'.ownsRow w.heap.size 3 1 v (Lib.nDigits n.natAbs) (iv (dgs n.natAbs)) ∧ Below w.heap.size w w'
theorem OfAt.start (w : World) (neg : Bool) : OfAt w (((w.alloc (.cells #[.bool false, .slice none 0 0, .int .i64 0, .int .i64 0] 47)).alloc (.cells #[.bool neg, .slice none 0 0, .int .i64 0, .int .i64 0] 47))) neg (.slice none 0 0) (.slice none 0 0) [] [] where
  res := by
    rw [Below.heap_alloc _ _ _ (by simp)]
    exact heap_alloc_new _ _
  row := by
    have e : w.heap.size + 1 = (w.alloc (.cells #[.bool false, .slice none 0 0, .int .i64 0, .int .i64 0] 47)).heap.size := by simp
    rw [e]
    exact heap_alloc_new _ _
  bck := World.ownsRow_nil _ _ _ _
  dig := World.ownsRow_nil _ _ _ _
  apart := fun k hk => by cases hk
  bel := ((Below.refl _ _).alloc (Nat.le_refl _) _).alloc (by simp) _
end Nu
set_option maxHeartbeats 4000000 in
set_option maxRecDepth 100000 in
theorem rOf_any (n : Int) (h0 : -9223372036854775808 ≤ n) (h1 : n ≤ 9223372036854775807) (w : World) :
    Calls Tryd.prog 33 #[.int .i64 n] w (OfPost w n) := by
  obtain ⟨u, hu⟩ : ∃ u, u = n.natAbs := ⟨_, rfl⟩
  have HU := hidden hu
  have hA := OfAt.start w (decide (n < 0))
  by_cases hn : n < 0
  · rw [decide_eq_true hn] at hA
    obtain rfl : n = -(u : Int) := by omega
    clear hu
    have HA := hidden hA
    have hD1 := Lib.nDigits_pos u
    have hD20 : Lib.nDigits u ≤ 20 := by
      by_cases h1u : 1 ≤ u
      · have := Lib.numDigits_eq u h1u (by omega)
        split at this <;> omega
      · rw [Lib.nDigits_small (by omega)]
        omega
    have HND := hidden (nDigits_le u)
    obtain ⟨N, hN⟩ : ∃ N, N = Lib.nDigits u := ⟨_, rfl⟩
    rw [← hN] at hD1 hD20 HND
    have HN := hidden hN
    clear hA hN
    have hng : decide (0 < u) = true := decide_eq_true (by omega)
    go_enter Tryd.func33, Tryd.ntmps33
    go_wp2_with fail
    go_loopw [0, 4] (fun z b wr => ∃ k : Nat, k ≤ N ∧ z = .int .i64 (-((u / 10 ^ k : Nat) : Int)) ∧ Hid (OfAt w wr true (.slice none 0 0) b [] (bk u k))) (fun _ b _ => 21 - lenV b)
    case atStart => exact ⟨0, by omega, by simp, HA.out⟩
    case round =>
      obtain ⟨k, hk, rfl, HO⟩ := hrel
      obtain ⟨c, cap, hb, hcap⟩ := own_any HO.out.bck
      rw [bk_length] at hb hcap
      subst hb
      have hbs := bk_succ u k
      have hsize := HO.out.bel.size
      have hbl := bk_length u k
      have hqs : u / 10 ^ (k + 1) = u / 10 ^ k / 10 := by rw [Nat.pow_succ, Nat.div_div_eq_div_mul]
      have hkq : 1 ≤ k → (N ≤ k ↔ u / 10 ^ k = 0) := HND.out k
      have hqle : u / 10 ^ k ≤ u := Nat.div_le_self _ _
      obtain ⟨q, hq⟩ : ∃ q, q = u / 10 ^ k := ⟨_, rfl⟩
      rw [← hq] at hbs hqs hkq hqle
      rw [← hq]
      obtain ⟨r, hr⟩ : ∃ r, r = q % 10 := ⟨_, rfl⟩
      rw [← hr] at hbs
      have hr9 : r ≤ 9 := by omega
      have HQ := hidden hq
      have HR := hidden hr
      have HBS := hidden hbs
      have HQS := hidden hqs
      have HBL := hidden hbl
      have hq10 := q / 10 + 0
      have hrem : Int.tmod (-(q : Int)) 10 = -(r : Int) := by rw [Int.neg_tmod, Int.tmod_eq_emod_of_nonneg (by omega)]; omega
      have hquo : Int.tdiv (-(q : Int)) 10 = -((q / 10 : Nat) : Int) := by rw [Int.neg_tdiv, Int.tdiv_eq_ediv_of_nonneg (by omega)]; omega
      have hown := HO.out.bck
      rw [bk_length] at hown
      have HOW := hidden hown
      clear hq hr hbs hqs hbl hown hq10
      by_cases hlt : k < N
      · have hcond : q = 0 → k = 0 := fun h => by
          rcases Nat.eq_zero_or_pos k with h2 | h2
          · exact h2
          · have := (hkq h2).2 h
            omega
        clear hkq
        by_cases hr0 : r = 0
        · subst hr0
          by_cases hq0 : q = 0
          · have hkb : ((k : Int) == 0) = true := by rw [hcond hq0]; rfl
            have hk20 : k ≤ 20 := by omega
            have HBS := hidden (show bk u (k + 1) = bk u k ++ [0] from HBS.out)
            subst hq0
            go_wp2_with (at_builtin; refine wpList_append_int rfl (.tmp 23) (.tmp 25) 45 rfl rfl w.heap.size (.slice c k cap) k (bk u k) rfl (by exact HOW.out.alloc _) _ 1 _ _ rfl (by exact heap_alloc_new _ _) (by omega) (by simp; omega) ?_; intro v4 w4 hown4 hgrow4 hat4)
            have HO4 := hidden (HO.out.growB _ _ (by rw [HBL.out]; exact hown4) hgrow4 hat4)
            rw [← HBS.out] at HO4
            obtain ⟨c4, cap4, hv4, _⟩ := own_any hown4
            subst hv4
            clear hown4 hgrow4 hat4
            go_wp2_with fail
            go_roundw
            case rel => exact ⟨k + 1, by omega, by rw [HQS.out]; rfl, HO4⟩
            case measure => show 21 - (k + 1) < 21 - k; omega
          · have hqb : ((q : Int) == 0) = false := by rw [beq_eq_false_iff_ne]; omega
            have HBS := hidden (show bk u (k + 1) = bk u k ++ [0] from HBS.out)
            go_wp2_with (at_builtin; refine wpList_append_int rfl (.tmp 23) (.tmp 25) 45 rfl rfl w.heap.size (.slice c k cap) k (bk u k) rfl (by exact HOW.out.alloc _) _ 1 _ _ rfl (by exact heap_alloc_new _ _) (by omega) (by simp; omega) ?_; intro v4 w4 hown4 hgrow4 hat4)
            have HO4 := hidden (HO.out.growB _ _ (by rw [HBL.out]; exact hown4) hgrow4 hat4)
            rw [← HBS.out] at HO4
            obtain ⟨c4, cap4, hv4, _⟩ := own_any hown4
            subst hv4
            clear hown4 hgrow4 hat4
            go_wp2_with fail
            go_roundw
            case rel => exact ⟨k + 1, by omega, by rw [HQS.out]; rfl, HO4⟩
            case measure => show 21 - (k + 1) < 21 - k; omega
        · have hq0 : ¬ q = 0 := fun h => hr0 (by rw [HR.out, h])
          have hqb : ((q : Int) == 0) = false := by rw [beq_eq_false_iff_ne]; omega
          have hrb : ((r : Int) == 0) = false := by rw [beq_eq_false_iff_ne]; omega
          go_wp2_with (at_builtin; refine wpList_append_int rfl (.tmp 23) (.tmp 25) 45 rfl rfl w.heap.size (.slice c k cap) k (bk u k) rfl (by exact HOW.out.alloc _) _ 1 _ _ rfl (by exact heap_alloc_new _ _) (by omega) (by simp; omega) ?_; intro v4 w4 hown4 hgrow4 hat4)
          have HO4 := hidden (HO.out.growB _ _ (by rw [HBL.out]; exact hown4) hgrow4 hat4)
          rw [← HBS.out] at HO4
          obtain ⟨c4, cap4, hv4, _⟩ := own_any hown4
          subst hv4
          clear hown4 hgrow4 hat4
          go_wp2_with fail
          go_roundw
          case rel => exact ⟨k + 1, by omega, by rw [HQS.out]; rfl, HO4⟩
          case measure => show 21 - (k + 1) < 21 - k; omega
      · obtain rfl : k = N := by omega
        have hq0 := (hkq (by omega)).1 (Nat.le_refl _)
        have hkb : ((k : Int) == 0) = false := by rw [beq_eq_false_iff_ne]; omega
        subst hq0
        clear hkq hrem hquo
        obtain ⟨g, hc, hcells⟩ : ∃ g, c = some ⟨g, 0, none⟩ ∧ ∀ (wr2 : World) v D, OfAt w wr2 true v (.slice c k cap) D (bk u k) → ∀ i, i < k → wr2.cell? ⟨g, i, none⟩ = some (.int .i64 ((u / 10 ^ i % 10 : Nat) : Int)) := by
          rcases HOW.out.2 with ⟨h, _⟩ | ⟨g, cap2, cur, h, _⟩
          · exfalso
            simp at h
            omega
          · have hc : c = some ⟨g, 0, none⟩ := by
              simp only [Value.slice.injEq] at h
              exact h.1
            refine ⟨g, hc, fun wr2 v D h2 i hi => ?_⟩
            have hb := h2.bck
            have hx := hb.cells (g := g) (by rw [hc]; rfl) i (.int .i64 ((u / 10 ^ i % 10 : Nat) : Int)) (by rw [iv, List.getElem?_map, bk_at u k i hi]; rfl)
            have e : (⟨g, 0, none⟩ : Addr).add i = ⟨g, i, none⟩ := by unfold Addr.add; split <;> simp_all
            rwa [e] at hx
        subst hc
        have HCE := hidden hcells
        clear hcells
        go_wp2_with fail
        go_loopw [6] (fun i wr2 => ∃ (j : Nat) (v : Value), j ≤ k ∧ i = .int .i64 ((k : Int) - 1 - j) ∧ Hid (OfAt w wr2 true v (.slice (some ⟨g, 0, none⟩) k cap) ((dgs u).take j) (bk u k))) (fun i _ => (intOf i + 1).toNat)
        case atStart => exact ⟨0, .slice none 0 0, by omega, by simp, HO⟩
        case round =>
          obtain ⟨j, v, hj, rfl, HO2⟩ := hrel
          by_cases hjl : j < k
          · have c1 := Lib.cell_of_heap HO2.out.row 1
            have f1 := Lib.frozen_of_heap HO2.out.row 1
            simp only [List.getElem?_toArray, List.getElem?_cons_zero, List.getElem?_cons_succ] at c1
            have hcj := HCE.out _ _ _ HO2.out (k - 1 - j) (by omega)
            have hidx : ((k : Int) - 1 - j) = ((k - 1 - j : Nat) : Int) := by omega
            obtain ⟨ix, hix⟩ : ∃ ix, ix = k - 1 - j := ⟨_, rfl⟩
            rw [← hix] at hcj hidx
            have hixk : ix < k := by omega
            obtain ⟨x, hx⟩ : ∃ x, x = u / 10 ^ ix % 10 := ⟨_, rfl⟩
            rw [← hx] at hcj
            have HX := hidden hx
            have HIX := hidden hix
            have hs2 := HO2.out.bel.size
            rw [hidx]
            have hlw := lt_of_block HO2.out.row
            have hlg : g < wr.heap.size := World.block_lt_of_cell? _ _ hcj
            have hne1 : ¬ w.heap.size + 1 = wr.heap.size := by omega
            have hne2 : ¬ g = wr.heap.size := by omega
            have hdg := HO2.out.dig
            obtain ⟨jl, hjle⟩ : ∃ jl, jl = ((dgs u).take j).length := ⟨_, rfl⟩
            have hjlen : jl ≤ 1000 := by rw [hjle, List.length_take]; omega
            rw [← hjle] at hdg
            have HDG := hidden hdg
            have HJL := hidden hjle
            have hnext : (dgs u).take (j + 1) = (dgs u).take j ++ [((x : Nat) : Int)] := by
              have := dgs_at u j (by rw [← HN.out]; exact hjl)
              rw [← HN.out] at this
              rw [List.take_add_one, this, hx, hix, show k - 1 - j = k - 1 - j from rfl]
              rfl
            have HNX := hidden hnext
            clear hdg hjle hnext
            clear hx hix
            go_wp2_with fail
            go_region_law ((refine step_append_int rfl (.tmp 37) (.tmp 42) 45 rfl rfl w.heap.size v _ ((dgs u).take j) rfl (by exact own_same (HDG.out.alloc _) (fun _ _ => rfl)) _ 1 _ _ rfl (by exact heap_alloc_new _ _) (by omega) (by simp; omega) ?_; intro v5 w5 hown5 hgrow5 hat5; obtain ⟨cc5, cap5, hv5, _⟩ := own_any hown5; subst hv5; have hg5 : (wr.alloc (.cells #[.int .i64 ((x : Nat) : Int)] 3)).grownBy w5 v.ownBlock := ⟨hgrow5.os, hgrow5.tape, hgrow5.output, hgrow5.size, hgrow5.block⟩; have hrow5 := HO2.out.rowD hg5; have c5 := Lib.cell_of_heap hrow5 1; have f5 := Lib.frozen_of_heap hrow5 1; simp only [List.getElem?_toArray, List.getElem?_cons_zero, List.getElem?_cons_succ] at c5; have HO5 := hidden (HO2.out.growD _ (x : Nat) (by rw [← HJL.out]; exact hown5) hg5 hat5); clear hown5 hgrow5 hat5 hg5 hrow5))
            all_goals go_simp
            all_goals
              (go_wp2_with fail
               go_roundw
               case rel =>
                 repeat apply Exists.intro
                 refine ⟨⟨j + 1, _, by omega, ?_, by rw [HNX.out]; exact HO5⟩, rfl⟩
                 have := HIX.out
                 congr 1
                 omega
               case measure =>
                 have := HIX.out
                 simp [intOf] <;> omega)
          · obtain rfl : j = k := by omega
            have hdt : (dgs u).take j = dgs u := List.take_of_length_le (by rw [dgs_length, ← HN.out]; exact Nat.le_refl _)
            rw [hdt] at HO2
            have c0 := Lib.cell_of_heap HO2.out.row 0
            have c1 := Lib.cell_of_heap HO2.out.row 1
            have c2 := Lib.cell_of_heap HO2.out.row 2
            have c3 := Lib.cell_of_heap HO2.out.row 3
            have f2 := Lib.frozen_of_heap HO2.out.row 2
            have r0 := Lib.cell_of_heap HO2.out.res 0
            have r1 := Lib.cell_of_heap HO2.out.res 1
            have r2 := Lib.cell_of_heap HO2.out.res 2
            have r3 := Lib.cell_of_heap HO2.out.res 3
            have g0 := Lib.frozen_of_heap HO2.out.res 0
            have g1 := Lib.frozen_of_heap HO2.out.res 1
            have g2 := Lib.frozen_of_heap HO2.out.res 2
            have g3 := Lib.frozen_of_heap HO2.out.res 3
            simp only [List.getElem?_toArray, List.getElem?_cons_zero, List.getElem?_cons_succ] at c0 c1 c2 c3 r0 r1 r2 r3
            obtain ⟨cc, capp, hv, _⟩ := own_any HO2.out.dig
            rw [dgs_length, ← HN.out] at hv
            subst hv
            have hd2 := HO2.out.dig
            rw [dgs_length, ← HN.out] at hd2
            have HD2 := hidden hd2
            have hresT : ∀ (u1 : Value), (wr.setCell ⟨w.heap.size + 1, 2, none⟩ u1).heap[w.heap.size]? = some (.cells #[.bool false, .slice none 0 0, .int .i64 0, .int .i64 0] 47 (0, 0)) := fun u1 => (Below.heap_setCell _ _ _ _ (by simp)).trans HO2.out.res
            have HRT := hidden hresT
            have hne : ∀ q, (Value.slice cc j capp).ownBlock = some q → q ≠ w.heap.size ∧ q ≠ w.heap.size + 1 := fun q hq => ⟨fun e => Lib.ownBlock_ne HO2.out.dig HO2.out.res ne_num (by rw [hq, e]), fun e => Lib.ownBlock_ne HO2.out.dig HO2.out.row ne_num (by rw [hq, e])⟩
            have HNE := hidden hne
            clear hd2 hresT hne
            go_wp2_with fail
            refine bodyPost_ret (results_cell_row rfl _ _ w.heap.size 47 #[.bool true, .slice cc j capp, .int .i64 (j : Nat), .int .i64 0] (0, 0) _ rfl ?_ Tryd.underlying47 rfl sizeNum) rfl ?_
            · exact heap_set_same _ _ 3 _ _ _ _ (heap_set_same _ _ 2 _ _ _ _ (heap_set_same _ _ 1 _ _ _ _ (heap_set_same _ _ 0 _ _ _ _ (HRT.out _))))
            · refine ⟨.slice cc j capp, ?_, ?_, ((((HO2.out.bel.setCell (by simp) _).setCell (Nat.le_refl _) _).setCell (Nat.le_refl _) _).setCell (Nat.le_refl _) _).setCell (Nat.le_refl _) _⟩
              · rw [show (-(u : Int)).natAbs = u by omega, ← HN.out, show decide ((-(u : Int)) < 0) = true from decide_eq_true hn]
              · rw [show (-(u : Int)).natAbs = u by omega, ← HN.out]
                refine own_same HD2.out fun q hq => ?_
                have h2 := HNE.out q hq
                rw [Below.heap_setCell _ _ _ _ h2.1, Below.heap_setCell _ _ _ _ h2.1, Below.heap_setCell _ _ _ _ h2.1, Below.heap_setCell _ _ _ _ h2.1, Below.heap_setCell _ _ _ _ h2.2]
  · rw [decide_eq_false hn] at hA
    obtain rfl : n = (u : Int) := by omega
    clear hu
    have HA := hidden hA
    have hD1 := Lib.nDigits_pos u
    have hD20 : Lib.nDigits u ≤ 20 := by
      by_cases h1u : 1 ≤ u
      · have := Lib.numDigits_eq u h1u (by omega)
        split at this <;> omega
      · rw [Lib.nDigits_small (by omega)]
        omega
    have HND := hidden (nDigits_le u)
    obtain ⟨N, hN⟩ : ∃ N, N = Lib.nDigits u := ⟨_, rfl⟩
    rw [← hN] at hD1 hD20 HND
    have HN := hidden hN
    clear hA hN
    go_enter Tryd.func33, Tryd.ntmps33
    go_wp2_with fail
    go_loopw [0, 4] (fun z b wr => ∃ k : Nat, k ≤ N ∧ z = .int .i64 ((u / 10 ^ k : Nat) : Int) ∧ Hid (OfAt w wr false (.slice none 0 0) b [] (bk u k))) (fun _ b _ => 21 - lenV b)
    case atStart => exact ⟨0, by omega, by simp, HA.out⟩
    case round =>
      obtain ⟨k, hk, rfl, HO⟩ := hrel
      obtain ⟨c, cap, hb, hcap⟩ := own_any HO.out.bck
      rw [bk_length] at hb hcap
      subst hb
      have hbs := bk_succ u k
      have hsize := HO.out.bel.size
      have hbl := bk_length u k
      have hqs : u / 10 ^ (k + 1) = u / 10 ^ k / 10 := by rw [Nat.pow_succ, Nat.div_div_eq_div_mul]
      have hkq : 1 ≤ k → (N ≤ k ↔ u / 10 ^ k = 0) := HND.out k
      have hqle : u / 10 ^ k ≤ u := Nat.div_le_self _ _
      obtain ⟨q, hq⟩ : ∃ q, q = u / 10 ^ k := ⟨_, rfl⟩
      rw [← hq] at hbs hqs hkq hqle
      rw [← hq]
      obtain ⟨r, hr⟩ : ∃ r, r = q % 10 := ⟨_, rfl⟩
      rw [← hr] at hbs
      have hr9 : r ≤ 9 := by omega
      have HQ := hidden hq
      have HR := hidden hr
      have HBS := hidden hbs
      have HQS := hidden hqs
      have HBL := hidden hbl
      have hq10 := q / 10 + 0
      have hrem : Int.tmod (q : Int) 10 = (r : Int) := by rw [Int.tmod_eq_emod_of_nonneg (by omega)]; omega
      have hrem2 : (q : Int) % 10 = (r : Int) := by omega
      have hquo : Int.tdiv (q : Int) 10 = ((q / 10 : Nat) : Int) := by rw [Int.tdiv_eq_ediv_of_nonneg (by omega)]; omega
      have hown := HO.out.bck
      rw [bk_length] at hown
      have HOW := hidden hown
      clear hq hr hbs hqs hbl hown hq10
      by_cases hlt : k < N
      · have hcond : q = 0 → k = 0 := fun h => by
          rcases Nat.eq_zero_or_pos k with h2 | h2
          · exact h2
          · have := (hkq h2).2 h
            omega
        clear hkq
        by_cases hr0 : r = 0
        · subst hr0
          by_cases hq0 : q = 0
          · have hkb : ((k : Int) == 0) = true := by rw [hcond hq0]; rfl
            have hk20 : k ≤ 20 := by omega
            have HBS := hidden (show bk u (k + 1) = bk u k ++ [0] from HBS.out)
            subst hq0
            go_wp2_with (at_builtin; refine wpList_append_int rfl (.tmp 23) (.tmp 25) 45 rfl rfl w.heap.size (.slice c k cap) k (bk u k) rfl (by exact HOW.out.alloc _) _ 1 _ _ rfl (by exact heap_alloc_new _ _) (by omega) (by simp; omega) ?_; intro v4 w4 hown4 hgrow4 hat4)
            have HO4 := hidden (HO.out.growB _ _ (by rw [HBL.out]; exact hown4) hgrow4 hat4)
            rw [← HBS.out] at HO4
            obtain ⟨c4, cap4, hv4, _⟩ := own_any hown4
            subst hv4
            clear hown4 hgrow4 hat4
            go_wp2_with fail
            go_roundw
            case rel => exact ⟨k + 1, by omega, by rw [HQS.out]; rfl, HO4⟩
            case measure => show 21 - (k + 1) < 21 - k; omega
          · have hqb : ((q : Int) == 0) = false := by rw [beq_eq_false_iff_ne]; omega
            have HBS := hidden (show bk u (k + 1) = bk u k ++ [0] from HBS.out)
            go_wp2_with (at_builtin; refine wpList_append_int rfl (.tmp 23) (.tmp 25) 45 rfl rfl w.heap.size (.slice c k cap) k (bk u k) rfl (by exact HOW.out.alloc _) _ 1 _ _ rfl (by exact heap_alloc_new _ _) (by omega) (by simp; omega) ?_; intro v4 w4 hown4 hgrow4 hat4)
            have HO4 := hidden (HO.out.growB _ _ (by rw [HBL.out]; exact hown4) hgrow4 hat4)
            rw [← HBS.out] at HO4
            obtain ⟨c4, cap4, hv4, _⟩ := own_any hown4
            subst hv4
            clear hown4 hgrow4 hat4
            go_wp2_with fail
            go_roundw
            case rel => exact ⟨k + 1, by omega, by rw [HQS.out]; rfl, HO4⟩
            case measure => show 21 - (k + 1) < 21 - k; omega
        · have hq0 : ¬ q = 0 := fun h => hr0 (by rw [HR.out, h])
          have hqb : ((q : Int) == 0) = false := by rw [beq_eq_false_iff_ne]; omega
          have hrb : ((r : Int) == 0) = false := by rw [beq_eq_false_iff_ne]; omega
          go_wp2_with (at_builtin; refine wpList_append_int rfl (.tmp 23) (.tmp 25) 45 rfl rfl w.heap.size (.slice c k cap) k (bk u k) rfl (by exact HOW.out.alloc _) _ 1 _ _ rfl (by exact heap_alloc_new _ _) (by omega) (by simp; omega) ?_; intro v4 w4 hown4 hgrow4 hat4)
          have HO4 := hidden (HO.out.growB _ _ (by rw [HBL.out]; exact hown4) hgrow4 hat4)
          rw [← HBS.out] at HO4
          obtain ⟨c4, cap4, hv4, _⟩ := own_any hown4
          subst hv4
          clear hown4 hgrow4 hat4
          go_wp2_with fail
          go_roundw
          case rel => exact ⟨k + 1, by omega, by rw [HQS.out]; rfl, HO4⟩
          case measure => show 21 - (k + 1) < 21 - k; omega
      · obtain rfl : k = N := by omega
        have hq0 := (hkq (by omega)).1 (Nat.le_refl _)
        have hkb : ((k : Int) == 0) = false := by rw [beq_eq_false_iff_ne]; omega
        subst hq0
        clear hkq hrem hquo hrem2
        obtain ⟨g, hc, hcells⟩ : ∃ g, c = some ⟨g, 0, none⟩ ∧ ∀ (wr2 : World) v D, OfAt w wr2 false v (.slice c k cap) D (bk u k) → ∀ i, i < k → wr2.cell? ⟨g, i, none⟩ = some (.int .i64 ((u / 10 ^ i % 10 : Nat) : Int)) := by
          rcases HOW.out.2 with ⟨h, _⟩ | ⟨g, cap2, cur, h, _⟩
          · exfalso
            simp at h
            omega
          · have hc : c = some ⟨g, 0, none⟩ := by
              simp only [Value.slice.injEq] at h
              exact h.1
            refine ⟨g, hc, fun wr2 v D h2 i hi => ?_⟩
            have hb := h2.bck
            have hx := hb.cells (g := g) (by rw [hc]; rfl) i (.int .i64 ((u / 10 ^ i % 10 : Nat) : Int)) (by rw [iv, List.getElem?_map, bk_at u k i hi]; rfl)
            have e : (⟨g, 0, none⟩ : Addr).add i = ⟨g, i, none⟩ := by unfold Addr.add; split <;> simp_all
            rwa [e] at hx
        subst hc
        have HCE := hidden hcells
        clear hcells
        go_wp2_with fail
        go_loopw [6] (fun i wr2 => ∃ (j : Nat) (v : Value), j ≤ k ∧ i = .int .i64 ((k : Int) - 1 - j) ∧ Hid (OfAt w wr2 false v (.slice (some ⟨g, 0, none⟩) k cap) ((dgs u).take j) (bk u k))) (fun i _ => (intOf i + 1).toNat)
        case atStart => exact ⟨0, .slice none 0 0, by omega, by simp, HO⟩
        case round =>
          obtain ⟨j, v, hj, rfl, HO2⟩ := hrel
          by_cases hjl : j < k
          · have c1 := Lib.cell_of_heap HO2.out.row 1
            have f1 := Lib.frozen_of_heap HO2.out.row 1
            simp only [List.getElem?_toArray, List.getElem?_cons_zero, List.getElem?_cons_succ] at c1
            have hcj := HCE.out _ _ _ HO2.out (k - 1 - j) (by omega)
            have hidx : ((k : Int) - 1 - j) = ((k - 1 - j : Nat) : Int) := by omega
            obtain ⟨ix, hix⟩ : ∃ ix, ix = k - 1 - j := ⟨_, rfl⟩
            rw [← hix] at hcj hidx
            have hixk : ix < k := by omega
            obtain ⟨x, hx⟩ : ∃ x, x = u / 10 ^ ix % 10 := ⟨_, rfl⟩
            rw [← hx] at hcj
            have HX := hidden hx
            have HIX := hidden hix
            have hs2 := HO2.out.bel.size
            rw [hidx]
            have hlw := lt_of_block HO2.out.row
            have hlg : g < wr.heap.size := World.block_lt_of_cell? _ _ hcj
            have hne1 : ¬ w.heap.size + 1 = wr.heap.size := by omega
            have hne2 : ¬ g = wr.heap.size := by omega
            have hdg := HO2.out.dig
            obtain ⟨jl, hjle⟩ : ∃ jl, jl = ((dgs u).take j).length := ⟨_, rfl⟩
            have hjlen : jl ≤ 1000 := by rw [hjle, List.length_take]; omega
            rw [← hjle] at hdg
            have HDG := hidden hdg
            have HJL := hidden hjle
            have hnext : (dgs u).take (j + 1) = (dgs u).take j ++ [((x : Nat) : Int)] := by
              have := dgs_at u j (by rw [← HN.out]; exact hjl)
              rw [← HN.out] at this
              rw [List.take_add_one, this, hx, hix, show k - 1 - j = k - 1 - j from rfl]
              rfl
            have HNX := hidden hnext
            clear hdg hjle hnext
            clear hx hix
            go_wp2_with fail
            go_region_law ((refine step_append_int rfl (.tmp 37) (.tmp 42) 45 rfl rfl w.heap.size v _ ((dgs u).take j) rfl (by exact own_same (HDG.out.alloc _) (fun _ _ => rfl)) _ 1 _ _ rfl (by exact heap_alloc_new _ _) (by omega) (by simp; omega) ?_; intro v5 w5 hown5 hgrow5 hat5; obtain ⟨cc5, cap5, hv5, _⟩ := own_any hown5; subst hv5; have hg5 : (wr.alloc (.cells #[.int .i64 ((x : Nat) : Int)] 3)).grownBy w5 v.ownBlock := ⟨hgrow5.os, hgrow5.tape, hgrow5.output, hgrow5.size, hgrow5.block⟩; have hrow5 := HO2.out.rowD hg5; have c5 := Lib.cell_of_heap hrow5 1; have f5 := Lib.frozen_of_heap hrow5 1; simp only [List.getElem?_toArray, List.getElem?_cons_zero, List.getElem?_cons_succ] at c5; have HO5 := hidden (HO2.out.growD _ (x : Nat) (by rw [← HJL.out]; exact hown5) hg5 hat5); clear hown5 hgrow5 hat5 hg5 hrow5))
            all_goals go_simp
            all_goals
              (go_wp2_with fail
               go_roundw
               case rel =>
                 repeat apply Exists.intro
                 refine ⟨⟨j + 1, _, by omega, ?_, by rw [HNX.out]; exact HO5⟩, rfl⟩
                 have := HIX.out
                 congr 1
                 omega
               case measure =>
                 have := HIX.out
                 simp [intOf] <;> omega)
          · obtain rfl : j = k := by omega
            have hdt : (dgs u).take j = dgs u := List.take_of_length_le (by rw [dgs_length, ← HN.out]; exact Nat.le_refl _)
            rw [hdt] at HO2
            have c0 := Lib.cell_of_heap HO2.out.row 0
            have c1 := Lib.cell_of_heap HO2.out.row 1
            have c2 := Lib.cell_of_heap HO2.out.row 2
            have c3 := Lib.cell_of_heap HO2.out.row 3
            have f2 := Lib.frozen_of_heap HO2.out.row 2
            have r0 := Lib.cell_of_heap HO2.out.res 0
            have r1 := Lib.cell_of_heap HO2.out.res 1
            have r2 := Lib.cell_of_heap HO2.out.res 2
            have r3 := Lib.cell_of_heap HO2.out.res 3
            have g0 := Lib.frozen_of_heap HO2.out.res 0
            have g1 := Lib.frozen_of_heap HO2.out.res 1
            have g2 := Lib.frozen_of_heap HO2.out.res 2
            have g3 := Lib.frozen_of_heap HO2.out.res 3
            simp only [List.getElem?_toArray, List.getElem?_cons_zero, List.getElem?_cons_succ] at c0 c1 c2 c3 r0 r1 r2 r3
            obtain ⟨cc, capp, hv, _⟩ := own_any HO2.out.dig
            rw [dgs_length, ← HN.out] at hv
            subst hv
            have hd2 := HO2.out.dig
            rw [dgs_length, ← HN.out] at hd2
            have HD2 := hidden hd2
            have hresT : ∀ (u1 : Value), (wr.setCell ⟨w.heap.size + 1, 2, none⟩ u1).heap[w.heap.size]? = some (.cells #[.bool false, .slice none 0 0, .int .i64 0, .int .i64 0] 47 (0, 0)) := fun u1 => (Below.heap_setCell _ _ _ _ (by simp)).trans HO2.out.res
            have HRT := hidden hresT
            have hne : ∀ q, (Value.slice cc j capp).ownBlock = some q → q ≠ w.heap.size ∧ q ≠ w.heap.size + 1 := fun q hq => ⟨fun e => Lib.ownBlock_ne HO2.out.dig HO2.out.res ne_num (by rw [hq, e]), fun e => Lib.ownBlock_ne HO2.out.dig HO2.out.row ne_num (by rw [hq, e])⟩
            have HNE := hidden hne
            clear hd2 hresT hne
            go_wp2_with fail
            refine bodyPost_ret (results_cell_row rfl _ _ w.heap.size 47 #[.bool false, .slice cc j capp, .int .i64 (j : Nat), .int .i64 0] (0, 0) _ rfl ?_ Tryd.underlying47 rfl sizeNum) rfl ?_
            · exact heap_set_same _ _ 3 _ _ _ _ (heap_set_same _ _ 2 _ _ _ _ (heap_set_same _ _ 1 _ _ _ _ (heap_set_same _ _ 0 _ _ _ _ (HRT.out _))))
            · refine ⟨.slice cc j capp, ?_, ?_, ((((HO2.out.bel.setCell (by simp) _).setCell (Nat.le_refl _) _).setCell (Nat.le_refl _) _).setCell (Nat.le_refl _) _).setCell (Nat.le_refl _) _⟩
              · rw [show ((u : Nat) : Int).natAbs = u by omega, ← HN.out, show decide (((u : Nat) : Int) < 0) = false from decide_eq_false (by omega)]
              · rw [show ((u : Nat) : Int).natAbs = u by omega, ← HN.out]
                refine own_same HD2.out fun q hq => ?_
                have h2 := HNE.out q hq
                rw [Below.heap_setCell _ _ _ _ h2.1, Below.heap_setCell _ _ _ _ h2.1, Below.heap_setCell _ _ _ _ h2.1, Below.heap_setCell _ _ _ _ h2.1, Below.heap_setCell _ _ _ _ h2.2]
end Go.Proofs.YthimbaflodphmaaDoor
