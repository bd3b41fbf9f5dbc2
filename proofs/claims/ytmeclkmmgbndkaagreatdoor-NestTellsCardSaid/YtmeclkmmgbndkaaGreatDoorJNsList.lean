/-
  The list of nodes that laceworkref08's Nodes lays, four numbers each, beside the list of those that are open; the contract of Nodes, of every balanced list of bits.
  The contracts of laceworkref08's Number and Children, and of law08's place, number and is, over the list of nodes that Nodes lays.
-/
import Derived.Maps.AppendAt
import Derived.Test.YtmeclkmmgbndkaaGreatDoorJNsMath
import Derived.Test.YtmeclkmmgbndkaaGreatDoorJBtList
import Derived.Test.YtmeclkmmgbndkaaGreatDoorJBtMem
import Derived.Test.YtmeclkmmgbndkaaGreatDoorJNsAsk
namespace Go.Proofs.YtmeclkmmgbndkaaGreatDoor
open Go Go.RowKit
namespace Ns
open Wd
def nvs (N : Nat) (g : Nat → Nat → Int) : List Value := (List.range (N * 4)).map fun t => .int .i64 (g (t / 4) (t % 4))
theorem nvs_len (N : Nat) (g : Nat → Nat → Int) : (nvs N g).length = N * 4 := by unfold nvs; simp
theorem nvs_get {N : Nat} (g : Nat → Nat → Int) {t : Nat} (h : t < N * 4) : (nvs N g)[t]? = some (.int .i64 (g (t / 4) (t % 4))) := by
  unfold nvs
  rw [List.getElem?_map, List.getElem?_range h]
  rfl
theorem nvs_at {N : Nat} (g : Nat → Nat → Int) {r c : Nat} (h : r < N) (hc : c < 4) : (nvs N g)[r * 4 + c]? = some (.int .i64 (g r c)) := by
  rw [nvs_get g (by omega), show (r * 4 + c) / 4 = r from by omega, show (r * 4 + c) % 4 = c from by omega]
theorem nvs_succ (N : Nat) (g : Nat → Nat → Int) : nvs (N + 1) g = nvs N g ++ [.int .i64 (g N 0), .int .i64 (g N 1), .int .i64 (g N 2), .int .i64 (g N 3)] := by
  unfold nvs
  rw [show (N + 1) * 4 = N * 4 + 1 + 1 + 1 + 1 from by omega, List.range_succ, List.range_succ, List.range_succ, List.range_succ]
  simp only [List.map_append, List.map_cons, List.map_nil, List.append_assoc, List.cons_append, List.nil_append]
  rw [show N * 4 / 4 = N from by omega, show N * 4 % 4 = 0 from by omega, show (N * 4 + 1) / 4 = N from by omega, show (N * 4 + 1) % 4 = 1 from by omega, show (N * 4 + 1 + 1) / 4 = N from by omega, show (N * 4 + 1 + 1) % 4 = 2 from by omega, show (N * 4 + 1 + 1 + 1) / 4 = N from by omega, show (N * 4 + 1 + 1 + 1) % 4 = 3 from by omega]
theorem nvs_congr {N : Nat} {g g' : Nat → Nat → Int} (h : ∀ r c, r < N → c < 4 → g r c = g' r c) : nvs N g = nvs N g' := by
  unfold nvs
  refine List.map_congr_left fun t ht => ?_
  rw [List.mem_range] at ht
  rw [h (t / 4) (t % 4) (by omega) (by omega)]
theorem nvs_set {N : Nat} (g : Nat → Nat → Int) {r : Nat} (x : Int) : (nvs N g).set (r * 4 + 1) (.int .i64 x) = nvs N fun r' c => if r' = r ∧ c = 1 then x else g r' c := by
  refine List.ext_getElem? fun t => ?_
  by_cases ht : t < N * 4
  · rw [nvs_get _ ht, List.getElem?_set]
    by_cases e : r * 4 + 1 = t
    · rw [if_pos e, if_pos (by rw [nvs_len]; exact e ▸ ht), if_pos (by omega)]
    · rw [if_neg e, nvs_get _ ht, if_neg (by omega)]
  · rw [List.getElem?_eq_none (by rw [List.length_set, nvs_len]; omega), List.getElem?_eq_none (by rw [nvs_len]; omega)]
def ivs (S : List Nat) : List Value := S.map fun x => .int .i64 ((x : Nat) : Int)
theorem ivs_len (S : List Nat) : (ivs S).length = S.length := by unfold ivs; simp
theorem ivs_append (S T : List Nat) : ivs (S ++ T) = ivs S ++ ivs T := by unfold ivs; simp
theorem ivs_last (S : List Nat) (q : Nat) : (ivs (S ++ [q]))[S.length]? = some (.int .i64 (q : Nat)) := by
  rw [ivs_append, List.getElem?_append_right (by rw [ivs_len]; exact Nat.le_refl _), ivs_len, Nat.sub_self]
  rfl
/-- What the list says of the node of rank r, when the first a bits are read: its place, that of its ), its parent's rank, its depth. -/
def nf (X n a r c : Nat) : Int :=
  if c = 0 then (pl X n r : Int) else if c = 1 then (if cl X n (pl X n r) < a then (cl X n (pl X n r) : Int) else 0) else if c = 2 then pr X (pl X n r) else exc X (pl X n r)
theorem cl_inj {X n p q a : Nat} (h1 : Cl X n p a) (h2 : Cl X n q a) : p = q := by
  have e1 := back_open h1
  have e2 := back_open h2
  omega
theorem nf_one {X n a : Nat} (h : Ok X n) (ha : Nd X n a) : nvs (ones X (a + 1)) (nf X n (a + 1)) = nvs (ones X a) (nf X n a) ++ [.int .i64 (a : Nat), .int .i64 0, .int .i64 (pr X a), .int .i64 (exc X a)] := by
  have hc := cl_spec h ha
  have hg := hc.gt
  rw [ones_succ, ha.2, nvs_succ]
  congr 1
  · refine nvs_congr fun r c hr hc4 => ?_
    unfold nf
    obtain ⟨hn, he⟩ := pl_nd (X := X) (n := n) (r := r) (by have := rank_lt ha; omega)
    have hz := (cl_spec h hn).zero
    have : cl X n (pl X n r) ≠ a := by intro e; rw [e, ha.2] at hz; omega
    by_cases e : cl X n (pl X n r) < a
    · rw [if_pos (show cl X n (pl X n r) < a + 1 by omega), if_pos e]
    · rw [if_neg (show ¬ cl X n (pl X n r) < a + 1 by omega), if_neg e]
  · unfold nf
    rw [pl_rank ha]
    simp
    omega
theorem nf_zero {X n a q : Nat} (h : Ok X n) (hq : Nd X n q) (hc : Cl X n q a) : nvs (ones X (a + 1)) (nf X n (a + 1)) = (nvs (ones X a) (nf X n a)).set (ones X q * 4 + 1) (.int .i64 (a : Nat)) := by
  rw [ones_succ, hc.zero, Nat.add_zero, nvs_set]
  refine nvs_congr fun r c hr hc4 => ?_
  have hlt := hc.lt
  obtain ⟨hn, he⟩ := pl_nd (X := X) (n := n) (r := r) (by have := ones_mono X a n (by omega); omega)
  have hs := cl_spec h hn
  by_cases e : r = ones X q ∧ c = 1
  · rw [if_pos e]
    obtain ⟨rfl, rfl⟩ := e
    unfold nf
    rw [pl_rank hq, (cl_spec h hq).unique hc]
    simp
  · rw [if_neg e]
    unfold nf
    by_cases c1 : c = 1
    · have hne : cl X n (pl X n r) ≠ a := by
        intro g
        rw [g] at hs
        have := cl_inj hs hc
        rw [this] at he
        exact e ⟨he.symm, c1⟩
      rw [c1]
      by_cases g : cl X n (pl X n r) < a
      · rw [if_pos (show cl X n (pl X n r) < a + 1 by omega), if_pos g]
      · rw [if_neg (show ¬ cl X n (pl X n r) < a + 1 by omega), if_neg g]
    · rw [if_neg c1, if_neg c1]
/-- Two rows that are owned, in blocks of their own: the nodes, and those that are open. -/
structure Tw (B : Nat) (w : World) (a b : Value) (N : Nat) (xs : List Value) (S : List Nat) : Prop where
  out : w.ownsRow B 43 4 a N xs
  opn : w.ownsRow B 3 1 b S.length (ivs S)
  apart : ∀ k, a.ownBlock = some k → b.ownBlock ≠ some k
theorem Tw.below {B : Nat} {w w' : World} {a b : Value} {N : Nat} {xs : List Value} {S : List Nat} (h : Tw B w a b N xs S) (hb : Below w.heap.size w w') : Tw B w' a b N xs S := ⟨own_below h.out hb (Nat.le_refl _), own_below h.opn hb (Nat.le_refl _), h.apart⟩
theorem Tw.growOpn {B : Nat} {w w' : World} {a b b' : Value} {N : Nat} {xs : List Value} {S : List Nat} {q : Nat} (h : Tw B w a b N xs S) (ho : w'.ownsRow B 3 1 b' (S.length + 1) (ivs S ++ [.int .i64 (q : Nat)])) (hg : w.grownBy w' b.ownBlock) (hat : b'.ownBlock = b.ownBlock ∨ b'.ownBlock = some w.heap.size) : Tw B w' a b' N xs (S ++ [q]) := by
  refine ⟨own_same h.out fun k hk => hg.block k (own_lt h.out k hk) fun e => h.apart k hk e.symm, ?_, fun k hk e => ?_⟩
  · rw [List.length_append, List.length_singleton, ivs_append]
    exact ho
  · rcases hat with e2 | e2
    · exact h.apart k hk (e2 ▸ e)
    · have := own_lt h.out k hk
      rw [e2] at e
      simp at e
      omega
theorem Tw.growOut {B : Nat} {w w' : World} {a a' b : Value} {N : Nat} {xs ys : List Value} {S : List Nat} (h : Tw B w a b N xs S) (ho : w'.ownsRow B 43 4 a' (N + 1) (xs ++ ys)) (hg : w.grownBy w' a.ownBlock) (hat : a'.ownBlock = a.ownBlock ∨ a'.ownBlock = some w.heap.size) : Tw B w' a' b (N + 1) (xs ++ ys) S := by
  refine ⟨ho, own_same h.opn fun k hk => hg.block k (own_lt h.opn k hk) fun e => h.apart k e.symm hk, fun k hk e => ?_⟩
  rcases hat with e2 | e2
  · exact h.apart k (e2 ▸ hk) e
  · have := own_lt h.opn k e
    rw [e2] at hk
    simp at hk
    omega
theorem own_cap {B : Nat} {w : World} {e : TypeId} {z g cap n : Nat} {xs : List Value} (h : w.ownsRow B e z (.slice (some ⟨g, 0, none⟩) n cap) n xs) : n ≤ cap := by
  rcases h.2 with ⟨h', _⟩ | ⟨g', cap', cur, h', _, _, hnc, _⟩
  · simp at h'
  · simp only [Value.slice.injEq, true_and] at h'
    omega
theorem own_any {B : Nat} {w : World} {e : TypeId} {z n : Nat} {v : Value} {xs : List Value} (h : w.ownsRow B e z v n xs) : ∃ c cap, v = .slice c n cap ∧ n ≤ cap := by
  rcases h.2 with ⟨rfl, rfl⟩ | ⟨g, cap, cur, hv, _, _, hc, _⟩
  · exact ⟨none, 0, rfl, Nat.le_refl _⟩
  · exact ⟨_, cap, hv, hc⟩
section
variable {P : Program}
/-- 'append(v, x)', x laid into block k, and where the new one lies. -/
theorem wpList_append_at1 (w : World) {ops : Array Oper} {rest : List Oper} {o : Oper} {a : Act} {Q : Exit → Act → World → Prop} (hgd : o.guard = none) (s x : Operand) (t : TypeId)
    (ho : o.op = .call { callee := .builtin .append, args := #[s, x], argTypes := #[t, t] })
    (base : Nat) (e : TypeId) (i : TypeInfo) (z : Value) (size bytes : Nat) (ht : P.underlying t = some (.slice e)) (hi : P.info? e = some i) (hz : i.zero = some z)
    (hsize : i.size = size) (hby : i.bytes = bytes) (hzs : z.cells.size = size) (hsz : 0 < size)
    (v : Value) (n : Nat) (xs : List Value) (hs : a.eval s = v) (hown : w.ownsRow base e size v n xs)
    (k c : Nat) (ys : Array Value) (fr : Nat × Nat) (hx : a.eval x = .slice (some ⟨k, 0, none⟩) 1 c) (hk : w.heap[k]? = some (.cells ys e fr)) (hl : ys.toList.length = 1 * size) (h1 : ∀ u ∈ ys.toList, u.oneCell' = true)
    (h63 : n + 1 ≤ maxLen) (hbytes : (n + 1) * bytes ≤ 140737488355328) (hbase : base ≤ w.heap.size)
    (h : ∀ v' w', w'.ownsRow base e size v' (n + 1) (xs ++ ys.toList) → w.grownBy w' v.ownBlock → (v'.ownBlock = v.ownBlock ∨ v'.ownBlock = some w.heap.size) → wpList P ops Q rest (a.put o.dst v') w') : wpList P ops Q (o :: rest) a w := by
  refine wpList_append_own_at w hgd s x t ho base e i z size bytes ht hi hz hsize hby hzs hsz v n xs hs hown ⟨k, 0, none⟩ 1 c ys.toList hx hl (World.news_of_block hk) h1 h63 hbytes hbase ?_
  intro v' w' h2 h3 _ h4
  exact h v' w' h2 h3 h4
end
/-- The four cells of a node stay where others grow. -/
theorem four_after {w w' : World} {row : Option Nat} {k : Nat} {o : Obj} {x y z u : Value} {t : TypeId} (h : w.heap[k]? = some (.cells #[x, y, z, u] t (0, 0))) (hg : (w.alloc o).grownBy w' row) (hne : some k ≠ row) :
    w'.cell? ⟨k, 0, none⟩ = some x ∧ w'.cell? ⟨k, 1, none⟩ = some y ∧ w'.cell? ⟨k, 2, none⟩ = some z ∧ w'.cell? ⟨k, 3, none⟩ = some u ∧ w'.heap[k]? = some (.cells #[x, y, z, u] t (0, 0)) := by
  have hlt := lt_of_block h
  have e : w'.heap[k]? = some (.cells #[x, y, z, u] t (0, 0)) := by
    rw [hg.block k (by simp; omega) hne, heap_alloc_old w o hlt]
    exact h
  exact ⟨Lib.cell_of_heap e 0, Lib.cell_of_heap e 1, Lib.cell_of_heap e 2, Lib.cell_of_heap e 3, e⟩
/-- What an open node adds: its rank to those that are open, its four numbers to the nodes. -/
theorem Tw.push {B M N q : Nat} {w wr W0 wA wB : World} {a b v1 v2 : Value} {o1 o2 : Obj} {xs ys : List Value} {S : List Nat} (hT : Tw B wr a b N xs S) (hW : Below B w wr) (hB : B ≤ w.heap.size) (h0 : Below wr.heap.size wr W0) (hM : M = S.length)
    (ho1 : wA.ownsRow B 3 1 v1 (M + 1) (ivs S ++ [.int .i64 (q : Nat)])) (hg1 : (W0.alloc o1).grownBy wA b.ownBlock) (ha1 : v1.ownBlock = b.ownBlock ∨ v1.ownBlock = some (W0.alloc o1).heap.size)
    (ho2 : wB.ownsRow B 43 4 v2 (N + 1) (xs ++ ys)) (hg2 : (wA.alloc o2).grownBy wB a.ownBlock) (ha2 : v2.ownBlock = a.ownBlock ∨ v2.ownBlock = some (wA.alloc o2).heap.size) :
    Tw B wB v2 v1 (N + 1) (xs ++ ys) (S ++ [q]) ∧ Below B w wB := by
  subst hM
  have hb0 : Below B w W0 := hW.trans (h0.mono (Nat.le_trans hB hW.size))
  have hs0 := hb0.size
  have t1 : Tw B (W0.alloc o1) a b N xs S := hT.below (h0.alloc h0.size o1)
  have t2 := t1.growOpn ho1 hg1 ha1
  have t3 : Tw B (wA.alloc o2) a v1 N xs (S ++ [q]) := t2.below ((Below.refl _ _).alloc (Nat.le_refl _) o2)
  refine ⟨t3.growOut ho2 hg2 ha2, ?_⟩
  have b1 : Below B w (W0.alloc o1) := hb0.alloc (Nat.le_trans hB hs0) o1
  have b2 : Below B w wA := b1.grown hg1 (Nat.le_trans hB b1.size) (fun k hk => (t1.opn.lt k hk).1)
  have b3 : Below B w (wA.alloc o2) := b2.alloc (Nat.le_trans hB b2.size) o2
  exact b3.grown hg2 (Nat.le_trans hB b3.size) (fun k hk => (t3.out.lt k hk).1)
/-- The last open one taken away. -/
theorem own_pop {B : Nat} {w : World} {g cap : Nat} {S : List Nat} {q : Nat} (h : w.ownsRow B 3 1 (.slice (some ⟨g, 0, none⟩) (S.length + 1) cap) (S.length + 1) (ivs (S ++ [q]))) : w.ownsRow B 3 1 (.slice (some ⟨g, 0, none⟩) S.length cap) S.length (ivs S) := by
  rcases h.2 with ⟨h', _⟩ | ⟨g', cap', cur, h', hb, hg, hnc, hcm, hcs, htake⟩
  · simp at h'
  · simp only [Value.slice.injEq, Option.some.injEq, Addr.mk.injEq, and_true, true_and] at h'
    obtain ⟨rfl, rfl⟩ := h'
    refine ⟨by rw [ivs_len, Nat.mul_one], .inr ⟨g, cap, cur, rfl, hb, hg, by omega, hcm, hcs, ?_⟩⟩
    have e : cur.toList.take (S.length * 1) = (cur.toList.take ((S.length + 1) * 1)).take S.length := by
      rw [List.take_take]
      congr 1
      omega
    rw [e, htake, ivs_append, List.take_left' (ivs_len S)]
end Ns
theorem Tryz.infoInt8 : (Tryz.prog.info? 3).map (fun i => (i.zero, i.size, i.bytes)) = some (some (.int .i64 0), 1, 8) := by kernel_rfl
theorem Tryz.infoNode8 : (Tryz.prog.info? 43).map (fun i => (i.zero, i.size, i.bytes)) = some (some (.agg #[.int .i64 0, .int .i64 0, .int .i64 0, .int .i64 0]), 4, 32) := by kernel_rfl
set_option maxHeartbeats 4000000 in
set_option maxRecDepth 100000 in
theorem Nodes_ref (L : List Bool) (X n : Nat) (v : Value) (w : World) (h : Bv w v L) (hX : X = Bt.num L) (hn : n = L.length) (ok : Ns.Ok X n) (hL : n ≤ 1048576) :
    Calls Tryz.prog 9 #[v] w fun e w' => ∃ v', e = .returned v' ∧ w'.ownsRow w.heap.size 43 4 v' (Wd.ones X n) (Ns.nvs (Wd.ones X n) (Ns.nf X n n)) ∧ Below w.heap.size w w' := by
  obtain ⟨i0, hi, hz0, hz1, hz2⟩ := info_parts Tryz.infoInt8
  obtain ⟨j0, hj, hy0, hy1, hy2⟩ := info_parts Tryz.infoNode8
  obtain ⟨ao, cap, rfl, hcap, hc⟩ := h
  have hbits : ∀ i, i < n → (L.getD i false = true ↔ Wd.bt X i = 1) := by
    intro i hi
    rw [hX, Bt.bt_num]
    cases L.getD i false <;> simp
  rw [← hn] at hcap hc ⊢
  have HC := hidden hc
  have OK := hidden ok
  have HBITS := hidden hbits
  clear hc hn hX ok hbits
  go_enter Tryz.func9, Tryz.ntmps9
  go_wp2_with fail
  go_loopw [3, 4, 5] (fun s3 s4 s5 wr => ∃ a : Nat, a ≤ n ∧ s5 = .int .i64 (a : Nat) ∧ Ns.Tw w.heap.size wr s3 s4 (Wd.ones X a) (Ns.nvs (Wd.ones X a) (Ns.nf X n a)) (Ns.opn X n a) ∧ Below w.heap.size w wr) (fun _ _ s5 _ => n - (intOf s5).toNat)
  case atStart => exact ⟨0, by omega, rfl, ⟨World.ownsRow_nil _ _ _ _, World.ownsRow_nil _ _ _ _, by intro k hk; cases hk⟩, Below.refl _ _⟩
  case round =>
    obtain ⟨a, ha, rfl, htw, hbel⟩ := hrel
    have HTW := hidden htw
    have HBL := hidden hbel
    have hsz := hbel.size
    clear htw hbel
    by_cases hlt : a < n
    · obtain ⟨gL, off, rfl, hgL, hcell⟩ := HC.out (by omega)
      have c0 : wr.cell? ⟨gL, off + a, none⟩ = some (.bool (L.getD a false)) := (HBL.out.cell (p := ⟨gL, off + a, none⟩) hgL).trans (hcell a hlt)
      have hlt' : (a : Int) < (n : Int) := by omega
      have hbit := HBITS.out a hlt
      rcases Ns.bt_or X a with hz | hz
      · have e0 : L.getD a false = false := by cases e : L.getD a false with | false => rfl | true => have := hbit.1 e; omega
        rw [e0] at c0
        obtain ⟨q, hq, hcq, _⟩ := Ns.opened OK.out hlt hz
        have hpop := Ns.opn_pop OK.out hq hcq
        have hqa : Wd.ones X q < Wd.ones X a := Wd.ones_lt X q a hq.2 hcq.gt
        have hon : Wd.ones X a ≤ n := Nat.le_trans (Wd.ones_le X a) ha
        have hnz := Ns.nf_zero OK.out hq hcq
        have HT2 := HTW.out
        rw [hpop] at HT2
        obtain ⟨S, hS⟩ : ∃ S, Ns.opn X n (a + 1) = S := ⟨_, rfl⟩
        obtain ⟨ys, hys⟩ : ∃ ys, Ns.nvs (Wd.ones X (a + 1)) (Ns.nf X n (a + 1)) = ys := ⟨_, rfl⟩
        rw [hS] at HT2 hpop
        rw [hys] at hnz
        have HS := hidden hS
        have HYS : Hid (Ns.nvs (Wd.ones X a) (Ns.nf X n (a + 1)) = ys) := by
          have e : Wd.ones X (a + 1) = Wd.ones X a := by rw [Wd.ones_succ, hz]; rfl
          rw [e] at hys
          exact hys
        clear hS hys
        have hone : Wd.ones X (a + 1) = Wd.ones X a := by rw [Wd.ones_succ, hz]; rfl
        have hO := HT2.opn
        rw [List.length_append, List.length_singleton] at hO
        obtain ⟨g, cap3, rfl, hg0, hg1⟩ := HT2.out.form (by omega)
        obtain ⟨h, cap4, rfl, hh0, hh1⟩ := hO.form (by omega)
        have hcap4 := Ns.own_cap hO
        have hgh : h ≠ g := fun e => HT2.apart g rfl (by simp [Value.ownBlock, e])
        have c1 : wr.cell? ⟨h, S.length, none⟩ = some (.int .i64 ((Wd.ones X q : Nat) : Int)) := (hO.cellAt S.length (by omega)).trans (Ns.ivs_last S _)
        have c2 := (HT2.out.cellAt (Wd.ones X q * 4 + 1) (by omega)).trans (Ns.nvs_at _ hqa (by decide))
        have f2 := HT2.out.frozenAt (Wd.ones X q * 4 + 1)
        have HST := hidden (HT2.out.stored (Wd.ones X q * 4 + 1) (.int .i64 (a : Nat)))
        have HPO := hidden (Ns.own_pop hO)
        have hM : S.length ≤ 4294967296 := by
          have h1 := Ns.opn_len OK.out (Nat.le_of_lt hlt)
          rw [hpop, List.length_append, List.length_singleton] at h1
          have h2 : Wd.exc X a ≤ a := by have := Wd.ones_le X a; unfold Wd.exc; omega
          omega
        have HNZ := hidden hnz
        have HONE := hidden hone
        obtain ⟨r, hr⟩ : ∃ r, r = Wd.ones X q := ⟨_, rfl⟩
        obtain ⟨N, hN⟩ : ∃ N, N = Wd.ones X a := ⟨_, rfl⟩
        obtain ⟨M, hM'⟩ : ∃ M, M = S.length := ⟨_, rfl⟩
        rw [← hr] at c1 c2 f2 HST HNZ
        rw [← hN] at HST HONE HNZ HYS hon ⊢
        rw [← hM'] at c1 HPO hM hcap4 ⊢
        have hcap5 : (M : Int) ≤ (cap4 : Int) := by omega
        have hrN : r < N := by omega
        have HM := hidden hM'
        clear hr hN hM' hO HT2 hpop hnz hqa hq hcq hbit e0 hz hone HTW
        go_wp2_with fail
        refine ⟨⟨a + 1, by omega, by go_num, ?_, HBL.out.setCell (p := ⟨g, r * 4 + 1, none⟩) hg0 _⟩, by simp [intOf]; omega⟩
        have hp' : Ns.opn X n (a + 1) = S := HS.out
        rw [hp', HONE.out, HYS.out, HNZ.out]
        refine ⟨HST.out.1, ?_, fun k hk e => hgh (by simp [Value.ownBlock] at hk e; omega)⟩
        rw [← HM.out]
        refine own_same HPO.out fun k hk => setCell_heap_other _ _ _ _ ?_
        simp [Value.ownBlock] at hk
        show k ≠ g
        omega
      · have e0 : L.getD a false = true := hbit.2 hz
        rw [e0] at c0
        have hnd : Ns.Nd X n a := ⟨hlt, hz⟩
        have hone : Wd.ones X (a + 1) = Wd.ones X a + 1 := by rw [Wd.ones_succ, hz]
        have hopn := Ns.opn_one OK.out hnd
        have hnf := Ns.nf_one OK.out hnd
        have hlen := Ns.opn_len OK.out (Nat.le_of_lt hlt)
        have hex : Wd.exc X a ≤ a := by have := Wd.ones_le X a; unfold Wd.exc; omega
        have hon : Wd.ones X a ≤ n := Nat.le_trans (Wd.ones_le X a) ha
        have HPAR := hidden (Ns.pr_dec OK.out ha)
        have HOP := hidden (fun p => Ns.opn_par (X := X) (n := n) (a := a) (p := p) OK.out)
        have HONE := hidden hone
        have HOPN := hidden hopn
        have HNF := hidden hnf
        clear hbit hz e0 hone hopn hnf
        obtain ⟨Sx, hSx⟩ : ∃ S, S = Ns.opn X n a := ⟨_, rfl⟩
        obtain ⟨xs, hxs⟩ : ∃ xs, xs = Ns.nvs (Wd.ones X a) (Ns.nf X n a) := ⟨_, rfl⟩
        obtain ⟨N, hN⟩ : ∃ N, N = Wd.ones X a := ⟨_, rfl⟩
        rw [← hSx] at hlen HOP HOPN
        have hT := HTW.out
        rw [← hSx, ← hxs, ← hN] at hT
        rw [← hxs] at HNF
        rw [← hN] at hon HONE HOPN
        have HT := hidden hT
        obtain ⟨c3, cap3, rfl, hcap3⟩ := Ns.own_any hT.out
        obtain ⟨c4, cap4, rfl, hcap4⟩ := Ns.own_any hT.opn
        obtain ⟨M, hM⟩ : ∃ M, M = Sx.length := ⟨_, rfl⟩
        rw [← hM] at hlen hcap4 ⊢
        have hM2 : M ≤ 1048576 := by omega
        have HLEN := hidden hlen
        have HMM := hidden hM
        clear hSx hxs hN hM hT HTW hlen hex
        by_cases h0 : M = 0
        · have h0' : ¬ ((0 : Int) < (M : Int)) := by omega
          have H0 := hidden h0
          clear h0
          have HB0 : Hid (Below wr.heap.size wr (wr.alloc (.cells #[.int .i64 (a : Nat), .int .i64 0, .int .i64 (-1), .int .i64 (M : Nat)] 43))) := (Below.refl _ _).alloc (Nat.le_refl _) _
          have HC0 : Hid ((wr.alloc (.cells #[.int .i64 (a : Nat), .int .i64 0, .int .i64 (-1), .int .i64 (M : Nat)] 43)).heap[wr.heap.size]? = some (.cells #[.int .i64 (a : Nat), .int .i64 0, .int .i64 (-1), .int .i64 (M : Nat)] 43 (0, 0))) := heap_alloc_new _ _
          have OWN1 : Hid (((wr.alloc (.cells #[.int .i64 (a : Nat), .int .i64 0, .int .i64 (-1), .int .i64 (M : Nat)] 43)).alloc (.cells #[.int .i64 (N : Nat)] 3)).ownsRow w.heap.size 3 1 (.slice c4 M cap4) M (Ns.ivs Sx)) := by
            have h5 := (own_below HT.out.opn HB0.out (Nat.le_refl _)).alloc (.cells #[.int .i64 (N : Nat)] 3)
            rw [← HMM.out] at h5
            exact h5
          have hszw : (wr.alloc (.cells #[.int .i64 (a : Nat), .int .i64 0, .int .i64 (-1), .int .i64 (M : Nat)] 43)).heap.size = wr.heap.size + 1 := by simp
          have HK1 : Hid (((wr.alloc (.cells #[.int .i64 (a : Nat), .int .i64 0, .int .i64 (-1), .int .i64 (M : Nat)] 43)).alloc (.cells #[.int .i64 (N : Nat)] 3)).heap[wr.heap.size + 1]? = some (.cells #[.int .i64 (N : Nat)] 3 (0, 0))) := heap_new_at hszw.symm
          have HS1 : Hid (∀ u ∈ (#[.int .i64 (N : Nat)] : Array Value).toList, u.oneCell' = true) := by intro u hu; simp at hu; subst hu; rfl
          have HS2 : Hid (∀ u ∈ (#[.int .i64 (a : Nat), .int .i64 0, .int .i64 (-1), .int .i64 (M : Nat)] : Array Value).toList, u.oneCell' = true) := by
            intro u hu
            simp at hu
            rcases hu with rfl | rfl | rfl | rfl <;> rfl
          have HZ1 : Hid (w.heap.size ≤ ((wr.alloc (.cells #[.int .i64 (a : Nat), .int .i64 0, .int .i64 (-1), .int .i64 (M : Nat)] 43)).alloc (.cells #[.int .i64 (N : Nat)] 3)).heap.size) := by show _ ≤ _; simp; omega
          have HF4 : Hid (∀ wA, ((wr.alloc (.cells #[.int .i64 (a : Nat), .int .i64 0, .int .i64 (-1), .int .i64 (M : Nat)] 43)).alloc (.cells #[.int .i64 (N : Nat)] 3)).grownBy wA (Value.slice c4 M cap4).ownBlock → wA.cell? ⟨wr.heap.size, 0, none⟩ = some (.int .i64 (a : Nat)) ∧ wA.cell? ⟨wr.heap.size, 1, none⟩ = some (.int .i64 0) ∧ wA.cell? ⟨wr.heap.size, 2, none⟩ = some (.int .i64 (-1)) ∧ wA.cell? ⟨wr.heap.size, 3, none⟩ = some (.int .i64 (M : Nat)) ∧ (wA.alloc (.cells #[.int .i64 (a : Nat), .int .i64 0, .int .i64 (-1), .int .i64 (M : Nat)] 43)).ownsRow w.heap.size 43 4 (.slice c3 N cap3) N xs ∧ w.heap.size ≤ (wA.alloc (.cells #[.int .i64 (a : Nat), .int .i64 0, .int .i64 (-1), .int .i64 (M : Nat)] 43)).heap.size) := by
            intro wA hg
            have h5 := own_lt HT.out.opn
            have h6 := HT.out.apart
            rw [← HMM.out] at h5 h6
            obtain ⟨d0, d1, d2, d3, _⟩ := Ns.four_after HC0.out hg (fun e => by have := h5 wr.heap.size e.symm; omega)
            refine ⟨d0, d1, d2, d3, ?_, ?_⟩
            · refine World.ownsRow.alloc (own_same (own_below HT.out.out (HB0.out.alloc HB0.out.size _) (Nat.le_refl _)) fun k hk => hg.block k ?_ fun e => h6 k hk e.symm) _
              have := own_lt HT.out.out k hk
              simp
              omega
            · have := hg.size
              simp at this ⊢
              omega
          clear HK1 HZ1
          have HK1 : Hid (((wr.alloc (.cells #[.int .i64 (a : Nat), .int .i64 0, .int .i64 (-1), .int .i64 (M : Nat)] 43)).alloc (.cells #[.int .i64 (N : Nat)] 3)).heap[wr.heap.size + 1]? = some (.cells #[.int .i64 (N : Nat)] 3 (0, 0))) := heap_new_at hszw.symm
          have HZ1 : Hid (w.heap.size ≤ ((wr.alloc (.cells #[.int .i64 (a : Nat), .int .i64 0, .int .i64 (-1), .int .i64 (M : Nat)] 43)).alloc (.cells #[.int .i64 (N : Nat)] 3)).heap.size) := by show _ ≤ _; simp; omega
          clear hszw
          go_wp2_with (first
            | (at_builtin; refine Ns.wpList_append_at1 _ rfl (.tmp 47) (.tmp 50) 23 rfl w.heap.size 3 i0 (.int .i64 0) 1 8 Tryz.underlying23 hi hz0 hz1 hz2 rfl (by decide) (.slice c4 M cap4) M (Ns.ivs Sx) rfl OWN1.out (wr.heap.size + 1) 1 #[.int .i64 (N : Nat)] (0, 0) rfl HK1.out rfl HS1.out (by unfold maxLen; omega) (by omega) HZ1.out ?_; intro v1 wA hown1 hgrow1 hat1; obtain ⟨d0, d1, d2, d3, hoo, hzz⟩ := HF4.out _ hgrow1; have HO1 := hidden hown1; have HG1 := hidden hgrow1; have HA1 := hidden hat1; have HOO := hidden hoo; have HZZ := hidden hzz; clear hown1 hgrow1 hat1 hoo hzz)
            | (at_builtin; refine Ns.wpList_append_at1 _ rfl (.tmp 52) (.tmp 54) 34 rfl w.heap.size 43 j0 (.agg #[.int .i64 0, .int .i64 0, .int .i64 0, .int .i64 0]) 4 32 Tryz.underlying34 hj hy0 hy1 hy2 rfl (by decide) (.slice c3 N cap3) N xs rfl HOO.out wA.heap.size 1 #[.int .i64 (a : Nat), .int .i64 0, .int .i64 (-1), .int .i64 (M : Nat)] (0, 0) rfl (heap_alloc_new _ _) rfl HS2.out (by unfold maxLen; omega) (by omega) HZZ.out ?_; intro v2 wB hown2 hgrow2 hat2; have HG2 := hidden hgrow2; have HO2 := hidden hown2; have HA2 := hidden hat2; clear hgrow2 hown2 hat2))
          obtain ⟨ht, hbw⟩ := Ns.Tw.push (q := N) HT.out HBL.out (Nat.le_refl _) HB0.out HMM.out HO1.out (by rw [← HMM.out]; exact HG1.out) (by rw [← HMM.out]; exact HA1.out) HO2.out HG2.out HA2.out
          refine ⟨⟨a + 1, by omega, by go_num, ?_, hbw⟩, by simp [intOf]; omega⟩
          rw [HNF.out, HONE.out, HOPN.out]
          have hpr : Ns.pr X a = (-1) := by rcases HPAR.out with ⟨_, h2⟩ | ⟨p, hp, _⟩; exact h2; have := hp.eq; have := OK.out.low p (by have := hp.lt; omega); have := HLEN.out; have := H0.out; omega
          rw [hpr, ← HLEN.out]
          exact ht
        · have h0' : (0 : Int) < (M : Int) := by omega
          obtain ⟨p0, hp0, hpr0⟩ : ∃ p, Ns.Par X a p ∧ Ns.pr X a = (Wd.ones X p : Int) := by
            rcases HPAR.out with ⟨h1, _⟩ | h2
            · have := HLEN.out; omega
            · exact h2
          obtain ⟨Ax, hAx⟩ := HOP.out p0 hp0
          obtain ⟨p, hp⟩ : ∃ p, p = Wd.ones X p0 := ⟨_, rfl⟩
          rw [← hp] at hpr0 hAx
          have hMA : M = Ax.length + 1 := by rw [HMM.out, hAx, List.length_append, List.length_singleton]
          have hO := HT.out.opn
          rw [← HMM.out] at hO
          obtain ⟨g4, cap5, hc4, hg40, hg41⟩ := hO.form (by omega)
          simp only [Value.slice.injEq, true_and] at hc4
          obtain ⟨rfl, rfl⟩ := hc4
          obtain ⟨m, hm⟩ : ∃ m, m = Ax.length := ⟨_, rfl⟩
          have c1 : wr.cell? ⟨g4, m, none⟩ = some (.int .i64 (p : Nat)) := by
            rw [hO.cellAt m (by omega), hAx, hm]
            exact Ns.ivs_last Ax p
          have c2 : (wr.alloc (.cells #[.int .i64 (a : Nat), .int .i64 0, .int .i64 (-1), .int .i64 (M : Nat)] 43)).cell? ⟨g4, m, none⟩ = some (.int .i64 (p : Nat)) := (((Below.refl wr.heap.size wr).alloc (Nat.le_refl _) _).cell (p := ⟨g4, m, none⟩) hg41).trans c1
          have hm1 : (M : Int) - 1 = (m : Int) := by omega
          have hm2 : m < M := by omega
          have HPR0 := hidden hpr0
          have hn4 : g4 ≠ wr.heap.size := by omega
          clear hAx hMA hO hp hm hp0 c1 h0 hpr0
          have HB0 : Hid (Below wr.heap.size wr (wr.alloc (.cells #[.int .i64 (a : Nat), .int .i64 0, .int .i64 (p : Nat), .int .i64 (M : Nat)] 43))) := (Below.refl _ _).alloc (Nat.le_refl _) _
          have HC0 : Hid ((wr.alloc (.cells #[.int .i64 (a : Nat), .int .i64 0, .int .i64 (p : Nat), .int .i64 (M : Nat)] 43)).heap[wr.heap.size]? = some (.cells #[.int .i64 (a : Nat), .int .i64 0, .int .i64 (p : Nat), .int .i64 (M : Nat)] 43 (0, 0))) := heap_alloc_new _ _
          have OWN1 : Hid (((wr.alloc (.cells #[.int .i64 (a : Nat), .int .i64 0, .int .i64 (p : Nat), .int .i64 (M : Nat)] 43)).alloc (.cells #[.int .i64 (N : Nat)] 3)).ownsRow w.heap.size 3 1 (.slice (some ⟨g4, 0, none⟩) M cap4) M (Ns.ivs Sx)) := by
            have h5 := (own_below HT.out.opn HB0.out (Nat.le_refl _)).alloc (.cells #[.int .i64 (N : Nat)] 3)
            rw [← HMM.out] at h5
            exact h5
          have hszw : (wr.alloc (.cells #[.int .i64 (a : Nat), .int .i64 0, .int .i64 (p : Nat), .int .i64 (M : Nat)] 43)).heap.size = wr.heap.size + 1 := by simp
          have HK1 : Hid (((wr.alloc (.cells #[.int .i64 (a : Nat), .int .i64 0, .int .i64 (p : Nat), .int .i64 (M : Nat)] 43)).alloc (.cells #[.int .i64 (N : Nat)] 3)).heap[wr.heap.size + 1]? = some (.cells #[.int .i64 (N : Nat)] 3 (0, 0))) := heap_new_at hszw.symm
          have HS1 : Hid (∀ u ∈ (#[.int .i64 (N : Nat)] : Array Value).toList, u.oneCell' = true) := by intro u hu; simp at hu; subst hu; rfl
          have HS2 : Hid (∀ u ∈ (#[.int .i64 (a : Nat), .int .i64 0, .int .i64 (p : Nat), .int .i64 (M : Nat)] : Array Value).toList, u.oneCell' = true) := by
            intro u hu
            simp at hu
            rcases hu with rfl | rfl | rfl | rfl <;> rfl
          have HZ1 : Hid (w.heap.size ≤ ((wr.alloc (.cells #[.int .i64 (a : Nat), .int .i64 0, .int .i64 (p : Nat), .int .i64 (M : Nat)] 43)).alloc (.cells #[.int .i64 (N : Nat)] 3)).heap.size) := by show _ ≤ _; simp; omega
          have HF4 : Hid (∀ wA, ((wr.alloc (.cells #[.int .i64 (a : Nat), .int .i64 0, .int .i64 (p : Nat), .int .i64 (M : Nat)] 43)).alloc (.cells #[.int .i64 (N : Nat)] 3)).grownBy wA (Value.slice (some ⟨g4, 0, none⟩) M cap4).ownBlock → wA.cell? ⟨wr.heap.size, 0, none⟩ = some (.int .i64 (a : Nat)) ∧ wA.cell? ⟨wr.heap.size, 1, none⟩ = some (.int .i64 0) ∧ wA.cell? ⟨wr.heap.size, 2, none⟩ = some (.int .i64 (p : Nat)) ∧ wA.cell? ⟨wr.heap.size, 3, none⟩ = some (.int .i64 (M : Nat)) ∧ (wA.alloc (.cells #[.int .i64 (a : Nat), .int .i64 0, .int .i64 (p : Nat), .int .i64 (M : Nat)] 43)).ownsRow w.heap.size 43 4 (.slice c3 N cap3) N xs ∧ w.heap.size ≤ (wA.alloc (.cells #[.int .i64 (a : Nat), .int .i64 0, .int .i64 (p : Nat), .int .i64 (M : Nat)] 43)).heap.size) := by
            intro wA hg
            have h5 := own_lt HT.out.opn
            have h6 := HT.out.apart
            rw [← HMM.out] at h5 h6
            obtain ⟨d0, d1, d2, d3, _⟩ := Ns.four_after HC0.out hg (fun e => by have := h5 wr.heap.size e.symm; omega)
            refine ⟨d0, d1, d2, d3, ?_, ?_⟩
            · refine World.ownsRow.alloc (own_same (own_below HT.out.out (HB0.out.alloc HB0.out.size _) (Nat.le_refl _)) fun k hk => hg.block k ?_ fun e => h6 k hk e.symm) _
              have := own_lt HT.out.out k hk
              simp
              omega
            · have := hg.size
              simp at this ⊢
              omega
          clear HK1 HZ1
          have HK1 : Hid (((wr.alloc (.cells #[.int .i64 (a : Nat), .int .i64 0, .int .i64 (p : Nat), .int .i64 (M : Nat)] 43)).alloc (.cells #[.int .i64 (N : Nat)] 3)).heap[wr.heap.size + 1]? = some (.cells #[.int .i64 (N : Nat)] 3 (0, 0))) := heap_new_at hszw.symm
          have HZ1 : Hid (w.heap.size ≤ ((wr.alloc (.cells #[.int .i64 (a : Nat), .int .i64 0, .int .i64 (p : Nat), .int .i64 (M : Nat)] 43)).alloc (.cells #[.int .i64 (N : Nat)] 3)).heap.size) := by show _ ≤ _; simp; omega
          clear hszw
          go_wp2_with (first
            | (at_builtin; refine Ns.wpList_append_at1 _ rfl (.tmp 47) (.tmp 50) 23 rfl w.heap.size 3 i0 (.int .i64 0) 1 8 Tryz.underlying23 hi hz0 hz1 hz2 rfl (by decide) (.slice (some ⟨g4, 0, none⟩) M cap4) M (Ns.ivs Sx) rfl OWN1.out (wr.heap.size + 1) 1 #[.int .i64 (N : Nat)] (0, 0) rfl HK1.out rfl HS1.out (by unfold maxLen; omega) (by omega) HZ1.out ?_; intro v1 wA hown1 hgrow1 hat1; obtain ⟨d0, d1, d2, d3, hoo, hzz⟩ := HF4.out _ hgrow1; have HO1 := hidden hown1; have HG1 := hidden hgrow1; have HA1 := hidden hat1; have HOO := hidden hoo; have HZZ := hidden hzz; clear hown1 hgrow1 hat1 hoo hzz)
            | (at_builtin; refine Ns.wpList_append_at1 _ rfl (.tmp 52) (.tmp 54) 34 rfl w.heap.size 43 j0 (.agg #[.int .i64 0, .int .i64 0, .int .i64 0, .int .i64 0]) 4 32 Tryz.underlying34 hj hy0 hy1 hy2 rfl (by decide) (.slice c3 N cap3) N xs rfl HOO.out wA.heap.size 1 #[.int .i64 (a : Nat), .int .i64 0, .int .i64 (p : Nat), .int .i64 (M : Nat)] (0, 0) rfl (heap_alloc_new _ _) rfl HS2.out (by unfold maxLen; omega) (by omega) HZZ.out ?_; intro v2 wB hown2 hgrow2 hat2; have HG2 := hidden hgrow2; have HO2 := hidden hown2; have HA2 := hidden hat2; clear hgrow2 hown2 hat2))
          obtain ⟨ht, hbw⟩ := Ns.Tw.push (q := N) HT.out HBL.out (Nat.le_refl _) HB0.out HMM.out HO1.out (by rw [← HMM.out]; exact HG1.out) (by rw [← HMM.out]; exact HA1.out) HO2.out HG2.out HA2.out
          refine ⟨⟨a + 1, by omega, by go_num, ?_, hbw⟩, by simp [intOf]; omega⟩
          rw [HNF.out, HONE.out, HOPN.out]
          have hpr : Ns.pr X a = (p : Nat) := HPR0.out
          rw [hpr, ← HLEN.out]
          exact ht
    · obtain rfl : a = n := by omega
      have hlt' : ¬ ((a : Int) < (a : Int)) := by omega
      go_wp2_with fail
      go_ret
      exact ⟨_, rfl, HTW.out.out, HBL.out⟩
end Go.Proofs.YtmeclkmmgbndkaaGreatDoor
namespace Go.Proofs.YtmeclkmmgbndkaaGreatDoor
open Go Go.RowKit
namespace Ns
open Wd
/-- The list of all nodes, wherever it lies. -/
def Nw (w : World) (v : Value) (X n : Nat) : Prop := w.ownsRow 0 43 4 v (ones X n) (nvs (ones X n) (nf X n n))
theorem Nw.of {w : World} {B : Nat} {v : Value} {X n : Nat} (h : w.ownsRow B 43 4 v (ones X n) (nvs (ones X n) (nf X n n))) : Nw w v X n := own_base h (Nat.zero_le _)
theorem Nw.below {w w' : World} {v : Value} {X n C : Nat} (h : Nw w v X n) (hb : Below C w w') (hC : w.heap.size ≤ C) : Nw w' v X n := own_below h hb hC
theorem Nw.form {w : World} {v : Value} {X n : Nat} (h : Nw w v X n) : ∃ ao cap, v = .slice ao (ones X n) cap ∧ ones X n ≤ cap ∧ (0 < ones X n → ∃ g, ao = some ⟨g, 0, none⟩ ∧ g < w.heap.size ∧ ∀ r c, r < ones X n → c < 4 → w.cell? ⟨g, r * 4 + c, none⟩ = some (.int .i64 (nf X n n r c))) := by
  obtain ⟨ao, cap, rfl, hcap⟩ := own_any h
  refine ⟨ao, cap, rfl, hcap, fun h0 => ?_⟩
  obtain ⟨g, cap', hv, _, hlt⟩ := World.ownsRow.form h h0
  simp only [Value.slice.injEq, true_and] at hv
  obtain ⟨rfl, rfl⟩ := hv
  exact ⟨g, rfl, hlt, fun r c hr hc => (World.ownsRow.cellAt h (r * 4 + c) (by omega)).trans (nvs_at _ hr hc)⟩
/-- A list of ranks, wherever it lies. -/
def Rv (w : World) (v : Value) (S : List Nat) : Prop := w.ownsRow 0 3 1 v S.length (ivs S)
theorem Rv.below {w w' : World} {v : Value} {S : List Nat} {C : Nat} (h : Rv w v S) (hb : Below C w w') (hC : w.heap.size ≤ C) : Rv w' v S := own_below h hb hC
theorem ivs_get (S : List Nat) {i : Nat} (hi : i < S.length) : (ivs S)[i]? = some (.int .i64 ((S.getD i 0 : Nat) : Int)) := by
  unfold ivs
  rw [List.getElem?_map, List.getD_eq_getElem?_getD, List.getElem?_eq_getElem hi]
  rfl
theorem Rv.form {w : World} {v : Value} {S : List Nat} (h : Rv w v S) : ∃ ao cap, v = .slice ao S.length cap ∧ S.length ≤ cap ∧ (0 < S.length → ∃ g, ao = some ⟨g, 0, none⟩ ∧ g < w.heap.size ∧ ∀ i, i < S.length → w.cell? ⟨g, i, none⟩ = some (.int .i64 ((S.getD i 0 : Nat) : Int))) := by
  obtain ⟨ao, cap, rfl, hcap⟩ := own_any h
  refine ⟨ao, cap, rfl, hcap, fun h0 => ?_⟩
  obtain ⟨g, cap', hv, _, hlt⟩ := World.ownsRow.form h h0
  simp only [Value.slice.injEq, true_and] at hv
  obtain ⟨rfl, rfl⟩ := hv
  exact ⟨g, rfl, hlt, fun i hi => (World.ownsRow.cellAt h i (by omega)).trans (ivs_get S hi)⟩
theorem nf_at (X n a r : Nat) : nf X n a r 0 = (pl X n r : Int) := rfl
theorem nf_end {X n r : Nat} (h : Ok X n) (hr : r < ones X n) : nf X n n r 1 = (cl X n (pl X n r) : Int) := by
  unfold nf
  rw [if_neg (by decide), if_pos rfl, if_pos (cl_spec h (pl_nd hr).1).lt]
theorem nf_par (X n a r : Nat) : nf X n a r 2 = pr X (pl X n r) := rfl
theorem nf_dep (X n a r : Nat) : nf X n a r 3 = exc X (pl X n r) := rfl
/-- The number of the node at a place; -1. -/
def numOf (X : Nat) (i : Int) : Int := if on X i then (ones X i.toNat : Int) else -1
/-- The i-th of a list; -1. -/
def nth (S : List Nat) (i : Int) : Int := if 0 ≤ i ∧ i < (S.length : Int) then ((S.getD i.toNat 0 : Nat) : Int) else -1
end Ns
set_option maxHeartbeats 1000000 in
theorem Number_ref (X n : Nat) (v : Value) (i : Int) (w : World) (h : Ns.Nw w v X n) (ok : Ns.Ok X n) (hL : n ≤ 4294967296) :
    Calls Tryz.prog 10 #[v, .int .i64 i] w fun e w' => e = .returned (.int .i64 (Ns.numOf X i)) ∧ w' = w := by
  obtain ⟨ao, cap, rfl, hcap, hc⟩ := h.form
  have HPL := hidden (fun r (hr : r < Wd.ones X n) => Ns.pl_nd hr)
  have HRK := hidden (fun j (hj : Ns.Nd X n j) => Ns.pl_rank hj)
  have HON := hidden (Ns.on_iff ok i)
  have hN2 : Wd.ones X n ≤ 4294967296 := Nat.le_trans (Wd.ones_le X n) hL
  have HC := hidden hc
  have HLT := hidden (fun j (hj : Ns.Nd X n j) => Ns.rank_lt hj)
  obtain ⟨N, hN⟩ : ∃ N, N = Wd.ones X n := ⟨_, rfl⟩
  rw [← hN] at HPL HC hN2 hcap HLT ⊢
  clear h hc hN ok
  go_enter Tryz.func10, Tryz.ntmps10
  go_wp2_with fail
  go_loopw [5] (fun s5 wr => ∃ k : Nat, k ≤ N ∧ s5 = .int .i64 (k : Nat) ∧ (∀ r, r < k → (Ns.pl X n r : Int) ≠ i) ∧ wr = w) (fun s5 _ => N - (intOf s5).toNat)
  case atStart => exact ⟨0, by omega, rfl, fun r hr => by omega, rfl⟩
  case round =>
    obtain ⟨k, hk, rfl, hno, rfl⟩ := hrel
    have HNO := hidden hno
    clear hno
    by_cases hlt : k < N
    · have hlt' : (k : Int) < (N : Int) := by omega
      obtain ⟨g, rfl, hg, hcell⟩ := HC.out (by omega)
      have c0 := hcell k 0 hlt (by decide)
      rw [Ns.nf_at, Nat.add_zero] at c0
      obtain ⟨hnd, hrk⟩ := HPL.out k hlt
      clear hcell
      by_cases he : (Ns.pl X n k : Int) = i
      · have h5 : Ns.numOf X i = (k : Int) := by
          unfold Ns.numOf
          rw [if_pos (HON.out.2 ⟨Ns.pl X n k, he.symm, hnd⟩), ← he, Int.toNat_natCast, hrk]
        have H5 := hidden h5
        rw [he] at c0
        clear h5 hnd hrk he
        go_wp2_with fail
        go_ret
        exact ⟨by rw [H5.out]; rfl, rfl⟩
      · have he' : ((Ns.pl X n k : Int) == i) = false := beq_false_of_ne he
        have HE := hidden he
        obtain ⟨p, hp⟩ : ∃ p, p = Ns.pl X n k := ⟨_, rfl⟩
        rw [← hp] at c0 he'
        clear he hnd hrk hp
        go_wp2_with fail
        refine ⟨⟨k + 1, by omega, by go_num, fun r hr => ?_, trivial⟩, by simp [intOf]; omega⟩
        by_cases e : r = k
        · rw [e]; exact HE.out
        · exact HNO.out r (by omega)
    · obtain rfl : k = N := by omega
      have hlt' : ¬ ((k : Int) < (k : Int)) := by omega
      have h5 : Ns.numOf X i = -1 := by
        unfold Ns.numOf
        rw [if_neg]
        intro ho
        obtain ⟨j, rfl, hj⟩ := HON.out.1 ho
        exact HNO.out (Wd.ones X j) (HLT.out j hj) (by rw [HRK.out j hj])
      have H5 := hidden h5
      clear h5
      go_wp2_with fail
      go_ret
      exact ⟨by rw [H5.out]; rfl, rfl⟩
theorem Tryz.infoInt9 : (Tryz.prog.info? 3).map (fun i => (i.zero, i.size, i.bytes)) = some (some (.int .i64 0), 1, 8) := by kernel_rfl
set_option maxHeartbeats 2000000 in
theorem Children_ref (X n : Nat) (v : Value) (q : Int) (w : World) (h : Ns.Nw w v X n) (hL : n ≤ 1048576) :
    Calls Tryz.prog 27 #[v, .int .i64 q] w fun e w' => ∃ u, e = .returned u ∧ Ns.Rv w' u (Ns.sibs X n q) ∧ Below w.heap.size w w' := by
  obtain ⟨i0, hi, hz0, hz1, hz2⟩ := info_parts Tryz.infoInt9
  obtain ⟨ao, cap, rfl, hcap, hc⟩ := h.form
  have hN2 : Wd.ones X n ≤ 1048576 := Nat.le_trans (Wd.ones_le X n) hL
  have HC := hidden hc
  obtain ⟨N, hN⟩ : ∃ N, N = Wd.ones X n := ⟨_, rfl⟩
  have hsib : Ns.sibs X n q = (List.range N).filter fun r => Ns.pr X (Ns.pl X n r) == q := by unfold Ns.sibs; rw [hN]
  rw [hsib]
  rw [← hN] at HC hN2 hcap ⊢
  clear h hc hN hsib
  go_enter Tryz.func27, Tryz.ntmps27
  go_wp2_with fail
  go_loopw [5, 6] (fun s5 s6 wr => ∃ k : Nat, k ≤ N ∧ s6 = .int .i64 (k : Nat) ∧ wr.ownsRow w.heap.size 3 1 s5 ((List.range k).filter fun r => Ns.pr X (Ns.pl X n r) == q).length (Ns.ivs ((List.range k).filter fun r => Ns.pr X (Ns.pl X n r) == q)) ∧ Below w.heap.size w wr) (fun _ s6 _ => N - (intOf s6).toNat)
  case atStart => exact ⟨0, by omega, rfl, World.ownsRow_nil _ _ _ _, Below.refl _ _⟩
  case round =>
    obtain ⟨k, hk, rfl, hown, hbel⟩ := hrel
    have HO := hidden hown
    have HB := hidden hbel
    have hsz := hbel.size
    clear hown hbel
    by_cases hlt : k < N
    · have hlt' : (k : Int) < (N : Int) := by omega
      obtain ⟨g, rfl, hg, hcell⟩ := HC.out (by omega)
      have c0 : wr.cell? ⟨g, k * 4 + 2, none⟩ = some (.int .i64 (Ns.pr X (Ns.pl X n k))) := (HB.out.cell (p := ⟨g, k * 4 + 2, none⟩) hg).trans (hcell k 2 hlt (by decide))
      clear hcell
      have hrs : ∀ P : Nat → Bool, (List.range (k + 1)).filter P = (List.range k).filter P ++ if P k then [k] else [] := by
        intro P
        rw [List.range_succ, List.filter_append]
        cases hP : P k <;> simp [hP]
      have hrs2 : (List.range (k + 1)).filter (fun r => Ns.pr X (Ns.pl X n r) == q) = (List.range k).filter (fun r => Ns.pr X (Ns.pl X n r) == q) ++ if (Ns.pr X (Ns.pl X n k) == q) = true then [k] else [] := hrs (fun r => Ns.pr X (Ns.pl X n r) == q)
      obtain ⟨R, hR⟩ : ∃ R, R = (List.range k).filter fun r => Ns.pr X (Ns.pl X n r) == q := ⟨_, rfl⟩
      rw [← hR] at HO hrs2
      have hRl : R.length ≤ k := by rw [hR]; exact Nat.le_trans (List.length_filter_le _ _) (by simp)
      clear hrs hR
      generalize Ns.pr X (Ns.pl X n k) = y at *
      by_cases he : y = q
      · subst he
        rw [if_pos (beq_self_eq_true _)] at hrs2
        have HR2 := hidden hrs2
        have HZ1 : Hid (w.heap.size ≤ (wr.alloc (.cells #[.int .i64 (k : Nat)] 3)).heap.size) := by show _ ≤ _; simp; omega
        have HS1 : Hid (∀ u ∈ (#[.int .i64 (k : Nat)] : Array Value).toList, u.oneCell' = true) := by intro u hu; simp at hu; subst hu; rfl
        obtain ⟨c5, cap5, rfl, hcap5⟩ := Ns.own_any HO.out
        have HOA := hidden (HO.out.alloc (.cells #[.int .i64 (k : Nat)] 3))
        obtain ⟨m, hm⟩ : ∃ m, m = R.length := ⟨_, rfl⟩
        rw [← hm] at HOA hRl hcap5 ⊢
        have HM := hidden hm
        clear hrs2 hm
        go_wp2_with (first
          | (at_builtin; refine Ns.wpList_append_at1 _ rfl (.tmp 20) (.tmp 22) 23 rfl w.heap.size 3 i0 (.int .i64 0) 1 8 Tryz.underlying23 hi hz0 hz1 hz2 rfl (by decide) (.slice c5 m cap5) m (Ns.ivs R) rfl HOA.out wr.heap.size 1 #[.int .i64 (k : Nat)] (0, 0) rfl (heap_alloc_new _ _) rfl HS1.out (by unfold maxLen; omega) (by omega) HZ1.out ?_; intro v1 wA hown1 hgrow1 hat1; have HO1 := hidden hown1; have HG1 := hidden hgrow1; clear hown1 hgrow1 hat1))
        refine ⟨⟨k + 1, by omega, by go_num, ?_, ?_⟩, by simp [intOf]; omega⟩
        · rw [HR2.out, List.length_append, List.length_singleton, Ns.ivs_append, ← HM.out]
          exact HO1.out
        · exact (HB.out.alloc hsz _).grown HG1.out HZ1.out (fun k hk => (HOA.out.lt k hk).1)
      · have he' : (y == q) = false := beq_false_of_ne he
        rw [he', if_neg Bool.false_ne_true, List.append_nil] at hrs2
        have HR2 := hidden hrs2
        clear hrs2
        go_wp2_with fail
        refine ⟨⟨k + 1, by omega, by go_num, ?_, HB.out⟩, by simp [intOf]; omega⟩
        rw [HR2.out]
        exact HO.out
    · obtain rfl : k = N := by omega
      have hlt' : ¬ ((k : Int) < (k : Int)) := by omega
      go_wp2_with fail
      go_ret
      exact ⟨_, rfl, own_base HO.out (Nat.zero_le _), HB.out⟩
set_option maxHeartbeats 1000000 in
theorem place_ref (S A B : List Nat) (r : Nat) (v : Value) (w : World) (h : Ns.Rv w v S) (hS : S = A ++ r :: B) (hr : r ∉ A) (hL : S.length ≤ 4294967296) :
    Calls Tryz.prog 28 #[v, .int .i64 (r : Nat)] w fun e w' => e = .returned (.int .i64 ((A.length : Nat) : Int)) ∧ w' = w := by
  obtain ⟨ao, cap, rfl, hcap, hc⟩ := h.form
  have hlen : A.length < S.length := by rw [hS]; simp
  have hat : S.getD A.length 0 = r := by
    rw [hS, List.getD_eq_getElem?_getD, List.getElem?_append_right (Nat.le_refl _), Nat.sub_self]
    rfl
  have hno : ∀ k, k < A.length → S.getD k 0 ≠ r := by
    intro k hk e
    rw [hS, List.getD_eq_getElem?_getD, List.getElem?_append_left hk, List.getElem?_eq_getElem hk] at e
    exact hr (by rw [← show A[k] = r from e]; exact List.getElem_mem hk)
  obtain ⟨g, rfl, hg, hcell⟩ := hc (by omega)
  have HC := hidden hcell
  have HNO := hidden hno
  have HAT := hidden hat
  obtain ⟨M, hM⟩ : ∃ M, M = S.length := ⟨_, rfl⟩
  obtain ⟨m, hm⟩ : ∃ m, m = A.length := ⟨_, rfl⟩
  rw [← hM] at HC hlen hcap hL ⊢
  rw [← hm] at HNO HAT hlen ⊢
  clear h hc hcell hno hat hS hr hM hm
  go_enter Tryz.func28, Tryz.ntmps28
  go_wp2_with fail
  go_loopw [5] (fun s5 wr => ∃ k : Nat, k ≤ m ∧ s5 = .int .i64 (k : Nat) ∧ wr = w) (fun s5 _ => M - (intOf s5).toNat)
  case atStart => exact ⟨0, by omega, rfl, rfl⟩
  case round =>
    obtain ⟨k, hk, rfl, rfl⟩ := hrel
    have hlt' : (k : Int) < (M : Int) := by omega
    have hlt2 : k < M := by omega
    have c0 := HC.out k hlt2
    by_cases he : k = m
    · subst he
      rw [HAT.out] at c0
      go_wp2_with fail
      go_ret
      exact ⟨rfl, rfl⟩
    · have hne : S.getD k 0 ≠ r := HNO.out k (by omega)
      generalize S.getD k 0 = y at *
      have he' : ((y : Int) == (r : Int)) = false := beq_false_of_ne (by omega)
      clear hne
      go_wp2_with fail
      refine ⟨⟨k + 1, by omega, by go_num, trivial⟩, by simp [intOf]; omega⟩
set_option maxHeartbeats 1000000 in
theorem number_ref (S : List Nat) (i : Int) (v : Value) (w : World) (h : Ns.Rv w v S) :
    Calls Tryz.prog 33 #[v, .int .i64 i] w fun e w' => e = .returned (.int .i64 (Ns.nth S i)) ∧ w' = w := by
  obtain ⟨ao, cap, rfl, hcap, hc⟩ := h.form
  have HNT : Hid (Ns.nth S i = if 0 ≤ i ∧ i < (S.length : Int) then ((S.getD i.toNat 0 : Nat) : Int) else -1) := rfl
  have HC := hidden hc
  obtain ⟨M, hM⟩ : ∃ M, M = S.length := ⟨_, rfl⟩
  rw [← hM] at HC HNT hcap ⊢
  generalize Ns.nth S i = res at *
  clear h hc hM
  by_cases h0 : i < 0
  · have hres := HNT.out
    rw [if_neg (by omega)] at hres
    subst hres
    go_enter Tryz.func33, Tryz.ntmps33
    go_wp2_with fail
    go_ret
    exact ⟨rfl, rfl⟩
  · by_cases h1 : i < (M : Int)
    · obtain ⟨k, rfl⟩ := Int.eq_ofNat_of_zero_le (show 0 ≤ i by omega)
      have hres := HNT.out
      rw [if_pos ⟨by omega, h1⟩, Int.toNat_natCast] at hres
      obtain ⟨g, rfl, hg, hcell⟩ := HC.out (by omega)
      have c0 := hcell k (by omega)
      rw [← hres] at c0
      have h1n : k < M := by omega
      have h2 : ¬ ((M : Int) ≤ (k : Int)) := by omega
      clear HC HNT hres hcell
      go_enter Tryz.func33, Tryz.ntmps33
      go_wp2_with fail
      go_ret
      exact ⟨rfl, rfl⟩
    · have hres := HNT.out
      rw [if_neg (by omega)] at hres
      subst hres
      have h2 : (M : Int) ≤ i := by omega
      go_enter Tryz.func33, Tryz.ntmps33
      go_wp2_with fail
      go_ret
      exact ⟨rfl, rfl⟩
theorem is_none_ref (v : Value) (w : World) :
    Calls Tryz.prog 32 #[.int .i64 0, .int .i64 7, v, .int .i64 (-1)] w fun e w' => e = .returned (.bool true) ∧ w' = w := by
  go_enter Tryz.func32, Tryz.ntmps32
  go_wp2_with fail
  go_ret
  exact ⟨rfl, rfl⟩
theorem is_some_ref (X n r p : Nat) (v : Value) (w : World) (h : Ns.Nw w v X n) (hr : r < Wd.ones X n) (hp : Ns.pl X n r = p) (hL : n ≤ 4294967296) :
    Calls Tryz.prog 32 #[.int .i64 (p : Nat), .int .i64 0, v, .int .i64 (r : Nat)] w fun e w' => e = .returned (.bool true) ∧ w' = w := by
  obtain ⟨ao, cap, rfl, hcap, hc⟩ := h.form
  have hN2 : Wd.ones X n ≤ 4294967296 := Nat.le_trans (Wd.ones_le X n) hL
  obtain ⟨g, rfl, hg, hcell⟩ := hc (by omega)
  have c0 := hcell r 0 hr (by decide)
  rw [Ns.nf_at, hp, Nat.add_zero] at c0
  obtain ⟨N, hN⟩ : ∃ N, N = Wd.ones X n := ⟨_, rfl⟩
  rw [← hN] at hr hN2 hcap ⊢
  clear h hc hcell hp hN
  go_enter Tryz.func32, Tryz.ntmps32
  go_wp2_with fail
  go_ret
  exact ⟨rfl, rfl⟩
end Go.Proofs.YtmeclkmmgbndkaaGreatDoor
