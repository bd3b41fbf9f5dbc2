/-
  Package scan's stack of bits: what its words say of the brackets that are open (by mathematics alone), where it lies, and the contracts of push, pop, top and closer; all that is written lies in the stack's own blocks.
-/
import Derived.WalkKit
import Derived.WalkSpells
import Derived.WalkLawsBesides
import Derived.Deep.RegionLaw
import Derived.Deep.RegionHeld
import Derived.Lib.Builder
import Derived.Laws.Bits64b
import Derived.Test.YtkjkjnkpncgdnaaScLow
import Derived.Test.YtkjkjnkpncgdnaaJBtMem
namespace Go.Proofs.Ytkjkjnkpncgdnaa
open Go.RowKit
namespace Js
/-- The last word x has the brackets down to the last full word; bl are the words that were laid away. -/
def St : List Bool → Nat → List Nat → Prop
  | [], _, bl => bl = []
  | c :: st, x, bl => x % 2 = c.toNat ∧ (if st.length % 64 = 0 then ∃ y l, bl = y :: l ∧ St st y l else St st (x / 2) bl)
theorem St_low (st : List Bool) : ∀ (x y : Nat) (bl : List Nat), st.length % 64 ≠ 0 → x % 2 ^ (st.length % 64) = y % 2 ^ (st.length % 64) → St st x bl → St st y bl := by
  induction st with
  | nil => intro x y bl h; exact absurd rfl h
  | cons c t ih =>
    intro x y bl h0 he hs
    have hl : (c :: t).length = t.length + 1 := rfl
    rw [hl] at h0 he
    obtain ⟨r, hr⟩ : ∃ r, (t.length + 1) % 64 = r + 1 := ⟨(t.length + 1) % 64 - 1, by omega⟩
    rw [hr, Nat.pow_succ, Nat.mul_comm] at he
    have h2 : x % 2 = y % 2 := by
      have a1 : x % (2 * 2 ^ r) % 2 = x % 2 := Nat.mod_mul_right_mod x 2 (2 ^ r)
      have a2 : y % (2 * 2 ^ r) % 2 = y % 2 := Nat.mod_mul_right_mod y 2 (2 ^ r)
      rw [← a1, ← a2, he]
    refine ⟨by rw [← h2]; exact hs.1, ?_⟩
    have hs2 := hs.2
    by_cases h64 : t.length % 64 = 0
    · rw [if_pos h64] at hs2 ⊢
      exact hs2
    · rw [if_neg h64] at hs2 ⊢
      have hr2 : t.length % 64 = r := by omega
      refine ih (x / 2) (y / 2) bl h64 ?_ hs2
      rw [hr2]
      have a1 : x % (2 * 2 ^ r) / 2 = x / 2 % 2 ^ r := Nat.mod_mul_right_div_self x 2 (2 ^ r)
      have a2 : y % (2 * 2 ^ r) / 2 = y / 2 % 2 ^ r := Nat.mod_mul_right_div_self y 2 (2 ^ r)
      rw [← a1, ← a2, he]
/-- As many words at most as brackets. -/
theorem St_few (st : List Bool) : ∀ (x : Nat) (bl : List Nat), St st x bl → bl.length ≤ st.length := by
  induction st with
  | nil => intro x bl h; rw [show bl = [] from h]; exact Nat.le_refl _
  | cons c t ih =>
    intro x bl h
    have h2 := h.2
    by_cases h64 : t.length % 64 = 0
    · rw [if_pos h64] at h2
      obtain ⟨y, l, rfl, h3⟩ := h2
      exact Nat.succ_le_succ (ih y l h3)
    · rw [if_neg h64] at h2
      exact Nat.le_succ_of_le (ih _ bl h2)
def pu (x : Nat) (c : Bool) : Nat := (2 * x + c.toNat) % 18446744073709551616
theorem pu_lt (x : Nat) (c : Bool) : pu x c < 18446744073709551616 := Nat.mod_lt _ (by decide)
theorem toNat_le (c : Bool) : c.toNat ≤ 1 := by cases c <;> decide
theorem pu_low (x : Nat) (c : Bool) : pu x c % 2 = c.toNat := by
  have := toNat_le c
  unfold pu
  omega
theorem pu_half (x : Nat) (c : Bool) : pu x c / 2 = x % 9223372036854775808 := by
  have := toNat_le c
  unfold pu
  omega
theorem St_push_full (st : List Bool) (x : Nat) (bl : List Nat) (c : Bool) (h : st.length % 64 = 0) (hs : St st x bl) : St (c :: st) (pu x c) (x :: bl) :=
  ⟨pu_low x c, by rw [if_pos h]; exact ⟨x, bl, rfl, hs⟩⟩
theorem St_push (st : List Bool) (x : Nat) (bl : List Nat) (c : Bool) (h : st.length % 64 ≠ 0) (hs : St st x bl) : St (c :: st) (pu x c) bl := by
  refine ⟨pu_low x c, ?_⟩
  rw [if_neg h, pu_half]
  refine St_low st x _ bl h ?_ hs
  have hr : st.length % 64 ≤ 63 := by omega
  have hd : 2 ^ (st.length % 64) ∣ 9223372036854775808 := by
    rw [show (9223372036854775808 : Nat) = 2 ^ 63 by decide]
    exact Nat.pow_dvd_pow 2 hr
  exact (Nat.mod_mod_of_dvd x hd).symm
theorem or_push0 (x : Nat) (_h : x < 18446744073709551616) : bits .or .u64 (IntKind.u64.wrap ((x : Int) * 2)) 0 = ((pu x false : Nat) : Int) := by
  have e : IntKind.u64.wrap ((x : Int) * 2) = ((pu x false : Nat) : Int) := by
    rw [IntKind.wrap_u64]
    unfold pu
    show _ = (((2 * x + 0) % 18446744073709551616 : Nat) : Int)
    omega
  rw [e]
  have e2 := bits_or_u64_nat (pu x false) 0 (pu_lt x false) (by decide)
  rw [Nat.or_zero] at e2
  exact e2
theorem or_push1 (x : Nat) (_h : x < 18446744073709551616) : bits .or .u64 (IntKind.u64.wrap ((x : Int) * 2)) 1 = ((pu x true : Nat) : Int) := by
  have e : IntKind.u64.wrap ((x : Int) * 2) = ((pu x false : Nat) : Int) := by
    rw [IntKind.wrap_u64]
    unfold pu
    show _ = (((2 * x + 0) % 18446744073709551616 : Nat) : Int)
    omega
  rw [e]
  have e2 := bits_or_u64_nat (pu x false) 1 (pu_lt x false) (by decide)
  rw [show pu x false ||| 1 = pu x true from ?_] at e2
  · exact e2
  · obtain ⟨y, hy⟩ : ∃ y, pu x false = 2 * y := ⟨x % 9223372036854775808, by unfold pu; show (2 * x + 0) % _ = _; omega⟩
    have hy2 : pu x true = 2 * y + 1 := by
      unfold pu at hy ⊢
      have h1 : (2 * x + 0) % 18446744073709551616 = 2 * y := hy
      show (2 * x + 1) % _ = _
      omega
    rw [hy, hy2]
    have := Nat.two_pow_add_eq_or_of_lt (i := 1) (b := 1) (by decide) y
    rw [Nat.pow_one] at this
    exact this.symm
theorem and_top (y : Nat) (h : y < 18446744073709551616) : bits .and .u64 (y : Int) 1 = ((y % 2 : Nat) : Int) := by
  have e := bits_and_u64_nat y 1 h (by omega)
  rw [Nat.and_one_is_mod] at e
  exact e
/-- The words that were laid away, the first one first. -/
def aw (bl : List Nat) : List Value := bl.reverse.map fun y => .int .u64 (y : Nat)
theorem aw_cons (y : Nat) (bl : List Nat) : aw (y :: bl) = aw bl ++ [.int .u64 (y : Nat)] := by
  unfold aw
  rw [List.reverse_cons, List.map_append]
  rfl
theorem aw_len (bl : List Nat) : (aw bl).length = bl.length := by
  unfold aw
  rw [List.length_map, List.length_reverse]
end Js
theorem Try.infoU64s : (Try.prog.info? 46).map (fun i => (i.zero, i.size, i.bytes)) = some (some (.int .u64 0), 1, 8) := by kernel_rfl
/-- The stack in block b: all its blocks from block B on. -/
structure Sk (w : World) (B b : Nat) (v : Value) (st : List Bool) (x : Nat) (bl : List Nat) (D : Nat) : Prop where
  base : B ≤ b
  lt : x < 18446744073709551616
  all : ∀ y ∈ bl, y < 18446744073709551616
  few : bl.length ≤ st.length
  said : Js.St st x bl
  cells : w.heap[b]? = some (.cells #[v, .int .u64 (x : Nat), .int .i64 (st.length : Nat), .int .i64 (D : Nat)] 48 (0, 0))
  own : w.ownsRow B 46 1 v bl.length (Js.aw bl)
/-- A stack somewhere. -/
def Stk (w : World) (B b : Nat) (st : List Bool) (D : Nat) : Prop := ∃ v x bl, Sk w B b v st x bl D
theorem sk_same {w : World} {b j : Nat} {u : Value} {cur : Array Value} {e : TypeId} {fr : Nat × Nat} (h : w.heap[b]? = some (.cells cur e fr)) : (w.setCell ⟨b, j, none⟩ u).heap[b]? = some (.cells (cur.setIfInBounds j u) e fr) := by
  simp [World.setCell, Array.getElem?_modify, h]
theorem sk_ne {w : World} {B b : Nat} {v : Value} {n : Nat} {xs : List Value} {cs : Array Value} (hown : w.ownsRow B 46 1 v n xs) (hb : w.heap[b]? = some (.cells cs 48 (0, 0))) : v.ownBlock ≠ some b := by
  rcases hown.2 with ⟨rfl, _⟩ | ⟨g, cap, cur, rfl, _, hg, _⟩
  · simp [Value.ownBlock]
  · intro h
    simp only [Value.ownBlock, Option.some.injEq] at h
    subst h
    rw [hg] at hb
    simp only [Option.some.injEq, Obj.cells.injEq] at hb
    exact absurd hb.2.1 (by decide)
theorem drew_below {B : Nat} {a w : World} (h : Below B a w) : Below B a w.drew := ⟨h.os, h.tape, h.output, h.size, h.block⟩
/-- The last word, the size and the depth are written. -/
theorem Sk.in {w : World} {B b : Nat} {v : Value} {st : List Bool} {x : Nat} {bl : List Nat} {D : Nat} (h : Sk w B b v st x bl D) (c : Bool) (h64 : st.length % 64 ≠ 0) {X n d : Int} (hX : X = ((Js.pu x c : Nat) : Int)) (hn : n = ((st.length + 1 : Nat) : Int)) (hd : d = ((max D (st.length + 1) : Nat) : Int)) :
    Stk (((w.setCell ⟨b, 1, none⟩ (.int .u64 X)).setCell ⟨b, 2, none⟩ (.int .i64 n)).setCell ⟨b, 3, none⟩ (.int .i64 d)).drew B b (c :: st) (max D (st.length + 1)) ∧ Below B w (((w.setCell ⟨b, 1, none⟩ (.int .u64 X)).setCell ⟨b, 2, none⟩ (.int .i64 n)).setCell ⟨b, 3, none⟩ (.int .i64 d)).drew := by
  subst hX hn hd
  have hne := sk_ne h.own h.cells
  refine ⟨⟨v, Js.pu x c, bl, h.base, Js.pu_lt x c, h.all, by have := h.few; show _ ≤ st.length + 1; omega, Js.St_push st x bl c h64 h.said, ?_, ?_⟩, ?_⟩
  · exact sk_same (sk_same (sk_same h.cells))
  · exact ownsRow_setCell_other (ownsRow_setCell_other (ownsRow_setCell_other h.own hne _) hne _) hne _
  · exact drew_below ((((Below.refl B w).setCell (p := ⟨b, 1, none⟩) h.base _).setCell (p := ⟨b, 2, none⟩) h.base _).setCell (p := ⟨b, 3, none⟩) h.base _)
/-- A word more was laid away ahead. -/
theorem Sk.out {w W1 : World} {B b : Nat} {v v' : Value} {st : List Bool} {x : Nat} {bl : List Nat} {D : Nat} (h : Sk w B b v st x bl D) (c : Bool) (h64 : st.length % 64 = 0) (hb : Below B w W1) {N m : Nat} {xs : List Value} (hN : N = st.length) (hm : m = bl.length) (hxs : xs = Js.aw bl) (hcb : W1.heap[b]? = some (.cells #[v, .int .u64 (x : Nat), .int .i64 (N : Nat), .int .i64 (D : Nat)] 48 (0, 0)))
    (hown : W1.ownsRow B 46 1 v' (m + 1) (xs ++ [.int .u64 (x : Nat)])) {X n d : Int} (hX : X = ((Js.pu x c : Nat) : Int)) (hn : n = ((st.length + 1 : Nat) : Int)) (hd : d = ((max D (st.length + 1) : Nat) : Int)) :
    Stk ((((W1.setCell ⟨b, 0, none⟩ v').setCell ⟨b, 1, none⟩ (.int .u64 X)).setCell ⟨b, 2, none⟩ (.int .i64 n)).setCell ⟨b, 3, none⟩ (.int .i64 d)) B b (c :: st) (max D (st.length + 1)) ∧ Below B w ((((W1.setCell ⟨b, 0, none⟩ v').setCell ⟨b, 1, none⟩ (.int .u64 X)).setCell ⟨b, 2, none⟩ (.int .i64 n)).setCell ⟨b, 3, none⟩ (.int .i64 d)) := by
  subst hX hn hd hN hm hxs
  have hne := sk_ne hown hcb
  refine ⟨⟨v', Js.pu x c, x :: bl, h.base, Js.pu_lt x c, ?_, by have := h.few; show _ + 1 ≤ st.length + 1; omega, Js.St_push_full st x bl c h64 h.said, ?_, ?_⟩, ?_⟩
  · intro y hy
    rcases List.mem_cons.1 hy with rfl | hy
    · exact h.lt
    · exact h.all y hy
  · exact sk_same (sk_same (sk_same (sk_same hcb)))
  · rw [Js.aw_cons]
    exact ownsRow_setCell_other (ownsRow_setCell_other (ownsRow_setCell_other (ownsRow_setCell_other hown hne _) hne _) hne _) hne _
  · exact ((((hb.setCell (p := ⟨b, 0, none⟩) h.base _).setCell (p := ⟨b, 1, none⟩) h.base _).setCell (p := ⟨b, 2, none⟩) h.base _).setCell (p := ⟨b, 3, none⟩) h.base _)
theorem stk_drew {w w' : World} {B b : Nat} {st : List Bool} {D : Nat} (h : Stk w' B b st D ∧ Below B w w') : Stk w'.drew B b st D ∧ Below B w w'.drew := by
  obtain ⟨⟨v, x, bl, hk⟩, hb⟩ := h
  exact ⟨⟨v, x, bl, hk.base, hk.lt, hk.all, hk.few, hk.said, hk.cells, hk.own⟩, drew_below hb⟩
theorem below_alloc_grown {w w1 : World} {B : Nat} {v : Value} {n : Nat} {xs : List Value} {o : Obj} (hB : B ≤ w.heap.size) (hown : w.ownsRow B 46 1 v n xs) (h : (w.alloc o).grownBy w1 v.ownBlock) : Below B w w1 := by
  have h1 := (Below.refl B w).alloc hB o
  refine ⟨h.os.trans h1.os, h.tape.trans h1.tape, h.output.trans h1.output, Nat.le_trans h1.size h.size, fun i hi => ?_⟩
  have h2 := h1.size
  rw [h.block i (by omega) ?_]
  · exact h1.block i hi
  · intro e
    have := hown.lt i e.symm
    omega
theorem below_alloc_grown2 {w w1 : World} {B : Nat} {v : Value} {n : Nat} {xs : List Value} {o : Obj} (hB : B ≤ w.heap.size) (hown : w.ownsRow B 46 1 v n xs) (h : (w.alloc o).drew.grownBy w1 v.ownBlock) : Below B w w1 := by
  have h1 := (Below.refl B w).alloc hB o
  refine ⟨h.os.trans h1.os, h.tape.trans h1.tape, h.output.trans h1.output, Nat.le_trans h1.size h.size, fun i hi => ?_⟩
  have h2 := h1.size
  have h3 : (w.alloc o).drew.heap.size = (w.alloc o).heap.size := rfl
  rw [h.block i (by omega) ?_]
  · exact h1.block i hi
  · intro e
    have := hown.lt i e.symm
    omega
set_option maxHeartbeats 2000000 in
theorem sPush_in (c : Bool) (z : Int) (w : World) (B b : Nat) (v : Value) (st : List Bool) (x : Nat) (bl : List Nat) (D : Nat) (h : Sk w B b v st x bl D) (h64 : st.length % 64 ≠ 0) (hst : st.length ≤ 1000000) (hor : bits .or .u64 (IntKind.u64.wrap ((x : Int) * 2)) z = ((Js.pu x c : Nat) : Int)) :
    Calls Try.prog 22 #[.pointer (some ⟨b, 0, none⟩), .int .u64 z] w fun e w' => e = .returned (.tuple #[]) ∧ Stk w' B b (c :: st) (max D (st.length + 1)) ∧ Below B w w' := by
  have HH := hidden h
  have HOR := hidden hor
  have H64 := hidden h64
  obtain ⟨n, hn⟩ : ∃ n, n = st.length := ⟨_, rfl⟩
  have hc := h.cells
  rw [← hn] at hc hst h64
  have HN := hidden hn
  clear hor h hn
  have c0 : w.cell? ⟨b, 0, none⟩ = some v := Lib.cell_of_heap hc 0
  have c1 : w.cell? ⟨b, 1, none⟩ = some (.int .u64 (x : Nat)) := Lib.cell_of_heap hc 1
  have c2 : w.cell? ⟨b, 2, none⟩ = some (.int .i64 (n : Nat)) := Lib.cell_of_heap hc 2
  have c3 : w.cell? ⟨b, 3, none⟩ = some (.int .i64 (D : Nat)) := Lib.cell_of_heap hc 3
  have f0 := Lib.frozen_of_heap hc 0
  have f1 := Lib.frozen_of_heap hc 1
  have f2 := Lib.frozen_of_heap hc 2
  have f3 := Lib.frozen_of_heap hc 3
  have hz : ((n : Int) % 64 == 0) = false := by rw [beq_eq_false_iff_ne]; omega
  clear h64
  go_enter Try.func22, Try.ntmps22
  go_wp2_with fail
  go_region
  go_wp2
  all_goals go_end0
  all_goals refine ⟨rfl, ?_⟩
  all_goals have h1 := HN.out
  all_goals exact HH.out.in c H64.out HOR.out (by omega) (by omega)
set_option maxHeartbeats 2000000 in
set_option maxRecDepth 100000 in
theorem sPush_out (c : Bool) (z : Int) (w : World) (B b : Nat) (v : Value) (st : List Bool) (x : Nat) (bl : List Nat) (D : Nat) (h : Sk w B b v st x bl D) (h64 : st.length % 64 = 0) (hst : st.length ≤ 1000000) (hor : bits .or .u64 (IntKind.u64.wrap ((x : Int) * 2)) z = ((Js.pu x c : Nat) : Int)) :
    Calls Try.prog 22 #[.pointer (some ⟨b, 0, none⟩), .int .u64 z] w fun e w' => e = .returned (.tuple #[]) ∧ Stk w' B b (c :: st) (max D (st.length + 1)) ∧ Below B w w' := by
  obtain ⟨i0, hi, hz0, hz1, hz2⟩ := info_parts Try.infoU64s
  have HH := hidden h
  have HOR := hidden hor
  have H64 := hidden h64
  obtain ⟨n, hn⟩ : ∃ n, n = st.length := ⟨_, rfl⟩
  have hc := h.cells
  have hfew := h.few
  rw [← hn] at hc hst h64 hfew
  have HN := hidden hn
  have hO := hidden h.own
  have hlt := lt_of_block hc
  have hB : B ≤ w.heap.size := by have := h.base; omega
  have hne := hidden (sk_ne h.own h.cells)
  have HC := hidden hc
  have HOWN : Hid (w.ownsRow B 46 1 v bl.length (Js.aw bl)) := h.own
  obtain ⟨m, hm⟩ : ∃ m, m = bl.length := ⟨_, rfl⟩
  obtain ⟨xs, hxs⟩ : ∃ xs, xs = Js.aw bl := ⟨_, rfl⟩
  rw [← hm, ← hxs] at hO
  rw [← hm] at hfew
  have HM := hidden hm
  have HXS := hidden hxs
  clear hor h hn hm hxs
  have c0 : w.cell? ⟨b, 0, none⟩ = some v := Lib.cell_of_heap hc 0
  have c1 : w.cell? ⟨b, 1, none⟩ = some (.int .u64 (x : Nat)) := Lib.cell_of_heap hc 1
  have c2 : w.cell? ⟨b, 2, none⟩ = some (.int .i64 (n : Nat)) := Lib.cell_of_heap hc 2
  have c3 : w.cell? ⟨b, 3, none⟩ = some (.int .i64 (D : Nat)) := Lib.cell_of_heap hc 3
  have f0 := Lib.frozen_of_heap hc 0
  have hz : (n : Int) % 64 = 0 := by omega
  clear h64
  go_enter Try.func22, Try.ntmps22
  go_wp2_with fail
  have hn1 := World.new_ne w ⟨b, 0, none⟩ c0
  have hn2 := World.new_ne w ⟨b, 1, none⟩ c1
  go_region_law ((refine step_append_lies _ (by rfl) (.tmp 14) (.tmp 19) 45 (by rfl) B 46 i0 (.int .u64 0) 1 8 Try.underlying45 hi hz0 hz1 hz2 rfl (by decide) v m xs (by rfl) (by exact hO.out.alloc _) ⟨w.heap.size, 0, none⟩ 1 1 [.int .u64 (x : Nat)] (by rfl) (by rfl) (by exact World.news_of_block (heap_alloc_new w _)) (by intro u hu; simp at hu; subst hu; rfl) (by omega) (by unfold maxLen; omega) (by omega) (by simp; omega) (w.heap.size + 1) (by simp) ?_; intro g cap w1 hown1 hgrow hat hlt2; have HO : Hid _ := hown1; have HG : Hid _ := hgrow; have hcb : Hid (w1.heap[b]? = some (.cells #[v, .int .u64 (x : Nat), .int .i64 (n : Nat), .int .i64 (D : Nat)] 48 (0, 0))) := (hgrow.block b (by simp; omega) (Ne.symm hne.out)).trans ((Below.heap_alloc w _ b hlt).trans HC.out); clear hown1 hgrow hat; have q0 : w1.cell? ⟨b, 0, none⟩ = some v := Lib.cell_of_heap hcb.out 0; have q1 : w1.cell? ⟨b, 1, none⟩ = some (.int .u64 (x : Nat)) := Lib.cell_of_heap hcb.out 1; have q2 : w1.cell? ⟨b, 2, none⟩ = some (.int .i64 (n : Nat)) := Lib.cell_of_heap hcb.out 2; have q3 : w1.cell? ⟨b, 3, none⟩ = some (.int .i64 (D : Nat)) := Lib.cell_of_heap hcb.out 3; have g0 := Lib.frozen_of_heap hcb.out 0; have g1 := Lib.frozen_of_heap hcb.out 1; have g2 := Lib.frozen_of_heap hcb.out 2; have g3 := Lib.frozen_of_heap hcb.out 3))
  all_goals go_wp2
  all_goals go_region
  all_goals go_wp2
  all_goals go_end0
  all_goals refine ⟨rfl, ?_⟩
  all_goals repeat (refine stk_drew ?_)
  all_goals have h1 := HN.out
  all_goals have hbel : Below B w w1 := by first | exact below_alloc_grown hB HOWN.out HG.out | exact below_alloc_grown2 hB HOWN.out HG.out
  all_goals exact HH.out.out c H64.out hbel h1 HM.out HXS.out hcb.out HO.out HOR.out (by omega) (by omega)
theorem sPush_any (c : Bool) (z : Int) (w : World) (B b : Nat) (st : List Bool) (D : Nat) (hz : z = (c.toNat : Nat)) (h : Stk w B b st D) (hst : st.length ≤ 1000000) :
    Calls Try.prog 22 #[.pointer (some ⟨b, 0, none⟩), .int .u64 z] w fun e w' => e = .returned (.tuple #[]) ∧ Stk w' B b (c :: st) (max D (st.length + 1)) ∧ Below B w w' := by
  subst hz
  obtain ⟨v, x, bl, h⟩ := h
  have hor : bits .or .u64 (IntKind.u64.wrap ((x : Int) * 2)) ((c.toNat : Nat) : Int) = ((Js.pu x c : Nat) : Int) := by
    cases c
    · exact Js.or_push0 x h.lt
    · exact Js.or_push1 x h.lt
  by_cases h64 : st.length % 64 = 0
  · exact sPush_out c _ w B b v st x bl D h h64 hst hor
  · exact sPush_in c _ w B b v st x bl D h h64 hst hor
theorem sTop_any (c : Bool) (w : World) (B b : Nat) (st : List Bool) (D : Nat) (h : Stk w B b (c :: st) D) :
    Calls Try.prog 25 #[.pointer (some ⟨b, 0, none⟩)] w fun e w' => e = .returned (.int .u64 (c.toNat : Nat)) ∧ w' = w := by
  obtain ⟨v, x, bl, h⟩ := h
  have c1 : w.cell? ⟨b, 1, none⟩ = some (.int .u64 (x : Nat)) := Lib.cell_of_heap h.cells 1
  have HA := hidden ((Js.and_top x h.lt).trans (by rw [h.said.1]))
  clear h
  go_enter Try.func25, Try.ntmps25
  go_wp2_with fail
  go_ret
  exact ⟨ret_int HA.out, rfl⟩
theorem sCloser_any (c : Bool) (w : World) (B b : Nat) (st : List Bool) (D : Nat) (h : Stk w B b (c :: st) D) :
    Calls Try.prog 26 #[.pointer (some ⟨b, 0, none⟩)] w fun e w' => e = .returned (.int .u8 (if c then 125 else 93)) ∧ w' = w := by
  have HT := hidden (fun w => sTop_any c w B b st D)
  have H := hidden h
  clear h
  cases c with
  | true =>
    have ht : ∀ w, Stk w B b (true :: st) D → Calls Try.prog 25 #[.pointer (some ⟨b, 0, none⟩)] w fun e w' => e = .returned (.int .u64 1) ∧ w' = w := HT.out
    have HT2 := hidden ht
    clear ht
    go_enter Try.func26, Try.ntmps26
    go_wp2_with fail
    refine (HT2.out _ H.out).mono ?_
    rintro e w1 ⟨rfl, hw⟩
    have hw := hw.symm
    subst hw
    go_wp2_with fail
    go_ret
    exact ⟨rfl, rfl⟩
  | false =>
    have ht : ∀ w, Stk w B b (false :: st) D → Calls Try.prog 25 #[.pointer (some ⟨b, 0, none⟩)] w fun e w' => e = .returned (.int .u64 0) ∧ w' = w := HT.out
    have HT2 := hidden ht
    clear ht
    go_enter Try.func26, Try.ntmps26
    go_wp2_with fail
    refine (HT2.out _ H.out).mono ?_
    rintro e w1 ⟨rfl, hw⟩
    have hw := hw.symm
    subst hw
    go_wp2_with fail
    go_ret
    exact ⟨rfl, rfl⟩
theorem aw_pop {B : Nat} {w : World} {g cap y : Nat} {l : List Nat} (h : w.ownsRow B 46 1 (.slice (some ⟨g, 0, none⟩) (l.length + 1) cap) (l.length + 1) (Js.aw (y :: l))) : w.ownsRow B 46 1 (.slice (some ⟨g, 0, none⟩) l.length cap) l.length (Js.aw l) := by
  rcases h.2 with ⟨h', _⟩ | ⟨g', cap', cur, h', hb, hg, hnc, hcm, hcs, htake⟩
  · simp at h'
  · simp only [Value.slice.injEq, Option.some.injEq, Addr.mk.injEq, and_true, true_and] at h'
    obtain ⟨rfl, rfl⟩ := h'
    refine ⟨by rw [Js.aw_len, Nat.mul_one], .inr ⟨g, cap, cur, rfl, hb, hg, by omega, hcm, hcs, ?_⟩⟩
    have e : cur.toList.take (l.length * 1) = (cur.toList.take ((l.length + 1) * 1)).take l.length := by
      rw [List.take_take]
      congr 1
      omega
    rw [e, htake, Js.aw_cons, List.take_left' (Js.aw_len l)]
set_option maxHeartbeats 2000000 in
theorem sPop_any (c : Bool) (w : World) (B b : Nat) (st : List Bool) (D : Nat) (h : Stk w B b (c :: st) D) (hst : st.length ≤ 1000000) :
    Calls Try.prog 24 #[.pointer (some ⟨b, 0, none⟩)] w fun e w' => e = .returned (.tuple #[]) ∧ Stk w' B b st D ∧ Below B w w' := by
  obtain ⟨v, x, bl, h⟩ := h
  have HH := hidden h
  obtain ⟨n, hn⟩ : ∃ n, n = st.length := ⟨_, rfl⟩
  have hc := h.cells
  rw [List.length_cons] at hc
  have hne := sk_ne h.own h.cells
  rw [← hn] at hc hst
  have HN := hidden hn
  have HBB := hidden h.base
  obtain ⟨x2, hx2⟩ : ∃ x2, x2 = x / 2 := ⟨_, rfl⟩
  have hxx : (x : Int) / 2 = (x2 : Int) := by omega
  have HX2 := hidden hx2
  clear hx2
  have c0 : w.cell? ⟨b, 0, none⟩ = some v := Lib.cell_of_heap hc 0
  have c1 : w.cell? ⟨b, 1, none⟩ = some (.int .u64 (x : Nat)) := Lib.cell_of_heap hc 1
  have c2 : w.cell? ⟨b, 2, none⟩ = some (.int .i64 ((n + 1 : Nat) : Int)) := Lib.cell_of_heap hc 2
  have c3 : w.cell? ⟨b, 3, none⟩ = some (.int .i64 (D : Nat)) := Lib.cell_of_heap hc 3
  have f0 := Lib.frozen_of_heap hc 0
  have f1 := Lib.frozen_of_heap hc 1
  have f2 := Lib.frozen_of_heap hc 2
  have hsaid := h.said.2
  rw [← hn] at hsaid
  by_cases h64 : n % 64 = 0
  · rw [if_pos h64] at hsaid
    obtain ⟨y, l, rfl, hst2⟩ := hsaid
    have hown := h.own
    obtain ⟨g, cap, rfl⟩ : ∃ g cap, v = .slice (some ⟨g, 0, none⟩) (l.length + 1) cap := by
      rcases hown.2 with ⟨_, h0⟩ | ⟨g, cap, cur, hv, _⟩
      · exact absurd h0 (Nat.succ_ne_zero _)
      · exact ⟨g, cap, hv⟩
    have hgb : g ≠ b := fun e => hne (by rw [e]; rfl)
    have hcap : l.length + 1 ≤ cap := by
      rcases hown.2 with ⟨h', _⟩ | ⟨g', cap', cur, h', _, _, hnc, _⟩
      · simp at h'
      · simp only [Value.slice.injEq, Option.some.injEq, Addr.mk.injEq, and_true] at h'
        obtain ⟨rfl, _, rfl⟩ := h'
        exact hnc
    have hcell : w.cell? ⟨g, l.length, none⟩ = some (.int .u64 (y : Nat)) := by
      rw [hown.cellAt l.length (by rw [Nat.mul_one]; exact Nat.lt_succ_self _), Js.aw_cons, List.getElem?_append_right (by rw [Js.aw_len]; exact Nat.le_refl _), Js.aw_len, Nat.sub_self]
      rfl
    have HPOP := hidden (aw_pop hown)
    have HST := hidden hst2
    have HY : Hid (y < 18446744073709551616) := h.all y (List.mem_cons_self)
    have HALL : Hid (∀ z ∈ l, z < 18446744073709551616) := fun z hz => h.all z (List.mem_cons_of_mem _ hz)
    have hfew : l.length + 1 ≤ n + 1 := by have := h.few; rw [List.length_cons, List.length_cons, ← hn] at this; exact this
    have HC := hidden hc
    have HNE := hidden hne
    obtain ⟨m, hm⟩ : ∃ m, m = l.length := ⟨_, rfl⟩
    rw [← hm] at c0 hcap hcell HPOP hfew HC
    have HM := hidden hm
    have hz : (n : Int) % 64 = 0 := by omega
    have hmw : IntKind.i64.wrap (m : Int) = (m : Int) := by rw [IntKind.wrap_i64]; omega
    clear h hn hm hne hst2 hown h64 hc
    go_enter Try.func24, Try.ntmps24
    go_wp2_with fail
    go_region
    go_wp2
    go_region
    go_wp2
    go_end0
    refine ⟨rfl, ?_⟩
    repeat (refine stk_drew ?_)
    have hm := HM.out
    subst hm
    have hne2 : (Value.slice (some ⟨g, 0, none⟩) l.length cap).ownBlock ≠ some b := HNE.out
    refine ⟨⟨.slice (some ⟨g, 0, none⟩) l.length cap, y, l, HBB.out, HY.out, HALL.out, Js.St_few st y l HST.out, HST.out, ?_, ownsRow_setCell_other (ownsRow_setCell_other (ownsRow_setCell_other (ownsRow_setCell_other HPOP.out hne2 _) hne2 _) hne2 _) hne2 _⟩, ((((Below.refl B w).setCell (p := ⟨b, 2, none⟩) HBB.out _).setCell (p := ⟨b, 1, none⟩) HBB.out _).setCell (p := ⟨b, 1, none⟩) HBB.out _).setCell (p := ⟨b, 0, none⟩) HBB.out _⟩
    rw [← HN.out]
    exact sk_same (sk_same (sk_same (sk_same HC.out)))
  · rw [if_neg h64] at hsaid
    have HST := hidden hsaid
    have hz : ((n : Int) % 64 == 0) = false := by rw [beq_eq_false_iff_ne]; omega
    have HC := hidden hc
    have HNE := hidden hne
    clear h hn hne hsaid h64 hc
    go_enter Try.func24, Try.ntmps24
    go_wp2_with fail
    go_end0
    refine ⟨rfl, ⟨v, x2, bl, HBB.out, by have h1 := HX2.out; have h2 := HH.out.lt; omega, HH.out.all, ?_, by rw [HX2.out]; exact HST.out, ?_, ownsRow_setCell_other (ownsRow_setCell_other HH.out.own HNE.out _) HNE.out _⟩, ((Below.refl B w).setCell (p := ⟨b, 2, none⟩) HBB.out _).setCell (p := ⟨b, 1, none⟩) HBB.out _⟩
    · exact Js.St_few st x2 bl (by rw [HX2.out]; exact HST.out)
    · rw [← HN.out]
      exact sk_same (sk_same HC.out)
end Go.Proofs.Ytkjkjnkpncgdnaa
