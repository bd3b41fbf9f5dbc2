/-
  The contract of the iterator that ones of package fano hands back: the places of a row's 1s, in order.
  Laws for the walk, of no program: a region that draws its order, in the round of a loop over a function, walked by the laws for regions outside of rounds.
  The contract of numbers of package fano: the numbers that a row's bits make, whether they rise or not.
  Plain mathematics of a sequence's bits, read again: the parts of a row; the numbers that its 1s make; a sequence comes again from its bits, and bits that make one are its own.
  The contracts of shapeIn and Of of package fano: the sequence whose bytes they are; of other bytes none.
  The contract of Of of package fano, for every string.
-/
import Derived.RangeFuncNested
import Derived.RangeFuncBound
import Derived.RangeFuncCalls
import Derived.RangeFuncLeaves
import Derived.RangeFuncFrom
import Derived.RangeFuncBox
import Derived.Shelf.Abstract
import Derived.Shelf.RegionOpen
import Derived.WalkKit
import Derived.OwnWalkIn
import Derived.TacticsInMore
import Derived.LoopNIn
import Derived.LoopIn
import Derived.Deep.RegionHeld
import Derived.OrdersIn
import Derived.Deep.RegionHeld3
import Derived.Test.YtoipliflphbeiaaGreatDoorJFnLess
import Derived.Test.YtoipliflphbeiaaGreatDoorC06
import Derived.Test.YtoipliflphbeiaaGreatDoorJBtOf
namespace Go.Proofs.YtoipliflphbeiaaGreatDoor
open Go.RowKit Go.Shelf
namespace Fn
/-- The places of the first c 1s. -/
def plc (Y H c : Nat) : List Nat := (List.range c).map fun i => Ck.pl Y i H
theorem plc_succ (Y H c : Nat) : plc Y H (c + 1) = plc Y H c ++ [Ck.pl Y c H] := by simp [plc, List.range_succ]
theorem plc_length (Y H c : Nat) : (plc Y H c).length = c := by simp [plc]
/-- y is x without its first t 1s. -/
structure Less1 (x t y : Nat) : Prop where
  lt : y < 18446744073709551616
  le : t ≤ Wd.ones x 64
  sel : ∀ k : Nat, Wd.sel y (k : Int) = Wd.sel x ((t + k : Nat) : Int)
theorem Less1.start {x : Nat} (h : x < 18446744073709551616) : Less1 x 0 x := ⟨h, Nat.zero_le _, fun k => by rw [Nat.zero_add]⟩
theorem Less1.next {x t y : Nat} (h : Less1 x t y) (h0 : y ≠ 0) : Less1 x (t + 1) (y &&& (y - 1)) ∧ y &&& (y - 1) < y ∧ Wd.sel x (t : Int) < 64 ∧ Wd.sel y 0 = Wd.sel x (t : Int) := by
  have h1 := Wd.sel_next y 1 h0 h.lt (by decide)
  have h2 := h.sel 0
  have h3 := Wd.sel_zero y h0 h.lt
  have h4 := (Wd.low_form y h0 h.lt)
  obtain ⟨m, _, h5⟩ := h4
  have h6 : Wd.sel y 0 = Wd.sel x (t : Int) := by simpa using h2
  have h7 : Wd.sel x (t : Int) < 64 := by omega
  refine ⟨⟨by have := h1.2; have := h.lt; omega, ?_, fun k => ?_⟩, h1.2, h7, h6⟩
  · rcases Wd.sel_spec x (t : Int) with ⟨a, b, c⟩ | ⟨a, _⟩
    · have := Wd.ones_lt x _ 64 b a
      omega
    · omega
  · have h8 := (Wd.sel_next y ((k : Int) + 1) h0 h.lt (by omega)).1
    rw [show (k : Int) + 1 - 1 = (k : Int) from by omega] at h8
    rw [h8, show (k : Int) + 1 = ((k + 1 : Nat) : Int) from by omega, h.sel (k + 1)]
    congr 2
    omega
theorem Less1.done {x t : Nat} (h : Less1 x t 0) : t = Wd.ones x 64 := by
  have h1 := h.sel 0
  rw [Wd.sel_of_zero] at h1
  have h2 := h.le
  rcases Wd.sel_spec x ((t + 0 : Nat) : Int) with ⟨a, b, c⟩ | ⟨_, hn | hn⟩
  · omega
  · omega
  · omega
/-- The place of the 1 that is next. -/
theorem Less1.place {Y H j t y : Nat} (hY : Y < 2 ^ H) (h : Less1 (Bt.wd Y j) t y) (h0 : y ≠ 0) : Ck.At Y H (Wd.ones Y (64 * j) + t) (64 * j + Wd.sel y 0) := by
  obtain ⟨_, _, h7, h6⟩ := h.next h0
  rw [h6]
  rcases Wd.sel_spec (Bt.wd Y j) (t : Int) with ⟨a, b, c⟩ | ⟨a, _⟩
  · rw [Bt.bt_wd, if_pos a] at b
    have hw := Ck.wd_ones Y j (Wd.sel (Bt.wd Y j) (t : Int)) (by omega)
    refine ⟨?_, b, by omega⟩
    rcases Nat.lt_or_ge (64 * j + Wd.sel (Bt.wd Y j) (t : Int)) H with hl | hl
    · exact hl
    · rw [Wd.bt_big Y H _ hY hl] at b
      cases b
  · omega
/-- What is kept: these blocks. -/
def Kept (S : Nat → Prop) (W W' : World) : Prop := ∀ k, S k → W'.heap[k]? = W.heap[k]?
theorem Kept.trans {S : Nat → Prop} {A B C : World} (h : Kept S A B) (k : Kept S B C) : Kept S A C := fun i hi => (k i hi).trans (h i hi)
theorem Kept.book {S : Nat → Prop} {w : World} (hS : ∀ k, S k → k < w.heap.size) (W : World) (l : Nat) (o o' : Obj) (hl : w.heap.size ≤ l) (_ : W.heap[l]? = some o) (_ : o.isCells = false) (_ : o.isWalk = false) : Kept S W (W.putObj l o') := fun k hk =>
  World.putObj_heap_other (by have := hS k hk; omega)
/-- The blocks that the iterator reads. -/
def rowS (bx r : Nat) (u : Value) (k : Nat) : Prop := k = bx ∨ k = r ∨ u.ownBlock = some k ∨ k = 1
end Fn
theorem Rw.kept {w w' : World} {r n X bx : Nat} {u : Value} (h : Rw w r n X u) (hk : Fn.Kept (Fn.rowS bx r u) w w') : Rw w' r n X u :=
  ⟨h.len, h.lt, by rw [hk r (.inr (.inl rfl))]; exact h.cells, own_same h.own fun k e => hk k (.inr (.inr (.inl e)))⟩
theorem Tab.kept {w w' : World} {r bx : Nat} {u : Value} (h : Tab w) (hk : Fn.Kept (Fn.rowS bx r u) w w') : Tab w' := fun j hj =>
  (World.cell?_of_block (w := w) (a := ⟨1, j, none⟩) (hk _ (.inr (.inr (.inr rfl))))).trans (h j hj)
set_option maxRecDepth 100000 in
set_option maxHeartbeats 4000000 in
theorem ones1_in (n : Nat) (hn : 1 ≤ n) (y bx r H Y : Nat) (u : Value) (J Jx : List Nat → World → Prop) (W : World)
    (hY : ∀ pre x W, J pre W → pre.length < Wd.ones Y H → YieldAt Fence.wide (n - 1) Tryz.prog y #[.int .i64 (x : Nat)] W fun e W' =>
      (e = .returned (.bool true) ∧ J (pre ++ [x]) W' ∧ Fn.Kept (Fn.rowS bx r u) W W') ∨ (e = .returned (.bool false) ∧ Jx (pre ++ [x]) W'))
    (cb : W.cell? ⟨bx, 0, none⟩ = some (.pointer (some ⟨r, 0, none⟩))) (hR : Rw W r H Y u) (hT : Tab W) (h0 : J [] W) :
    CallsIn Fence.wide n Tryz.prog 168 #[.func (.yield y) #[] #[], .pointer (some ⟨bx, 0, none⟩)] W fun e W' => (∃ v, e = .returned v) ∧
      ((∃ ys, ys = Fn.plc Y H (Wd.ones Y H) ∧ J ys W') ∨ (∃ pre, (∃ k, k < Wd.ones Y H ∧ pre = Fn.plc Y H (k + 1)) ∧ Jx pre W')) := by
  have HY := hidden hY
  have HR := hidden hR
  have HT := hidden hT
  have HCB := hidden cb
  have hH := hR.len
  have HLT := hidden hR.lt
  clear hY hR hT cb
  refine callsIn_of_wp Tryz.func168 rfl trivial ?_ rfl
  simp only [Tryz.ntmps168, List.size_toArray, List.length_cons, List.length_nil, Nat.reduceAdd, Nat.reduceSub, Array.replicate_succ, Array.replicate_zero, List.push_toArray, List.append_toArray, List.nil_append, List.cons_append]
  gi_wp2
  gi_loopw [3] (fun i wr => ∃ j : Nat, 64 * j ≤ H + 63 ∧ i = .int .i64 ((64 * j : Nat) : Int) ∧ J (Fn.plc Y H (Wd.ones Y (64 * j))) wr ∧ Fn.Kept (Fn.rowS bx r u) W wr) (fun i _ => H + 64 - (intOf i).toNat)
  case atStart => exact ⟨0, by omega, rfl, h0, fun _ _ => rfl⟩
  case round =>
    obtain ⟨j, hj, rfl, hJs, hk⟩ := hrel
    have HJs := hidden hJs
    have HK := hidden hk
    have c1 : wr.cell? ⟨bx, 0, none⟩ = some (.pointer (some ⟨r, 0, none⟩)) := (World.cell?_of_block (w := W) (a := ⟨bx, 0, none⟩) (hk bx (.inl rfl))).trans HCB.out
    have HRr := hidden (HR.out.kept hk)
    have HLen := hidden (RLen_any r H Y u wr HRr.out)
    obtain ⟨at', hat⟩ : ∃ a : Nat, a = 64 * j := ⟨_, rfl⟩
    rw [← hat] at hj HJs ⊢
    have HAT := hidden hat
    clear hJs hk
    by_cases hlt : at' < H
    · have hdiv : (at' : Int) / 64 = (j : Int) := by omega
      have HWD := hidden (Word_in r H Y j u wr HRr.out (by omega))
      obtain ⟨x, hx⟩ : ∃ x, x = Bt.wd Y j := ⟨_, rfl⟩
      rw [← hx] at HWD
      have hx64 : x < 18446744073709551616 := by rw [hx]; exact Bt.wd_lt Y j
      have HX := hidden hx
      clear hat hx
      gi_wp2_with fail
      refine ⟨trivial, (callsIn_wide.2 HLen.out).mono ?_⟩
      rintro e' w1 ⟨rfl, rfl⟩
      gi_wp2_with fail
      refine ⟨trivial, (callsIn_wide.2 HWD.out).mono ?_⟩
      rintro e' w1 ⟨rfl, rfl⟩
      gi_wp2_with fail
      gi_loopw [4] (fun v wq => ∃ (t z : Nat), v = .int .u64 (z : Nat) ∧ Fn.Less1 x t z ∧ J (Fn.plc Y H (Wd.ones Y at' + t)) wq ∧ Fn.Kept (Fn.rowS bx r u) W wq) (fun v _ => (intOf v).toNat)
      case atStart => exact ⟨0, x, rfl, Fn.Less1.start hx64, HJs.out, HK.out⟩
      case round =>
        obtain ⟨t, z, rfl, hl1, hJt, hk⟩ := hrel
        have HL1 := hidden hl1
        have HJt := hidden hJt
        have HKt := hidden hk
        have hz64 := hl1.lt
        clear hl1 hJt hk
        by_cases hz : z = 0
        · subst hz
          have ht := HL1.out.done
          have HTD := hidden ht
          clear ht
          gi_wp2_with fail
          go_roundw
          case rel =>
            refine ⟨j + 1, by have := HAT.out; omega, by have := HAT.out; go_num, ?_, HKt.out⟩
            have e := HJt.out
            have e2 := Ck.wd_ones Y j 64 (Nat.le_refl _)
            rw [HTD.out, HX.out, HAT.out, e2, show 64 * j + 64 = 64 * (j + 1) from by omega] at e
            exact e
          case measure => simp [intOf]; omega
        · have hne : ((z : Int) == 0) = false := by simp; omega
          have HSEL := hidden (fun w' (h : Tab w') => Select_any z 0 w' hz64 (by decide) h)
          obtain ⟨hn1, hn2, _, _⟩ := HL1.out.next hz
          have hpl := (HX.out ▸ HL1.out).place (Y := Y) (H := H) (j := j) HLT.out hz
          have hpe := Ck.pl_eq hpl
          have hbel := hpl.below
          have hplt := hpl.lt
          rw [← HAT.out] at hpe hbel hplt
          have hand := Wd.and_pred_u64 z hz hz64
          obtain ⟨p, hp⟩ : ∃ p, p = Wd.sel z 0 := ⟨_, rfl⟩
          rw [← hp] at HSEL hpe hplt
          obtain ⟨z2, hz2⟩ : ∃ z2, z2 = z &&& (z - 1) := ⟨_, rfl⟩
          rw [← hz2] at hn1 hn2 hand
          have HN1 := hidden hn1
          have HPE := hidden hpe
          have HBE := hidden hbel
          have hzw : IntKind.u64.wrap ((z : Int) - 1) = (z : Int) - 1 := by rw [IntKind.wrap_u64]; omega
          clear hpl hp hz2 hn1 hpe hbel
          gi_wp2_with fail
          refine ⟨trivial, (callsIn_wide.2 (HSEL.out _ (HT.out.kept HKt.out))).mono ?_⟩
          rintro e' w1 ⟨rfl, rfl⟩
          obtain ⟨fn, tmps, assign, body, hy, hR⟩ := HY.out _ (at' + p) w1 HJt.out (by rw [Fn.plc_length]; exact HBE.out)
          have HRR := hidden hR
          have hcast : ((at' + p : Nat) : Int) = (at' : Int) + (p : Int) := by omega
          rw [hcast] at hy
          clear hR hcast
          gi_wp2
          refine HRR.out.mono ?_
          rintro e W3 (⟨rfl, hJ3, hk3⟩ | ⟨rfl, hJx3⟩)
          · have HJ3 := hidden hJ3
            have HK3 := hidden (HKt.out.trans hk3)
            clear hJ3 hk3
            gi_wp2
            go_roundw
            case rel => exact ⟨t + 1, z2, rfl, HN1.out, by have := HJ3.out; rw [← HPE.out, ← Fn.plc_succ] at this; exact this, HK3.out⟩
            case measure => simp [intOf]; omega
          · have HJ3 := hidden hJx3
            clear hJx3
            gi_wp2
            refine bodyPost_ret (results_none rfl _ _ _) rfl ?_
            refine ⟨⟨_, rfl⟩, .inr ⟨_, ⟨_, HBE.out, rfl⟩, ?_⟩⟩
            rw [Fn.plc_succ, HPE.out]
            exact HJ3.out
    · have hall : Wd.ones Y at' = Wd.ones Y H := by
        have e := Wd.ones_big Y H at' HLT.out (by omega)
        exact e
      have e := HJs.out
      rw [hall] at e
      have HE := hidden e
      have hna : H ≤ at' := by omega
      clear e hat
      gi_wp2_with fail
      refine ⟨trivial, (callsIn_wide.2 HLen.out).mono ?_⟩
      rintro e' w1 ⟨rfl, rfl⟩
      gi_wp2
      go_end0
      exact ⟨⟨_, rfl⟩, .inl ⟨_, rfl, HE.out⟩⟩
/-- What ones hands back, as an iterator. -/
theorem ones_stops (n : Nat) (hn : 1 ≤ n) (bx r H Y : Nat) (u : Value) (w : World) (cb : w.cell? ⟨bx, 0, none⟩ = some (.pointer (some ⟨r, 0, none⟩))) (hR : Rw w r H Y u) (hT : Tab w) :
    SeqStopsK Fence.wide n Tryz.prog 168 #[.pointer (some ⟨bx, 0, none⟩)] (fun x : Nat => #[.int .i64 (x : Nat)]) (Fn.Kept (Fn.rowS bx r u)) (fun ys => ys = Fn.plc Y H (Wd.ones Y H)) (fun pre => ∃ k, k < Wd.ones Y H ∧ pre = Fn.plc Y H (k + 1)) (Wd.ones Y H) w := fun y J Jx W hW _ _ hY h0 =>
  ones1_in n hn y bx r H Y u J Jx W hY (cell_after hW cb) (hR.below hW (Nat.le_refl _)) (hT.below hW (Nat.le_refl _)) h0
set_option maxHeartbeats 1000000 in
theorem ones_any (r : Nat) (w : World) :
    Calls Tryz.prog 137 #[.pointer (some ⟨r, 0, none⟩)] w fun e w' => ∃ bx, e = .returned (.func (.func 168) #[] #[.pointer (some ⟨bx, 0, none⟩)]) ∧ Below w.heap.size w w' ∧ Boxed w' bx 48 (.pointer (some ⟨r, 0, none⟩)) ∧ w.heap.size ≤ bx := by
  go_enter Tryz.func137, Tryz.ntmps137
  go_wp2_with fail
  go_ret
  exact ⟨_, rfl, (Below.refl _ _).alloc (Nat.le_refl _) _, Boxed.new _ _ _, Nat.le_refl _⟩
end Go.Proofs.YtoipliflphbeiaaGreatDoor
namespace Go.Proofs.YtoipliflphbeiaaGreatDoor
open Go Go.RowKit
section
variable {P : Program} {n l : Nat} {Q : Exit → Act → World → Prop} {ops : Array Oper}
theorem uponIn_round {o : Oper} {a : Act} {next : Act → World → Prop} {R : Result Next} (h : o.upon P a next Q R) : o.uponIn (Fence.wide.inRound l) n P a next Q R := by
  match R, h with
  | .ok (.value v) w', h => exact h
  | .ok .skip w', h => exact h
  | .ok (.defer d) w', h => exact h
  | .ok (.enter f args) w', h =>
    have h2 : CallsIn Fence.wide (n - 1) P f args w' _ := callsIn_wide.2 h
    exact ⟨fun hd => (by cases hd), h2⟩
  | .ok (.row row args) w', h =>
    refine ⟨fun hd => (by cases hd), fun c cs _ => ?_⟩
    obtain ⟨v, w'', r, s⟩ := h c cs
    exact ⟨v, w'', r, stepsIn_wide.2 s⟩
  | .halt (.panic v) w', h => exact h
/-- No operation is a defer statement. -/
def noDefer (ops : Array Oper) : Bool := ops.all fun o => match o.op with | .defer _ => false | _ => true
theorem noDefer_at {i : Nat} {o : Oper} (h : noDefer ops = true) (ho : ops[i]? = some o) : ∀ c, o.op ≠ .defer c := by
  intro c e
  unfold noDefer at h
  rw [Array.all_eq_true] at h
  obtain ⟨hi, rfl⟩ := Array.getElem?_eq_some_iff.1 ho
  have := h i hi
  rw [e] at this
  cases this
theorem wpOpIn_round {i : Nat} {K : Act → World → Prop} {a : Act} {w : World} (hnd : noDefer ops = true) (hQ : ¬ LetsOut Q) (h : wpOp P ops Q i K a w) : wpOpIn (Fence.wide.inRound l) n P ops Q i K a w := by
  unfold wpOpIn
  unfold wpOp at h
  cases ho : ops[i]? with
  | none => simpa [ho] using h
  | some o =>
    simp only [ho] at h ⊢
    split
    · rename_i hw
      rw [if_pos hw] at h
      rcases h with h | ⟨_, h⟩
      · refine ⟨fun _ _ => trivial, ?_⟩
        rw [show (Fence.wide.inRound l).round = some l from rfl, Oper.semAt_eq _ _ _ (noDefer_at hnd ho)]
        exact uponIn_round h
      · exact absurd h hQ
    · rename_i hw
      rw [if_neg hw] at h
      exact ⟨fun _ _ => trivial, h⟩
theorem wpAnyIn_round {md : Region.Mode} (hnd : noDefer ops = true) (hQ : ¬ LetsOut Q) : ∀ (fuel : Nat) (listed : Array Bool) (a : Act) (w : World), wpAny P md ops Q fuel listed a w → wpAnyIn (Fence.wide.inRound l) n P md ops Q fuel listed a w
  | 0, _, _, _, h => h
  | fuel + 1, _, _, _, h => ⟨h.1, fun i hi => wpOpIn_round hnd hQ (wpOp_mono (fun a' w' h' => wpAnyIn_round hnd hQ fuel _ a' w' h') (h.2 i hi))⟩
/-- A region that draws, in a round, under a condition that is held. -/
theorem wpIn_region_held_round {S : World → Prop} {id : Nat} {a : Act} {w : World} (hm : P.follows .mixedOrders = true) (hnd : noDefer ops = true) (hQ : ¬ LetsOut Q) (hS : S w.drew)
    (h : S w.drew → wpAnyH P .any ops Q S ops.size (Array.replicate ops.size false) a w.drew) : (Code.region id ops true).wpIn (Fence.wide.inRound l) n P Q a w :=
  wpIn_region_any hm (wpAnyIn_round hnd hQ _ _ _ _ (wpAny_of_held _ _ _ _ (h hS)))
end
end Go.Proofs.YtoipliflphbeiaaGreatDoor
namespace Go.Proofs.YtoipliflphbeiaaGreatDoor
open Go.RowKit Go.Shelf
attribute [local go_sem] Oper.semAt_some
theorem Tryz.infoI : (Tryz.prog.info? 3).map (fun i => (i.zero, i.size, i.bytes)) = some (some (.int .i64 0), 1, 8) := by kernel_rfl
namespace Fn
/-- Two parts put together, as the program does it. -/
def jn (x : Int) (L W : Nat) : Int := bits .or .i64 (IntKind.i64.wrap (x * 2 ^ W)) (L : Int)
/-- The i-th number, by the place of its 1. -/
def jnAt (Z W x i : Nat) : Int := jn (IntKind.i64.wrap ((x : Int) - (i : Int))) (Bt.fd Z (i * W) W) W
def decI (Z W : Nat) (pre : List Nat) : List Int := (List.range pre.length).map fun i => jnAt Z W (pre.getD i 0) i
theorem decI_length (Z W : Nat) (pre : List Nat) : (decI Z W pre).length = pre.length := by simp [decI]
theorem decI_snoc (Z W : Nat) (pre : List Nat) (x : Nat) : decI Z W (pre ++ [x]) = decI Z W pre ++ [jnAt Z W x pre.length] := by
  unfold decI
  rw [List.length_append, List.length_singleton, List.range_succ, List.map_append]
  congr 1
  · apply List.map_congr_left
    intro i hi
    rw [List.mem_range] at hi
    rw [List.getD_eq_getElem?_getD, List.getD_eq_getElem?_getD, List.getElem?_append_left hi]
  · simp
def nvals (li : List Int) : List Value := li.map fun x => Value.int .i64 x
theorem nvals_snoc (li : List Int) (x : Int) : nvals (li ++ [x]) = nvals li ++ [.int .i64 x] := by simp [nvals]
end Fn
theorem made_ints (c : Nat) : madeCells #[Value.int .i64 0] c = Array.replicate c (Value.int .i64 0) := by
  apply Array.toList_inj.1
  rw [toList_madeCells_one, Array.toList_replicate]
theorem mk_ints (c : Nat) (hc : c ≤ 4294967296) (u : World) : (Instr.makeSlice 57 (.int .i64 0) (.int .i64 (c : Int))).run Tryz.prog u = .ok (.slice (some ⟨u.heap.size, 0, none⟩) 0 c) (u.alloc (.cells (Array.replicate c (Value.int .i64 0)) 3)) := by
  obtain ⟨i0, hi, hz0, hz1, hz2⟩ := info_parts Tryz.infoI
  have h := run_make (P := Tryz.prog) u 57 3 i0 (.int .i64 0) Tryz.underlying57 hi hz0 .i64 .i64 0 (c : Int) (by omega) (by omega) (by rw [hz2]; omega) (by omega)
  rw [← made_ints]
  simpa [hz1, Value.cells] using h
theorem own_made (w : World) (c : Nat) (hc : c ≤ 4294967296) : (w.alloc (.cells (Array.replicate c (Value.int .i64 0)) 3)).ownsRow w.heap.size 3 1 (.slice (some ⟨w.heap.size, 0, none⟩) 0 c) 0 (Fn.nvals []) :=
  ⟨by simp [Fn.nvals], .inr ⟨w.heap.size, c, _, rfl, Nat.le_refl _, heap_alloc_new _ _, Nat.zero_le _, by unfold maxLen; omega, by simp, by simp [Fn.nvals]⟩⟩
set_option maxHeartbeats 400000 in
theorem join_gen (x : Int) (L W : Nat) (w : World) (hW : W ≤ 40) :
    Calls Tryz.prog 112 #[.int .i64 x, .int .i64 (L : Nat), .int .i64 (W : Nat)] w fun e w' => e = .returned (.int .i64 (Fn.jn x L W)) ∧ w' = w := by
  have hj : Fn.jn x L W = bits .or .i64 (IntKind.i64.wrap (x * 2 ^ W)) (L : Int) := rfl
  rw [hj]
  clear hj
  obtain ⟨V, hV⟩ : ∃ V, IntKind.i64.wrap (x * 2 ^ W) = V := ⟨_, rfl⟩
  rw [hV]
  go_enter Tryz.func112, Tryz.ntmps112
  go_wp2_with fail
  go_ret
  exact ⟨rfl, rfl⟩
theorem cell_far {w : World} {p a : Addr} {v x : Value} (h : w.cell? p = some v) (hne : p.block ≠ a.block) : (w.setCell a x).cell? p = some v :=
  (World.cell?_of_block (w := w) (a := p) (setCell_heap_other w a x p.block hne)).trans h
/-- What numbers tells. -/
def NumPost (w : World) (n W Z Y H : Nat) (e : Ending) (w' : World) : Prop :=
  Below w.heap.size w w' ∧ ∃ v f, e = .returned (.tuple #[v, .bool f]) ∧ ((f = true ∧ Wd.ones Y H = n ∧ w'.ownsRow 0 3 1 v n (Fn.nvals (Fn.decI Z W (Fn.plc Y H n)))) ∨ (f = false ∧ Wd.ones Y H ≠ n))
set_option linter.unusedSimpArgs false in
set_option maxRecDepth 100000 in
set_option maxHeartbeats 4000000 in
theorem numbers_any (r m X n u H : Nat) (ru : Value) (w : World) (h : Rw w r m X ru) (hT : Tab w) (hn : n < 16777216) (hu : u < 2199023255552) (hm : m = 65 + Fn.lows n u + H) :
    Calls Tryz.prog 102 #[.pointer (some ⟨r, 0, none⟩), Fn.sh n u] w fun e w' => NumPost w n (Fn.wdt n u) (Bt.cut X 65 (Fn.lows n u)) (Bt.cut X (65 + Fn.lows n u) H) H e w' := by
  have HR := hidden h
  have HT := hidden hT
  have hml := h.len
  have HLO := hidden (fun w => lows_any n u w hn hu)
  have hW := Fn.wdt_le (n := n) hu
  have hlow : Fn.lows n u = n * Fn.wdt n u := rfl
  unfold Fn.sh at *
  generalize hLL : Fn.lows n u = LL at *
  generalize hWW : Fn.wdt n u = W at *
  have HCA := hidden (fun w' (hb : Below w.heap.size w w') => Clip_core r m X 65 (65 + LL) 65 ((65 : Int) + (LL : Int)) ru w' (h.below hb (Nat.le_refl _)) (by omega) (by omega) (by omega) (by omega))
  have HCB := hidden (fun w' (hb : Below w.heap.size w w') => Clip_core r m X (65 + LL) m ((65 : Int) + (LL : Int)) (m : Int) ru w' (h.below hb (Nat.le_refl _)) (by omega) (by omega) (by omega) (by omega))
  rw [show 65 + LL - 65 = LL from by omega] at HCA
  rw [show m - (65 + LL) = H from by omega] at HCB
  have HLW := hidden hlow
  have hLm : LL ≤ 4294967296 := by omega
  have hH : H ≤ 4294967296 := by omega
  have HRL := hidden (fun w' (hb : Below w.heap.size w w') => RLen_any r m X ru w' (h.below hb (Nat.le_refl _)))
  clear h hT hlow hm hLL hWW
  obtain ⟨Y, hY⟩ : ∃ Y, Y = Bt.cut X (65 + LL) H := ⟨_, rfl⟩
  obtain ⟨Z, hZ⟩ : ∃ Z, Z = Bt.cut X 65 LL := ⟨_, rfl⟩
  rw [← hY] at HCB ⊢
  rw [← hZ] at HCA ⊢
  clear hY hZ
  have hmk := mk_ints n (by omega)
  refine (callsIn_wide (n := 10)).1 ?_
  refine callsIn_of_wp_marks Tryz.func102 rfl trivial ?_ rfl
  simp only [Tryz.ntmps102, List.size_toArray, List.length_cons, List.length_nil, Nat.reduceAdd, Nat.reduceSub, Array.replicate_succ, Array.replicate_zero, List.push_toArray, List.append_toArray, List.nil_append, List.cons_append]
  refine wpIn_wide.2 ?_
  go_wp2_with fail
  obtain ⟨w0, hw0⟩ : ∃ w0, w0 = ((w.alloc (.cells #[.int .i64 (n : Nat), .int .i64 (u : Nat), .int .i64 (W : Nat)] 106)).alloc (.cells #[.slice none 0 0] 57)).alloc (.cells #[.bool false] 4) := ⟨_, rfl⟩
  rw [← hw0]
  have hb0 : Below w.heap.size w w0 := by rw [hw0]; exact (((Below.refl _ _).alloc (Nat.le_refl _) _).alloc (by simp) _).alloc (by simp; omega) _
  have s0 : w0.cell? ⟨w.heap.size, 0, none⟩ = some (.int .i64 (n : Nat)) := by rw [hw0]; exact cell_made (cell_made (by simp))
  have s1 : w0.cell? ⟨w.heap.size, 1, none⟩ = some (.int .i64 (u : Nat)) := by rw [hw0]; exact cell_made (cell_made (by simp))
  have s2 : w0.cell? ⟨w.heap.size, 2, none⟩ = some (.int .i64 (W : Nat)) := by rw [hw0]; exact cell_made (cell_made (by simp))
  have x4 : Boxed w0 (w.heap.size + 1) 57 (.slice none 0 0) := by
    rw [hw0]
    refine Boxed.alloc ?_ _
    have := Boxed.new (w.alloc (.cells #[.int .i64 (n : Nat), .int .i64 (u : Nat), .int .i64 (W : Nat)] 106)) 57 (.slice none 0 0)
    rw [World.size_alloc] at this
    exact this
  have x5 : Boxed w0 (w.heap.size + 1 + 1) 4 (.bool false) := by
    rw [hw0]
    have := Boxed.new ((w.alloc (.cells #[.int .i64 (n : Nat), .int .i64 (u : Nat), .int .i64 (W : Nat)] 106)).alloc (.cells #[.slice none 0 0] 57)) 4 (.bool false)
    rw [World.size_alloc, World.size_alloc] at this
    exact this
  have HS0 := hidden s0
  have HS2 := hidden s2
  have HX4 := hidden x4
  have HX5 := hidden x5
  have HB0 := hidden hb0
  have hsz0 : w.heap.size < w0.heap.size := World.block_lt_of_cell? w0 ⟨w.heap.size, 0, none⟩ s0
  clear hw0 hb0 x4 x5
  refine (HLO.out w0).mono ?_
  rintro e' w1 ⟨rfl, hb1⟩
  have HB1 := hidden hb1
  have HBW1 := hidden (below_after HB0.out hb1)
  clear s0 s1 s2 hb1
  go_wp2_with fail
  refine (HCA.out w1 HBW1.out).mono ?_
  rintro e' w2 ⟨r0, u0, rfl, hr0, hb2, _, _⟩
  have HR0 := hidden hr0
  have HB2 := hidden (below_after HB1.out hb2)
  have HBW2 := hidden (below_after HBW1.out hb2)
  clear hr0 hb2
  go_wp2_with fail
  refine (HRL.out w2 HBW2.out).mono ?_
  rintro e' w2' ⟨rfl, rfl⟩
  go_wp2_with fail
  refine (HCB.out w2' HBW2.out).mono ?_
  rintro e' w3 ⟨r1, u1, rfl, hr1, hb3, _, _⟩
  have HR1 := hidden hr1
  have HR03 := hidden (HR0.out.below hb3 (Nat.le_refl _))
  have HB3 := hidden (below_after HB2.out hb3)
  have HBW3 := hidden (below_after HBW2.out hb3)
  have t0 := cell_after HB3.out HS0.out
  have hsz3 : w.heap.size < w3.heap.size := World.block_lt_of_cell? w3 ⟨w.heap.size, 0, none⟩ t0
  clear hr1 hb3
  go_wp2_with fail
  obtain ⟨w4, hw4⟩ : ∃ w4, w4 = w3.alloc (.cells #[.pointer (some ⟨r0, 0, none⟩)] 48) := ⟨_, rfl⟩
  rw [← hw4]
  have hsz4 : w4.heap.size = w3.heap.size + 1 := by rw [hw4]; simp
  have x7 : Boxed w4 w3.heap.size 48 (.pointer (some ⟨r0, 0, none⟩)) := by rw [hw4]; exact Boxed.new _ _ _
  have hb34 : Below w3.heap.size w3 w4 := by rw [hw4]; exact (Below.refl _ _).alloc (Nat.le_refl _) _
  have HB34 := hidden hb34
  have HX7 := hidden x7
  obtain ⟨w6, hw6⟩ : ∃ w6, w6 = (w4.alloc (.cells (Array.replicate n (Value.int .i64 0)) 3)).alloc (.cells #[.slice (some ⟨w3.heap.size + 1, 0, none⟩) 0 n] 57) := ⟨_, rfl⟩
  rw [← hw6]
  have hb46 : Below w4.heap.size w4 w6 := by rw [hw6]; exact ((Below.refl _ _).alloc (Nat.le_refl _) _).alloc (by simp) _
  have x9 : Boxed w6 (w3.heap.size + 1 + 1) 57 (.slice (some ⟨w3.heap.size + 1, 0, none⟩) 0 n) := by
    rw [hw6]
    have := Boxed.new (w4.alloc (.cells (Array.replicate n (Value.int .i64 0)) 3)) 57 (.slice (some ⟨w3.heap.size + 1, 0, none⟩) 0 n)
    rw [World.size_alloc, hsz4] at this
    exact this
  have o9 : w6.ownsRow w4.heap.size 3 1 (.slice (some ⟨w3.heap.size + 1, 0, none⟩) 0 n) 0 (Fn.nvals []) := by
    rw [hw6, ← hsz4]
    exact (own_made w4 n (by omega)).alloc _
  have HB46 := hidden hb46
  have HX9 := hidden x9
  have HO9 := hidden o9
  have hsz6 : w4.heap.size + 2 = w6.heap.size := by rw [hw6]; simp
  clear hw4 hw6 hb34 hb46 x7 x9 o9 t0
  have HBW4 := hidden (below_after HBW3.out HB34.out)
  have HBW6 := hidden (below_after HBW4.out HB46.out)
  have HT6 := hidden (HT.out.below HBW6.out (Nat.le_refl _))
  have HB04 := hidden (below_after HB3.out HB34.out)
  refine (ones_any r1 w6).mono ?_
  rintro e' w7 ⟨bx, rfl, hb7, hx, hbx⟩
  have HB7 := hidden hb7
  have HXX := hidden hx
  have HR14 := hidden (HR1.out.below HB34.out (Nat.le_refl _))
  have HR17 := hidden (((HR1.out.below HB34.out (Nat.le_refl _)).below HB46.out (Nat.le_refl _)).below hb7 (Nat.le_refl _))
  have HT7 := hidden (HT6.out.below hb7 (Nat.le_refl _))
  have HST := hidden (ones_stops 9 (by decide) bx r1 H Y u1 w7 hx.cell HR17.out HT7.out)
  have hsz7 : w6.heap.size ≤ w7.heap.size := hb7.size
  have x9 := HX9.out.kept (World.grownBy.mk hb7.os hb7.tape hb7.output hb7.size (fun k hk _ => hb7.block k hk)) (row := none) (by simp)
  have o9 := own_below HO9.out hb7 (Nat.le_refl _)
  have HX97 := hidden x9
  have HO97 := hidden o9
  have HB47 := hidden (below_after HB46.out hb7)
  clear hb7 hx x9 o9
  obtain ⟨n0, hn0⟩ : ∃ n0, n0 = w4.heap.size := ⟨_, rfl⟩
  rw [← hn0] at HO97 HB47
  have hB9 : n0 ≤ w3.heap.size + 1 + 1 := by omega
  go_wp2_with fail
  refine (wpIn_wide (n := 10)).1 ?_
  refine wpIn_rangeFunc_ownF rfl (by decide) (gf := 168) (lb := #[.pointer (some ⟨bx, 0, none⟩)]) rfl trivial (enters_of Tryz.func168 (by kernel_rfl) rfl)
    HST.out (fun h k => Fn.Kept.trans h k) (Fn.Kept.book (fun k hk => by
      rcases hk with rfl | rfl | hk | rfl
      · exact HXX.out.lt
      · exact lt_of_block HR17.out.cells
      · exact own_lt HR17.out.own k hk
      · exact HT7.out.lt)) (Below.refl _ _) (fun _ => rfl)
    (fun pre W' => (pre.length ≤ n ∧ (∃ v, Boxed W' (w3.heap.size + 1 + 1) 57 v ∧ W'.ownsRow n0 3 1 v pre.length (Fn.nvals (Fn.decI Z W pre)) ∧ True)) ∧ Boxed W' bx 48 (.pointer (some ⟨r1, 0, none⟩)) ∧ Below n0 w4 W')
    (fun c pre W' => (c = .ret ∧ n < pre.length ∧ Boxed W' (w.heap.size + 1) 57 (.slice none 0 0) ∧ Boxed W' (w.heap.size + 1 + 1) 4 (.bool false)) ∧ Below w.heap.size w W')
    (fun s A B row hs hg hr => ⟨⟨hs.1.1, holdsRow_own n0 (w3.heap.size + 1 + 1) 57 3 1 (fun pre : List Nat => pre.length) (fun pre => Fn.nvals (Fn.decI Z W pre)) (fun _ _ => True) s A B row hs.1.2 hg (fun r e => (hr r e).2)⟩, Own.from (boxed_own bx 48 (fun _ => .pointer (some ⟨r1, 0, none⟩))) _ s A B row hs.2.1 hg hr, ownFrom_below (Nat.le_of_eq hn0) (by omega) s A B row hs.2.2 hg hr⟩)
    (fun c s A B row hs hg hr => ⟨⟨hs.1.1, hs.1.2.1, Own.from (boxed_own _ 57 (fun _ => .slice none 0 0)) _ s A B row hs.1.2.2.1 hg hr, Own.from (boxed_own _ 4 (fun _ => .bool false)) _ s A B row hs.1.2.2.2 hg hr⟩, ownFrom_below (Nat.le_refl _) (by have := HBW6.out.size; omega) s A B row hs.2 hg hr⟩)
    ⟨⟨Nat.zero_le _, _, HX97.out, HO97.out, trivial⟩, HXX.out, HB47.out⟩ ?a1 ?assign ?body ?done ?stop
  case assign =>
    intro l' x' W' K hK
    gi_wp2
    exact hK
  case body =>
    rintro l' pre x W' ⟨⟨hpn, v, hxv, hov, _⟩, hxb, hbW⟩ _
    have hbW4 : Below w4.heap.size w4 W' := by rw [← hn0]; exact hbW
    have q0 := cell_after hbW4 (cell_after HB04.out HS0.out)
    have q2 := cell_after hbW4 (cell_after HB04.out HS2.out)
    have q7 := cell_after hbW4 HX7.out.cell
    have HRL := hidden ((HR03.out.below HB34.out (Nat.le_refl _)).below hbW4 (Nat.le_refl _))
    have y4 : Boxed W' (w.heap.size + 1) 57 (.slice none 0 0) := (hbW4.block _ (Nat.lt_of_lt_of_le HX4.out.lt HB04.out.size)).trans ((HB04.out.block _ HX4.out.lt).trans HX4.out)
    have y5 : Boxed W' (w.heap.size + 1 + 1) 4 (.bool false) := (hbW4.block _ (Nat.lt_of_lt_of_le HX5.out.lt HB04.out.size)).trans ((HB04.out.block _ HX5.out.lt).trans HX5.out)
    obtain ⟨ao, cap, hv⟩ : ∃ ao cap, v = .slice ao pre.length cap := by
      rcases hov.2 with ⟨h1, h2⟩ | ⟨g, cap, _, h1, _⟩
      · exact ⟨none, 0, by rw [h1, h2]⟩
      · exact ⟨some ⟨g, 0, none⟩, cap, h1⟩
    have c9 := hxv.cell
    have HXV := hidden hxv
    have HOV := hidden hov
    have HXB := hidden hxb
    have HBW' := hidden hbW
    have HBWW := hidden (below_after HBW4.out hbW4)
    have HPN := hidden hpn
    rw [hv] at c9
    obtain ⟨L, hL⟩ : ∃ L, L = pre.length := ⟨_, rfl⟩
    rw [← hL] at c9 hpn
    have HHL := hidden hL
    have HHV := hidden hv
    have HY4 := hidden y4
    have HY5 := hidden y5
    by_cases hfull : L = n
    · have z4 := y4.cell
      have z5 := y5.cell
      have zf4 := y4.frozen
      have zf5 := y5.frozen
      have hne : ((L : Int) == (n : Int)) = true := by simp [hfull]
      clear hv hL hxv hov hxb hbW hbW4 y4 y5
      gi_wp2
      have k4 : Boxed (W'.setCell ⟨w.heap.size + 1, 0, none⟩ (.slice none 0 0)) (w.heap.size + 1) 57 (.slice none 0 0) := HY4.out.set _
      have k5 : Boxed (W'.setCell ⟨w.heap.size + 1, 0, none⟩ (.slice none 0 0)) (w.heap.size + 1 + 1) 4 (.bool false) := HY5.out.kept (grownBy_setCell' W' _ _) (by simp)
      refine ⟨(KeepsOthers.setCell _ _ _).trans (KeepsOthers.setCell _ _ _), ⟨rfl, ?_, k4.kept (grownBy_setCell' _ _ _) (by simp), k5.set _⟩, (HBWW.out.setCell (p := ⟨w.heap.size + 1, 0, none⟩) (by simp) _).setCell (p := ⟨w.heap.size + 1 + 1, 0, none⟩) (by simp; omega) _⟩
      rw [List.length_append, ← HHL.out]
      simp
      omega
    · have hne : ((L : Int) == (n : Int)) = false := by simp; omega
      have hLn : L < n := by omega
      clear hv hL hxv hov hxb hbW hbW4 y4 y5
      gi_wp2_with fail
      have hle : L * W + W ≤ LL := by
        have h1 : (L + 1) * W ≤ n * W := Nat.mul_le_mul_right _ hLn
        rw [Nat.add_mul, Nat.one_mul] at h1
        rw [HLW.out]
        exact h1
      have HLOW := hidden (lowest_any r0 LL Z L W u0 W'.drew HRL.out.drew hW hle)
      have HJG := hidden (join_gen (IntKind.i64.wrap ((x : Int) - (L : Int))) (Bt.fd Z (L * W) W) W W'.drew hW)
      obtain ⟨J', hJ'⟩ : ∃ J', J' = Fn.jnAt Z W x L := ⟨_, rfl⟩
      have HJA : Hid (Fn.jn (IntKind.i64.wrap ((x : Int) - (L : Int))) (Bt.fd Z (L * W) W) W = J') := by show _ = _; rw [hJ']; rfl
      rw [HJA.out] at HJG
      have HJ' := hidden hJ'
      have c9a : (W'.alloc (.cells #[.int .i64 J'] 3)).cell? ⟨w3.heap.size + 1 + 1, 0, none⟩ = some (.slice ao L cap) := cell_made c9
      have q7a : (W'.alloc (.cells #[.int .i64 J'] 3)).cell? ⟨w3.heap.size, 0, none⟩ = some (.pointer (some ⟨r0, 0, none⟩)) := cell_made q7
      have q2a : (W'.alloc (.cells #[.int .i64 J'] 3)).cell? ⟨w.heap.size, 2, none⟩ = some (.int .i64 (W : Nat)) := cell_made q2
      clear hle hJ'
      have hsv : v = .slice ao L cap := by rw [HHL.out]; exact HHV.out
      have hov2 : W'.drew.ownsRow n0 3 1 (.slice ao L cap) L (Fn.nvals (Fn.decI Z W pre)) := by
        have e := HOV.out
        rw [hsv, ← HHL.out] at e
        exact e
      have hxv2 : Boxed W'.drew (w3.heap.size + 1 + 1) 57 (.slice ao L cap) := by
        have e := HXV.out
        rw [hsv] at e
        exact e
      have HOV2 := hidden hov2
      have HXV2 := hidden hxv2
      have hsW : n0 ≤ W'.drew.heap.size := by have := HBW'.out.size; show n0 ≤ W'.heap.size; omega
      have HSW := hidden hsW
      clear hsv hov2 hxv2 hsW
      refine wpIn_region_held_round (S := fun w' => w'.cell? ⟨w3.heap.size, 0, none⟩ = some (.pointer (some ⟨r0, 0, none⟩)) ∧ w'.cell? ⟨w.heap.size, 2, none⟩ = some (.int .i64 (W : Nat))) (by kernel_rfl) (by kernel_rfl) (by rintro ⟨_, _, h⟩; exact h) ⟨q7, q2⟩ (fun hHeld => ?_)
      refine wpAnyH_take (i := 1) (oi := _) (v := ?_) rfl (by kernel_rfl) (by kernel_rfl) (by kernel_rfl) (fun _ _ _ h => h) (Or.inl ⟨by rfl, ?_⟩) (by assumption) ?_
      rotate_left
      · intro w' hSw
        obtain ⟨q1, q2⟩ := hSw
        go_simp
        try with_reducible rfl
      simp only [Act.put, List.setIfInBounds_toArray, List.set_cons_zero, List.set_cons_succ]
      refine wpAnyH_take (i := 2) (oi := _) (v := ?_) rfl (by kernel_rfl) (by kernel_rfl) (by kernel_rfl) (fun _ _ _ h => h) (Or.inl ⟨by rfl, ?_⟩) (by assumption) ?_
      rotate_left
      · intro w' hSw
        obtain ⟨q1, q2⟩ := hSw
        go_simp
        try with_reducible rfl
      simp only [Act.put, List.setIfInBounds_toArray, List.set_cons_zero, List.set_cons_succ]
      refine wpAnyH_take (i := 3) (oi := _) (v := ?_) rfl (by kernel_rfl) (by kernel_rfl) (by kernel_rfl) (fun _ _ _ h => h) (Or.inl ⟨by rfl, ?_⟩) (by assumption) ?_
      rotate_left
      · intro w' hSw
        obtain ⟨q1, q2⟩ := hSw
        go_simp
        try with_reducible rfl
      simp only [Act.put, List.setIfInBounds_toArray, List.set_cons_zero, List.set_cons_succ]
      refine wpAnyH_take (i := 4) (oi := _) (v := ?_) rfl (by kernel_rfl) (by kernel_rfl) (by kernel_rfl) (fun _ _ _ h => h) (Or.inl ⟨by rfl, ?_⟩) (by assumption) ?_
      rotate_left
      · intro w' hSw
        obtain ⟨q1, q2⟩ := hSw
        go_simp
        try with_reducible rfl
      simp only [Act.put, List.setIfInBounds_toArray, List.set_cons_zero, List.set_cons_succ]
      refine wpAnyH_take (i := 5) (oi := _) (v := ?_) rfl (by kernel_rfl) (by kernel_rfl) (by kernel_rfl) (fun _ _ _ h => h) (Or.inl ⟨by rfl, ?_⟩) (by assumption) ?_
      rotate_left
      · intro w' hSw
        obtain ⟨q1, q2⟩ := hSw
        go_simp
        try with_reducible rfl
      simp only [Act.put, List.setIfInBounds_toArray, List.set_cons_zero, List.set_cons_succ]
      refine wpAnyH_take (i := 6) (oi := _) (v := ?_) rfl (by kernel_rfl) (by kernel_rfl) (by kernel_rfl) (fun _ _ _ h => h) (Or.inl ⟨by rfl, ?_⟩) (by assumption) ?_
      rotate_left
      · intro w' hSw
        obtain ⟨q1, q2⟩ := hSw
        go_simp
        try with_reducible rfl
      simp only [Act.put, List.setIfInBounds_toArray, List.set_cons_zero, List.set_cons_succ]
      refine wpAnyH_take (i := 7) (oi := _) (v := ?_) rfl (by kernel_rfl) (by kernel_rfl) (by kernel_rfl) (fun _ _ _ h => h) (Or.inl ⟨by rfl, ?_⟩) (by assumption) ?_
      rotate_left
      · intro w' hSw
        obtain ⟨q1, q2⟩ := hSw
        go_simp
        try with_reducible rfl
      simp only [Act.put, List.setIfInBounds_toArray, List.set_cons_zero, List.set_cons_succ]
      refine wpAnyH_take (i := 9) (oi := _) (v := ?_) rfl (by kernel_rfl) (by kernel_rfl) (by kernel_rfl) (fun _ _ _ h => h) (Or.inl ⟨by rfl, ?_⟩) (by assumption) ?_
      rotate_left
      · intro w' hSw
        obtain ⟨q1, q2⟩ := hSw
        go_simp
        try with_reducible rfl
      simp only [Act.put, List.setIfInBounds_toArray, List.set_cons_zero, List.set_cons_succ]
      refine wpAnyH_take (i := 10) (oi := _) (v := ?_) rfl (by kernel_rfl) (by kernel_rfl) (by kernel_rfl) (fun _ _ _ h => h) (Or.inl ⟨by rfl, ?_⟩) (by assumption) ?_
      rotate_left
      · intro w' hSw
        obtain ⟨q1, q2⟩ := hSw
        go_simp
        try with_reducible rfl
      simp only [Act.put, List.setIfInBounds_toArray, List.set_cons_zero, List.set_cons_succ]
      refine wpAnyH_ready (rs := [0, 8]) (by kernel_rfl) (by simp) (AllReadyH.cons rfl (fun K hK => ?a0) (AllReadyH.cons rfl (fun K hK => ?a8) AllReadyH.nil))
      case' a0 =>
        go_simp
        refine hK.out _ _ (by first | exact ⟨q7, q2⟩ | exact ⟨q7a, q2a⟩) (fun _ => ?_)
        clear hK K
        refine wpAnyH_ready (rs := [8]) (by kernel_rfl) (by simp) (AllReadyH.cons rfl (fun K hK => ?_) AllReadyH.nil)
        go_simp
        go_wp2_with (go_at_call 113; refine (HLOW.out).mono ?_; rintro e' w8 ⟨rfl, rfl⟩)
        refine hK.out _ _ ⟨q7, q2⟩ (fun _ => ?_)
        clear hK K
        refine wpAnyH_ready (rs := [11]) (by kernel_rfl) (by simp) (AllReadyH.cons rfl (fun K hK => ?_) AllReadyH.nil)
        go_simp
        go_wp2_with (go_at_call 112; refine (HJG.out).mono ?_; rintro e' w8 ⟨rfl, rfl⟩)
        refine hK.out _ _ ⟨q7, q2⟩ (fun _ => ?_)
        clear hK K
        refine wpAnyH_ready (rs := [12]) (by kernel_rfl) (by simp) (AllReadyH.cons rfl (fun K hK => ?_) AllReadyH.nil)
        go_simp
        refine hK.out _ _ ⟨q7a, q2a⟩ (fun _ => ?_)
        clear hK K
      case' a8 =>
        go_simp
        go_wp2_with (go_at_call 113; refine (HLOW.out).mono ?_; rintro e' w8 ⟨rfl, rfl⟩)
        refine hK.out _ _ ⟨q7, q2⟩ (fun _ => ?_)
        clear hK K
        refine wpAnyH_ready (rs := [0, 11]) (by kernel_rfl) (by simp) (AllReadyH.cons rfl (fun K hK => ?b0) (AllReadyH.cons rfl (fun K hK => ?b11) AllReadyH.nil))
      case' b0 =>
        go_simp
        refine hK.out _ _ (by first | exact ⟨q7, q2⟩ | exact ⟨q7a, q2a⟩) (fun _ => ?_)
        clear hK K
        refine wpAnyH_ready (rs := [11]) (by kernel_rfl) (by simp) (AllReadyH.cons rfl (fun K hK => ?_) AllReadyH.nil)
        go_simp
        go_wp2_with (go_at_call 112; refine (HJG.out).mono ?_; rintro e' w8 ⟨rfl, rfl⟩)
        refine hK.out _ _ ⟨q7, q2⟩ (fun _ => ?_)
        clear hK K
        refine wpAnyH_ready (rs := [12]) (by kernel_rfl) (by simp) (AllReadyH.cons rfl (fun K hK => ?_) AllReadyH.nil)
        go_simp
        refine hK.out _ _ ⟨q7a, q2a⟩ (fun _ => ?_)
        clear hK K
      case' b11 =>
        go_simp
        go_wp2_with (go_at_call 112; refine (HJG.out).mono ?_; rintro e' w8 ⟨rfl, rfl⟩)
        refine hK.out _ _ ⟨q7, q2⟩ (fun _ => ?_)
        clear hK K
        refine wpAnyH_ready (rs := [0, 12]) (by kernel_rfl) (by simp) (AllReadyH.cons rfl (fun K hK => ?c0) (AllReadyH.cons rfl (fun K hK => ?c12) AllReadyH.nil))
      case' c0 =>
        go_simp
        refine hK.out _ _ (by first | exact ⟨q7, q2⟩ | exact ⟨q7a, q2a⟩) (fun _ => ?_)
        clear hK K
        refine wpAnyH_ready (rs := [12]) (by kernel_rfl) (by simp) (AllReadyH.cons rfl (fun K hK => ?_) AllReadyH.nil)
        go_simp
        refine hK.out _ _ ⟨q7a, q2a⟩ (fun _ => ?_)
        clear hK K
      case' c12 =>
        go_simp
        refine hK.out _ _ ⟨q7a, q2a⟩ (fun _ => ?_)
        clear hK K
        refine wpAnyH_ready (rs := [0]) (by kernel_rfl) (by simp) (AllReadyH.cons rfl (fun K hK => ?_) AllReadyH.nil)
        go_simp
        refine hK.out _ _ (by first | exact ⟨q7, q2⟩ | exact ⟨q7a, q2a⟩) (fun _ => ?_)
        clear hK K
      all_goals refine wpAnyH_ready (rs := [13]) (by kernel_rfl) (by simp) (AllReadyH.cons rfl (fun K hK => ?_) AllReadyH.nil)
      all_goals
        rw [if_pos (by rfl)]
        obtain ⟨i0, hi, hz0, hz1, hz2⟩ := info_parts Tryz.infoI
        refine wp_append_own _ (.tmp 35) (.tmp 47) 57 rfl n0 3 i0 (.int .i64 0) 1 8 Tryz.underlying57 hi hz0 hz1 hz2 rfl (by decide) (.slice ao L cap) L (Fn.nvals (Fn.decI Z W pre)) rfl (HOV2.out.alloc _) ⟨W'.heap.size, 0, none⟩ 1 1 [.int .i64 J'] rfl rfl (World.news_of_block (heap_alloc_new W'.drew _)) (by intro u hu; simp at hu; subst hu; rfl) (by unfold maxLen; omega) (by omega) (by show n0 ≤ (W'.drew.alloc _).heap.size; rw [World.size_alloc]; exact Nat.le_succ_of_le HSW.out) ?_
        intro v' w1 hown1 hgrow1 _
        obtain ⟨g', cap', rfl⟩ := ownsRow_succ hown1
        obtain ⟨e1, e2, e3, e4, e5⟩ := HXV2.out.appended (by decide) HOV2.out HSW.out hB9 hown1 hgrow1
        have d9 := e1.cell
        have df9 := e1.frozen
        have HE2 := hidden e2
        have HE3 := hidden e3
        have HE4 := hidden e4
        have HE5 := hidden e5
        have hb1 : Below n0 W'.drew w1 := ((Below.refl _ _).alloc HSW.out _).grown hgrow1 (by rw [World.size_alloc]; exact Nat.le_succ_of_le HSW.out) (fun k e => (HOV2.out.lt k e).1)
        have d7 : w1.cell? ⟨w3.heap.size, 0, none⟩ = some (.pointer (some ⟨r0, 0, none⟩)) := (hb1.cell (p := ⟨w3.heap.size, 0, none⟩) (by show w3.heap.size < n0; omega)).trans q7
        have d2 : w1.cell? ⟨w.heap.size, 2, none⟩ = some (.int .i64 (W : Nat)) := (hb1.cell (p := ⟨w.heap.size, 2, none⟩) (by show w.heap.size < n0; omega)).trans q2
        have kx : Boxed (w1.setCell ⟨w3.heap.size + 1 + 1, 0, none⟩ (.slice (some ⟨g', 0, none⟩) (L + 1) cap')) bx 48 (.pointer (some ⟨r1, 0, none⟩)) := by
          have hx1 : Boxed W'.drew bx 48 (.pointer (some ⟨r1, 0, none⟩)) := HXB.out
          have hx2 : Boxed w1 bx 48 (.pointer (some ⟨r1, 0, none⟩)) := (hx1.alloc _).kept hgrow1 (hx1.not_row (by decide) HOV2.out)
          exact hx2.kept (grownBy_setCell' _ _ _) (by simp; omega)
        have HKX := hidden kx
        clear hown1 hgrow1 e1 e2 e3 e4 e5 kx hb1
        simp only [Act.put, List.setIfInBounds_toArray, List.set_cons_zero, List.set_cons_succ]
        refine hK.out _ _ ⟨d7, d2⟩ (fun _ => ?_)
        clear hK K
        refine wpAnyH_ready (rs := [14]) (by kernel_rfl) (by simp) (AllReadyH.cons rfl (fun K hK => ?_) AllReadyH.nil)
        go_simp
        obtain ⟨w9, hw9⟩ : ∃ w9, w9 = w1.setCell ⟨w3.heap.size + 1 + 1, 0, none⟩ (.slice (some ⟨g', 0, none⟩) (L + 1) cap') := ⟨_, rfl⟩
        rw [← hw9] at HE2 HE3 HE4 HE5 HKX ⊢
        have hb9 : Below n0 W'.drew w9 := HE5.out
        have d7' : w9.cell? ⟨w3.heap.size, 0, none⟩ = some (.pointer (some ⟨r0, 0, none⟩)) := (hb9.cell (p := ⟨w3.heap.size, 0, none⟩) (by show w3.heap.size < n0; omega)).trans q7
        have d2' : w9.cell? ⟨w.heap.size, 2, none⟩ = some (.int .i64 (W : Nat)) := (hb9.cell (p := ⟨w.heap.size, 2, none⟩) (by show w.heap.size < n0; omega)).trans q2
        refine hK.out _ _ ⟨d7', d2'⟩ (fun _ => ?_)
        clear hK K
        refine wpAnyH_done (by kernel_rfl) ?_ _
        have hrow : w9.ownsRow n0 3 1 (.slice (some ⟨g', 0, none⟩) (L + 1) cap') (pre ++ [x]).length (Fn.nvals (Fn.decI Z W (pre ++ [x]))) := by
          rw [Fn.decI_snoc, Fn.nvals_snoc, List.length_append, ← HHL.out, ← HJ'.out]
          exact HE3.out
        refine ⟨(KeepsOthers.drew W').trans HE4.out, ?_, ⟨by rw [List.length_append, ← HHL.out]; simp; omega, _, HE2.out, hrow, trivial⟩, HKX.out, HBW'.out.trans ((Below.refl n0 W').drew.trans hb9)⟩
        intro k hk
        rcases hk with rfl | rfl | hk | rfl
        · exact HKX.out.trans HXB.out.symm
        · exact hb9.block _ (by have := lt_of_block HR14.out.cells; omega)
        · exact hb9.block _ (by have := own_lt HR14.out.own k hk; omega)
        · exact hb9.block _ (by have := (HT.out.below HBW4.out (Nat.le_refl _)).lt; omega)
  case done =>
    rintro D ys W' hD rfl ⟨⟨hpn, v, hxv, hov, _⟩, _, hbW⟩ hK
    rw [Fn.plc_length] at hpn hov
    obtain ⟨K', hK'⟩ : ∃ K', K' = Wd.ones Y H := ⟨_, rfl⟩
    rw [← hK'] at hpn hov
    have hbW4 : Below w4.heap.size w4 W' := by rw [← hn0]; exact hbW
    have q0 := cell_after hbW4 (cell_after HB04.out HS0.out)
    have y4 : Boxed W' (w.heap.size + 1) 57 (.slice none 0 0) := (hbW4.block _ (Nat.lt_of_lt_of_le HX4.out.lt HB04.out.size)).trans ((HB04.out.block _ HX4.out.lt).trans HX4.out)
    have y5 : Boxed W' (w.heap.size + 1 + 1) 4 (.bool false) := (hbW4.block _ (Nat.lt_of_lt_of_le HX5.out.lt HB04.out.size)).trans ((HB04.out.block _ HX5.out.lt).trans HX5.out)
    obtain ⟨ao, cap, hv⟩ : ∃ ao cap, v = .slice ao K' cap := by
      rcases hov.2 with ⟨h1, h2⟩ | ⟨g, cap, _, h1, _⟩
      · exact ⟨none, 0, by rw [h1, h2]⟩
      · exact ⟨some ⟨g, 0, none⟩, cap, h1⟩
    subst hv
    have c9 := hxv.cell
    have z4 := y4.cell
    have zf4 := y4.frozen
    have z5 := y5.cell
    have zf5 := y5.frozen
    have HXV := hidden hxv
    have HOV := hidden hov
    have HY4 := hidden y4
    have HY5 := hidden y5
    have HBWW := hidden (below_after HBW4.out hbW4)
    have HKK := hidden hK'
    have HK := hidden hK
    clear hxv hov y4 y5 hbW hbW4 hK' hK
    go_wp2_with fail
    have f1 : ∀ x, (W'.setCell ⟨w.heap.size + 1, 0, none⟩ x).cell? ⟨w3.heap.size + 1 + 1, 0, none⟩ = some (.slice ao K' cap) := fun x => cell_far c9 (by show w3.heap.size + 1 + 1 ≠ w.heap.size + 1; omega)
    have f2 : ∀ x, (W'.setCell ⟨w.heap.size + 1, 0, none⟩ x).cell? ⟨w.heap.size, 0, none⟩ = some (.int .i64 (n : Nat)) := fun x => cell_far q0 (by show w.heap.size ≠ w.heap.size + 1; omega)
    have g1 : ∀ x y, ((W'.setCell ⟨w.heap.size + 1, 0, none⟩ x).setCell ⟨w.heap.size + 1 + 1, 0, none⟩ y).cell? ⟨w3.heap.size + 1 + 1, 0, none⟩ = some (.slice ao K' cap) := fun x y => cell_far (f1 x) (by show w3.heap.size + 1 + 1 ≠ w.heap.size + 1 + 1; omega)
    have g2 : ∀ x y, ((W'.setCell ⟨w.heap.size + 1, 0, none⟩ x).setCell ⟨w.heap.size + 1 + 1, 0, none⟩ y).cell? ⟨w.heap.size, 0, none⟩ = some (.int .i64 (n : Nat)) := fun x y => cell_far (f2 x) (by show w.heap.size ≠ w.heap.size + 1 + 1; omega)
    have z5' : ∀ x, (W'.setCell ⟨w.heap.size + 1, 0, none⟩ x).cell? ⟨w.heap.size + 1 + 1, 0, none⟩ = some (.bool false) := fun x => cell_far z5 (by show w.heap.size + 1 + 1 ≠ w.heap.size + 1; omega)
    refine wp_region_noPanic ?_
    go_region_held (fun w' => w'.cell? ⟨w3.heap.size + 1 + 1, 0, none⟩ = some (.slice ao K' cap) ∧ w'.cell? ⟨w.heap.size, 0, none⟩ = some (.int .i64 (n : Nat))) (first | (exact ⟨c9, q0⟩) | (exact ⟨f1 _, f2 _⟩) | (exact ⟨g1 _ _, g2 _ _⟩)) (fail)
    refine NoPanic.normal ?_
    go_wp2_with fail
    have hn4 := HY4.out.not_row (e := 3) (by decide) HOV.out
    have hn5 := HY5.out.not_row (e := 3) (by decide) HOV.out
    have o1 : (W'.setCell ⟨w.heap.size + 1, 0, none⟩ (.slice ao K' cap)).ownsRow n0 3 1 (.slice ao K' cap) K' (Fn.nvals (Fn.decI Z W (Fn.plc Y H K'))) := ownsRow_setCell_other HOV.out (Ne.symm hn4) _
    have b4 : Boxed (W'.setCell ⟨w.heap.size + 1, 0, none⟩ (.slice ao K' cap)) (w.heap.size + 1) 57 (.slice ao K' cap) := HY4.out.set _
    have b5 : Boxed (W'.setCell ⟨w.heap.size + 1, 0, none⟩ (.slice ao K' cap)) (w.heap.size + 1 + 1) 4 (.bool false) := HY5.out.kept (grownBy_setCell' W' _ _) (by simp)
    have hK1 := (KeepsOthers.setCell W' ⟨w.heap.size + 1, 0, none⟩ (.slice ao K' cap)).same D _ HK.out rfl
    have hB1 := HBWW.out.setCell (p := ⟨w.heap.size + 1, 0, none⟩) (by simp) (.slice ao K' cap)
    generalize hW1 : W'.setCell ⟨w.heap.size + 1, 0, none⟩ (.slice ao K' cap) = W1 at *
    have o2 : (W1.setCell ⟨w.heap.size + 1 + 1, 0, none⟩ (.bool ((K' : Int) == (n : Int)))).drew.ownsRow n0 3 1 (.slice ao K' cap) K' (Fn.nvals (Fn.decI Z W (Fn.plc Y H K'))) := ownsRow_setCell_other o1 (Ne.symm hn5) _
    have d4 : Boxed (W1.setCell ⟨w.heap.size + 1 + 1, 0, none⟩ (.bool ((K' : Int) == (n : Int)))).drew (w.heap.size + 1) 57 (.slice ao K' cap) := by
      have e : Boxed (W1.setCell ⟨w.heap.size + 1 + 1, 0, none⟩ (.bool ((K' : Int) == (n : Int)))) (w.heap.size + 1) 57 (.slice ao K' cap) := b4.kept (grownBy_setCell' W1 _ _) (by simp)
      exact e
    have d5 : Boxed (W1.setCell ⟨w.heap.size + 1 + 1, 0, none⟩ (.bool ((K' : Int) == (n : Int)))).drew (w.heap.size + 1 + 1) 4 (.bool ((K' : Int) == (n : Int))) := b5.set _
    have hK2 : (W1.setCell ⟨w.heap.size + 1 + 1, 0, none⟩ (.bool ((K' : Int) == (n : Int)))).drew.heap[D]? = some (.deferred (some [])) := (KeepsOthers.setCell W1 ⟨w.heap.size + 1 + 1, 0, none⟩ (.bool ((K' : Int) == (n : Int)))).same D _ hK1 rfl
    have hB2 := (hB1.setCell (p := ⟨w.heap.size + 1 + 1, 0, none⟩) (by simp; omega) (.bool ((K' : Int) == (n : Int)))).drew
    generalize hW2 : (W1.setCell ⟨w.heap.size + 1 + 1, 0, none⟩ (.bool ((K' : Int) == (n : Int)))).drew = W2 at *
    refine ⟨by simp, .inl ⟨_, _, rfl, run_takeDeferred hK2, ?_⟩⟩
    have hc4 := cell_kept d4.cell (grownBy_putObj' _ D (.deferred none)) (fun r e => by cases e; exact ⟨_, hK2, rfl⟩)
    have hc5 := cell_kept d5.cell (grownBy_putObj' _ D (.deferred none)) (fun r e => by cases e; exact ⟨_, hK2, rfl⟩)
    have o3 := ownsRow_putObj o2 (.deferred none) hK2 rfl
    refine ⟨.tuple #[.slice ao K' cap, .bool ((K' : Int) == (n : Int))], ?_, hB2.trans (belowK_b (w := w) (Nat.le_refl _) W2 D _ _ (by have := HBW6.out.size; omega) hK2 rfl rfl), .slice ao K' cap, _, rfl, ?_⟩
    · simp [results, Tryz.f102, go_sem, hc4, hc5]
    · by_cases hkn : K' = n
      · left
        refine ⟨by simp [hkn], by rw [← HKK.out]; exact hkn, ?_⟩
        rw [← hkn]
        exact own_base o3 (Nat.zero_le n0)
      · right
        exact ⟨by simp; omega, by rw [← HKK.out]; exact hkn⟩
  case stop =>
    rintro D c pre W' hD ⟨k, hk, rfl⟩ ⟨⟨rfl, hlt, h4, h5⟩, hB⟩ hK
    rw [Fn.plc_length] at hlt
    have HB := hidden hB
    have H4 := hidden h4.cell
    have H5 := hidden h5.cell
    have HK := hidden hK
    clear h4 h5 hB hK
    gi_wp2
    refine ⟨by simp, .inl ⟨_, _, rfl, run_takeDeferred HK.out, ?_⟩⟩
    have hc4 := cell_kept H4.out (grownBy_putObj' _ D (.deferred none)) (fun r e => by cases e; exact ⟨_, HK.out, rfl⟩)
    have hc5 := cell_kept H5.out (grownBy_putObj' _ D (.deferred none)) (fun r e => by cases e; exact ⟨_, HK.out, rfl⟩)
    refine ⟨.tuple #[.slice none 0 0, .bool false], ?_, HB.out.trans (belowK_b (w := w) (Nat.le_refl _) W' D _ _ (by have := HBW6.out.size; omega) HK.out rfl rfl), _, false, rfl, .inr ⟨rfl, by omega⟩⟩
    simp [results, Tryz.f102, go_sem, hc4, hc5]
end Go.Proofs.YtoipliflphbeiaaGreatDoor
namespace Go.Proofs.YtoipliflphbeiaaGreatDoor
open Go.RowKit
namespace Fn
open Wd Bt
theorem bt_mod_lt (x m i : Nat) (h : i < m) : bt (x % 2 ^ m) i = bt x i := by rw [bt_mod, if_pos h]
theorem cut_mid (A B C : List Bool) : cut (num (A ++ B ++ C)) A.length B.length = num B := by
  unfold cut
  rw [List.append_assoc, num_append, num_append]
  have h1 := num_lt A
  have h2 := num_lt B
  have hA := Nat.two_pow_pos A.length
  rw [Nat.add_mul_div_right _ _ hA, Nat.div_eq_of_lt h1, Nat.zero_add, Nat.add_mul_mod_self_right, Nat.mod_eq_of_lt h2]
theorem bitsTo_add (X a b : Nat) : bitsTo X (a + b) = bitsTo X a ++ bitsTo (X / 2 ^ a) b := by
  apply List.ext_getElem?
  intro i
  by_cases h1 : i < a
  · rw [List.getElem?_append_left (by rw [bitsTo_length]; exact h1), bitsTo_get _ _ _ (by omega), bitsTo_get _ _ _ h1]
  · rw [List.getElem?_append_right (by rw [bitsTo_length]; omega), bitsTo_length]
    by_cases h2 : i < a + b
    · rw [bitsTo_get _ _ _ h2, bitsTo_get _ _ _ (by omega), Nat.testBit_div_two_pow, show i - a + a = i from by omega]
    · rw [List.getElem?_eq_none (by rw [bitsTo_length]; omega), List.getElem?_eq_none (by rw [bitsTo_length]; omega)]
/-- A row's bits, in four parts. -/
theorem bitsTo_four (X P H : Nat) : bitsTo X (65 + P + H) = ((bitsTo (fd X 0 24) 24 ++ bitsTo (fd X 24 41) 41) ++ bitsTo (cut X 65 P) P) ++ bitsTo (cut X (65 + P) H) H := by
  rw [bitsTo_add X (65 + P) H, bitsTo_add X 65 P, show (65 : Nat) = 24 + 41 from rfl, bitsTo_add X 24 41]
  unfold fd cut
  rw [bitsTo_mod, bitsTo_mod, bitsTo_mod, bitsTo_mod, Nat.pow_zero, Nat.div_one]
theorem jn_nat {Z W x i : Nat} (hi : i ≤ x) (hb : (x - i) * 2 ^ W + 2 ^ W ≤ 4611686018427387904) : jnAt Z W x i = (((x - i) * 2 ^ W + fd Z (i * W) W : Nat) : Int) := by
  have hf := fd_lt Z (i * W) W
  have hp := Nat.two_pow_pos W
  have hx : x - i ≤ (x - i) * 2 ^ W := Nat.le_mul_of_pos_right _ hp
  unfold jnAt jn
  have e1 : IntKind.i64.wrap ((x : Int) - (i : Int)) = ((x - i : Nat) : Int) := by rw [IntKind.wrap_i64]; omega
  have e2 : ((x - i : Nat) : Int) * 2 ^ W = (((x - i) * 2 ^ W : Nat) : Int) := by push_cast; rfl
  have e3 : IntKind.i64.wrap (((x - i) * 2 ^ W : Nat) : Int) = (((x - i) * 2 ^ W : Nat) : Int) := by rw [IntKind.wrap_i64]; omega
  rw [e1, e2, e3, bits_or_i64_nat _ _ (by omega) (by omega), or_join _ _ _ hf]
theorem ones_le_place {Y H i p : Nat} (h : Ck.At Y H i p) : i ≤ p := by
  have := h.cnt
  have := ones_le Y p
  omega
/-- The high parts are small. -/
theorem high_small {n u x : Nat} (hn0 : 0 < n) (hn : n < 16777216) (hu : u < 2199023255552) (hx : x < highs n u) : x * 2 ^ wdt n u + 2 ^ wdt n u ≤ 4611686018427387904 := by
  have ht := top_lt hn0 (show u < 2 ^ 64 by omega)
  have h1 : (x + 1) * 2 ^ wdt n u ≤ (3 * n) * 2 ^ wdt n u := Nat.mul_le_mul_right _ (by unfold highs at hx; omega)
  rw [Nat.add_mul, Nat.one_mul] at h1
  by_cases h : n = 0 ∨ u < 2 * n
  · rw [wdt_none h] at *
    omega
  · obtain ⟨h2, _, _⟩ := wdt_spec h (show u < 2 ^ 64 by omega)
    have h3 : 3 * n * 2 ^ wdt n u = 3 * (2 ^ wdt n u * n) := by rw [Nat.mul_assoc, Nat.mul_comm n]
    omega
/-- A sequence's numbers come again. -/
theorem Ok.dec {l : List Nat} {u : Nat} (h : Ok l u) : decI (num (lowB l u)) (wdt l.length u) (plc (num (highB l u)) (highs l.length u) l.length) = ints l := by
  unfold decI ints
  rw [plc_length]
  apply List.ext_getElem?
  intro i
  rw [List.getElem?_map, List.getElem?_map]
  by_cases hi : i < l.length
  · rw [List.getElem?_range hi, getD_some hi]
    simp only [Option.map_some]
    congr 1
    have hA := h.one_at hi
    have hp : (plc (num (highB l u)) (highs l.length u) l.length).getD i 0 = pc l (wdt l.length u) i := by
      unfold plc
      rw [List.getD_eq_getElem?_getD, List.getElem?_map, List.getElem?_range hi]
      simp only [Option.map_some, Option.getD_some]
      exact Ck.pl_eq hA
    have hle := ones_le_place hA
    have hlt := hA.lt
    have e : pc l (wdt l.length u) i - i = l.getD i 0 / 2 ^ wdt l.length u := Nat.add_sub_cancel_left _ _
    rw [hp, jn_nat hle (high_small (by omega) h.len (by have := h.le; omega) (by omega)), e, low_fd hi, join_eq]
  · rw [List.getElem?_eq_none (by simp; omega), List.getElem?_eq_none (by omega)]
    rfl
/-- Bits that make a sequence's numbers are its own. -/
theorem Ok.enc {l : List Nat} {u Y Z : Nat} (h : Ok l u) (hY : Y < 2 ^ highs l.length u) (hZ : Z < 2 ^ lows l.length u) (hK : ones Y (highs l.length u) = l.length) (hd : decI Z (wdt l.length u) (plc Y (highs l.length u) l.length) = ints l) : num (highB l u) = Y ∧ num (lowB l u) = Z := by
  have hat : ∀ i, i < l.length → Ck.At Y (highs l.length u) i (Ck.pl Y i (highs l.length u)) := fun i hi => Ck.pl_at (by omega)
  have hv : ∀ i, i < l.length → l.getD i 0 = (Ck.pl Y i (highs l.length u) - i) * 2 ^ wdt l.length u + fd Z (i * wdt l.length u) (wdt l.length u) := by
    intro i hi
    have hA := hat i hi
    have hle := ones_le_place hA
    have hlt := hA.lt
    have e : (decI Z (wdt l.length u) (plc Y (highs l.length u) l.length))[i]? = (ints l)[i]? := by rw [hd]
    unfold decI ints at e
    rw [plc_length, List.getElem?_map, List.getElem?_map, List.getElem?_range hi, getD_some hi] at e
    simp only [Option.map_some, Option.some.injEq] at e
    have hp : (plc Y (highs l.length u) l.length).getD i 0 = Ck.pl Y i (highs l.length u) := by
      unfold plc
      rw [List.getD_eq_getElem?_getD, List.getElem?_map, List.getElem?_range hi]
      rfl
    rw [hp, jn_nat hle (high_small (by omega) h.len (by have := h.le; omega) (by omega))] at e
    omega
  have hpc : ∀ i, i < l.length → pc l (wdt l.length u) i = Ck.pl Y i (highs l.length u) := by
    intro i hi
    have hle := ones_le_place (hat i hi)
    unfold pc
    rw [hv i hi, Nat.add_comm ((Ck.pl Y i (highs l.length u) - i) * 2 ^ wdt l.length u), Nat.add_mul_div_right _ _ (Nat.two_pow_pos _), Nat.div_eq_of_lt (fd_lt _ _ _)]
    omega
  constructor
  · apply eq_of_bt
    intro p
    have h1 := h.high_bt p
    have h2 : bt Y p = 1 ↔ ∃ i, i < l.length ∧ p = pc l (wdt l.length u) i := by
      constructor
      · intro hb
        have hp : p < highs l.length u := by
          rcases Nat.lt_or_ge p (highs l.length u) with hl | hl
          · exact hl
          · rw [bt_big Y _ p hY hl] at hb
            cases hb
        have hlt := ones_lt Y p _ hb hp
        refine ⟨ones Y p, by omega, ?_⟩
        rw [hpc _ (by omega)]
        exact (Ck.pl_eq ⟨hp, hb, rfl⟩).symm
      · rintro ⟨i, hi, rfl⟩
        rw [hpc i hi]
        exact (hat i hi).one
    have h3 := bt_lt Y p
    have h4 := bt_lt (num (highB l u)) p
    by_cases hb : bt Y p = 1
    · rw [hb, h1.2 (h2.1 hb)]
    · have : ¬ bt (num (highB l u)) p = 1 := fun e => hb (h2.2 (h1.1 e))
      omega
  · apply eq_of_bt
    intro q
    have hn := num_lt (lowB l u)
    rw [lowB_length] at hn
    rcases Nat.lt_or_ge q (lows l.length u) with hl | hl
    · have hW : 0 < wdt l.length u := by
        rcases Nat.eq_zero_or_pos (wdt l.length u) with e | e
        · unfold lows at hl
          rw [e] at hl
          omega
        · exact e
      have hi : q / wdt l.length u < l.length := by
        rw [Nat.div_lt_iff_lt_mul hW]
        exact hl
      have e1 := loTo_bt l (wdt l.length u) l.length (q / wdt l.length u) (q % wdt l.length u) hi (Nat.mod_lt _ hW)
      have eq : q / wdt l.length u * wdt l.length u + q % wdt l.length u = q := by rw [Nat.mul_comm]; exact Nat.div_add_mod _ _
      rw [eq] at e1
      show bt (num (loTo l (wdt l.length u) l.length)) q = _
      rw [e1, hv _ hi, ← bt_mod_lt _ (wdt l.length u) _ (Nat.mod_lt _ hW), Nat.mul_comm (Ck.pl Y _ _ - _), Nat.mul_add_mod, bt_mod_lt _ _ _ (Nat.mod_lt _ hW)]
      unfold fd
      rw [bt_mod, if_pos (Nat.mod_lt _ hW), bt_div, eq]
    · rw [bt_big _ _ q hn hl, bt_big _ _ q hZ hl]
end Fn
end Go.Proofs.YtoipliflphbeiaaGreatDoor
namespace Go.Proofs.YtoipliflphbeiaaGreatDoor
open Go.RowKit
theorem Ints.of_nown {w : World} {B : Nat} {v : Value} {n : Nat} {li : List Int} (h : w.ownsRow B 3 1 v n (Fn.nvals li)) (hn : n = li.length) : Ints w v li := by
  subst hn
  rcases h.2 with ⟨hv, h0⟩ | ⟨g, cap, cur, hv, _, hg, hnc, _⟩
  · exact ⟨none, 0, by rw [hv, h0], by omega, fun hp => by omega⟩
  · refine ⟨some ⟨g, 0, none⟩, cap, hv, hnc, fun _ => ⟨g, 0, rfl, lt_of_block hg, fun i hi => ?_⟩⟩
    subst hv
    rw [Nat.zero_add, h.cellAt i (by omega)]
    unfold Fn.nvals
    rw [List.getElem?_map, List.getD_eq_getElem?_getD, List.getElem?_eq_getElem hi]
    rfl
/-- What a row's beginning tells: how many numbers, the bound. -/
def Fn.cnt (X m : Nat) : Nat := (Bt.fieldOf X m 0 24).1
def Fn.bnd (X m : Nat) : Nat := (Bt.fieldOf X m 24 41).1
theorem Fn.cnt_lt (X m : Nat) : Fn.cnt X m < 16777216 := by
  unfold Fn.cnt Bt.fieldOf
  rw [if_neg (by omega)]
  split
  · decide
  · exact Bt.fd_lt X 0 24
theorem Fn.bnd_lt (X m : Nat) : Fn.bnd X m < 2199023255552 := by
  unfold Fn.bnd Bt.fieldOf
  rw [if_neg (by omega)]
  split
  · decide
  · exact Bt.fd_lt X 24 41
theorem Fn.cnt_eq {X m : Nat} (h : 65 ≤ m) : Fn.cnt X m = Bt.fd X 0 24 := by
  unfold Fn.cnt Bt.fieldOf
  rw [if_neg (by omega), if_neg (by omega)]
  rfl
theorem Fn.bnd_eq {X m : Nat} (h : 65 ≤ m) : Fn.bnd X m = Bt.fd X 24 41 := by
  unfold Fn.bnd Bt.fieldOf
  rw [if_neg (by omega), if_neg (by omega)]
  rfl
/-- How many bits a row has that begins so. -/
def Fn.want (X m : Nat) : Int := 65 + ((Fn.lows (Fn.cnt X m) (Fn.bnd X m) : Nat) : Int) + Fn.highsI (Fn.cnt X m) (Fn.bnd X m)
set_option maxHeartbeats 1000000 in
set_option maxRecDepth 100000 in
theorem shapeIn_any (r m X : Nat) (ru : Value) (w : World) (h : Rw w r m X ru) :
    Calls Tryz.prog 101 #[.pointer (some ⟨r, 0, none⟩)] w fun e w' => e = .returned (.tuple #[Fn.sh (Fn.cnt X m) (Fn.bnd X m), .bool ((m : Int) == Fn.want X m)]) ∧ Below w.heap.size w w' := by
  have HF0 := hidden (fun w' (hb : Below w.heap.size w w') => RField_any r m X 0 24 ru w' (h.below hb (Nat.le_refl _)))
  have HF1 := hidden (fun w' (hb : Below w.heap.size w w') => RField_any r m X 24 41 ru w' (h.below hb (Nat.le_refl _)))
  have HRL := hidden (fun w' (hb : Below w.heap.size w w') => RLen_any r m X ru w' (h.below hb (Nat.le_refl _)))
  have hc := Fn.cnt_lt X m
  have hb := Fn.bnd_lt X m
  have HSO := hidden (fun w => shapeOf_any (Fn.cnt X m) (Fn.bnd X m) w hc hb)
  have HAL := hidden (fun w => all_any (Fn.cnt X m) (Fn.bnd X m) w hc hb)
  have ha0 : (Bt.fieldOf X m 0 24).1 = Fn.cnt X m := rfl
  have ha1 : (Bt.fieldOf X m 24 41).1 = Fn.bnd X m := rfl
  have hwt : Fn.want X m = 65 + ((Fn.lows (Fn.cnt X m) (Fn.bnd X m) : Nat) : Int) + Fn.highsI (Fn.cnt X m) (Fn.bnd X m) := rfl
  rw [ha0] at HF0
  rw [ha1] at HF1
  rw [← hwt] at HAL
  unfold Fn.sh at *
  generalize Fn.want X m = T at *
  generalize (Bt.fieldOf X m 0 24).2 = e0 at *
  generalize (Bt.fieldOf X m 24 41).2 = e1 at *
  generalize Fn.wdt (Fn.cnt X m) (Fn.bnd X m) = W at *
  generalize Fn.cnt X m = n at *
  generalize Fn.bnd X m = u at *
  have hn3 : IntKind.i64.wrap (n : Int) = (n : Int) := by rw [IntKind.wrap_i64]; omega
  have hu3 : IntKind.i64.wrap (u : Int) = (u : Int) := by rw [IntKind.wrap_i64]; omega
  clear h ha0 ha1 hwt
  go_enter Tryz.func101, Tryz.ntmps101
  go_wp2_with fail
  obtain ⟨w0, hw0⟩ : ∃ w0, w0 = w.alloc (.cells #[.int .i64 0, .int .i64 0, .int .i64 0] 106) := ⟨_, rfl⟩
  rw [← hw0]
  have hb0 : Below w.heap.size w w0 := by rw [hw0]; exact (Below.refl _ _).alloc (Nat.le_refl _) _
  have hr0 : w0.heap[w.heap.size]? = some (.cells #[.int .i64 0, .int .i64 0, .int .i64 0] 106 (0, 0)) := by rw [hw0]; exact heap_alloc_new _ _
  have HB0 := hidden hb0
  have HR0 := hidden hr0
  clear hw0 hb0 hr0
  refine (HF0.out w0 HB0.out).mono ?_
  rintro e' w0' ⟨rfl, rfl⟩
  go_wp2_with fail
  refine (HF1.out w0' HB0.out).mono ?_
  rintro e' w0'' ⟨rfl, rfl⟩
  go_wp2_with fail
  refine (HSO.out w0'').mono ?_
  rintro e' w1 ⟨rfl, hb1⟩
  have hr1 : w1.heap[w.heap.size]? = some (.cells #[.int .i64 0, .int .i64 0, .int .i64 0] 106 (0, 0)) := (hb1.block _ (lt_of_block HR0.out)).trans HR0.out
  have HR1 := hidden hr1
  have HB1 := hidden (below_after HB0.out hb1)
  have hlt1 := lt_of_block hr1
  clear hb1 hr1
  go_wp2_with fail
  obtain ⟨w2, hw2⟩ : ∃ w2, w2 = w1.alloc (.cells #[.int .i64 (n : Nat), .int .i64 (u : Nat), .int .i64 (W : Nat)] 106) := ⟨_, rfl⟩
  rw [← hw2]
  have hb2 : Below w1.heap.size w1 w2 := by rw [hw2]; exact (Below.refl _ _).alloc (Nat.le_refl _) _
  have hr2 : w2.heap[w.heap.size]? = some (.cells #[.int .i64 0, .int .i64 0, .int .i64 0] 106 (0, 0)) := (hb2.block _ hlt1).trans HR1.out
  have hr8 : w2.heap[w1.heap.size]? = some (.cells #[.int .i64 (n : Nat), .int .i64 (u : Nat), .int .i64 (W : Nat)] 106 (0, 0)) := by rw [hw2]; exact heap_alloc_new _ _
  have HB2 := hidden (below_after HB1.out hb2)
  have HR2 := hidden hr2
  have HR8 := hidden hr8
  have c0 := Lib.cell_of_heap hr8 0
  have c1 := Lib.cell_of_heap hr8 1
  have c2 := Lib.cell_of_heap hr8 2
  simp only [List.getElem?_toArray, List.getElem?_cons_zero, List.getElem?_cons_succ] at c0 c1 c2
  obtain ⟨b8, hb8⟩ : ∃ b8, b8 = w1.heap.size := ⟨_, rfl⟩
  rw [← hb8] at c0 c1 c2 HR8 hlt1 ⊢
  have hne8 : ¬ b8 = w.heap.size := by omega
  have hne8' : ¬ w.heap.size = b8 := by omega
  clear hw2 hb2 hr2 hr8 hb8
  have HRL2 := hidden (HRL.out w2.drew HB2.out.drew)
  go_region_held (fun w' => w'.cell? ⟨b8, 0, none⟩ = some (.int .i64 (n : Nat)) ∧ w'.cell? ⟨b8, 1, none⟩ = some (.int .i64 (u : Nat)) ∧ w'.cell? ⟨b8, 2, none⟩ = some (.int .i64 (W : Nat))) (first | (exact ⟨by assumption, by assumption, by assumption⟩) | go_keep)
    (first
      | (go_at_call 83; refine (HRL2.out).mono ?_; rintro e' w3 ⟨rfl, rfl⟩)
      | (go_at_call 72; refine (HAL.out _).mono ?_; rintro e' w3 ⟨rfl, hb3⟩; have g0 : w3.cell? ⟨b8, 0, none⟩ = some (.int .i64 (n : Nat)) := cell_after hb3 c0; have g1 : w3.cell? ⟨b8, 1, none⟩ = some (.int .i64 (u : Nat)) := cell_after hb3 c1; have g2 : w3.cell? ⟨b8, 2, none⟩ = some (.int .i64 (W : Nat)) := cell_after hb3 c2; have hr3 : w3.heap[w.heap.size]? = some (.cells #[.int .i64 0, .int .i64 0, .int .i64 0] 106 (0, 0)) := (hb3.block _ (lt_of_block HR2.out)).trans HR2.out; have HB3 := hidden (below_after HB2.out.drew hb3); have HR3 := hidden hr3; have k0 := Lib.cell_of_heap hr3 0; have k1 := Lib.cell_of_heap hr3 1; have k2 := Lib.cell_of_heap hr3 2; have l0 := Lib.frozen_of_heap hr3 0; have l1 := Lib.frozen_of_heap hr3 1; have l2 := Lib.frozen_of_heap hr3 2; simp only [List.getElem?_toArray, List.getElem?_cons_zero, List.getElem?_cons_succ] at k0 k1 k2; clear hb3 hr3))
  go_wp2_with fail
  refine bodyPost_ret (results_cell_row_tmp rfl _ _ w.heap.size 106 #[.int .i64 (n : Nat), .int .i64 (u : Nat), .int .i64 (W : Nat)] (0, 0) _ rfl ?_ Tryz.underlying106 rfl Tryz.sizeShape) rfl ?_
  · exact setCell_heap_same _ _ 2 _ _ _ _ (setCell_heap_same _ _ 1 _ _ _ _ (setCell_heap_same _ _ 0 _ _ _ _ HR3.out))
  · exact ⟨rfl, ((HB3.out.setCell (Nat.le_refl _) _).setCell (Nat.le_refl _) _).setCell (Nat.le_refl _) _⟩
/-- What Of reads of a row of m bits, X. -/
structure Fn.Reads (X m : Nat) (l : List Nat) (u : Nat) : Prop where
  ok : Fn.Ok l u
  cnt : Fn.cnt X m = l.length
  bnd : Fn.bnd X m = u
  len : m = 65 + Fn.lows l.length u + Fn.highs l.length u
  ones : Wd.ones (Bt.cut X (65 + Fn.lows l.length u) (Fn.highs l.length u)) (Fn.highs l.length u) = l.length
  dec : Fn.decI (Bt.cut X 65 (Fn.lows l.length u)) (Fn.wdt l.length u) (Fn.plc (Bt.cut X (65 + Fn.lows l.length u) (Fn.highs l.length u)) (Fn.highs l.length u) l.length) = Fn.ints l
theorem Fn.Reads.of {l : List Nat} {u : Nat} (h : Fn.Ok l u) : Fn.Reads (Bt.num (Fn.allB l u)) (Fn.allB l u).length l u := by
  have hlen := h.all_length
  have h65 : 65 ≤ (Fn.allB l u).length := by omega
  have hn := h.len
  have hu := h.le
  have e0 : Bt.fd (Bt.num (Fn.allB l u)) 0 24 = l.length := by
    have := Fn.cut_mid [] (Bt.bitsTo l.length 24) (Bt.bitsTo u 41 ++ Fn.lowB l u ++ Fn.highB l u)
    rw [Bt.num_bitsTo_of _ _ (by omega), Bt.bitsTo_length] at this
    unfold Fn.allB
    simpa [Bt.cut, Bt.fd, List.append_assoc] using this
  have e1 : Bt.fd (Bt.num (Fn.allB l u)) 24 41 = u := by
    have := Fn.cut_mid (Bt.bitsTo l.length 24) (Bt.bitsTo u 41) (Fn.lowB l u ++ Fn.highB l u)
    rw [Bt.num_bitsTo_of _ _ (by omega), Bt.bitsTo_length, Bt.bitsTo_length] at this
    unfold Fn.allB
    simpa [Bt.cut, Bt.fd, List.append_assoc] using this
  have e2 : Bt.cut (Bt.num (Fn.allB l u)) 65 (Fn.lows l.length u) = Bt.num (Fn.lowB l u) := by
    have := Fn.cut_mid (Bt.bitsTo l.length 24 ++ Bt.bitsTo u 41) (Fn.lowB l u) (Fn.highB l u)
    rw [List.length_append, Bt.bitsTo_length, Bt.bitsTo_length, Fn.lowB_length] at this
    exact this
  have e3 : Bt.cut (Bt.num (Fn.allB l u)) (65 + Fn.lows l.length u) (Fn.highs l.length u) = Bt.num (Fn.highB l u) := by
    have := Fn.cut_mid ((Bt.bitsTo l.length 24 ++ Bt.bitsTo u 41) ++ Fn.lowB l u) (Fn.highB l u) []
    rw [List.append_nil, List.length_append, List.length_append, Bt.bitsTo_length, Bt.bitsTo_length, Fn.lowB_length, h.high_length] at this
    exact this
  refine ⟨h, by rw [Fn.cnt_eq h65, e0], by rw [Fn.bnd_eq h65, e1], hlen, by rw [e3]; exact h.ones_all, by rw [e2, e3]; exact h.dec⟩
theorem Fn.Reads.own {X m : Nat} {l : List Nat} {u : Nat} (h : Fn.Reads X m l u) (hX : X < 2 ^ m) : (Fn.allB l u).length = m ∧ Bt.num (Fn.allB l u) = X := by
  have h65 : 65 ≤ m := by have := h.len; omega
  obtain ⟨e1, e2⟩ := h.ok.enc (Bt.cut_lt _ _ _) (Bt.cut_lt _ _ _) h.ones h.dec
  have hb := Fn.bitsTo_four X (Fn.lows l.length u) (Fn.highs l.length u)
  rw [← h.len, ← Fn.cnt_eq h65, ← Fn.bnd_eq h65, h.cnt, h.bnd, ← e1, ← e2] at hb
  have e3 := Bt.bitsTo_num (Fn.lowB l u)
  have e4 := Bt.bitsTo_num (Fn.highB l u)
  rw [Fn.lowB_length] at e3
  rw [h.ok.high_length] at e4
  rw [e3, e4] at hb
  have e5 : Fn.allB l u = Bt.bitsTo X m := hb.symm
  refine ⟨by rw [e5, Bt.bitsTo_length], by rw [e5, Bt.num_bitsTo, Nat.mod_eq_of_lt hX]⟩
end Go.Proofs.YtoipliflphbeiaaGreatDoor
namespace Go.Proofs.YtoipliflphbeiaaGreatDoor
open Go.RowKit
set_option maxHeartbeats 1000000 in
theorem FOf_none (s : ByteArray) (w : World) (hs : s.size ≤ 9223372036854775807) (h : Bt.ofB s.data.toList = none) :
    Calls Tryz.prog 62 #[.string s] w fun e w' => e = .returned (.tuple #[.pointer none, .int .i64 3]) ∧ Below w.heap.size w w' := by
  have HO := hidden (Of_none s w hs h)
  clear h
  go_enter Tryz.func62, Tryz.ntmps62
  go_wp2_with fail
  refine (HO.out).mono ?_
  rintro e' w1 ⟨rfl, hb1⟩
  have HB1 := hidden hb1
  clear hb1
  go_wp2_with fail
  go_ret2
  exact ⟨rfl, HB1.out⟩
set_option maxHeartbeats 2000000 in
theorem FOf_yes (s : ByteArray) (X m : Nat) (l : List Nat) (u : Nat) (w : World) (hs : s.size ≤ 9223372036854775807) (h : Bt.ofB s.data.toList = some (m, X)) (hr : Fn.Reads X m l u) (hT : Tab w) :
    Calls Tryz.prog 62 #[.string s] w fun e w' => ∃ p q, e = .returned (.tuple #[.pointer (some ⟨p, 0, none⟩), .int .i64 0]) ∧ Sq w' p l u q ∧ Below w.heap.size w w' := by
  have HO := hidden (Of_some s m X w hs h)
  have HRD := hidden hr
  have HT := hidden hT
  have hn := hr.ok.len
  have hu := hr.ok.le
  have hu1 := hr.ok.pos
  have HSI := hidden (fun r ru w' (h : Rw w' r m X ru) => shapeIn_any r m X ru w' h)
  have hwant : Fn.want X m = (m : Int) := by
    unfold Fn.want
    rw [hr.cnt, hr.bnd, Fn.highsI_eq hu1]
    have := hr.len
    omega
  rw [hwant, hr.cnt, hr.bnd, show ((m : Int) == (m : Int)) = true from by simp] at HSI
  have HNU := hidden (fun r ru w' (h : Rw w' r m X ru) (hT' : Tab w') => numbers_any r m X l.length u (Fn.highs l.length u) ru w' h hT' hn (by omega) hr.len)
  unfold Fn.sh at HSI HNU
  obtain ⟨N, hN⟩ : ∃ N, N = l.length := ⟨_, rfl⟩
  rw [← hN] at HSI HNU
  obtain ⟨W, hW⟩ : ∃ W, W = Fn.wdt N u := ⟨_, rfl⟩
  rw [← hW] at HSI HNU
  have HN := hidden hN
  have HW := hidden hW
  clear h hr hT hwant hN hW
  go_enter Tryz.func62, Tryz.ntmps62
  go_wp2_with fail
  refine (HO.out).mono ?_
  rintro e' w1 ⟨r, ru, rfl, hrw, hb1, _, _⟩
  have HRW := hidden hrw
  have HB1 := hidden hb1
  clear hrw hb1
  go_wp2_with fail
  refine (HSI.out r ru w1 HRW.out).mono ?_
  rintro e' w2 ⟨rfl, hb2⟩
  have HRW2 := hidden (HRW.out.below hb2 (Nat.le_refl _))
  have HB2 := hidden (below_after HB1.out hb2)
  clear hb2
  go_wp2_with fail
  obtain ⟨w3, hw3⟩ : ∃ w3, w3 = w2.alloc (.cells #[.int .i64 (N : Nat), .int .i64 (u : Nat), .int .i64 (W : Nat)] 106) := ⟨_, rfl⟩
  rw [← hw3]
  have hb3 : Below w2.heap.size w2 w3 := by rw [hw3]; exact (Below.refl _ _).alloc (Nat.le_refl _) _
  have c1 : w3.cell? ⟨w2.heap.size, 1, none⟩ = some (.int .i64 (u : Nat)) := by rw [hw3]; exact Lib.cell_of_heap (heap_alloc_new _ _) 1
  have HRW3 := hidden (HRW2.out.below hb3 (Nat.le_refl _))
  have HB3 := hidden (below_after HB2.out hb3)
  have HC1 := hidden c1
  clear hw3 hb3 c1
  refine (HNU.out r ru w3 HRW3.out (HT.out.below HB3.out (Nat.le_refl _))).mono ?_
  rintro e' w4 ⟨hb4, v, f, rfl, hf⟩
  have hones := HRD.out.ones
  have hdec := HRD.out.dec
  rw [← HN.out] at hones hdec
  rw [← HW.out] at hdec
  have hI : f = true ∧ Ints w4 v (Fn.ints l) := by
    rcases hf with ⟨hf1, _, hf3⟩ | ⟨_, hf2⟩
    · refine ⟨hf1, Ints.of_nown (B := 0) (n := N) ?_ (by rw [Fn.ints_length, ← HN.out])⟩
      rw [← hdec]
      exact hf3
    · exact absurd hones hf2
  obtain ⟨rfl, hI2⟩ := hI
  have HI := hidden hI2
  have HB4 := hidden (below_after HB3.out hb4)
  have c1 := cell_after hb4 HC1.out
  obtain ⟨ao, cap, hv, _, _⟩ := hI2.cells
  rw [Fn.ints_length, ← HN.out] at hv
  subst hv
  clear hb4 hf hones hdec hI2
  go_wp2_with fail
  refine (Make_ok l u _ w4 HI.out HRD.out.ok (HT.out.below HB4.out (Nat.le_refl _))).mono ?_
  rintro e' w5 ⟨p, q, rfl, hs5, hb5⟩
  have HS5 := hidden hs5
  have HB5 := hidden (below_after HB4.out hb5)
  clear hs5 hb5
  go_wp2_with fail
  go_ret2
  exact ⟨p, q, rfl, HS5.out, HB5.out⟩
set_option maxHeartbeats 2000000 in
theorem FOf_no (s : ByteArray) (X m : Nat) (w : World) (hs : s.size ≤ 9223372036854775807) (h : Bt.ofB s.data.toList = some (m, X)) (hr : ∀ l u, ¬ Fn.Reads X m l u) (hT : Tab w) :
    Calls Tryz.prog 62 #[.string s] w fun e w' => e = .returned (.tuple #[.pointer none, .int .i64 3]) ∧ Below w.heap.size w w' := by
  have HO := hidden (Of_some s m X w hs h)
  have HRD := hidden hr
  have HT := hidden hT
  have HSI := hidden (fun r ru w' (h : Rw w' r m X ru) => shapeIn_any r m X ru w' h)
  have hn := Fn.cnt_lt X m
  have hu := Fn.bnd_lt X m
  have hH := Fn.highsI_bounds hn hu
  have hwd : Fn.want X m = 65 + ((Fn.lows (Fn.cnt X m) (Fn.bnd X m) : Nat) : Int) + Fn.highsI (Fn.cnt X m) (Fn.bnd X m) := rfl
  have HNU := hidden (fun r ru w' (h : Rw w' r m X ru) (hT' : Tab w') (hm : m = 65 + Fn.lows (Fn.cnt X m) (Fn.bnd X m) + (Fn.highsI (Fn.cnt X m) (Fn.bnd X m)).toNat) => numbers_any r m X (Fn.cnt X m) (Fn.bnd X m) (Fn.highsI (Fn.cnt X m) (Fn.bnd X m)).toNat ru w' h hT' hn hu hm)
  have HWD := hidden hwd
  unfold Fn.sh at HSI HNU
  obtain ⟨N, hN⟩ : ∃ N, N = Fn.cnt X m := ⟨_, rfl⟩
  obtain ⟨u, hu'⟩ : ∃ u, u = Fn.bnd X m := ⟨_, rfl⟩
  rw [← hN, ← hu'] at HSI HNU HWD hH
  rw [← hN] at hn
  rw [← hu'] at hu
  obtain ⟨W, hW⟩ : ∃ W, W = Fn.wdt N u := ⟨_, rfl⟩
  rw [← hW] at HSI HNU
  obtain ⟨T, hTT⟩ : ∃ T, T = Fn.want X m := ⟨_, rfl⟩
  rw [← hTT] at HSI HWD
  have HN := hidden hN
  have HU := hidden hu'
  have HW := hidden hW
  clear h hr hT hwd hN hu' hW hTT
  go_enter Tryz.func62, Tryz.ntmps62
  go_wp2_with fail
  refine (HO.out).mono ?_
  rintro e' w1 ⟨r, ru, rfl, hrw, hb1, _, _⟩
  have HRW := hidden hrw
  have HB1 := hidden hb1
  have hml := hrw.len
  clear hrw hb1
  go_wp2_with fail
  refine (HSI.out r ru w1 HRW.out).mono ?_
  rintro e' w2 ⟨rfl, hb2⟩
  have HRW2 := hidden (HRW.out.below hb2 (Nat.le_refl _))
  have HB2 := hidden (below_after HB1.out hb2)
  clear hb2
  obtain ⟨w3, hw3⟩ : ∃ w3, w3 = w2.alloc (.cells #[.int .i64 (N : Nat), .int .i64 (u : Nat), .int .i64 (W : Nat)] 106) := ⟨_, rfl⟩
  have hb3 : Below w2.heap.size w2 w3 := by rw [hw3]; exact (Below.refl _ _).alloc (Nat.le_refl _) _
  have c1 : w3.cell? ⟨w2.heap.size, 1, none⟩ = some (.int .i64 (u : Nat)) := by rw [hw3]; exact Lib.cell_of_heap (heap_alloc_new _ _) 1
  have HRW3 := hidden (HRW2.out.below hb3 (Nat.le_refl _))
  have HB3 := hidden (below_after HB2.out hb3)
  have HC1 := hidden c1
  by_cases hmT : (m : Int) = T
  · have hd : ((m : Int) == T) = true := by simpa using hmT
    rw [hd]
    have hm2 : m = 65 + Fn.lows N u + (Fn.highsI N u).toNat := by have := HWD.out; omega
    have HM2 := hidden hm2
    clear hb3 c1 hm2 hmT hd
    go_wp2_with fail
    rw [← hw3]
    clear hw3
    refine (HNU.out r ru w3 HRW3.out (HT.out.below HB3.out (Nat.le_refl _)) HM2.out).mono ?_
    rintro e' w4 ⟨hb4, v, f, rfl, hf⟩
    have HB4 := hidden (below_after HB3.out hb4)
    have c1 := cell_after hb4 HC1.out
    clear hb4
    cases f
    · clear hf
      go_wp2_with fail
      go_ret2
      exact ⟨rfl, HB4.out⟩
    · have hf2 : Wd.ones (Bt.cut X (65 + Fn.lows N u) (Fn.highsI N u).toNat) (Fn.highsI N u).toNat = N ∧ w4.ownsRow 0 3 1 v N (Fn.nvals (Fn.decI (Bt.cut X 65 (Fn.lows N u)) W (Fn.plc (Bt.cut X (65 + Fn.lows N u) (Fn.highsI N u).toNat) (Fn.highsI N u).toNat N))) := by
        rcases hf with ⟨_, h1, h2⟩ | ⟨h1, _⟩
        · exact ⟨h1, h2⟩
        · cases h1
      obtain ⟨hones, hown⟩ := hf2
      obtain ⟨li, hli⟩ : ∃ li, li = Fn.decI (Bt.cut X 65 (Fn.lows N u)) W (Fn.plc (Bt.cut X (65 + Fn.lows N u) (Fn.highsI N u).toNat) (Fn.highsI N u).toNat N) := ⟨_, rfl⟩
      rw [← hli] at hown
      have hlen : li.length = N := by rw [hli, Fn.decI_length, Fn.plc_length]
      have hI := Ints.of_nown hown hlen.symm
      have hno : ¬ Fn.OkI li (u : Int) := by
        intro hok
        obtain ⟨l, u2, hl, hu2, ok⟩ := hok.nat
        obtain rfl : u = u2 := by omega
        have hll : l.length = N := by rw [← hlen, hl, Fn.ints_length]
        have hH2 : (Fn.highsI N u).toNat = Fn.highs N u := by rw [Fn.highsI_eq ok.pos]; simp
        rw [hH2] at hones hli
        have hM := HM2.out
        rw [hH2] at hM
        have hWW := HW.out
        rw [← hll] at hones hli hM hWW
        rw [hWW] at hli
        exact HRD.out l u ⟨ok, by rw [← HN.out, hll], HU.out.symm, hM, hones, by rw [← hli, hl]⟩
      have HNO := hidden hno
      have HI := hidden hI
      have hl2 : li.length ≤ 9223372036854775807 := by omega
      obtain ⟨ao, cap, hv, _, _⟩ := hI.cells
      rw [hlen] at hv
      subst hv
      have HL2 := hidden hl2
      clear hf hones hown hli hlen hI hno hl2
      go_wp2_with fail
      refine (Make_no li u _ w4 HI.out HL2.out HNO.out).mono ?_
      rintro e' w5 ⟨rfl, rfl⟩
      go_wp2_with fail
      go_ret2
      exact ⟨rfl, HB4.out⟩
  · have hd : ((m : Int) == T) = false := by simpa using hmT
    rw [hd]
    clear hb3 c1 hmT hd
    go_wp2_with fail
    go_ret2
    rw [← hw3]
    exact ⟨rfl, HB3.out⟩
end Go.Proofs.YtoipliflphbeiaaGreatDoor
