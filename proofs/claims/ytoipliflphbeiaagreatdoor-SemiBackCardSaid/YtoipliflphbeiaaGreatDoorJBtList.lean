/-
  The contracts of the reference's Put and All of layer 2: for every list of bits and every Put: the list with the bits behind it, in new memory, or the list as it is with ErrArg; nothing that was there is changed.
  The contracts of what the laws of layer 2 share: the reference's Put and All, a Put and a Bit told by lists of bits, Made, Is, awake.
  The contract of (*Row).Clip: for every row and every two numbers: a row of the bits between, in new memory; nothing that was there is changed.
  Two builders beside each other: what a Put into the one leaves of the other.
-/
import Derived.BigQuiet
import Derived.Deep.QuietTactic
import Derived.Deep.RegionHeldLaw
import Derived.Test.YtoipliflphbeiaaGreatDoorC01
import Derived.Test.YtoipliflphbeiaaGreatDoorJBtPut
import Derived.Test.YtoipliflphbeiaaGreatDoorJWdSel
import Derived.Test.YtoipliflphbeiaaGreatDoorJBtMem
namespace Go.Proofs.YtoipliflphbeiaaGreatDoor
open Go.RowKit
theorem Tryz.infoBool : (Tryz.prog.info? 4).map (fun i => (i.zero, i.size, i.bytes)) = some (some (.bool false), 1, 1) := by kernel_rfl
theorem Bl.next {B : Nat} {w' : World} {v : Value} {L : List Bool} {x k : Nat} (h : w'.ownsRow B 4 1 v (L.length + k + 1) (Bt.bls (L ++ Bt.bitsTo x k) ++ [.bool (x.testBit k)])) : w'.ownsRow B 4 1 v (L.length + (k + 1)) (Bt.bls (L ++ Bt.bitsTo x (k + 1))) := by
  rw [Bt.bitsTo_succ, ← List.append_assoc, Bt.bls_append]
  exact h
end Go.Proofs.YtoipliflphbeiaaGreatDoor
namespace Go.Proofs.YtoipliflphbeiaaGreatDoor
open Go.RowKit
theorem Rw.drewN {w : World} {r n X : Nat} {u : Value} (h : Rw w r n X u) (m : Nat) : Rw (w.drewN m) r n X u := ⟨h.len, h.lt, h.cells, h.own⟩
namespace Bt
/-- Whether a Put is let. -/
def okB (o : Nat × Int) : Bool := decide (0 ≤ o.2) && decide (o.2 ≤ 64) && decide (o.1 < 2 ^ o.2.toNat)
/-- The list behind a Put; its error. -/
def putB (L : List Bool) (o : Nat × Int) : List Bool := if okB o = true then L ++ bitsTo o.1 o.2.toNat else L
def all (l : List (Nat × Int)) : List Bool := l.foldl putB []
theorem okB_true {x : Nat} {k : Int} (h : okB (x, k) = true) : ∃ j : Nat, k = (j : Int) ∧ j ≤ 64 ∧ x < 2 ^ j := by
  simp only [okB, Bool.and_eq_true, decide_eq_true_eq] at h
  obtain ⟨j, rfl⟩ := Int.eq_ofNat_of_zero_le h.1.1
  exact ⟨j, rfl, by omega, by simpa using h.2⟩
theorem putB_length (L : List Bool) (o : Nat × Int) : (putB L o).length ≤ L.length + 64 := by
  unfold putB
  split
  · rename_i h
    obtain ⟨x, k⟩ := o
    obtain ⟨j, rfl, h1, _⟩ := okB_true h
    rw [List.length_append, bitsTo_length]
    simp only [Int.toNat_natCast]
    omega
  · omega
theorem all_take_succ (l : List (Nat × Int)) (k : Nat) (o : Nat × Int) (h : l[k]? = some o) : all (l.take (k + 1)) = putB (all (l.take k)) o := by
  unfold all
  rw [List.take_add_one, h, List.foldl_append]
  rfl
theorem all_length (l : List (Nat × Int)) (k : Nat) : (all (l.take k)).length ≤ 64 * k := by
  induction k with
  | zero => simp [all]
  | succ k ih =>
    by_cases h : k < l.length
    · rw [all_take_succ l k l[k] (List.getElem?_eq_getElem h)]
      have := putB_length (all (l.take k)) l[k]
      omega
    · rw [List.take_of_length_le (by omega)] at ih ⊢
      omega
end Bt
theorem Bit_list (b B : Nat) (L : List Bool) (v : Value) (o : Bool) (w : World) (h : Bd w B b L.length (Bt.num L) v) (hL : L.length + 1 ≤ 4294967296) :
    Calls Tryz.prog 94 #[.pointer (some ⟨b, 0, none⟩), .bool o] w fun e w' => e = .returned (.int .i64 0) ∧ ∃ v', Bd w' B b (L ++ [o]).length (Bt.num (L ++ [o])) v' ∧ Kp w w' b v v' := by
  rw [List.length_append, Bt.num_snoc]
  exact Bit_ok b _ _ B o v w h hL
theorem take_next (L : List Bool) (k : Nat) (h : k < L.length) : L.take (k + 1) = L.take k ++ [L.getD k false] := by
  rw [List.take_add_one, List.getElem?_eq_getElem h, List.getD_eq_getElem?_getD, List.getElem?_eq_getElem h]
  rfl
/-- A list of bits, with its cells. -/
theorem Bl.form {w : World} {v : Value} {L : List Bool} (h : Bl w v L) : ∃ ao cap, v = .slice ao L.length cap ∧ L.length ≤ cap ∧ (0 < L.length → ∃ g, ao = some ⟨g, 0, none⟩ ∧ g < w.heap.size ∧ ∀ j, j < L.length → w.cell? ⟨g, j, none⟩ = some (.bool (L.getD j false))) := by
  rcases h.2 with ⟨rfl, h0⟩ | ⟨g, cap, cur, hv, _, hg, hnc, _, hcs, htake⟩
  · exact ⟨none, 0, by rw [h0], by omega, fun hn => by omega⟩
  · refine ⟨some ⟨g, 0, none⟩, cap, hv, hnc, fun _ => ⟨g, rfl, lt_of_block hg, fun j hj => ?_⟩⟩
    have h' := h
    rw [hv] at h'
    rw [World.ownsRow.cellAt (show w.ownsRow 0 4 1 _ _ _ from h') j (by omega)]
    exact Bt.bls_get L j hj
/-- A list of bits behind a slice, wherever it lies. -/
def Bv (w : World) (v : Value) (L : List Bool) : Prop := ∃ ao cap, v = .slice ao L.length cap ∧ L.length ≤ cap ∧ (0 < L.length → ∃ b off, ao = some ⟨b, off, none⟩ ∧ b < w.heap.size ∧ ∀ j, j < L.length → w.cell? ⟨b, off + j, none⟩ = some (.bool (L.getD j false)))
theorem Bl.view {w : World} {v : Value} {L : List Bool} (h : Bl w v L) : Bv w v L := by
  obtain ⟨ao, cap, hv, hc, hf⟩ := h.form
  refine ⟨ao, cap, hv, hc, fun h0 => ?_⟩
  obtain ⟨g, hg, hlt, hcell⟩ := hf h0
  exact ⟨g, 0, hg, hlt, fun j hj => by rw [Nat.zero_add]; exact hcell j hj⟩
end Go.Proofs.YtoipliflphbeiaaGreatDoor
namespace Go.Proofs.YtoipliflphbeiaaGreatDoor
open Go.RowKit
theorem Rw.drew {w : World} {r n X : Nat} {u : Value} (h : Rw w r n X u) : Rw w.drew r n X u := ⟨h.len, h.lt, h.cells, h.own⟩
namespace Bt
/-- The number of m bits from f on. -/
def cut (X f m : Nat) : Nat := X / 2 ^ f % 2 ^ m
theorem cut_lt (X f m : Nat) : cut X f m < 2 ^ m := Nat.mod_lt _ (Nat.two_pow_pos m)
theorem bt_cut (X f m i : Nat) : Wd.bt (cut X f m) i = if i < m then Wd.bt X (f + i) else 0 := by
  unfold cut
  rw [Wd.bt_mod, Wd.bt_div]
theorem wd_cut (X f m j : Nat) : wd (cut X f m) j = fd X (f + 64 * j) (min 64 (m - 64 * j)) := by
  apply eq_of_bt
  intro i
  unfold fd
  rw [bt_wd, bt_cut, Wd.bt_mod, Wd.bt_div]
  by_cases h : i < 64
  · by_cases h2 : 64 * j + i < m
    · rw [if_pos h, if_pos h2, if_pos (by omega)]
      congr 1; omega
    · rw [if_pos h, if_neg h2, if_neg (by omega)]
  · rw [if_neg h, if_neg (by omega)]
end Bt
theorem needed_int (z : Int) (n c : Nat) (w : World) (hz : z = (n : Int)) (hn : n ≤ 4294967296) (hc : c = (n + 63) / 64) :
    Calls Tryz.prog 108 #[.int .i64 z] w fun e w' => e = .returned (.int .i64 (c : Int)) ∧ w' = w := by
  subst hz
  exact needed_any n c w hn hc
/-- The words so far. -/
theorem words_next (Y k c : Nat) (hk : k < c) : (Bt.wds Y k ++ List.replicate (c - k) (Value.int .u64 0)).toArray.setIfInBounds k (.int .u64 ((Bt.wd Y k : Nat) : Int)) = (Bt.wds Y (k + 1) ++ List.replicate (c - (k + 1)) (Value.int .u64 0)).toArray := by
  obtain ⟨d, hd⟩ : ∃ d, c - k = d + 1 := ⟨c - k - 1, by omega⟩
  rw [hd, show c - (k + 1) = d from by omega, Bt.wds_succ, List.replicate_succ]
  simp [Bt.wds_length]
theorem words_at (Y k c : Nat) (hk : k < c) : (Bt.wds Y k ++ List.replicate (c - k) (Value.int .u64 0)).toArray[k]? = some (Value.int .u64 0) := by
  rw [List.getElem?_toArray, List.getElem?_append_right (by rw [Bt.wds_length]; omega), Bt.wds_length, Nat.sub_self, List.getElem?_replicate, if_pos (by omega)]
set_option maxHeartbeats 1000000 in
theorem Clip_core (r n X f e : Nat) (a t : Int) (u : Value) (w : World) (h : Rw w r n X u) (hfe : f ≤ e) (hen : e ≤ n) (hf : min (max a 0) (n : Int) = (f : Int)) (ht : min (max t (f : Int)) (n : Int) = (e : Int)) :
    Calls Tryz.prog 136 #[.pointer (some ⟨r, 0, none⟩), .int .i64 a, .int .i64 t] w fun e' w' => ∃ r' u', e' = .returned (.pointer (some ⟨r', 0, none⟩)) ∧ Rw w' r' (e - f) (Bt.cut X f (e - f)) u' ∧ Below w.heap.size w w' ∧ w.heap.size ≤ r' ∧ ∀ k, u'.ownBlock = some k → w.heap.size ≤ k := by
  have hl := h.len
  have c0 := h.cell0
  have HH := hidden h
  obtain ⟨m, hm⟩ : ∃ m, m = e - f := ⟨_, rfl⟩
  obtain ⟨c, hc⟩ : ∃ c, c = (m + 63) / 64 := ⟨_, rfl⟩
  have hc1 : c ≤ 4294967296 := by omega
  have hc2 : 64 * c ≤ m + 63 := by omega
  have hmk := mk_words c hc1
  rw [← hm]
  have HM := hidden hm
  have HC := hidden hc
  clear h hc hm
  go_enter Tryz.func136, Tryz.ntmps136
  go_wp2_with fail
  refine (needed_int _ m c _ (by have := HM.out; omega) (by have := HM.out; omega) HC.out).mono ?_
  rintro e' w1 ⟨rfl, rfl⟩
  go_wp2_with fail
  go_loopw [40] (fun i wr => ∃ k : Nat, k ≤ c ∧ i = .int .i64 k ∧ wr.heap[w1.heap.size]? = some (.cells (Bt.wds (Bt.cut X f m) k ++ List.replicate (c - k) (Value.int .u64 0)).toArray 64 (0, 0)) ∧ wr.heap[w1.heap.size + 1]? = some (.cells #[.int .i64 ((e : Int) - (f : Int)), .slice (some ⟨w1.heap.size, 0, none⟩) c c] 118 (0, 0)) ∧ Below w1.heap.size w1 wr) (fun i _ => c - (intOf i).toNat)
  case atStart =>
    refine ⟨0, by omega, rfl, ?_, heap_new_at (by simp), ((Below.refl _ _).alloc (Nat.le_refl _) _).alloc (by simp) _⟩
    rw [Below.heap_alloc _ _ _ (by simp), heap_alloc_new, show Bt.wds (Bt.cut X f m) 0 = [] from rfl]
    simp
  case round =>
    obtain ⟨k, hk, rfl, hw, hr, hb⟩ := hrel
    by_cases hlt : k < c
    · obtain ⟨A, hA⟩ : ∃ A : Nat, (f : Int) + (k : Int) * 64 = (A : Int) := ⟨f + k * 64, by omega⟩
      obtain ⟨N, hN⟩ : ∃ N : Nat, min 64 ((e : Int) - (A : Int)) = (N : Int) := ⟨min 64 (e - A), by have := HM.out; have := HC.out; omega⟩
      have hN2 : N ≤ 64 := by omega
      have hA2 : A ≤ 9223372036854775000 := by omega
      have HV : Hid (Bt.fd X A N = Bt.wd (Bt.cut X f m) k) := by
        show _ = _
        rw [Bt.wd_cut, show A = f + 64 * k from by omega, show N = min 64 (m - 64 * k) from by have := HM.out; omega]
      have HRR := hidden (HH.out.below hb (Nat.le_refl _))
      have d0 : wr.cell? ⟨w1.heap.size + 1, 1, none⟩ = some (.slice (some ⟨w1.heap.size, 0, none⟩) c c) := Lib.cell_of_heap hr 1
      have d1 : wr.cell? ⟨w1.heap.size, k, none⟩ = some (.int .u64 0) := by
        rw [Lib.cell_of_heap hw, words_at _ k c hlt]
      have d2 : wr.frozen? ⟨w1.heap.size, k, none⟩ = false := Lib.frozen_of_heap hw k
      have hwr : IntKind.i64.wrap ((e : Int) - (A : Int)) = (e : Int) - (A : Int) := by rw [IntKind.wrap_i64]; omega
      have i0 : (0 : Int) ≤ (k : Int) := by omega
      have i1 : (k : Int) < (c : Int) := by omega
      have hsz := hb.size
      have HW := hidden hw
      have HR := hidden hr
      have HB := hidden hb
      clear hw hr hb
      go_wp2_with fail
      go_region_held (fun w' => w'.cell? ⟨w1.heap.size + 1, 1, none⟩ = some (.slice (some ⟨w1.heap.size, 0, none⟩) c c)) (go_keep)
        (first
          | (go_at_call 167; refine (field_any r n X A N u _ HRR.out.drew hA2 hN2).mono ?_; rintro e' w' ⟨rfl, rfl⟩))
      go_wp2_with fail
      go_roundw
      case rel =>
        refine ⟨k + 1, by omega, by go_num, ?_, ?_, (HB.out.setCell (Nat.le_refl _) _).drew⟩
        · show (World.setCell _ _ _).heap[_]? = _
          rw [setCell_heap_same _ _ _ _ _ _ _ HW.out, HV.out, words_next _ k c hlt]
        · show (World.setCell _ _ _).heap[_]? = _
          rw [setCell_heap_other _ _ _ _ (by simp)]
          exact HR.out
      case measure => simp [intOf]; omega
    · obtain rfl : k = c := by omega
      rw [Nat.sub_self, List.replicate_zero, List.append_nil] at hw
      have hsz := hb.size
      have HW := hidden hw
      have HR := hidden hr
      have HB := hidden hb
      clear hw hr hb
      go_wp2_with fail
      go_ret
      have hmm := HM.out
      have hr := HR.out
      rw [show (e : Int) - (f : Int) = (m : Int) from by omega] at hr
      exact ⟨_, _, rfl, Rw.of_words (by omega) (Bt.cut_lt _ _ _) HC.out hr HW.out, HB.out, by omega, fun j hj => by simp [Value.ownBlock] at hj; omega⟩
/-- Where a part begins, and where it ends. -/
def Bt.cf (n : Nat) (a : Int) : Nat := (min (max a 0) (n : Int)).toNat
def Bt.ct (n : Nat) (a t : Int) : Nat := (min (max t (Bt.cf n a : Int)) (n : Int)).toNat
theorem Bt.cf_le (n : Nat) (a t : Int) : Bt.cf n a ≤ Bt.ct n a t ∧ Bt.ct n a t ≤ n := by unfold Bt.ct Bt.cf; omega
end Go.Proofs.YtoipliflphbeiaaGreatDoor
namespace Go.Proofs.YtoipliflphbeiaaGreatDoor
open Go.RowKit
theorem Bd.drew {w : World} {B b n X : Nat} {v : Value} (h : Bd w B b n X v) : Bd w.drew B b n X v := ⟨h.base, h.len, h.lt, h.cells, h.own⟩
theorem Bd.kp {w w' : World} {B b b2 n m X Y : Nat} {v v' u : Value} (h : Bd w B b n X v) (h2 : Bd w B b2 m Y u) (hb : b2 ≠ b) (hne : ∀ k, v.ownBlock = some k → u.ownBlock ≠ some k) (k : Kp w w' b v v') : Bd w' B b2 m Y u := by
  refine ⟨h2.base, h2.len, h2.lt, ?_, own_same h2.own fun i hi => k.block i (own_lt h2.own i hi) ?_ (fun e => hne i e hi)⟩
  · rw [k.block b2 (lt_of_block h2.cells) hb (own_other h.own h2.cells (by decide))]
    exact h2.cells
  · intro e
    subst e
    exact own_other h2.own h.cells (by decide) hi
/-- Builders in blocks a and b, with their own words. -/
structure Two (W wr : World) (B a b : Nat) (La Lb : List Bool) (va vb : Value) : Prop where
  fa : Bd wr B a La.length (Bt.num La) va
  fb : Bd wr B b Lb.length (Bt.num Lb) vb
  ab : a ≠ b
  ne : ∀ k, va.ownBlock = some k → vb.ownBlock ≠ some k
  bel : Below W.heap.size W wr
  base : W.heap.size ≤ B
theorem Two.drew {W wr : World} {B a b : Nat} {La Lb : List Bool} {va vb : Value} (h : Two W wr B a b La Lb va vb) : Two W wr.drew B a b La Lb va vb := ⟨h.fa.drew, h.fb.drew, h.ab, h.ne, h.bel.drew, h.base⟩
theorem Two.putA {W wr w' : World} {B a b : Nat} {La Lb L' : List Bool} {va vb va' : Value} (h : Two W wr B a b La Lb va vb) (hb : Bd w' B a L'.length (Bt.num L') va') (k : Kp wr w' a va va') : Two W w' B a b L' Lb va' vb := by
  refine ⟨hb, h.fa.kp h.fb (Ne.symm h.ab) h.ne k, h.ab, fun i hi => ?_, h.bel.trans ((k.below h.fa).mono h.base), h.base⟩
  rcases k.own with e | ⟨g, e, hg⟩
  · exact h.ne i (e ▸ hi)
  · intro e2
    have := own_lt h.fb.own i e2
    rw [e] at hi
    simp at hi
    omega
theorem Two.putB {W wr w' : World} {B a b : Nat} {La Lb L' : List Bool} {va vb vb' : Value} (h : Two W wr B a b La Lb va vb) (hb : Bd w' B b L'.length (Bt.num L') vb') (k : Kp wr w' b vb vb') : Two W w' B a b La L' va vb' := by
  refine ⟨h.fb.kp h.fa h.ab (fun i hi e => h.ne i e hi) k, hb, h.ab, fun i hi e2 => ?_, h.bel.trans ((k.below h.fb).mono h.base), h.base⟩
  rcases k.own with e | ⟨g, e, hg⟩
  · exact h.ne i hi (e ▸ e2)
  · have := own_lt h.fa.own i hi
    rw [e] at e2
    simp at e2
    omega
theorem Two.new {W w1 : World} (h : Below W.heap.size W w1) : Two W ((w1.alloc (.cells #[.int .i64 0, .slice none 0 0, .int .u64 0] 111)).alloc (.cells #[.int .i64 0, .slice none 0 0, .int .u64 0] 111)) w1.heap.size w1.heap.size (w1.heap.size + 1) [] [] (.slice none 0 0) (.slice none 0 0) := by
  have hs := h.size
  refine ⟨(Bd.new w1).below ((Below.refl _ _).alloc (Nat.le_refl _) _) (Nat.le_refl _), ?_, by omega, fun k hk => by simp [Value.ownBlock] at hk, (h.alloc hs _).alloc (by simp; omega) _, hs⟩
  have hn := Bd.new (w1.alloc (.cells #[.int .i64 0, .slice none 0 0, .int .u64 0] 111))
  have e : (w1.alloc (.cells #[.int .i64 0, .slice none 0 0, .int .u64 0] 111)).heap.size = w1.heap.size + 1 := by simp
  rw [e] at hn
  exact ⟨by omega, hn.len, hn.lt, hn.cells, World.ownsRow_nil _ _ _ _⟩
theorem Two.below {W wr w' : World} {B a b : Nat} {La Lb : List Bool} {va vb : Value} (h : Two W wr B a b La Lb va vb) (hb : Below wr.heap.size wr w') : Two W w' B a b La Lb va vb :=
  ⟨h.fa.below hb (Nat.le_refl _), h.fb.below hb (Nat.le_refl _), h.ab, h.ne, h.bel.trans (hb.mono h.bel.size), h.base⟩
end Go.Proofs.YtoipliflphbeiaaGreatDoor
