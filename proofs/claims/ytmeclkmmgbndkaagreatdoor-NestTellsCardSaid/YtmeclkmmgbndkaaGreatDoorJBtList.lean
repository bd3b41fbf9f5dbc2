/-
  The contracts of the reference's Put and All of layer 2: for every list of bits and every Put: the list with the bits behind it, in new memory, or the list as it is with ErrArg; nothing that was there is changed.
  The contracts of what the laws of layer 2 share: the reference's Put and All, a Put and a Bit told by lists of bits, Made, Is, awake.
  The contract of (*Row).Clip: for every row and every two numbers: a row of the bits between, in new memory; nothing that was there is changed.
-/
import Derived.BigQuiet
import Derived.Deep.QuietTactic
import Derived.Deep.RegionHeldLaw
import Derived.Test.YtmeclkmmgbndkaaGreatDoorJBtPut
import Derived.Test.YtmeclkmmgbndkaaGreatDoorJWdSel
import Derived.Test.YtmeclkmmgbndkaaGreatDoorJBtMem
namespace Go.Proofs.YtmeclkmmgbndkaaGreatDoor
open Go.RowKit
theorem Tryz.infoBool : (Tryz.prog.info? 4).map (fun i => (i.zero, i.size, i.bytes)) = some (some (.bool false), 1, 1) := by kernel_rfl
theorem hidden {p : Prop} (h : p) : Hid p := h
theorem Bl.next {B : Nat} {w' : World} {v : Value} {L : List Bool} {x k : Nat} (h : w'.ownsRow B 4 1 v (L.length + k + 1) (Bt.bls (L ++ Bt.bitsTo x k) ++ [.bool (x.testBit k)])) : w'.ownsRow B 4 1 v (L.length + (k + 1)) (Bt.bls (L ++ Bt.bitsTo x (k + 1))) := by
  rw [Bt.bitsTo_succ, ← List.append_assoc, Bt.bls_append]
  exact h
theorem Bl.of_own {B : Nat} {w : World} {v : Value} {L : List Bool} {x k : Nat} (h : w.ownsRow B 4 1 v (L.length + k) (Bt.bls (L ++ Bt.bitsTo x k))) : Bl w v (L ++ Bt.bitsTo x k) := by
  have h2 := own_base h (Nat.zero_le B)
  rw [show L.length + k = (L ++ Bt.bitsTo x k).length from by rw [List.length_append, Bt.bitsTo_length]] at h2
  exact h2
end Go.Proofs.YtmeclkmmgbndkaaGreatDoor
namespace Go.Proofs.YtmeclkmmgbndkaaGreatDoor
open Go.RowKit
theorem Rw.drewN {w : World} {r n X : Nat} {u : Value} (h : Rw w r n X u) (m : Nat) : Rw (w.drewN m) r n X u := ⟨h.len, h.lt, h.cells, h.own⟩
namespace Bt
/-- Whether a Put is let. -/
def okB (o : Nat × Int) : Bool := decide (0 ≤ o.2) && decide (o.2 ≤ 64) && decide (o.1 < 2 ^ o.2.toNat)
/-- The list behind a Put; its error. -/
def putB (L : List Bool) (o : Nat × Int) : List Bool := if okB o = true then L ++ bitsTo o.1 o.2.toNat else L
def errB (o : Nat × Int) : Int := if okB o = true then 0 else 1
def all (l : List (Nat × Int)) : List Bool := l.foldl putB []
theorem okB_true {x : Nat} {k : Int} (h : okB (x, k) = true) : ∃ j : Nat, k = (j : Int) ∧ j ≤ 64 ∧ x < 2 ^ j := by
  simp only [okB, Bool.and_eq_true, decide_eq_true_eq] at h
  obtain ⟨j, rfl⟩ := Int.eq_ofNat_of_zero_le h.1.1
  exact ⟨j, rfl, by omega, by simpa using h.2⟩
theorem okB_false {x : Nat} {k : Int} (h : okB (x, k) = false) : k < 0 ∨ 64 < k ∨ (0 ≤ k ∧ k ≤ 64 ∧ ¬ x < 2 ^ k.toNat) := by
  by_cases h0 : 0 ≤ k
  · by_cases h1 : k ≤ 64
    · right; right
      simp only [okB, h0, h1, decide_true, Bool.true_and, decide_eq_false_iff_not] at h
      exact ⟨h0, h1, h⟩
    · right; left; omega
  · left; omega
theorem putB_length (L : List Bool) (o : Nat × Int) : (putB L o).length ≤ L.length + 64 := by
  unfold putB
  split
  · rename_i h
    obtain ⟨x, k⟩ := o
    obtain ⟨j, rfl, h1, _⟩ := okB_true h
    rw [List.length_append, bitsTo_length]
    simp only [Int.toNat_natCast]
    omega
  · omega
theorem all_take_succ (l : List (Nat × Int)) (k : Nat) (o : Nat × Int) (h : l[k]? = some o) : all (l.take (k + 1)) = putB (all (l.take k)) o := by
  unfold all
  rw [List.take_add_one, h, List.foldl_append]
  rfl
theorem all_length (l : List (Nat × Int)) (k : Nat) : (all (l.take k)).length ≤ 64 * k := by
  induction k with
  | zero => simp [all]
  | succ k ih =>
    by_cases h : k < l.length
    · rw [all_take_succ l k l[k] (List.getElem?_eq_getElem h)]
      have := putB_length (all (l.take k)) l[k]
      omega
    · rw [List.take_of_length_le (by omega)] at ih ⊢
      omega
end Bt
/-- A Put, told by lists. -/
theorem Put_list (b B : Nat) (L : List Bool) (v : Value) (x : Nat) (k : Int) (w : World) (h : Bd w B b L.length (Bt.num L) v) (hL : L.length + 64 ≤ 4294967296) (hx : x < 18446744073709551616) :
    Calls Tryz.prog 52 #[.pointer (some ⟨b, 0, none⟩), .int .u64 x, .int .i64 k] w fun e w' => e = .returned (.int .i64 (Bt.errB (x, k))) ∧ ∃ v', Bd w' B b (Bt.putB L (x, k)).length (Bt.num (Bt.putB L (x, k))) v' ∧ Kp w w' b v v' := by
  unfold Bt.putB Bt.errB
  by_cases ho : Bt.okB (x, k) = true
  · rw [if_pos ho, if_pos ho]
    obtain ⟨j, rfl, h1, h2⟩ := Bt.okB_true ho
    rw [Int.toNat_natCast, List.length_append, Bt.bitsTo_length, Bt.num_put L x j h2]
    exact Put_ok b _ _ x j B v w h h2 h1 (by omega)
  · rw [if_neg ho, if_neg ho]
    refine (Put_args b _ _ x B k v w h hx (Bt.okB_false (by simpa using ho))).mono ?_
    rintro e w' ⟨he, rfl⟩
    exact ⟨he, v, h, Kp.refl _ _ _⟩
theorem Bit_list (b B : Nat) (L : List Bool) (v : Value) (o : Bool) (w : World) (h : Bd w B b L.length (Bt.num L) v) (hL : L.length + 1 ≤ 4294967296) :
    Calls Tryz.prog 23 #[.pointer (some ⟨b, 0, none⟩), .bool o] w fun e w' => e = .returned (.int .i64 0) ∧ ∃ v', Bd w' B b (L ++ [o]).length (Bt.num (L ++ [o])) v' ∧ Kp w w' b v v' := by
  rw [List.length_append, Bt.num_snoc]
  exact Bit_ok b _ _ B o v w h hL
/-- A slice of Puts that came in. -/
structure Ops (w : World) (u : Value) (l : List (Nat × Int)) : Prop where
  lt : ∀ o ∈ l, o.1 < 18446744073709551616
  cells : ∃ ao cap, u = .slice ao l.length cap ∧ l.length ≤ cap ∧ (0 < l.length → ∃ b off, ao = some ⟨b, off, none⟩ ∧ b < w.heap.size ∧ ∀ i, i < l.length → w.cell? ⟨b, off + i * 2, none⟩ = some (.int .u64 ((l.getD i (0, 0)).1 : Nat)) ∧ w.cell? ⟨b, off + i * 2 + 1, none⟩ = some (.int .i64 (l.getD i (0, 0)).2))
theorem take_next (L : List Bool) (k : Nat) (h : k < L.length) : L.take (k + 1) = L.take k ++ [L.getD k false] := by
  rw [List.take_add_one, List.getElem?_eq_getElem h, List.getD_eq_getElem?_getD, List.getElem?_eq_getElem h]
  rfl
/-- A list of bits, with its cells. -/
theorem Bl.form {w : World} {v : Value} {L : List Bool} (h : Bl w v L) : ∃ ao cap, v = .slice ao L.length cap ∧ L.length ≤ cap ∧ (0 < L.length → ∃ g, ao = some ⟨g, 0, none⟩ ∧ g < w.heap.size ∧ ∀ j, j < L.length → w.cell? ⟨g, j, none⟩ = some (.bool (L.getD j false))) := by
  rcases h.2 with ⟨rfl, h0⟩ | ⟨g, cap, cur, hv, _, hg, hnc, _, hcs, htake⟩
  · exact ⟨none, 0, by rw [h0], by omega, fun hn => by omega⟩
  · refine ⟨some ⟨g, 0, none⟩, cap, hv, hnc, fun _ => ⟨g, rfl, lt_of_block hg, fun j hj => ?_⟩⟩
    have h' := h
    rw [hv] at h'
    rw [World.ownsRow.cellAt (show w.ownsRow 0 4 1 _ _ _ from h') j (by omega)]
    exact Bt.bls_get L j hj
/-- A list of bits behind a slice, wherever it lies. -/
def Bv (w : World) (v : Value) (L : List Bool) : Prop := ∃ ao cap, v = .slice ao L.length cap ∧ L.length ≤ cap ∧ (0 < L.length → ∃ b off, ao = some ⟨b, off, none⟩ ∧ b < w.heap.size ∧ ∀ j, j < L.length → w.cell? ⟨b, off + j, none⟩ = some (.bool (L.getD j false)))
theorem Bl.view {w : World} {v : Value} {L : List Bool} (h : Bl w v L) : Bv w v L := by
  obtain ⟨ao, cap, hv, hc, hf⟩ := h.form
  refine ⟨ao, cap, hv, hc, fun h0 => ?_⟩
  obtain ⟨g, hg, hlt, hcell⟩ := hf h0
  exact ⟨g, 0, hg, hlt, fun j hj => by rw [Nat.zero_add]; exact hcell j hj⟩
set_option maxHeartbeats 1000000 in
theorem Made_any (L : List Bool) (v : Value) (w : World) (h : Bl w v L) (hL : L.length ≤ 4294967295) :
    Calls Tryz.prog 7 #[v] w fun e w' => ∃ r u, e = .returned (.pointer (some ⟨r, 0, none⟩)) ∧ Rw w' r L.length (Bt.num L) u ∧ Below w.heap.size w w' ∧ w.heap.size ≤ r ∧ ∀ k, u.ownBlock = some k → w.heap.size ≤ k := by
  obtain ⟨ao, cap, rfl, hcap, hc⟩ := h.form
  have HC := hidden hc
  clear hc h
  go_enter Tryz.func7, Tryz.ntmps7
  go_wp2
  go_loopw [4] (fun i wr => ∃ (k : Nat) (vb : Value), k ≤ L.length ∧ i = .int .i64 k ∧ Bd wr w.heap.size w.heap.size (L.take k).length (Bt.num (L.take k)) vb ∧ Below w.heap.size w wr) (fun i _ => L.length - (intOf i).toNat)
  case atStart => exact ⟨0, .slice none 0 0, by omega, rfl, Bd.new w, (Below.refl _ _).alloc (Nat.le_refl _) _⟩
  case round =>
    obtain ⟨k, vb, hk, rfl, hb, hbel⟩ := hrel
    have HB := hidden hb
    have HBL := hidden hbel
    clear hb hbel
    by_cases hlt : k < L.length
    · obtain ⟨g, rfl, hg, hcell⟩ := HC.out (by omega)
      have c0 := (HBL.out.cell (p := ⟨g, k, none⟩) hg).trans (hcell k hlt)
      have hlen : (L.take k).length ≤ k := List.length_take_le _ _
      obtain ⟨o, ho⟩ : ∃ o, o = L.getD k false := ⟨_, rfl⟩
      rw [← ho] at c0
      have HO := hidden ho
      clear hcell ho
      go_wp2_with (go_at_call 23; refine (Bit_list w.heap.size w.heap.size (L.take k) vb o _ HB.out (by omega)).mono ?_; rintro e w1 ⟨rfl, v1, hq1, hq2⟩; have HQ1 := hidden hq1; have HQ2 := hidden hq2; clear hq1 hq2)
      go_roundw
      case rel => exact ⟨k + 1, v1, by omega, by go_num, by rw [take_next L k hlt, ← HO.out]; exact HQ1.out, HBL.out.trans (HQ2.out.below HB.out)⟩
      case measure => simp [intOf]; omega
    · obtain rfl : k = L.length := by omega
      have hz := HB.out
      rw [List.take_of_length_le (Nat.le_refl _)] at hz
      have HZ := hidden hz
      clear hz
      go_wp2_with (go_at_call 24; refine (BRow_any w.heap.size _ _ w.heap.size vb _ HZ.out).mono ?_; rintro e w1 ⟨r, u, rfl, hq⟩; have HQ := hidden hq; clear hq)
      go_ret
      have hs := HBL.out.size
      obtain ⟨q1, q2, q3, q4⟩ := HQ.out
      exact ⟨r, u, rfl, q1, HBL.out.trans (q2.mono hs), by omega, fun k hk => by have := q4 k hk; omega⟩
end Go.Proofs.YtmeclkmmgbndkaaGreatDoor
namespace Go.Proofs.YtmeclkmmgbndkaaGreatDoor
open Go.RowKit
theorem Rw.drew {w : World} {r n X : Nat} {u : Value} (h : Rw w r n X u) : Rw w.drew r n X u := ⟨h.len, h.lt, h.cells, h.own⟩
namespace Bt
/-- The number of m bits from f on. -/
def cut (X f m : Nat) : Nat := X / 2 ^ f % 2 ^ m
theorem cut_lt (X f m : Nat) : cut X f m < 2 ^ m := Nat.mod_lt _ (Nat.two_pow_pos m)
theorem bt_cut (X f m i : Nat) : Wd.bt (cut X f m) i = if i < m then Wd.bt X (f + i) else 0 := by
  unfold cut
  rw [Wd.bt_mod, Wd.bt_div]
theorem testBit_cut (X f m i : Nat) : (cut X f m).testBit i = (decide (i < m) && X.testBit (f + i)) := by
  rw [Wd.testBit_bt, bt_cut, Wd.testBit_bt]
  by_cases h : i < m <;> simp [h]
end Bt
theorem needed_int (z : Int) (n c : Nat) (w : World) (hz : z = (n : Int)) (hn : n ≤ 4294967296) (hc : c = (n + 63) / 64) :
    Calls Tryz.prog 53 #[.int .i64 z] w fun e w' => e = .returned (.int .i64 (c : Int)) ∧ w' = w := by
  subst hz
  exact needed_any n c w hn hc
/-- The words so far. -/
theorem words_next (Y k c : Nat) (hk : k < c) : (Bt.wds Y k ++ List.replicate (c - k) (Value.int .u64 0)).toArray.setIfInBounds k (.int .u64 ((Bt.wd Y k : Nat) : Int)) = (Bt.wds Y (k + 1) ++ List.replicate (c - (k + 1)) (Value.int .u64 0)).toArray := by
  obtain ⟨d, hd⟩ : ∃ d, c - k = d + 1 := ⟨c - k - 1, by omega⟩
  rw [hd, show c - (k + 1) = d from by omega, Bt.wds_succ, List.replicate_succ]
  simp [Bt.wds_length]
theorem words_at (Y k c : Nat) (hk : k < c) : (Bt.wds Y k ++ List.replicate (c - k) (Value.int .u64 0)).toArray[k]? = some (Value.int .u64 0) := by
  rw [List.getElem?_toArray, List.getElem?_append_right (by rw [Bt.wds_length]; omega), Bt.wds_length, Nat.sub_self, List.getElem?_replicate, if_pos (by omega)]
/-- Where a part begins, and where it ends. -/
def Bt.cf (n : Nat) (a : Int) : Nat := (min (max a 0) (n : Int)).toNat
def Bt.ct (n : Nat) (a t : Int) : Nat := (min (max t (Bt.cf n a : Int)) (n : Int)).toNat
theorem Bt.cf_le (n : Nat) (a t : Int) : Bt.cf n a ≤ Bt.ct n a t ∧ Bt.ct n a t ≤ n := by unfold Bt.ct Bt.cf; omega
end Go.Proofs.YtmeclkmmgbndkaaGreatDoor
