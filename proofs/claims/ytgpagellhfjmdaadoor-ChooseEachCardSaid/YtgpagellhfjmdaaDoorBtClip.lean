/-
  The contract of (*Row).Clip: for every row and every two numbers: a row of the bits between, in new memory; nothing that was there is changed.
-/
import Derived.Test.YtgpagellhfjmdaaDoorBtRef
import Derived.Deep.RegionHeldLaw
namespace Go.Proofs.YtgpagellhfjmdaaDoor
open Go.RowKit
theorem Rw.drew {w : World} {r n X : Nat} {u : Value} (h : Rw w r n X u) : Rw w.drew r n X u := ⟨h.len, h.lt, h.cells, h.own⟩
namespace Bt
/-- The number of m bits from f on. -/
def cut (X f m : Nat) : Nat := X / 2 ^ f % 2 ^ m
theorem cut_lt (X f m : Nat) : cut X f m < 2 ^ m := Nat.mod_lt _ (Nat.two_pow_pos m)
theorem bt_cut (X f m i : Nat) : Wd.bt (cut X f m) i = if i < m then Wd.bt X (f + i) else 0 := by
  unfold cut
  rw [Wd.bt_mod, Wd.bt_div]
theorem testBit_cut (X f m i : Nat) : (cut X f m).testBit i = (decide (i < m) && X.testBit (f + i)) := by
  rw [Wd.testBit_bt, bt_cut, Wd.testBit_bt]
  by_cases h : i < m <;> simp [h]
end Bt
theorem needed_int (z : Int) (n c : Nat) (w : World) (hz : z = (n : Int)) (hn : n ≤ 4294967296) (hc : c = (n + 63) / 64) :
    Calls Tryd.prog 39 #[.int .i64 z] w fun e w' => e = .returned (.int .i64 (c : Int)) ∧ w' = w := by
  subst hz
  exact needed_any n c w hn hc
/-- The words so far. -/
theorem words_next (Y k c : Nat) (hk : k < c) : (Bt.wds Y k ++ List.replicate (c - k) (Value.int .u64 0)).toArray.setIfInBounds k (.int .u64 ((Bt.wd Y k : Nat) : Int)) = (Bt.wds Y (k + 1) ++ List.replicate (c - (k + 1)) (Value.int .u64 0)).toArray := by
  obtain ⟨d, hd⟩ : ∃ d, c - k = d + 1 := ⟨c - k - 1, by omega⟩
  rw [hd, show c - (k + 1) = d from by omega, Bt.wds_succ, List.replicate_succ]
  simp [Bt.wds_length]
theorem words_at (Y k c : Nat) (hk : k < c) : (Bt.wds Y k ++ List.replicate (c - k) (Value.int .u64 0)).toArray[k]? = some (Value.int .u64 0) := by
  rw [List.getElem?_toArray, List.getElem?_append_right (by rw [Bt.wds_length]; omega), Bt.wds_length, Nat.sub_self, List.getElem?_replicate, if_pos (by omega)]
/-- Where a part begins, and where it ends. -/
def Bt.cf (n : Nat) (a : Int) : Nat := (min (max a 0) (n : Int)).toNat
def Bt.ct (n : Nat) (a t : Int) : Nat := (min (max t (Bt.cf n a : Int)) (n : Int)).toNat
theorem Bt.cf_le (n : Nat) (a t : Int) : Bt.cf n a ≤ Bt.ct n a t ∧ Bt.ct n a t ≤ n := by unfold Bt.ct Bt.cf; omega
end Go.Proofs.YtgpagellhfjmdaaDoor
