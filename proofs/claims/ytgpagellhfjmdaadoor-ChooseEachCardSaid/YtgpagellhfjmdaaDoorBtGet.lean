/-
  The contracts of (*Row).Len, Get, Word, field and Field: for every row and every number; nothing in memory is changed.
-/
import Derived.Test.YtgpagellhfjmdaaDoorBtRow
namespace Go.Proofs.YtgpagellhfjmdaaDoor
open Go.RowKit
theorem Wd.cl_nat (n : Nat) (hn : n ≤ 64) : Wd.cl (n : Int) = n := by unfold Wd.cl; omega
set_option maxHeartbeats 400000 in
theorem RLen_any (r n X : Nat) (u : Value) (w : World) (h : Rw w r n X u) :
    Calls Tryd.prog 23 #[.pointer (some ⟨r, 0, none⟩)] w fun e w' => e = .returned (.int .i64 (n : Nat)) ∧ w' = w := by
  have c0 := h.cell0
  go_enter Tryd.func23, Tryd.ntmps23
  go_wp2
  go_ret
  exact ⟨rfl, rfl⟩
theorem Bt.get_eq (X i : Nat) : ((Wd.fld (Bt.wd X (i / 64)) ((i : Int) % 64) (Wd.cl 1) : Nat) : Int) = ((Wd.bt X i : Nat) : Int) := by
  rw [show ((i : Int) % 64) = ((i % 64 : Nat) : Int) from by omega, show Wd.cl 1 = 1 from rfl, Bt.get_one]
theorem Bt.bt_beq (X i : Nat) : (((Wd.bt X i : Nat) : Int) == 1) = X.testBit i := by
  rw [Wd.testBit_bt]
  have := Wd.bt_lt X i
  rcases (show Wd.bt X i = 0 ∨ Wd.bt X i = 1 from by omega) with e | e <;> rw [e] <;> rfl
/-- The word i of a number; 0 of none. -/
def Bt.wdI (X : Nat) (i : Int) : Nat := if 0 ≤ i then Bt.wd X i.toNat else 0
theorem Bt.wdI_nat (X i : Nat) : Bt.wdI X (i : Int) = Bt.wd X i := by simp [Bt.wdI]
theorem Bt.wdI_lt (X : Nat) (i : Int) : Bt.wdI X i < 18446744073709551616 := by
  unfold Bt.wdI
  split
  · exact Bt.wd_lt _ _
  · decide
set_option maxHeartbeats 400000 in
theorem Word_in (r n X i : Nat) (u : Value) (w : World) (h : Rw w r n X u) (hi : i < (n + 63) / 64) :
    Calls Tryd.prog 35 #[.pointer (some ⟨r, 0, none⟩), .int .i64 (i : Nat)] w fun e w' => e = .returned (.int .u64 ((Bt.wd X i : Nat) : Int)) ∧ w' = w := by
  have c1 := h.cell1
  have hl := h.len
  obtain ⟨ao, cap, rfl, hcap, hg⟩ := h.form
  obtain ⟨g, rfl, hcell⟩ := hg (by omega)
  have hc := hcell i hi
  obtain ⟨c, hcc⟩ : ∃ c, c = (n + 63) / 64 := ⟨_, rfl⟩
  have hc2 : c ≤ 4294967296 := by omega
  rw [← hcc] at c1 hcap hi
  clear hcell h hg hcc
  go_enter Tryd.func35, Tryd.ntmps35
  go_wp2
  go_ret
  exact ⟨rfl, rfl⟩
set_option maxHeartbeats 400000 in
theorem Word_out (r n X : Nat) (i : Int) (u : Value) (w : World) (h : Rw w r n X u) (hi : i < 0 ∨ (((n + 63) / 64 : Nat) : Int) ≤ i) :
    Calls Tryd.prog 35 #[.pointer (some ⟨r, 0, none⟩), .int .i64 i] w fun e w' => e = .returned (.int .u64 0) ∧ w' = w := by
  have c1 := h.cell1
  have hl := h.len
  obtain ⟨ao, cap, rfl, hcap, hg⟩ := h.form
  obtain ⟨c, hcc⟩ : ∃ c, c = (n + 63) / 64 := ⟨_, rfl⟩
  have hc2 : c ≤ 4294967296 := by omega
  rw [← hcc] at c1 hcap hi
  clear h hg hcc
  rcases hi with hi | hi
  · go_enter Tryd.func35, Tryd.ntmps35
    go_wp2
    go_ret
    exact ⟨rfl, rfl⟩
  · go_enter Tryd.func35, Tryd.ntmps35
    go_wp2
    go_ret
    exact ⟨rfl, rfl⟩
theorem Word_any (r n X : Nat) (i : Int) (u : Value) (w : World) (h : Rw w r n X u) :
    Calls Tryd.prog 35 #[.pointer (some ⟨r, 0, none⟩), .int .i64 i] w fun e w' => e = .returned (.int .u64 ((Bt.wdI X i : Nat) : Int)) ∧ w' = w := by
  by_cases h0 : 0 ≤ i
  · obtain ⟨j, rfl⟩ := Int.eq_ofNat_of_zero_le h0
    rw [Bt.wdI_nat]
    by_cases hj : j < (n + 63) / 64
    · exact Word_in r n X j u w h hj
    · rw [Bt.wd_big X n j h.lt (by omega)]
      exact Word_out r n X _ u w h (.inr (by omega))
  · have e : Bt.wdI X i = 0 := by unfold Bt.wdI; rw [if_neg h0]
    rw [e]
    exact Word_out r n X i u w h (.inl (by omega))
end Go.Proofs.YtgpagellhfjmdaaDoor
