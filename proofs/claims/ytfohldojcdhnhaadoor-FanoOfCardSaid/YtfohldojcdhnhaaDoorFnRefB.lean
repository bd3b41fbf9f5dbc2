/-
  The contract of laceworkref05's bitsOf: a number's lowest bits, in new memory.
-/
import Derived.Test.YtfohldojcdhnhaaDoorFnRef
import Derived.Test.YtfohldojcdhnhaaDoorFnBytes
import Derived.Test.YtfohldojcdhnhaaDoorBtRefB
namespace Go.Proofs.YtfohldojcdhnhaaDoor
open Go.RowKit
theorem Bl.nextK {B : Nat} {w' : World} {v : Value} {x k : Nat} (h : w'.ownsRow B 4 1 v (k + 1) (Bt.bls (Bt.bitsTo x k) ++ [.bool (x.testBit k)])) : w'.ownsRow B 4 1 v (k + 1) (Bt.bls (Bt.bitsTo x (k + 1))) := by
  rw [Bt.bitsTo_succ, Bt.bls_append]
  exact h
theorem bits_and1_i64 (a : Nat) (ha : a < 9223372036854775808) : bits .and .i64 (a : Int) 1 = ((a % 2 : Nat) : Int) := by
  have h1 : (BitVec.ofInt 64 (a : Int)).toNat = a := by
    rw [BitVec.ofInt_natCast, BitVec.toNat_ofNat]; exact Nat.mod_eq_of_lt (by omega)
  have h2 : (BitVec.ofInt 64 (1 : Int)).toNat = 1 := by decide
  show IntKind.i64.wrap ((BitVec.ofInt 64 (a : Int) &&& BitVec.ofInt 64 (1 : Int)).toNat : Int) = _
  rw [BitVec.toNat_and, h1, h2, Nat.and_one_is_mod, IntKind.wrap_i64]
  omega
theorem and1_test (x k : Nat) (hx : x < 9223372036854775808) : (bits .and .i64 ((x : Int) / 2 ^ k) 1 == 1) = x.testBit k := by
  have e : (x : Int) / 2 ^ k = ((x / 2 ^ k : Nat) : Int) := by simp
  have hl : x / 2 ^ k ≤ x := Nat.div_le_self _ _
  rw [e, bits_and1_i64 _ (by omega), Nat.testBit_eq_decide_div_mod_eq]
  generalize x / 2 ^ k % 2 = y
  by_cases h : y = 1
  · subst h; rfl
  · have h2 : ¬ ((y : Int) = 1) := by omega
    simp [h, h2]
set_option maxHeartbeats 1000000 in
theorem bitsOf_any (x N : Nat) (w : World) (hx : x < 9223372036854775808) (hN : N ≤ 64) :
    Calls Tryd.prog 40 #[.int .i64 (x : Nat), .int .i64 (N : Nat)] w fun e w' => ∃ v, e = .returned v ∧ w'.ownsRow w.heap.size 4 1 v N (Bt.bls (Bt.bitsTo x N)) ∧ Below w.heap.size w w' := by
  obtain ⟨i0, hi, hz0, hz1, hz2⟩ := info_parts Tryd.infoBool
  go_enter Tryd.func40, Tryd.ntmps40
  go_wp2
  go_loopw [5, 6] (fun vb i wr => ∃ k : Nat, k ≤ N ∧ i = .int .i64 k ∧ wr.ownsRow w.heap.size 4 1 vb k (Bt.bls (Bt.bitsTo x k)) ∧ Below w.heap.size w wr) (fun _ i _ => N - (intOf i).toNat)
  case atStart => exact ⟨0, by omega, rfl, World.ownsRow_nil _ _ _ _, Below.refl _ _⟩
  case round =>
    obtain ⟨k, hk, rfl, hown, hbel⟩ := hrel
    have hsz := hbel.size
    have HW := hidden hown
    have HBL := hidden hbel
    by_cases hlt : k < N
    · clear hown hbel
      go_wp2_with (at_builtin; refine wpList_append_one _ rfl (.tmp 12) (.tmp 18) 39 rfl w.heap.size 4 i0 (.bool false) 1 Tryd.underlying39 hi hz0 hz1 hz2 rfl u5 k (Bt.bls (Bt.bitsTo x k)) rfl (by exact HW.out.alloc _) _ 1 _ _ rfl (by exact heap_alloc_new _ _) rfl (by unfold maxLen; omega) (by omega) (by simp; omega) ?_; intro v2 w2 hown2 hgrow2; have HO2 := hidden hown2; have HG2 := hidden hgrow2; clear hown2 hgrow2)
      go_roundw
      case rel => exact ⟨k + 1, by omega, by go_num, Bl.nextK (by rw [← and1_test x k hx]; exact HO2.out), (HBL.out.alloc (by omega) _).grown HG2.out (by simp; omega) (fun j hj => (HW.out.lt j hj).1)⟩
      case measure => simp [intOf]; omega
    · obtain rfl : k = N := by omega
      clear hown hbel
      go_wp2
      go_ret
      exact ⟨_, rfl, HW.out, HBL.out⟩
end Go.Proofs.YtfohldojcdhnhaaDoor
