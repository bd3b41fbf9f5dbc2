/-
  The contract of a nest's Size: what its tree and its chooser take.
-/
import Derived.Deep.QuietTactic
import Derived.Test.YtoipliflphbeiaaGreatDoorNsAsk
namespace Go.Proofs.YtoipliflphbeiaaGreatDoor
open Go Go.RowKit
set_option maxHeartbeats 1000000 in
theorem NSize_any (z n X : Nat) (k : NK) (w : World) (h : Nt w z n X k) :
    Calls Tryz.prog 85 #[.pointer (some ⟨z, 0, none⟩)] w fun e w' => e = .returned (.int .i64 ((Mx.sz n k.m + Ck.sz X n : Nat) : Int)) ∧ ∃ m, w' = w.drewN m := by
  have c0 := h.cell0
  have c1 := h.cell1
  have h1 := Mx.sz_le n k.m (fun i hi => h.tree.more i hi)
  have h2 := Ck.sz_le X n h.ok.lt
  have hl := h.len
  have HA := hidden (fun m => TSize_any k.t k.r n X k.u k.gs k.m (w.drewN m) (h.tree.below (drewN_below (Below.refl _ _) m) (Nat.le_refl _)))
  have HB := hidden (fun m => CSize_any k.c k.d k.g k.r n X k.b0 k.b1 k.u (w.drewN m) (h.places.below (drewN_below (Below.refl _ _) m) (Nat.le_refl _)))
  generalize Mx.sz n k.m = s0 at *
  generalize Ck.sz X n = s1 at *
  have h3 : s0 ≤ 17179869184 := by omega
  have h4 : s1 ≤ 17179869184 := by omega
  clear h h1 h2
  go_enter Tryz.func85, Tryz.ntmps85
  go_wp2_with fail
  go_quiet (first
    | (go_at_call 117; exact Calls.quiet_of_same (HA.out _))
    | (go_at_call 116; exact Calls.quiet_of (HB.out _)))
  go_wp2_with fail
  go_ret
  refine ⟨ret_int ?_, nq, rfl⟩
  omega
end Go.Proofs.YtoipliflphbeiaaGreatDoor
