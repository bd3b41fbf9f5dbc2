/-
  The contracts of layer 3's awake, and of its reference One and Zero: for every list of bits and every number.
-/
import Derived.Test.YtfohldojcdhnhaaDoorRkDir
namespace Go.Proofs.YtfohldojcdhnhaaDoor
open Go.RowKit
theorem Bt.cf_nat (n : Nat) (i : Nat) (h : i ≤ n) : Bt.cf n (i : Int) = i := by unfold Bt.cf; omega
theorem Bt.cf_of (n : Nat) (i : Int) (p : Nat) (h : min (max i 0) (n : Int) = (p : Int)) : Bt.cf n i = p := by unfold Bt.cf; omega
theorem below_drewN {B : Nat} {w w' : World} (h : Below B w w') (m : Nat) : Below B w (w'.drewN m) := ⟨h.os, h.tape, h.output, h.size, h.block⟩
theorem Bv.drewN {w : World} {v : Value} {L : List Bool} (h : Bv w v L) (m : Nat) : Bv (w.drewN m) v L := h
theorem One_at (d g r n X : Nat) (i : Int) (p : Nat) (u : Value) (w : World) (h : Dr w d g r n X u) (hp : Bt.cf n i = p) :
    Calls Tryd.prog 61 #[.pointer (some ⟨d, 0, none⟩), .int .i64 i] w fun e w' => e = .returned (.int .i64 ((Wd.ones X p : Nat) : Int)) ∧ ∃ m, w' = w.drewN m := hp ▸ One_any d g r n X i u w h
theorem Zero_at (d g r n X : Nat) (i : Int) (p : Nat) (u : Value) (w : World) (h : Dr w d g r n X u) (hp : Bt.cf n i = p) :
    Calls Tryd.prog 63 #[.pointer (some ⟨d, 0, none⟩), .int .i64 i] w fun e w' => e = .returned (.int .i64 ((p : Int) - ((Wd.ones X p : Nat) : Int))) ∧ ∃ m, w' = w.drewN m := hp ▸ Zero_any d g r n X i u w h
end Go.Proofs.YtfohldojcdhnhaaDoor
