/-
  The contracts of a chooser's One and Zero: for every chooser and every number; nothing that was there is changed.
-/
import Derived.Test.YtfohldojcdhnhaaDoorCkFind
import Derived.Deep.RegionHeld
namespace Go.Proofs.YtfohldojcdhnhaaDoor
open Go.RowKit
theorem below_undrewN {w w' : World} {m : Nat} (h : Below (w.drewN m).heap.size (w.drewN m) w') : Below w.heap.size w w' := ⟨h.os, h.tape, h.output, h.size, h.block⟩
set_option maxHeartbeats 1000000 in
theorem COne_of (c d g r n X b0 b1 : Nat) (k x y : Int) (u : Value) (w : World) (h : Cz w c d g r n X b0 b1 u)
    (hF : ∀ m, Calls Tryd.prog 64 #[.pointer (some ⟨c, 0, none⟩), .int .i64 k, .slice (some ⟨b0, 0, none⟩) (Ck.sn X n) (Ck.sn X n), .func (.func 61) #[.pointer (some ⟨d, 0, none⟩)] #[], .int .u64 0] (w.drewN m) fun e w' => e = .returned (.tuple #[.int .i64 x, .int .i64 y]) ∧ Below (w.drewN m).heap.size (w.drewN m) w') :
    Calls Tryd.prog 36 #[.pointer (some ⟨c, 0, none⟩), .int .i64 k] w fun e w' => e = .returned (.tuple #[.int .i64 x, .int .i64 y]) ∧ Below w.heap.size w w' := by
  have c0 := h.cell0
  have c1 := h.cell1
  have hcl := lt_of_block h.cells
  have HC := hidden h
  have hmf : ∀ (fn : Fn) (first cap : Array Value) (w : World), (Instr.makeFunc fn first cap).run Tryd.prog w = .ok (.func fn first cap) w := fun _ _ _ _ => rfl
  have HF := hidden hF
  clear h hF
  go_enter Tryd.func36, Tryd.ntmps36
  go_wp2_with fail
  go_region_held (fun w' => w'.cell? ⟨c, 0, none⟩ = some (.pointer (some ⟨d, 0, none⟩)) ∧ w'.cell? ⟨c, 1, none⟩ = some (.slice (some ⟨b0, 0, none⟩) (Ck.sn X n) (Ck.sn X n))) (first | (exact ⟨by assumption, by assumption⟩) | go_keep)
    (first
      | (go_at_call 64; refine (HF.out 1).mono ?_; rintro e' w' ⟨rfl, hb⟩; have HB := hidden (below_undrewN hb); clear hb; have e0 := (HB.out.cell (p := ⟨c, 0, none⟩) hcl).trans HC.out.cell0; have e1 := (HB.out.cell (p := ⟨c, 1, none⟩) hcl).trans HC.out.cell1))
  go_wp2_with fail
  go_ret2
  exact ⟨rfl, HB.out⟩
theorem COne_at (c d g r n X b0 b1 k p : Nat) (u : Value) (w : World) (h : Cz w c d g r n X b0 b1 u) (hT : Tab w) (hp : Ck.At X n k p) :
    Calls Tryd.prog 36 #[.pointer (some ⟨c, 0, none⟩), .int .i64 (k : Nat)] w fun e w' => e = .returned (.tuple #[.int .i64 (p : Nat), .int .i64 0]) ∧ Below w.heap.size w w' :=
  COne_of c d g r n X b0 b1 k p 0 u w h fun m => find_at 61 0 c d g r n X X b0 b0 b1 k p u _ (h.drewN m) h.ones (Kd.one d g r n X u) (Ck.View.same n X) (hT.drewN m) hp
theorem COne_none (c d g r n X b0 b1 : Nat) (k : Int) (u : Value) (w : World) (h : Cz w c d g r n X b0 b1 u) (hn : k < 0 ∨ ((Wd.ones X n : Nat) : Int) ≤ k) :
    Calls Tryd.prog 36 #[.pointer (some ⟨c, 0, none⟩), .int .i64 k] w fun e w' => e = .returned (.tuple #[.int .i64 0, .int .i64 2]) ∧ Below w.heap.size w w' :=
  COne_of c d g r n X b0 b1 k 0 2 u w h fun m => find_none 61 0 c d g r n X X b0 b0 b1 k u _ (h.drewN m) (Kd.one d g r n X u) hn
set_option maxHeartbeats 1000000 in
theorem CZero_of (c d g r n X b0 b1 : Nat) (k x y : Int) (u : Value) (w : World) (h : Cz w c d g r n X b0 b1 u)
    (hF : ∀ m, Calls Tryd.prog 64 #[.pointer (some ⟨c, 0, none⟩), .int .i64 k, .slice (some ⟨b1, 0, none⟩) (Ck.sn (Ck.tn X n) n) (Ck.sn (Ck.tn X n) n), .func (.func 63) #[.pointer (some ⟨d, 0, none⟩)] #[], .int .u64 18446744073709551615] (w.drewN m) fun e w' => e = .returned (.tuple #[.int .i64 x, .int .i64 y]) ∧ Below (w.drewN m).heap.size (w.drewN m) w') :
    Calls Tryd.prog 91 #[.pointer (some ⟨c, 0, none⟩), .int .i64 k] w fun e w' => e = .returned (.tuple #[.int .i64 x, .int .i64 y]) ∧ Below w.heap.size w w' := by
  have c0 := h.cell0
  have c1 := h.cell2
  have hcl := lt_of_block h.cells
  have HC := hidden h
  have hmf : ∀ (fn : Fn) (first cap : Array Value) (w : World), (Instr.makeFunc fn first cap).run Tryd.prog w = .ok (.func fn first cap) w := fun _ _ _ _ => rfl
  have HF := hidden hF
  clear h hF
  go_enter Tryd.func91, Tryd.ntmps91
  go_wp2_with fail
  go_region_held (fun w' => w'.cell? ⟨c, 0, none⟩ = some (.pointer (some ⟨d, 0, none⟩)) ∧ w'.cell? ⟨c, 2, none⟩ = some (.slice (some ⟨b1, 0, none⟩) (Ck.sn (Ck.tn X n) n) (Ck.sn (Ck.tn X n) n))) (first | (exact ⟨by assumption, by assumption⟩) | go_keep)
    (first
      | (go_at_call 64; refine (HF.out 1).mono ?_; rintro e' w' ⟨rfl, hb⟩; have HB := hidden (below_undrewN hb); clear hb; have e0 := (HB.out.cell (p := ⟨c, 0, none⟩) hcl).trans HC.out.cell0; have e1 := (HB.out.cell (p := ⟨c, 2, none⟩) hcl).trans HC.out.cell2))
  go_wp2_with fail
  go_ret2
  exact ⟨rfl, HB.out⟩
theorem CZero_at (c d g r n X b0 b1 k p : Nat) (u : Value) (w : World) (h : Cz w c d g r n X b0 b1 u) (hT : Tab w) (hp : Ck.At (Ck.tn X n) n k p) :
    Calls Tryd.prog 91 #[.pointer (some ⟨c, 0, none⟩), .int .i64 (k : Nat)] w fun e w' => e = .returned (.tuple #[.int .i64 (p : Nat), .int .i64 0]) ∧ Below w.heap.size w w' :=
  CZero_of c d g r n X b0 b1 k p 0 u w h fun m => find_at 63 18446744073709551615 c d g r n X (Ck.tn X n) b1 b0 b1 k p u _ (h.drewN m) h.zeros (Kd.zero d g r n X u) (Ck.View.turned n X h.dir.row.lt) (hT.drewN m) hp
theorem CZero_none (c d g r n X b0 b1 : Nat) (k : Int) (u : Value) (w : World) (h : Cz w c d g r n X b0 b1 u) (hn : k < 0 ∨ ((Wd.ones (Ck.tn X n) n : Nat) : Int) ≤ k) :
    Calls Tryd.prog 91 #[.pointer (some ⟨c, 0, none⟩), .int .i64 k] w fun e w' => e = .returned (.tuple #[.int .i64 0, .int .i64 2]) ∧ Below w.heap.size w w' :=
  CZero_of c d g r n X b0 b1 k 0 2 u w h fun m => find_none 63 18446744073709551615 c d g r n X (Ck.tn X n) b1 b0 b1 k u _ (h.drewN m) (Kd.zero d g r n X u) hn
end Go.Proofs.YtfohldojcdhnhaaDoor
