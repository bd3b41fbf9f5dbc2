/-
  The contracts of paren's ends and field, and of the two functions that read a stretch's bits from its beginning, or from its end, on: for every row; nothing in memory is changed.
-/
import Derived.Test.YtdjhpfojbnikdaaPnRev
import Derived.Test.YtdjhpfojbnikdaaBtList
import Derived.Shelf.Abstract
namespace Go.Proofs.Ytdjhpfojbnikdaa
open Go.RowKit
set_option maxHeartbeats 400000 in
theorem ends_any (r n X : Nat) (a t : Int) (u : Value) (w : World) (h : Rw w r n X u) :
    Calls Try.prog 44 #[.pointer (some ⟨r, 0, none⟩), .int .i64 a, .int .i64 t] w fun e w' => e = .returned (.tuple #[.int .i64 (Pn.fr n a : Nat), .int .i64 (Pn.to n a t : Nat)]) ∧ w' = w := by
  have h1 := Pn.fr_cast n a
  have h2 := Pn.to_cast n a t
  generalize Pn.fr n a = f at *
  generalize Pn.to n a t = g at *
  have HR := hidden h
  have hl := h.len
  clear h
  go_enter Try.func44, Try.ntmps44
  go_wp2_with (go_at_call 27; refine (RLen_any r _ _ u _ HR.out).mono ?_; rintro e w1 ⟨rfl, rfl⟩)
  go_ret2
  exact ⟨rfl, rfl⟩
set_option maxHeartbeats 400000 in
/-- The n bits from a on, which are there. -/
theorem pfield_in (r m X a n : Nat) (u : Value) (w : World) (h : Rw w r m X u) (hn : n ≤ 64) (ha : a + n ≤ m) :
    Calls Try.prog 47 #[.pointer (some ⟨r, 0, none⟩), .int .i64 (a : Nat), .int .i64 (n : Nat)] w fun e w' => e = .returned (.int .u64 ((Bt.fd X a n : Nat) : Int)) ∧ w' = w := by
  have HR := hidden h
  have hl := h.len
  clear h
  go_enter Try.func47, Try.ntmps47
  go_wp2_with (go_at_call 57; refine (RField_in r m X a n u _ HR.out hn (by omega)).mono ?_; rintro e w1 ⟨rfl, rfl⟩)
  go_ret
  exact ⟨rfl, rfl⟩
theorem Pn.fd_forth (X a j k : Nat) : Bt.fd X (a + j) k = Bt.fd (X / 2 ^ a) j k := by
  unfold Bt.fd
  rw [Nat.pow_add, Nat.div_div_eq_div_mul]
theorem Pn.fd_back (X b j k : Nat) (h : j + k ≤ b) : Pn.rv (Bt.fd X (b - j - k) k) k = Bt.fd (Pn.rv X b) j k := Pn.rv_word X b j k h
/-- A function that reads up to 64 of the n bits of Y, as words; it changes nothing. -/
structure Rd (f n Y : Nat) (cb : Array Value) (w : World) : Prop where
  enters : ∀ args w, (callFunc f args).run Try.prog w = .ok (.enter f args) w
  reads : ∀ j k : Nat, k ≤ 64 → j + k ≤ n → Calls Try.prog f (#[.int .i64 (j : Nat), .int .i64 (k : Nat)] ++ cb) w fun e w' => e = .returned (.int .u64 ((Bt.fd Y j k : Nat) : Int)) ∧ w' = w
set_option maxHeartbeats 400000 in
theorem forth_reads (r m X a b p q : Nat) (u : Value) (w : World) (h : Rw w r m X u) (hab : a ≤ b) (hb : b ≤ m) (cp : w.cell? ⟨p, 0, none⟩ = some (.pointer (some ⟨r, 0, none⟩))) (cq : w.cell? ⟨q, 0, none⟩ = some (.int .i64 (a : Nat))) :
    Rd 46 (b - a) (X / 2 ^ a) #[.pointer (some ⟨p, 0, none⟩), .pointer (some ⟨q, 0, none⟩)] w := by
  refine ⟨enters_of Try.func46 (by kernel_rfl) rfl, fun j k hk hj => ?_⟩
  rw [← Pn.fd_forth]
  have HR := hidden h
  have hl := h.len
  have hs : (a : Int) + (j : Int) = ((a + j : Nat) : Int) := by omega
  have hs2 : a + j + k ≤ m := by omega
  generalize a + j = s at *
  clear h
  show Calls Try.prog 46 #[.int .i64 (j : Nat), .int .i64 (k : Nat), .pointer (some ⟨p, 0, none⟩), .pointer (some ⟨q, 0, none⟩)] w _
  go_enter Try.func46, Try.ntmps46
  go_wp2_with (go_at_call 47; refine (pfield_in r m X s k u _ HR.out hk hs2).mono ?_; rintro e w1 ⟨rfl, rfl⟩)
  go_ret
  exact ⟨rfl, rfl⟩
set_option maxHeartbeats 400000 in
theorem back_reads (r m X a b p q : Nat) (u : Value) (w : World) (h : Rw w r m X u) (hab : a ≤ b) (hb : b ≤ m) (cp : w.cell? ⟨p, 0, none⟩ = some (.pointer (some ⟨r, 0, none⟩))) (cq : w.cell? ⟨q, 0, none⟩ = some (.int .i64 (b : Nat))) :
    Rd 50 (b - a) (Pn.rv X b) #[.pointer (some ⟨p, 0, none⟩), .pointer (some ⟨q, 0, none⟩)] w := by
  refine ⟨enters_of Try.func50 (by kernel_rfl) rfl, fun j k hk hj => ?_⟩
  rw [← Pn.fd_back X b j k (by omega)]
  have HR := hidden h
  have hl := h.len
  have hs0 : (b : Int) - (j : Int) - (k : Int) = ((b - j - k : Nat) : Int) := by omega
  have hs2 : b - j - k + k ≤ m := by omega
  have hj1 : (b : Int) - (j : Int) = ((b - j : Nat) : Int) := by omega
  generalize b - j = b1 at *
  have hs : (b1 : Int) - (k : Int) = ((b1 - k : Nat) : Int) := by omega
  generalize b1 - k = s at *
  clear h hs0
  show Calls Try.prog 50 #[.int .i64 (j : Nat), .int .i64 (k : Nat), .pointer (some ⟨p, 0, none⟩), .pointer (some ⟨q, 0, none⟩)] w _
  go_enter Try.func50, Try.ntmps50
  go_wp2_with (first
    | (go_at_call 47; refine (pfield_in r m X s k u _ HR.out hk hs2).mono ?_; rintro e w1 ⟨rfl, rfl⟩)
    | (go_at_call 51; refine (turned_any _ k _ hk).mono ?_; rintro e w1 ⟨rfl, rfl⟩))
  go_ret
  exact ⟨rfl, rfl⟩
end Go.Proofs.Ytdjhpfojbnikdaa
