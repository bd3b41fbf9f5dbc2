/-
  The contract of math/bits.Len64: of every word of 64 bits it returns how many bits the word takes; nothing in memory is changed.
-/
import Derived.Lib.Strings
import Derived.Lib.Slices
import Derived.Lib.Small
import Derived.Lib.Walk
import Derived.Lib.BitFns
import Derived.Below
import Derived.Test.YtoipliflphbeiaaGreatDoorRows
namespace Go.Proofs.YtoipliflphbeiaaGreatDoor
open Go.RowKit
namespace Wd
theorem len_fold (j l : Nat) (hj : j ≤ 56) (hl : l ≤ 8) :
    ((j : Int) + (((l : Int) + 9223372036854775808) % 18446744073709551616 - 9223372036854775808) + 9223372036854775808) % 18446744073709551616 - 9223372036854775808 = ((j + l : Nat) : Int) := by omega
theorem bitLen_cut (x j : Nat) (hx : x < 18446744073709551616) (hg : j = 0 ∨ 2 ^ j ≤ x) : Lib.bitLen x = j + Lib.bitLen (x / 2 ^ j) := by
  rcases hg with rfl | hg
  · simp
  · exact Lib.bitLen_shift j x hg hx
/-- The table's byte behind j bits that were cut off, and j. -/
theorem len_end (x y : Int) (n j : Nat) (hn : x = n) (hy : y = ((n / 2 ^ j : Nat) : Int)) (hx : n < 18446744073709551616) (hb : y < 256) (hj : j ≤ 56) (hg : j = 0 ∨ 2 ^ j ≤ n) :
    ((j : Int) + ((Lib.len8 (y % 256) + 9223372036854775808) % 18446744073709551616 - 9223372036854775808) + 9223372036854775808) % 18446744073709551616 - 9223372036854775808 = (Lib.bitLen x.toNat : Int) := by
  have hy0 : 0 ≤ y := by rw [hy]; exact Int.natCast_nonneg _
  have e0 : y % 256 = y := by clear hy; omega
  have e1 : Lib.len8 y = (Lib.bitLen y.toNat : Int) := Lib.len8_of y hy0 (by clear hy; omega)
  have l := Lib.bitLen_le8' y hy0 (by clear hy; omega)
  have s := bitLen_cut n j hx hg
  rw [e0, e1]
  rw [hy] at l ⊢
  rw [hn]
  rw [Int.toNat_natCast] at l ⊢
  rw [Int.toNat_natCast, s]
  exact len_fold j _ hj l
end Wd
set_option maxHeartbeats 1000000 in
set_option maxRecDepth 100000 in
theorem Len64_any (n : Nat) (w : World) (h1 : n < 18446744073709551616) :
    Calls Tryz.prog 138 #[.int .u64 n] w fun e w' => e = .returned (.int .i64 (Lib.bitLen n)) ∧ w' = w := by
  obtain ⟨x, hx⟩ : ∃ x : Int, x = n := ⟨_, rfl⟩
  have h0 : 0 ≤ x := by omega
  have hx1 : x < 18446744073709551616 := by omega
  have en : Lib.bitLen n = Lib.bitLen x.toNat := by rw [hx, Int.toNat_natCast]
  rw [← hx, en]
  clear en
  have HX : Hid (x = n) := hx
  clear hx
  go_enter Tryz.func138, Tryz.ntmps138
  go_wp2
  all_goals go_ret
  all_goals refine ⟨congrArg Ending.returned (congrArg (Value.int IntKind.i64) ?_), rfl⟩
  all_goals have hx := HX.out
  · exact Wd.len_end x (x / 4294967296 / 65536 / 256) n 56 hx (by omega) h1 (by omega) (by omega) (.inr (by omega))
  · exact Wd.len_end x (x / 4294967296 / 65536) n 48 hx (by omega) h1 (by omega) (by omega) (.inr (by omega))
  · exact Wd.len_end x (x / 4294967296 / 256) n 40 hx (by omega) h1 (by omega) (by omega) (.inr (by omega))
  · exact Wd.len_end x (x / 4294967296) n 32 hx (by omega) h1 (by omega) (by omega) (.inr (by omega))
  · exact Wd.len_end x (x / 65536 / 256) n 24 hx (by omega) h1 (by omega) (by omega) (.inr (by omega))
  · exact Wd.len_end x (x / 65536) n 16 hx (by omega) h1 (by omega) (by omega) (.inr (by omega))
  · exact Wd.len_end x (x / 256) n 8 hx (by omega) h1 (by omega) (by omega) (.inr (by omega))
  · have e : x % 256 = x := by omega
    rw [e]
    exact Lib.len8_int x h0 (by omega)
end Go.Proofs.YtoipliflphbeiaaGreatDoor
