/-
  The contract of laceworkref09's Step: for every number and every byte; nothing that was there is changed.
-/
import Derived.Test.YteennbohfjiheaaUtRefP
namespace Go.Proofs.Yteennbohfjiheaa
open Go.RowKit
namespace Ut
def lo9 (k : Nat) : Nat := match k with | 0 => 0 | 1 => 194 | 2 => 224 | 3 => 225 | 4 => 237 | 5 => 238 | 6 => 240 | 7 => 241 | _ => 244
def hi9 (k : Nat) : Nat := match k with | 0 => 127 | 1 => 223 | 2 => 224 | 3 => 236 | 4 => 237 | 5 => 239 | 6 => 240 | 7 => 243 | _ => 244
def to9 (k : Nat) : Nat := match k with | 0 => 0 | 1 => 1 | 2 => 4 | 3 => 2 | 4 => 5 | 5 => 2 | 6 => 6 | 7 => 3 | _ => 7
def in9 (k b : Nat) : Prop := lo9 k ≤ b ∧ b ≤ hi9 k
theorem nine {k : Nat} (h : k < 9) : k = 0 ∨ k = 1 ∨ k = 2 ∨ k = 3 ∨ k = 4 ∨ k = 5 ∨ k = 6 ∨ k = 7 ∨ k = 8 := by omega
theorem st_in9 (k b : Nat) (hk : k < 9) (h1 : lo9 k ≤ b) (h2 : b ≤ hi9 k) : st 0 b = to9 k := by
  obtain ⟨x, hx⟩ : ∃ x, x = st 0 b := ⟨_, rfl⟩
  have hs := st0 b
  rw [← hx] at hs ⊢
  rcases nine hk with rfl | rfl | rfl | rfl | rfl | rfl | rfl | rfl | rfl
  all_goals simp only [lo9, hi9] at h1 h2
  all_goals simp only [to9]
  all_goals omega
theorem st_out9 (b : Nat) (h : ∀ k, k < 9 → ¬ (lo9 k ≤ b ∧ b ≤ hi9 k)) : st 0 b = 8 := by
  have h0 := h 0 (by decide)
  have h1 := h 1 (by decide)
  have h2 := h 2 (by decide)
  have h3 := h 3 (by decide)
  have h4 := h 4 (by decide)
  have h5 := h 5 (by decide)
  have h6 := h 6 (by decide)
  have h7 := h 7 (by decide)
  have h8 := h 8 (by decide)
  simp only [lo9, hi9] at h0 h1 h2 h3 h4 h5 h6 h7 h8
  have hs := st0 b
  omega
theorem lo9_lt (k : Nat) : lo9 k ≤ 244 ∧ hi9 k ≤ 244 := by
  unfold lo9 hi9
  repeat' split
  all_goals omega
end Ut
def arr9 (f : Nat → Nat) : Array Value := #[.int .i64 (f 0 : Nat), .int .i64 (f 1 : Nat), .int .i64 (f 2 : Nat), .int .i64 (f 3 : Nat), .int .i64 (f 4 : Nat), .int .i64 (f 5 : Nat), .int .i64 (f 6 : Nat), .int .i64 (f 7 : Nat), .int .i64 (f 8 : Nat)]
theorem arr9_at (f : Nat → Nat) (k : Nat) (h : k < 9) : (arr9 f)[k]? = some (.int .i64 (f k : Nat)) := by
  rcases Ut.nine h with rfl | rfl | rfl | rfl | rfl | rfl | rfl | rfl | rfl <;> rfl
set_option maxHeartbeats 2000000 in
set_option maxRecDepth 100000 in
theorem rStep_zero (b : Nat) (w : World) (hb : b < 256) :
    Calls Try.prog 11 #[.int .i64 0, .int .u8 (b : Nat)] w fun e w' => e = .returned (.int .i64 ((Ut.st 0 b : Nat) : Int)) ∧ Below w.heap.size w w' := by
  obtain ⟨wz, hwz⟩ : ∃ wz : World, wz = ((w.alloc (.cells (arr9 Ut.lo9) 3)).alloc (.cells (arr9 Ut.hi9) 3)).alloc (.cells (arr9 Ut.to9) 3) := ⟨_, rfl⟩
  have hz0 : wz.heap[w.heap.size]? = some (.cells (arr9 Ut.lo9) 3 (0, 0)) := by
    rw [hwz, Below.heap_alloc _ _ _ (by simp; omega), Below.heap_alloc _ _ _ (by simp), heap_alloc_new]
  have hz1 : wz.heap[w.heap.size + 1]? = some (.cells (arr9 Ut.hi9) 3 (0, 0)) := by
    rw [hwz, Below.heap_alloc _ _ _ (by simp)]
    exact heap_new_at (by simp)
  have hz2 : wz.heap[w.heap.size + 1 + 1]? = some (.cells (arr9 Ut.to9) 3 (0, 0)) := by
    rw [hwz]
    exact heap_new_at (by simp)
  have HB : Hid (Below w.heap.size w wz) := by
    show Below w.heap.size w wz
    rw [hwz]
    exact (((Below.refl _ _).alloc (Nat.le_refl _) _).alloc (by simp) _).alloc (by simp; omega) _
  have HWZ : (((w.alloc (.cells #[.int .i64 0, .int .i64 194, .int .i64 224, .int .i64 225, .int .i64 237, .int .i64 238, .int .i64 240, .int .i64 241, .int .i64 244] 3)).alloc (.cells #[.int .i64 127, .int .i64 223, .int .i64 224, .int .i64 236, .int .i64 237, .int .i64 239, .int .i64 240, .int .i64 243, .int .i64 244] 3)).alloc (.cells #[.int .i64 0, .int .i64 1, .int .i64 4, .int .i64 2, .int .i64 5, .int .i64 2, .int .i64 6, .int .i64 3, .int .i64 7] 3)) = wz := hwz.symm
  clear hwz
  have HH := hidden HWZ
  clear HWZ
  go_enter Try.func11, Try.ntmps11
  go_wp2_with fail
  rw [HH.out]
  go_loop [8] (fun i => ∃ k : Nat, k ≤ 9 ∧ i = .int .i64 k ∧ ∀ j, j < k → ¬ (Ut.lo9 j ≤ b ∧ b ≤ Ut.hi9 j)) (fun i => 9 - (intOf i).toNat)
  case atStart => exact ⟨0, by omega, rfl, fun j hj => by omega⟩
  case round =>
    obtain ⟨k, hk, rfl, hf⟩ := hrel
    have HF := hidden hf
    clear hf
    by_cases hlt : k < 9
    · have d0 : wz.cell? ⟨w.heap.size, k, none⟩ = some (.int .i64 (Ut.lo9 k : Nat)) := by rw [Lib.cell_of_heap hz0, arr9_at _ _ hlt]
      have d1 : wz.cell? ⟨w.heap.size + 1, k, none⟩ = some (.int .i64 (Ut.hi9 k : Nat)) := by rw [Lib.cell_of_heap hz1, arr9_at _ _ hlt]
      have d2 : wz.cell? ⟨w.heap.size + 1 + 1, k, none⟩ = some (.int .i64 (Ut.to9 k : Nat)) := by rw [Lib.cell_of_heap hz2, arr9_at _ _ hlt]
      have hst := hidden (Ut.st_in9 k b hlt)
      have hnx : Hid (¬ (Ut.lo9 k ≤ b ∧ b ≤ Ut.hi9 k) → ∀ j, j < k + 1 → ¬ (Ut.lo9 j ≤ b ∧ b ≤ Ut.hi9 j)) := fun hn j hj => by
        by_cases hjk : j < k
        · exact HF.out j hjk
        · obtain rfl : j = k := by omega
          exact hn
      have hl1 := (Ut.lo9_lt k).1
      have hl2 := (Ut.lo9_lt k).2
      obtain ⟨L, hL⟩ : ∃ L, L = Ut.lo9 k := ⟨_, rfl⟩
      obtain ⟨H, hH⟩ : ∃ H, H = Ut.hi9 k := ⟨_, rfl⟩
      obtain ⟨T, hT⟩ : ∃ T, T = Ut.to9 k := ⟨_, rfl⟩
      rw [← hL] at d0 hst hnx hl1
      rw [← hH] at d1 hst hnx hl2
      rw [← hT] at d2 hst
      clear hL hH hT hz0 hz1 hz2
      by_cases h1 : L ≤ b
      · by_cases h2 : b ≤ H
        · go_wp2_with fail
          go_ret
          rw [hst.out h1 h2]
          exact ⟨rfl, HB.out⟩
        · go_wp2_with fail
          go_round
          case rel => exact ⟨k + 1, by omega, by go_num, hnx.out (fun h => h2 h.2)⟩
          case measure => simp [intOf]; omega
      · go_wp2_with fail
        go_round
        case rel => exact ⟨k + 1, by omega, by go_num, hnx.out (fun h => h1 h.1)⟩
        case measure => simp [intOf]; omega
    · obtain rfl : k = 9 := by omega
      have hst := hidden (Ut.st_out9 b HF.out)
      clear hz0 hz1 hz2
      go_wp2_with fail
      go_ret
      rw [hst.out]
      exact ⟨rfl, HB.out⟩
theorem rStep_out (z : Int) (b : Nat) (w : World) (hz : z < 0 ∨ 7 < z) :
    Calls Try.prog 11 #[.int .i64 z, .int .u8 (b : Nat)] w fun e w' => e = .returned (.int .i64 8) ∧ w' = w := by
  rcases hz with hz | hz
  · go_enter Try.func11, Try.ntmps11
    go_wp2_with fail
    go_ret
    exact ⟨rfl, rfl⟩
  · go_enter Try.func11, Try.ntmps11
    go_wp2_with fail
    go_ret
    exact ⟨rfl, rfl⟩
set_option maxHeartbeats 2000000 in
set_option maxRecDepth 100000 in
theorem rStep_1 (b : Nat) (w : World) :
    Calls Try.prog 11 #[.int .i64 1, .int .u8 (b : Nat)] w fun e w' => e = .returned (.int .i64 ((Ut.st 1 b : Nat) : Int)) ∧ Below w.heap.size w w' := by
  rw [show Ut.st 1 b = if 128 ≤ b ∧ b ≤ 191 then 0 else 8 from rfl]
  by_cases h1 : b < 128
  · rw [if_neg (by omega)]
    go_enter Try.func11, Try.ntmps11
    go_wp2_with fail
    go_ret
    exact ⟨rfl, (((Below.refl _ _).alloc (Nat.le_refl _) _).alloc (by simp) _).alloc (by simp; omega) _⟩
  · by_cases h2 : 191 < b
    · rw [if_neg (by omega)]
      go_enter Try.func11, Try.ntmps11
      go_wp2_with fail
      go_ret
      exact ⟨rfl, (((Below.refl _ _).alloc (Nat.le_refl _) _).alloc (by simp) _).alloc (by simp; omega) _⟩
    · rw [if_pos (by omega)]
      go_enter Try.func11, Try.ntmps11
      go_wp2_with fail
      go_ret
      exact ⟨rfl, (((Below.refl _ _).alloc (Nat.le_refl _) _).alloc (by simp) _).alloc (by simp; omega) _⟩
set_option maxHeartbeats 2000000 in
set_option maxRecDepth 100000 in
theorem rStep_2 (b : Nat) (w : World) :
    Calls Try.prog 11 #[.int .i64 2, .int .u8 (b : Nat)] w fun e w' => e = .returned (.int .i64 ((Ut.st 2 b : Nat) : Int)) ∧ Below w.heap.size w w' := by
  rw [show Ut.st 2 b = if 128 ≤ b ∧ b ≤ 191 then 1 else 8 from rfl]
  by_cases h1 : b < 128
  · rw [if_neg (by omega)]
    go_enter Try.func11, Try.ntmps11
    go_wp2_with fail
    go_ret
    exact ⟨rfl, (((Below.refl _ _).alloc (Nat.le_refl _) _).alloc (by simp) _).alloc (by simp; omega) _⟩
  · by_cases h2 : 191 < b
    · rw [if_neg (by omega)]
      go_enter Try.func11, Try.ntmps11
      go_wp2_with fail
      go_ret
      exact ⟨rfl, (((Below.refl _ _).alloc (Nat.le_refl _) _).alloc (by simp) _).alloc (by simp; omega) _⟩
    · rw [if_pos (by omega)]
      go_enter Try.func11, Try.ntmps11
      go_wp2_with fail
      go_ret
      exact ⟨rfl, (((Below.refl _ _).alloc (Nat.le_refl _) _).alloc (by simp) _).alloc (by simp; omega) _⟩
set_option maxHeartbeats 2000000 in
set_option maxRecDepth 100000 in
theorem rStep_3 (b : Nat) (w : World) :
    Calls Try.prog 11 #[.int .i64 3, .int .u8 (b : Nat)] w fun e w' => e = .returned (.int .i64 ((Ut.st 3 b : Nat) : Int)) ∧ Below w.heap.size w w' := by
  rw [show Ut.st 3 b = if 128 ≤ b ∧ b ≤ 191 then 2 else 8 from rfl]
  by_cases h1 : b < 128
  · rw [if_neg (by omega)]
    go_enter Try.func11, Try.ntmps11
    go_wp2_with fail
    go_ret
    exact ⟨rfl, (((Below.refl _ _).alloc (Nat.le_refl _) _).alloc (by simp) _).alloc (by simp; omega) _⟩
  · by_cases h2 : 191 < b
    · rw [if_neg (by omega)]
      go_enter Try.func11, Try.ntmps11
      go_wp2_with fail
      go_ret
      exact ⟨rfl, (((Below.refl _ _).alloc (Nat.le_refl _) _).alloc (by simp) _).alloc (by simp; omega) _⟩
    · rw [if_pos (by omega)]
      go_enter Try.func11, Try.ntmps11
      go_wp2_with fail
      go_ret
      exact ⟨rfl, (((Below.refl _ _).alloc (Nat.le_refl _) _).alloc (by simp) _).alloc (by simp; omega) _⟩
set_option maxHeartbeats 2000000 in
set_option maxRecDepth 100000 in
theorem rStep_4 (b : Nat) (w : World) :
    Calls Try.prog 11 #[.int .i64 4, .int .u8 (b : Nat)] w fun e w' => e = .returned (.int .i64 ((Ut.st 4 b : Nat) : Int)) ∧ Below w.heap.size w w' := by
  rw [show Ut.st 4 b = if 160 ≤ b ∧ b ≤ 191 then 1 else 8 from rfl]
  by_cases h1 : b < 160
  · rw [if_neg (by omega)]
    go_enter Try.func11, Try.ntmps11
    go_wp2_with fail
    go_ret
    exact ⟨rfl, (((Below.refl _ _).alloc (Nat.le_refl _) _).alloc (by simp) _).alloc (by simp; omega) _⟩
  · by_cases h2 : 191 < b
    · rw [if_neg (by omega)]
      go_enter Try.func11, Try.ntmps11
      go_wp2_with fail
      go_ret
      exact ⟨rfl, (((Below.refl _ _).alloc (Nat.le_refl _) _).alloc (by simp) _).alloc (by simp; omega) _⟩
    · rw [if_pos (by omega)]
      go_enter Try.func11, Try.ntmps11
      go_wp2_with fail
      go_ret
      exact ⟨rfl, (((Below.refl _ _).alloc (Nat.le_refl _) _).alloc (by simp) _).alloc (by simp; omega) _⟩
set_option maxHeartbeats 2000000 in
set_option maxRecDepth 100000 in
theorem rStep_5 (b : Nat) (w : World) :
    Calls Try.prog 11 #[.int .i64 5, .int .u8 (b : Nat)] w fun e w' => e = .returned (.int .i64 ((Ut.st 5 b : Nat) : Int)) ∧ Below w.heap.size w w' := by
  rw [show Ut.st 5 b = if 128 ≤ b ∧ b ≤ 159 then 1 else 8 from rfl]
  by_cases h1 : b < 128
  · rw [if_neg (by omega)]
    go_enter Try.func11, Try.ntmps11
    go_wp2_with fail
    go_ret
    exact ⟨rfl, (((Below.refl _ _).alloc (Nat.le_refl _) _).alloc (by simp) _).alloc (by simp; omega) _⟩
  · by_cases h2 : 159 < b
    · rw [if_neg (by omega)]
      go_enter Try.func11, Try.ntmps11
      go_wp2_with fail
      go_ret
      exact ⟨rfl, (((Below.refl _ _).alloc (Nat.le_refl _) _).alloc (by simp) _).alloc (by simp; omega) _⟩
    · rw [if_pos (by omega)]
      go_enter Try.func11, Try.ntmps11
      go_wp2_with fail
      go_ret
      exact ⟨rfl, (((Below.refl _ _).alloc (Nat.le_refl _) _).alloc (by simp) _).alloc (by simp; omega) _⟩
set_option maxHeartbeats 2000000 in
set_option maxRecDepth 100000 in
theorem rStep_6 (b : Nat) (w : World) :
    Calls Try.prog 11 #[.int .i64 6, .int .u8 (b : Nat)] w fun e w' => e = .returned (.int .i64 ((Ut.st 6 b : Nat) : Int)) ∧ Below w.heap.size w w' := by
  rw [show Ut.st 6 b = if 144 ≤ b ∧ b ≤ 191 then 2 else 8 from rfl]
  by_cases h1 : b < 144
  · rw [if_neg (by omega)]
    go_enter Try.func11, Try.ntmps11
    go_wp2_with fail
    go_ret
    exact ⟨rfl, (((Below.refl _ _).alloc (Nat.le_refl _) _).alloc (by simp) _).alloc (by simp; omega) _⟩
  · by_cases h2 : 191 < b
    · rw [if_neg (by omega)]
      go_enter Try.func11, Try.ntmps11
      go_wp2_with fail
      go_ret
      exact ⟨rfl, (((Below.refl _ _).alloc (Nat.le_refl _) _).alloc (by simp) _).alloc (by simp; omega) _⟩
    · rw [if_pos (by omega)]
      go_enter Try.func11, Try.ntmps11
      go_wp2_with fail
      go_ret
      exact ⟨rfl, (((Below.refl _ _).alloc (Nat.le_refl _) _).alloc (by simp) _).alloc (by simp; omega) _⟩
set_option maxHeartbeats 2000000 in
set_option maxRecDepth 100000 in
theorem rStep_7 (b : Nat) (w : World) :
    Calls Try.prog 11 #[.int .i64 7, .int .u8 (b : Nat)] w fun e w' => e = .returned (.int .i64 ((Ut.st 7 b : Nat) : Int)) ∧ Below w.heap.size w w' := by
  rw [show Ut.st 7 b = if 128 ≤ b ∧ b ≤ 143 then 2 else 8 from rfl]
  by_cases h1 : b < 128
  · rw [if_neg (by omega)]
    go_enter Try.func11, Try.ntmps11
    go_wp2_with fail
    go_ret
    exact ⟨rfl, (((Below.refl _ _).alloc (Nat.le_refl _) _).alloc (by simp) _).alloc (by simp; omega) _⟩
  · by_cases h2 : 143 < b
    · rw [if_neg (by omega)]
      go_enter Try.func11, Try.ntmps11
      go_wp2_with fail
      go_ret
      exact ⟨rfl, (((Below.refl _ _).alloc (Nat.le_refl _) _).alloc (by simp) _).alloc (by simp; omega) _⟩
    · rw [if_pos (by omega)]
      go_enter Try.func11, Try.ntmps11
      go_wp2_with fail
      go_ret
      exact ⟨rfl, (((Below.refl _ _).alloc (Nat.le_refl _) _).alloc (by simp) _).alloc (by simp; omega) _⟩
theorem rStep_any (z : Int) (b : Nat) (w : World) (hb : b < 256) :
    Calls Try.prog 11 #[.int .i64 z, .int .u8 (b : Nat)] w fun e w' => e = .returned (.int .i64 ((Ut.stz z b : Nat) : Int)) ∧ Below w.heap.size w w' := by
  by_cases hz : z < 0 ∨ 7 < z
  · rw [show Ut.stz z b = 8 from if_pos hz]
    refine (rStep_out z b w hz).mono ?_
    rintro e w' ⟨rfl, rfl⟩
    exact ⟨rfl, Below.refl _ _⟩
  · obtain rfl | rfl | rfl | rfl | rfl | rfl | rfl | rfl : z = 0 ∨ z = 1 ∨ z = 2 ∨ z = 3 ∨ z = 4 ∨ z = 5 ∨ z = 6 ∨ z = 7 := by omega
    · exact rStep_zero b w hb
    · exact rStep_1 b w
    · exact rStep_2 b w
    · exact rStep_3 b w
    · exact rStep_4 b w
    · exact rStep_5 b w
    · exact rStep_6 b w
    · exact rStep_7 b w
end Go.Proofs.Yteennbohfjiheaa
