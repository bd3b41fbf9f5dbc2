/-
  The contracts of what laceworkref10 asks of a number: zero, side, top, low, at; by digits in a row of memory.
-/
import Derived.Laws.Rows
import Derived.Test.YthimbaflodphmaaDoorNuDig
namespace Go.Proofs.YthimbaflodphmaaDoor
open Go.RowKit
open Nu
namespace Nu
theorem bel_then {a b c : World} (h : Below a.heap.size a b) (k : Below b.heap.size b c) : Below a.heap.size a c := h.trans (k.mono h.size)
theorem bel_new (w : World) (o : Obj) : Below w.heap.size w (w.alloc o) := (Below.refl _ _).alloc (Nat.le_refl _) o
/-- So many digits in a block of memory. -/
def Dg (w : World) (g : Nat) (f : Nat → Nat) (L : Nat) : Prop := ∀ j, j < L → w.cell? ⟨g, j, none⟩ = some (.int .i64 ((f j : Nat) : Int))
/-- A number as the reference holds it. -/
def nv (neg : Bool) (g L cap : Nat) (p e : Int) : Value := .agg #[.bool neg, .slice (some ⟨g, 0, none⟩) L cap, .int .i64 p, .int .i64 e]
theorem Dg.below {w w' : World} {B g : Nat} {f : Nat → Nat} {L : Nat} (h : Dg w g f L) (hb : Below B w w') (hB : g < B) : Dg w' g f L := fun j hj => by
  rw [← h j hj]
  exact hb.cell hB
theorem Dg.alloc {w : World} {g : Nat} {f : Nat → Nat} {L : Nat} (h : Dg w g f L) (o : Obj) : Dg (w.alloc o) g f L := fun j hj => by
  have h1 := h j hj
  rw [← h1]
  exact (bel_new w o).cell (World.block_lt_of_cell? _ _ h1)
/-- The same number's digits, once they are cut at the end: where the first that isn't 0 stands, and the last. -/
structure Tips (f : Nat → Nat) (L i l : Nat) : Prop where
  lt : i < L
  ne : f i ≠ 0
  ahead : ∀ j, j < i → f j = 0
  lt2 : l < L
  ne2 : f l ≠ 0
  past : ∀ j, l < j → f j = 0
end Nu
theorem rZero10_any (neg : Bool) (g L cap : Nat) (p e : Int) (f : Nat → Nat) (w : World) (hD : Dg w g f L) (hL : L ≤ 1000000) (z : Bool) (hz : z = true ↔ ∀ j, j < L → f j = 0) :
    Calls Tryd.prog 25 #[nv neg g L cap p e] w fun e w' => e = .returned (.bool z) ∧ Below w.heap.size w w' := by
  have HD := hidden (hD.alloc (.cells #[.bool neg, .slice (some ⟨g, 0, none⟩) L cap, .int .i64 p, .int .i64 e] 47))
  have HZ := hidden hz
  clear hD hz
  unfold nv
  go_enter Tryd.func25, Tryd.ntmps25
  go_wp2_with fail
  go_loop [3] (fun v => ∃ k : Nat, k ≤ L ∧ Hid (∀ j, j < k → f j = 0) ∧ v = .int .i64 k) (fun v => L - (intOf v).toNat)
  case atStart => exact ⟨0, by omega, hidden (fun j hj => by omega), rfl⟩
  case round =>
    obtain ⟨k, hk, hz, rfl⟩ := hrel
    by_cases hlt : k < L
    · have hc := HD.out k hlt
      obtain ⟨d, hd⟩ : ∃ d, d = f k := ⟨_, rfl⟩
      rw [← hd] at hc
      have HF := hidden hd
      clear hd
      by_cases hd0 : d = 0
      · subst hd0
        have HN : Hid (∀ j, j < k + 1 → f j = 0) := hidden (fun j hj => by
          by_cases h : j = k
          · rw [h, ← HF.out]
          · exact hz.out j (by omega))
        go_wp2_with fail
        go_round
        case rel => exact ⟨k + 1, by omega, HN, by go_num⟩
        case measure => simp [intOf]; omega
      · have hdb : ((d : Int) == 0) = false := by rw [beq_eq_false_iff_ne]; omega
        have hzf : z = false := by
          cases z
          · rfl
          · exact absurd (HZ.out.1 rfl k hlt) (by rw [← HF.out]; exact hd0)
        subst hzf
        go_wp2_with fail
        go_ret
        exact ⟨rfl, bel_new _ _⟩
    · obtain rfl : k = L := by omega
      have hzt : z = true := HZ.out.2 hz.out
      subst hzt
      go_wp2_with fail
      go_ret
      exact ⟨rfl, bel_new _ _⟩
theorem rSide10_any (neg : Bool) (g L cap : Nat) (p e : Int) (f : Nat → Nat) (w : World) (hD : Dg w g f L) (hL : L ≤ 1000000) (z : Bool) (hz : z = true ↔ ∀ j, j < L → f j = 0) :
    Calls Tryd.prog 44 #[nv neg g L cap p e] w fun e w' => e = .returned (.int .i64 (if z then 0 else if neg then -1 else 1)) ∧ Below w.heap.size w w' := by
  have h := fun v hv => rZero10_any neg g L cap p e f v hv hL z hz
  unfold nv at h ⊢
  have H := hidden h
  have HD := hidden hD
  clear h hD hz
  cases z
  · cases neg
    · go_enter Tryd.func44, Tryd.ntmps44
      go_wp2_with fail
      refine (H.out _ (HD.out.alloc _)).mono ?_
      rintro e w2 ⟨rfl, hB⟩
      have c0 : w2.cell? ⟨w.heap.size, 0, none⟩ = some (.bool false) := (hB.cell (by simp)).trans (Lib.cell_of_heap (heap_alloc_new _ _) 0)
      have HB := hidden (bel_then (bel_new _ _) hB)
      clear hB
      go_wp2_with fail
      go_ret
      exact ⟨rfl, HB.out⟩
    · go_enter Tryd.func44, Tryd.ntmps44
      go_wp2_with fail
      refine (H.out _ (HD.out.alloc _)).mono ?_
      rintro e w2 ⟨rfl, hB⟩
      have c0 : w2.cell? ⟨w.heap.size, 0, none⟩ = some (.bool true) := (hB.cell (by simp)).trans (Lib.cell_of_heap (heap_alloc_new _ _) 0)
      have HB := hidden (bel_then (bel_new _ _) hB)
      clear hB
      go_wp2_with fail
      go_ret
      exact ⟨rfl, HB.out⟩
  · go_enter Tryd.func44, Tryd.ntmps44
    go_wp2_with fail
    refine (H.out _ (HD.out.alloc _)).mono ?_
    rintro e w2 ⟨rfl, hB⟩
    have c0 : w2.cell? ⟨w.heap.size, 0, none⟩ = some (.bool neg) := (hB.cell (by simp)).trans (Lib.cell_of_heap (heap_alloc_new _ _) 0)
    have HB := hidden (bel_then (bel_new _ _) hB)
    clear hB
    go_wp2_with fail
    go_ret
    exact ⟨rfl, HB.out⟩
theorem rTop10_any (neg : Bool) (g L cap : Nat) (p e : Int) (f : Nat → Nat) (w : World) (hD : Dg w g f L) (hL : L ≤ 1000000) (hp : -10000000000000 ≤ p ∧ p ≤ 10000000000000) (he : -10000000000000 ≤ e ∧ e ≤ 10000000000000) (i : Nat) (hi : i < L) (hne : f i ≠ 0) (hz : ∀ j, j < i → f j = 0) :
    Calls Tryd.prog 27 #[nv neg g L cap p e] w fun x w' => x = .returned (.int .i64 (p + e - 1 - i)) ∧ Below w.heap.size w w' := by
  have HD := hidden (hD.alloc (.cells #[.bool neg, .slice (some ⟨g, 0, none⟩) L cap, .int .i64 p, .int .i64 e] 47))
  have HZ := hidden hz
  have HE := hidden hne
  obtain ⟨hp1, hp2⟩ := hp
  obtain ⟨he1, he2⟩ := he
  clear hD hz hne
  unfold nv
  go_enter Tryd.func27, Tryd.ntmps27
  go_wp2_with fail
  go_loop [3] (fun v => ∃ k : Nat, k ≤ i ∧ v = .int .i64 k) (fun v => L - (intOf v).toNat)
  case atStart => exact ⟨0, by omega, rfl⟩
  case round =>
    obtain ⟨k, hk, rfl⟩ := hrel
    have hkL : k < L := by omega
    have hc := HD.out k hkL
    by_cases hlt : k < i
    · rw [HZ.out k hlt] at hc
      go_wp2_with fail
      go_round
      case rel => exact ⟨k + 1, by omega, by go_num⟩
      case measure => simp [intOf]; omega
    · obtain rfl : k = i := by omega
      obtain ⟨d, hd⟩ : ∃ d, d = f k := ⟨_, rfl⟩
      rw [← hd] at hc
      have hdb : ((d : Int) == 0) = false := by
        have := HE.out
        rw [← hd] at this
        rw [beq_eq_false_iff_ne]
        omega
      clear hd
      have w1 : IntKind.i64.wrap (p + e) = p + e := by rw [IntKind.wrap_i64]; omega
      have w2 : IntKind.i64.wrap (p + e - 1) = p + e - 1 := by rw [IntKind.wrap_i64]; omega
      have w3 : IntKind.i64.wrap (p + e - 1 - k) = p + e - 1 - k := by rw [IntKind.wrap_i64]; omega
      go_wp2_with fail
      go_ret
      exact ⟨rfl, bel_new _ _⟩
theorem rLow10_any (neg : Bool) (g L cap : Nat) (p e : Int) (f : Nat → Nat) (w : World) (hD : Dg w g f L) (hL : L ≤ 1000000) (hp : -10000000000000 ≤ p ∧ p ≤ 10000000000000) (he : -10000000000000 ≤ e ∧ e ≤ 10000000000000) (i : Nat) (hi : i < L) (hne : f i ≠ 0) (hz : ∀ j, i < j → f j = 0) :
    Calls Tryd.prog 26 #[nv neg g L cap p e] w fun x w' => x = .returned (.int .i64 (p + e - 1 - i)) ∧ Below w.heap.size w w' := by
  have HD := hidden (hD.alloc (.cells #[.bool neg, .slice (some ⟨g, 0, none⟩) L cap, .int .i64 p, .int .i64 e] 47))
  have HZ := hidden hz
  have HE := hidden hne
  obtain ⟨hp1, hp2⟩ := hp
  obtain ⟨he1, he2⟩ := he
  clear hD hz hne
  unfold nv
  have w0 : IntKind.i64.wrap ((L : Int) - 1) = (L : Int) - 1 := by rw [IntKind.wrap_i64]; omega
  go_enter Tryd.func26, Tryd.ntmps26
  go_wp2_with fail
  go_loop [3] (fun v => ∃ k : Nat, i ≤ k ∧ k < L ∧ v = .int .i64 k) (fun v => (intOf v).toNat)
  case atStart => exact ⟨L - 1, by omega, by omega, by congr 1; omega⟩
  case round =>
    obtain ⟨k, hk, hkL, rfl⟩ := hrel
    have hc := HD.out k hkL
    by_cases hlt : i < k
    · rw [HZ.out k hlt] at hc
      have w4 : IntKind.i64.wrap ((k : Int) - 1) = (k : Int) - 1 := by rw [IntKind.wrap_i64]; omega
      go_wp2_with fail
      go_round
      case rel => exact ⟨k - 1, by omega, by omega, by congr 1; omega⟩
      case measure => simp [intOf]; omega
    · obtain rfl : k = i := by omega
      obtain ⟨d, hd⟩ : ∃ d, d = f k := ⟨_, rfl⟩
      rw [← hd] at hc
      have hdb : ((d : Int) == 0) = false := by
        have := HE.out
        rw [← hd] at this
        rw [beq_eq_false_iff_ne]
        omega
      clear hd
      have w1 : IntKind.i64.wrap (p + e) = p + e := by rw [IntKind.wrap_i64]; omega
      have w2 : IntKind.i64.wrap (p + e - 1) = p + e - 1 := by rw [IntKind.wrap_i64]; omega
      have w3 : IntKind.i64.wrap (p + e - 1 - k) = p + e - 1 - k := by rw [IntKind.wrap_i64]; omega
      go_wp2_with fail
      go_ret
      exact ⟨rfl, bel_new _ _⟩
theorem rAt10_any (neg : Bool) (g L cap : Nat) (p e k : Int) (f : Nat → Nat) (w : World) (hD : Dg w g f L) (_hL : L ≤ 1000000) (hp : -10000000000000 ≤ p ∧ p ≤ 10000000000000) (he : -10000000000000 ≤ e ∧ e ≤ 10000000000000) (hk : -100000000000000 ≤ k ∧ k ≤ 100000000000000) (hz : ∀ j, L ≤ j → f j = 0) :
    Calls Tryd.prog 28 #[nv neg g L cap p e, .int .i64 k] w fun x w' => x = .returned (.int .i64 (dt f (p + e - 1) k : Nat)) ∧ Below w.heap.size w w' := by
  have HD := hidden (hD.alloc (.cells #[.bool neg, .slice (some ⟨g, 0, none⟩) L cap, .int .i64 p, .int .i64 e] 47))
  have HZ := hidden hz
  obtain ⟨hp1, hp2⟩ := hp
  obtain ⟨he1, he2⟩ := he
  obtain ⟨hk1, hk2⟩ := hk
  clear hD hz
  unfold nv
  have w1 : IntKind.i64.wrap (p + e) = p + e := by rw [IntKind.wrap_i64]; omega
  have w2 : IntKind.i64.wrap (p + e - 1) = p + e - 1 := by rw [IntKind.wrap_i64]; omega
  have w3 : IntKind.i64.wrap (p + e - 1 - k) = p + e - 1 - k := by rw [IntKind.wrap_i64]; omega
  by_cases h1 : p + e - 1 - k < 0
  · rw [show dt f (p + e - 1) k = 0 by unfold dt; rw [if_neg (by omega)]]
    go_enter Tryd.func28, Tryd.ntmps28
    go_wp2_with fail
    go_ret
    exact ⟨rfl, bel_new _ _⟩
  · obtain ⟨i, hi⟩ : ∃ i : Nat, p + e - 1 - k = i := ⟨(p + e - 1 - k).toNat, by omega⟩
    rw [show dt f (p + e - 1) k = f i by unfold dt; rw [if_pos (by omega), hi]; rfl]
    have w4 : IntKind.i64.wrap (p + e - 1 - k) = (i : Int) := by rw [w3, hi]
    clear h1 w3
    by_cases h2 : i < L
    · have hc := HD.out i h2
      clear hi
      go_enter Tryd.func28, Tryd.ntmps28
      go_wp2_with fail
      go_ret
      exact ⟨rfl, bel_new _ _⟩
    · rw [HZ.out i (by omega)]
      clear hi
      go_enter Tryd.func28, Tryd.ntmps28
      go_wp2_with fail
      go_ret
      exact ⟨rfl, bel_new _ _⟩
end Go.Proofs.YthimbaflodphmaaDoor
