/-
  The contracts of rising, shapeOf, lows, highs, all, fits and fill of package fano.
-/
import Derived.Test.YtfohldojcdhnhaaDoorFnMath
import Derived.Test.YtfohldojcdhnhaaDoorCkOne
import Derived.Test.YtfohldojcdhnhaaDoorOpenInts
import Derived.Test.YtfohldojcdhnhaaDoorWdLen
namespace Go.Proofs.YtfohldojcdhnhaaDoor
open Go.RowKit
theorem cell_after {w w' : World} {p : Addr} {v : Value} (hb : Below w.heap.size w w') (h : w.cell? p = some v) : w'.cell? p = some v :=
  (hb.cell (World.block_lt_of_cell? w p h)).trans h
theorem below_after {B : Nat} {w w' w'' : World} (h : Below B w w') (hb : Below w'.heap.size w' w'') (hB : B ≤ w.heap.size := by exact Nat.le_refl _) : Below B w w'' := h.trans (hb.mono (Nat.le_trans hB h.size))
namespace Fn
/-- The last of the first k numbers, 0 of none. -/
def lastI (li : List Int) (k : Nat) : Int := if k = 0 then 0 else li.getD (k - 1) 0
/-- The first k numbers are from 0 on, below b, and rise. -/
def Ris (li : List Int) (b : Int) (k : Nat) : Prop := ∀ i, i < k → lastI li i ≤ li.getD i 0 ∧ li.getD i 0 < b
theorem Ris.next {li : List Int} {b : Int} {k : Nat} (h : Ris li b k) (h1 : lastI li k ≤ li.getD k 0) (h2 : li.getD k 0 < b) : Ris li b (k + 1) := by
  intro i hi
  rcases Nat.lt_or_ge i k with hl | hl
  · exact h i hl
  · obtain rfl : i = k := by omega
    exact ⟨h1, h2⟩
theorem lastI_succ (li : List Int) (k : Nat) : lastI li (k + 1) = li.getD k 0 := by unfold lastI; simp
def RisPost (li : List Int) (b : Int) (e : Ending) : Prop := ∃ r, e = .returned (.bool r) ∧ (r = true ↔ Ris li b li.length)
theorem RisPost.yes {li : List Int} {b : Int} {e : Ending} (h : Ris li b li.length) (he : e = .returned (.bool true)) : RisPost li b e := ⟨true, he, ⟨fun _ => h, fun _ => rfl⟩⟩
theorem RisPost.no {li : List Int} {b : Int} {e : Ending} (h : ¬ Ris li b li.length) (he : e = .returned (.bool false)) : RisPost li b e := ⟨false, he, ⟨(fun h => by cases h), fun g => absurd g h⟩⟩
end Fn
theorem Ints.at {w : World} {u : Value} {l : List Int} (h : Ints w u l) {k : Nat} (hk : k < l.length) : ∃ b off cap, u = .slice (some ⟨b, off, none⟩) l.length cap ∧ l.length ≤ cap ∧ b < w.heap.size ∧ w.cell? ⟨b, off + k, none⟩ = some (.int .i64 (l.getD k 0)) := by
  obtain ⟨ao, cap, hu, hc, hf⟩ := h.cells
  obtain ⟨b, off, ha, hlt, hcell⟩ := hf (by omega)
  exact ⟨b, off, cap, by rw [hu, ha], hc, hlt, hcell k hk⟩
set_option maxHeartbeats 1000000 in
theorem rising_any (li : List Int) (b : Int) (u : Value) (w : World) (h : Ints w u li) (hl : li.length ≤ 9223372036854775807) :
    Calls Tryd.prog 31 #[u, .int .i64 b] w fun e w' => Fn.RisPost li b e ∧ w' = w := by
  obtain ⟨ao, cap, rfl, hcap, hc⟩ := h.cells
  have HC := hidden hc
  clear hc h
  go_enter Tryd.func31, Tryd.ntmps31
  go_wp2
  go_loopw [5, 10] (fun v i wr => ∃ k : Nat, k ≤ li.length ∧ i = .int .i64 k ∧ v = .int .i64 (Fn.lastI li k) ∧ Fn.Ris li b k ∧ wr = w) (fun _ i _ => li.length - (intOf i).toNat)
  case atStart => exact ⟨0, by omega, rfl, rfl, fun i hi => by omega, rfl⟩
  case round =>
    obtain ⟨k, hk, rfl, rfl, hr, rfl⟩ := hrel
    have HR := hidden hr
    clear hr
    by_cases hlt : k < li.length
    · obtain ⟨g, off, rfl, hg, hcell⟩ := HC.out (by omega)
      have c0 := hcell k hlt
      obtain ⟨x, hx⟩ : ∃ x, x = li.getD k 0 := ⟨_, rfl⟩
      obtain ⟨y, hy⟩ : ∃ y, y = Fn.lastI li k := ⟨_, rfl⟩
      rw [← hx] at c0
      rw [← hy]
      have HX := hidden hx
      have HY := hidden hy
      clear hcell hx hy
      by_cases h1 : x < y
      · have d1 : decide (x < y) = true := by simpa using h1
        go_wp2
        go_ret
        refine ⟨Fn.RisPost.no (fun g => ?_) rfl, rfl⟩
        have := (g k hlt).1
        rw [← HX.out, ← HY.out] at this
        omega
      · have d1 : decide (x < y) = false := by simpa using h1
        by_cases h2 : b ≤ x
        · have d2 : decide (b ≤ x) = true := by simpa using h2
          go_wp2
          go_ret
          refine ⟨Fn.RisPost.no (fun g => ?_) rfl, rfl⟩
          have := (g k hlt).2
          rw [← HX.out] at this
          omega
        · have d2 : decide (b ≤ x) = false := by simpa using h2
          go_wp2
          go_roundw
          case rel => exact ⟨k + 1, by omega, by go_num, by rw [Fn.lastI_succ, ← HX.out], HR.out.next (by rw [← HX.out, ← HY.out]; omega) (by rw [← HX.out]; omega), trivial⟩
          case measure => simp [intOf]; omega
    · obtain rfl : k = li.length := by omega
      go_wp2
      go_ret
      exact ⟨Fn.RisPost.yes HR.out rfl, rfl⟩
theorem Tryd.sizeShape : (Tryd.prog.info? 50).map (·.size) = some 3 := by kernel_rfl
/-- A shape, as a value. -/
def Fn.sh (n u : Nat) : Value := .agg #[.int .i64 (n : Nat), .int .i64 (u : Nat), .int .i64 ((Fn.wdt n u : Nat) : Int)]
theorem ret_shape {n u : Nat} {a b c : Int} (h1 : a = (n : Int)) (h2 : b = (u : Int)) (h3 : c = ((Fn.wdt n u : Nat) : Int)) : Ending.returned (.agg #[.int .i64 a, .int .i64 b, .int .i64 c]) = .returned (Fn.sh n u) := by rw [h1, h2, h3]; rfl
set_option maxHeartbeats 1000000 in
set_option maxRecDepth 100000 in
theorem shapeOf_any (n u : Nat) (w : World) (hn : n < 16777216) (hu : u < 2199023255552) :
    Calls Tryd.prog 32 #[.int .i64 (n : Nat), .int .i64 (u : Nat)] w fun e w' => e = .returned (Fn.sh n u) ∧ Below w.heap.size w w' := by
  by_cases h0 : n = 0
  · subst h0
    go_enter Tryd.func32, Tryd.ntmps32
    go_wp2
    refine bodyPost_ret (results_cell_row rfl _ _ w.heap.size 50 #[.int .i64 0, .int .i64 (u : Nat), .int .i64 0] (0, 0) _ rfl ?_ Tryd.underlying50 rfl Tryd.sizeShape) rfl ?_
    · exact heap_alloc_new _ _
    · exact ⟨ret_shape rfl rfl (by rw [Fn.wdt_none (.inl rfl)]; rfl), (Below.refl _ _).alloc (Nat.le_refl _) _⟩
  · by_cases h : u < 2 * n
    · have hw := hidden (Fn.wdt_none (.inr h))
      go_enter Tryd.func32, Tryd.ntmps32
      go_wp2
      refine bodyPost_ret (results_cell_row rfl _ _ w.heap.size 50 #[.int .i64 (n : Nat), .int .i64 (u : Nat), .int .i64 0] (0, 0) _ rfl ?_ Tryd.underlying50 rfl Tryd.sizeShape) rfl ?_
      · exact heap_alloc_new _ _
      · exact ⟨ret_shape rfl rfl (by rw [hw.out]; rfl), (Below.refl _ _).alloc (Nat.le_refl _) _⟩
    · have hw := hidden (Fn.wdt_some (show ¬ (n = 0 ∨ u < 2 * n) by omega))
      have h1 := (Fn.wdt_spec (show ¬ (n = 0 ∨ u < 2 * n) by omega) (by omega)).2.2
      obtain ⟨q, hq⟩ : ∃ q, q = u / n := ⟨_, rfl⟩
      have hq2 : (u : Int) / (n : Int) = (q : Int) := by rw [hq]; rfl
      have hq3 : q < 2199023255552 := by have := Nat.div_le_self u n; omega
      have hq4 : IntKind.u64.wrap (q : Int) = (q : Int) := by rw [IntKind.wrap_u64]; omega
      obtain ⟨W, hW⟩ : ∃ W, W = Wd.needTo q 64 := ⟨_, rfl⟩
      have hNeed := Need_any q
      rw [← hW] at hNeed
      have hwW : Fn.wdt n u = W - 1 := by rw [hw.out, ← hq, hW]
      have HWW := hidden hwW
      have hW1 : 2 ≤ W := by omega
      have hW2 : W ≤ 64 := by rw [hW]; exact Wd.needTo_le _ _
      have HN := hidden hNeed
      clear hq hW hwW h1 hNeed
      have hn0 : ((n : Int) == 0) = false := by simp; omega
      have hn1 : decide ((u : Int) < 2 * (n : Int)) = false := by simp; omega
      go_enter Tryd.func32, Tryd.ntmps32
      go_wp2_with (go_at_call 57; refine (HN.out _ (by omega)).mono ?_; rintro e w' ⟨rfl, rfl⟩)
      refine bodyPost_ret (results_cell_row rfl _ _ w.heap.size 50 #[.int .i64 (n : Nat), .int .i64 (u : Nat), .int .i64 ((W : Int) - 1)] (0, 0) _ rfl ?_ Tryd.underlying50 rfl Tryd.sizeShape) rfl ?_
      · exact heap_alloc_new _ _
      · exact ⟨ret_shape rfl rfl (by rw [HWW.out]; omega), (Below.refl _ _).alloc (Nat.le_refl _) _⟩
namespace Fn
/-- How many bits the high row has, as the program tells it. -/
def highsI (n u : Nat) : Int := (n : Int) + ((u : Int) - 1) / 2 ^ wdt n u + 1
theorem highsI_eq {n u : Nat} (h : 1 ≤ u) : highsI n u = ((highs n u : Nat) : Int) := by
  unfold highsI highs top
  rw [show (u : Int) - 1 = ((u - 1 : Nat) : Int) from by omega, Wd.div_pow]
  omega
theorem highsI_zero {n : Nat} : highsI n 0 = (n : Int) := by
  unfold highsI
  rw [wdt_none (by omega)]
  simp
  omega
theorem highsI_bounds {n u : Nat} (hn : n < 16777216) (hu : u < 2199023255552) : 0 ≤ highsI n u ∧ highsI n u < 2199040032769 := by
  rcases Nat.eq_zero_or_pos u with h | h
  · subst h
    rw [highsI_zero]
    omega
  · rw [highsI_eq h]
    have : top n u ≤ u - 1 := Nat.div_le_self _ _
    unfold highs
    omega
end Fn
set_option maxHeartbeats 1000000 in
theorem lows_any (n u : Nat) (w : World) (hn : n < 16777216) (hu : u < 2199023255552) :
    Calls Tryd.prog 52 #[Fn.sh n u] w fun e w' => e = .returned (.int .i64 ((Fn.lows n u : Nat) : Int)) ∧ Below w.heap.size w w' := by
  have h1 := Fn.lows_le hn hu
  have h2 := Fn.wdt_le (n := n) hu
  have h3 : (n : Int) * ((Fn.wdt n u : Nat) : Int) = ((Fn.lows n u : Nat) : Int) := by unfold Fn.lows; exact (Int.natCast_mul _ _).symm
  unfold Fn.sh
  generalize Fn.lows n u = P at *
  generalize Fn.wdt n u = W at *
  go_enter Tryd.func52, Tryd.ntmps52
  go_wp2
  go_ret
  exact ⟨rfl, (Below.refl _ _).alloc (Nat.le_refl _) _⟩
set_option maxHeartbeats 1000000 in
theorem highs_any (n u : Nat) (w : World) (hn : n < 16777216) (hu : u < 2199023255552) :
    Calls Tryd.prog 53 #[Fn.sh n u] w fun e w' => e = .returned (.int .i64 (Fn.highsI n u)) ∧ Below w.heap.size w w' := by
  have h1 := Fn.highsI_bounds hn hu
  have h2 := Fn.wdt_le (n := n) hu
  have hT : ∃ T : Int, ((u : Int) - 1) / 2 ^ Fn.wdt n u = T := ⟨_, rfl⟩
  obtain ⟨T, hT⟩ := hT
  have h3 : Fn.highsI n u = (n : Int) + T + 1 := by rw [← hT]; rfl
  rw [h3] at h1 ⊢
  unfold Fn.sh
  generalize Fn.wdt n u = W at *
  clear h3
  go_enter Tryd.func53, Tryd.ntmps53
  go_wp2
  go_region
  go_wp2
  go_ret
  exact ⟨rfl, ((Below.refl _ _).alloc (Nat.le_refl _) _).drew⟩
set_option maxHeartbeats 1000000 in
theorem all_any (n u : Nat) (w : World) (hn : n < 16777216) (hu : u < 2199023255552) :
    Calls Tryd.prog 45 #[Fn.sh n u] w fun e w' => e = .returned (.int .i64 (65 + ((Fn.lows n u : Nat) : Int) + Fn.highsI n u)) ∧ Below w.heap.size w w' := by
  have HL := hidden fun w => lows_any n u w hn hu
  have HH := hidden fun w => highs_any n u w hn hu
  have h1 := Fn.lows_le hn hu
  have h2 := Fn.highsI_bounds hn hu
  unfold Fn.sh at *
  generalize Fn.lows n u = P at *
  generalize Fn.highsI n u = Q at *
  generalize Fn.wdt n u = W at *
  go_enter Tryd.func45, Tryd.ntmps45
  go_wp2
  have hB : Below w.heap.size w (w.alloc (.cells #[.int .i64 (n : Nat), .int .i64 (u : Nat), .int .i64 (W : Nat)] 50)) := (Below.refl _ _).alloc (Nat.le_refl _) _
  generalize hW0 : w.alloc (.cells #[.int .i64 (n : Nat), .int .i64 (u : Nat), .int .i64 (W : Nat)] 50) = w0
  rw [hW0] at hB
  have c0 : w0.cell? ⟨w.heap.size, 0, none⟩ = some (.int .i64 (n : Nat)) := by rw [← hW0]; simp
  have c1 : w0.cell? ⟨w.heap.size, 1, none⟩ = some (.int .i64 (u : Nat)) := by rw [← hW0]; simp
  have c2 : w0.cell? ⟨w.heap.size, 2, none⟩ = some (.int .i64 (W : Nat)) := by rw [← hW0]; simp
  have hB' : Below w.heap.size w w0.drew := hB.drew
  have hw1 : IntKind.i64.wrap (65 + (P : Int)) = 65 + (P : Int) := by rw [IntKind.wrap_i64]; omega
  have hw2 : IntKind.i64.wrap (65 + (P : Int) + Q) = 65 + (P : Int) + Q := by rw [IntKind.wrap_i64]; omega
  clear hW0
  go_region_held (fun w' => w'.cell? ⟨w.heap.size, 0, none⟩ = some (.int .i64 (n : Nat)) ∧ w'.cell? ⟨w.heap.size, 1, none⟩ = some (.int .i64 (u : Nat)) ∧ w'.cell? ⟨w.heap.size, 2, none⟩ = some (.int .i64 (W : Nat)) ∧ Below w.heap.size w w') (first | (exact ⟨by assumption, by assumption, by assumption, by assumption⟩) | go_keep)
    (first
      | (go_at_call 52; refine (HL.out _).mono ?_; rintro e w1 ⟨rfl, hq1⟩; have e0 : w1.cell? ⟨w.heap.size, 0, none⟩ = some (.int .i64 (n : Nat)) := cell_after hq1 (by first | assumption | exact c0); have e1 : w1.cell? ⟨w.heap.size, 1, none⟩ = some (.int .i64 (u : Nat)) := cell_after hq1 (by first | assumption | exact c1); have e2 : w1.cell? ⟨w.heap.size, 2, none⟩ = some (.int .i64 (W : Nat)) := cell_after hq1 (by first | assumption | exact c2); have e3 : Below w.heap.size w w1 := below_after (by assumption) hq1)
      | (go_at_call 53; refine (HH.out _).mono ?_; rintro e w1 ⟨rfl, hq1⟩; have e0 : w1.cell? ⟨w.heap.size, 0, none⟩ = some (.int .i64 (n : Nat)) := cell_after hq1 (by first | assumption | exact c0); have e1 : w1.cell? ⟨w.heap.size, 1, none⟩ = some (.int .i64 (u : Nat)) := cell_after hq1 (by first | assumption | exact c1); have e2 : w1.cell? ⟨w.heap.size, 2, none⟩ = some (.int .i64 (W : Nat)) := cell_after hq1 (by first | assumption | exact c2); have e3 : Below w.heap.size w w1 := below_after (by assumption) hq1))
  go_wp2
  go_ret
  exact ⟨rfl, by assumption⟩
set_option maxHeartbeats 1000000 in
theorem fits_any (n u : Nat) (w : World) (hn : n < 16777216) (hu : u < 2199023255552) :
    Calls Tryd.prog 41 #[Fn.sh n u] w fun e w' => e = .returned (.bool (decide (65 + ((Fn.lows n u : Nat) : Int) + Fn.highsI n u ≤ 4294967296))) ∧ Below w.heap.size w w' := by
  have HA := hidden fun w => all_any n u w hn hu
  unfold Fn.sh at *
  generalize 65 + ((Fn.lows n u : Nat) : Int) + Fn.highsI n u = P at *
  generalize Fn.wdt n u = W at *
  go_enter Tryd.func41, Tryd.ntmps41
  go_wp2_with (go_at_call 45; refine (HA.out _).mono ?_; rintro e w1 ⟨rfl, hq⟩; have HQ := hidden hq; clear hq)
  go_ret
  exact ⟨rfl, below_after ((Below.refl _ _).alloc (Nat.le_refl _) _) HQ.out⟩
end Go.Proofs.YtfohldojcdhnhaaDoor
