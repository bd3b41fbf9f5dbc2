/-
  The contracts of a tree's Row, place, far, Size, Excess and Balanced: of every tree, at every argument; nothing in memory is changed.
-/
import Derived.Test.YtdjhpfojbnikdaaMxTree
import Derived.BigQuiet
namespace Go.Proofs.Ytdjhpfojbnikdaa
open Go.RowKit
/-- What is read of a tree. -/
structure Tr.Form (w : World) (t r n X : Nat) (gs : Nat → Nat) (m g cap : Nat) : Prop where
  fit : m ≤ cap
  c0 : w.cell? ⟨t, 0, none⟩ = some (.pointer (some ⟨r, 0, none⟩))
  c1 : w.cell? ⟨t, 1, none⟩ = some (.slice (some ⟨g, 0, none⟩) m cap)
  lev : ∀ k, k < m → w.cell? ⟨g, k, none⟩ = some (.slice (some ⟨gs k, 0, none⟩) (Mx.ln n k) (Mx.ln n k))
  n0 : ∀ k i, k < m → i < Mx.ln n k → w.cell? ⟨gs k, i * 3, none⟩ = some (.int .i64 (Mx.nx X n (Mx.wd k) i))
  n1 : ∀ k i, k < m → i < Mx.ln n k → w.cell? ⟨gs k, i * 3 + 1, none⟩ = some (.complex .f64 (floatOfInt .f64 (Mx.nl X n (Mx.wd k) i)) (floatOfInt .f64 (Mx.nh X n (Mx.wd k) i)))
  n2 : ∀ k i, k < m → i < Mx.ln n k → w.cell? ⟨gs k, i * 3 + 2, none⟩ = some (.complex .f64 (floatOfInt .f64 (Mx.ml X n (Mx.wd k) i)) (floatOfInt .f64 (Mx.mh X n (Mx.wd k) i)))
theorem Tr.form {w : World} {t r n X : Nat} {u : Value} {gs : Nat → Nat} {m : Nat} (h : Tr w t r n X u gs m) : ∃ g cap, Tr.Form w t r n X gs m g cap := by
  obtain ⟨lv, h1, h2⟩ := h.cells
  obtain ⟨g, cap, hv, hc⟩ := own_form h2 h.pos
  subst hv
  refine ⟨g, cap, hc, Lib.cell_of_heap h1 0, Lib.cell_of_heap h1 1, fun k hk => ?_, fun k i hk hi => ?_, fun k i hk hi => ?_, fun k i hk hi => ?_⟩
  · rw [h2.cellAt k (by omega)]
    exact Mx.sls_get n gs m k hk
  · obtain ⟨cur, h3, h4⟩ := h.each k hk
    rw [Lib.cell_of_heap h3]
    exact h4.c0 i hi
  · obtain ⟨cur, h3, h4⟩ := h.each k hk
    rw [Lib.cell_of_heap h3]
    exact h4.c1 i hi
  · obtain ⟨cur, h3, h4⟩ := h.each k hk
    rw [Lib.cell_of_heap h3]
    exact h4.c2 i hi
theorem Mx.ln_le (n k : Nat) (hn : n ≤ 4294967296) : Mx.ln n k ≤ 4294967296 := by
  by_cases h0 : Mx.ln n k = 0
  · omega
  · have h1 := (Mx.ln_iff n k (Mx.ln n k - 1)).1 (by omega)
    have h2 := Mx.wd_pos k
    have h3 : Mx.ln n k - 1 ≤ (Mx.ln n k - 1) * Mx.wd k := Nat.le_mul_of_pos_right _ h2
    omega
theorem TRow_any (t r n X : Nat) (u : Value) (gs : Nat → Nat) (m : Nat) (w : World) (h : Tr w t r n X u gs m) :
    Calls Try.prog 19 #[.pointer (some ⟨t, 0, none⟩)] w fun e w' => e = .returned (.pointer (some ⟨r, 0, none⟩)) ∧ w' = w := by
  obtain ⟨g, cap, hf⟩ := h.form
  have c0 := hf.c0
  clear h hf
  go_enter Try.func19, Try.ntmps19
  go_wp2_with fail
  go_ret
  exact ⟨rfl, rfl⟩
theorem place7_any (t r n X : Nat) (u : Value) (gs : Nat → Nat) (m : Nat) (i : Int) (w : World) (h : Tr w t r n X u gs m) :
    Calls Try.prog 26 #[.pointer (some ⟨t, 0, none⟩), .int .i64 i] w fun e w' => e = .returned (.int .i64 (Pn.fr n i : Nat)) ∧ w' = w := by
  obtain ⟨g, cap, hf⟩ := h.form
  have c0 := hf.c0
  have HR := hidden h.row
  have hfr := Pn.fr_cast n i
  have HFR := hidden hfr
  clear h hf hfr
  go_enter Try.func26, Try.ntmps26
  go_wp2_with fail
  refine (RLen_any r n X u _ HR.out).mono ?_
  rintro e' w1 ⟨rfl, rfl⟩
  go_wp2_with fail
  go_ret
  exact ⟨ret_int (by have := HFR.out; omega), rfl⟩
theorem far7_any (t r n X : Nat) (u : Value) (gs : Nat → Nat) (m : Nat) (d : Int) (w : World) (h : Tr w t r n X u gs m) :
    Calls Try.prog 28 #[.pointer (some ⟨t, 0, none⟩), .int .i64 d] w fun e w' => e = .returned (.bool (decide ((n : Int) < d) || decide (d < -(n : Int)))) ∧ w' = w := by
  obtain ⟨g, cap, hf⟩ := h.form
  have c0 := hf.c0
  have HR := hidden h.row
  have hl := h.row.len
  clear h hf
  by_cases hd : (n : Int) < d
  · have hdd : (decide ((n : Int) < d) || decide (d < -(n : Int))) = true := by simp [hd]
    rw [hdd]
    go_enter Try.func28, Try.ntmps28
    go_wp2_with fail
    refine (RLen_any r n X u _ HR.out).mono ?_
    rintro e' w1 ⟨rfl, rfl⟩
    go_wp2_with fail
    go_ret
    exact ⟨rfl, rfl⟩
  · have hdd : (decide ((n : Int) < d) || decide (d < -(n : Int))) = decide (d < -(n : Int)) := by simp [hd]
    rw [hdd]
    go_enter Try.func28, Try.ntmps28
    go_wp2_with fail
    refine (RLen_any r n X u _ HR.out).mono ?_
    rintro e' w1 ⟨rfl, rfl⟩
    go_wp2_with fail
    refine (RLen_any r n X u _ HR.out).mono ?_
    rintro e' w1 ⟨rfl, rfl⟩
    go_wp2_with fail
    go_ret
    exact ⟨rfl, rfl⟩
theorem Mx.sz_small (n : Nat) (hn : n ≤ 4294967296) : ∀ k, Mx.sz n k ≤ k * 1400000000000 := by
  intro k
  induction k with
  | zero => exact Nat.le_refl _
  | succ k ih =>
    have := Mx.ln_le n k hn
    show Mx.sz n k + (192 + Mx.ln n k * 320) ≤ _
    omega
set_option maxHeartbeats 1000000 in
theorem TSize_any (t r n X : Nat) (u : Value) (gs : Nat → Nat) (m : Nat) (w : World) (h : Tr w t r n X u gs m) :
    Calls Try.prog 17 #[.pointer (some ⟨t, 0, none⟩)] w fun e w' => e = .returned (.int .i64 (Mx.sz n m : Nat)) ∧ w' = w := by
  have hm := h.few
  have hl := h.row.len
  obtain ⟨g, cap, hf⟩ := h.form
  have c1 := hf.c1
  have hfit := hf.fit
  have HF := hidden hf
  clear h hf
  go_enter Try.func17, Try.ntmps17
  go_wp2_with fail
  go_loopw [3, 11] (fun s3 s11 wr => ∃ k : Nat, k ≤ m ∧ s3 = .int .i64 (Mx.sz n k : Nat) ∧ s11 = .int .i64 (k : Nat) ∧ wr = w) (fun _ s11 _ => m - (intOf s11).toNat)
  case atStart => exact ⟨0, by omega, rfl, rfl, rfl⟩
  case round =>
    obtain ⟨k, hk, rfl, rfl, rfl⟩ := hrel
    by_cases hlt : k < m
    · have c2 := HF.out.lev k hlt
      have hll := Mx.ln_le n k hl
      have hsz := Mx.sz_small n hl k
      have HS : Hid (Mx.sz n (k + 1) = Mx.sz n k + (192 + Mx.ln n k * 320)) := rfl
      obtain ⟨s, hs⟩ : ∃ s, s = Mx.sz n k := ⟨_, rfl⟩
      obtain ⟨q, hq⟩ : ∃ q, q = Mx.ln n k := ⟨_, rfl⟩
      rw [← hs, ← hq] at HS
      rw [← hq] at c2 hll
      rw [← hs] at hsz ⊢
      have hs2 : s ≤ 100000000000000 := by omega
      have i0 : (0 : Int) ≤ (k : Int) := by omega
      have i1 : (k : Int) < (m : Int) := by omega
      clear hs hq hsz
      go_wp2_with fail
      go_roundw
      case rel => exact ⟨k + 1, by omega, by rw [HS.out]; go_num, by go_num, trivial⟩
      case measure => simp [intOf]; omega
    · obtain rfl : k = m := by omega
      go_wp2_with fail
      go_ret
      exact ⟨rfl, rfl⟩
end Go.Proofs.Ytdjhpfojbnikdaa
