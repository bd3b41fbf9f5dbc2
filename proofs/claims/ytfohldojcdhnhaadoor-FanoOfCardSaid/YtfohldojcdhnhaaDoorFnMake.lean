/-
  The contract of Make of package fano: of numbers that rise below a bound a sequence in new memory; of others none. A sequence in memory.
-/
import Derived.Test.YtfohldojcdhnhaaDoorFnRows
namespace Go.Proofs.YtfohldojcdhnhaaDoor
open Go.RowKit
/-- Where a sequence's parts lie. -/
structure Fn.Q where
  low : Nat
  high : Nat
  c : Nat
  d : Nat
  g : Nat
  b0 : Nat
  b1 : Nat
  u0 : Value
  u1 : Value
/-- The sequence in block s, of the numbers l below u. -/
structure Sq (w : World) (s : Nat) (l : List Nat) (u : Nat) (q : Fn.Q) : Prop where
  ok : Fn.Ok l u
  cells : w.heap[s]? = some (.cells #[.int .i64 (l.length : Nat), .int .i64 (u : Nat), .int .i64 ((Fn.wdt l.length u : Nat) : Int), .pointer (some ⟨q.low, 0, none⟩), .pointer (some ⟨q.high, 0, none⟩), .pointer (some ⟨q.c, 0, none⟩)] 58 (0, 0))
  low : Rw w q.low (Fn.lowB l u).length (Bt.num (Fn.lowB l u)) q.u0
  high : Rw w q.high (Fn.HB l u).length (Bt.num (Fn.HB l u)) q.u1
  ch : Cz w q.c q.d q.g q.high (Fn.HB l u).length (Bt.num (Fn.HB l u)) q.b0 q.b1 q.u1
theorem Sq.below {w w' : World} {s u C : Nat} {l : List Nat} {q : Fn.Q} (h : Sq w s l u q) (hb : Below C w w') (hC : w.heap.size ≤ C) : Sq w' s l u q :=
  ⟨h.ok, by rw [hb.block s (Nat.lt_of_lt_of_le (lt_of_block h.cells) hC)]; exact h.cells, h.low.below hb hC, h.high.below hb hC, h.ch.below hb hC⟩
theorem Sq.drewN {w : World} {s u : Nat} {l : List Nat} {q : Fn.Q} (h : Sq w s l u q) (m : Nat) : Sq (w.drewN m) s l u q := h.below (below_drewN (Below.refl _ _) m) (Nat.le_refl _)
theorem Sq.cell0 {w : World} {s u : Nat} {l : List Nat} {q : Fn.Q} (h : Sq w s l u q) : w.cell? ⟨s, 0, none⟩ = some (.int .i64 (l.length : Nat)) := by simp [World.cell?, h.cells]
theorem Sq.cell1 {w : World} {s u : Nat} {l : List Nat} {q : Fn.Q} (h : Sq w s l u q) : w.cell? ⟨s, 1, none⟩ = some (.int .i64 (u : Nat)) := by simp [World.cell?, h.cells]
theorem Sq.cell2 {w : World} {s u : Nat} {l : List Nat} {q : Fn.Q} (h : Sq w s l u q) : w.cell? ⟨s, 2, none⟩ = some (.int .i64 ((Fn.wdt l.length u : Nat) : Int)) := by simp [World.cell?, h.cells]
theorem Sq.cell3 {w : World} {s u : Nat} {l : List Nat} {q : Fn.Q} (h : Sq w s l u q) : w.cell? ⟨s, 3, none⟩ = some (.pointer (some ⟨q.low, 0, none⟩)) := by simp [World.cell?, h.cells]
theorem Sq.cell4 {w : World} {s u : Nat} {l : List Nat} {q : Fn.Q} (h : Sq w s l u q) : w.cell? ⟨s, 4, none⟩ = some (.pointer (some ⟨q.high, 0, none⟩)) := by simp [World.cell?, h.cells]
theorem Sq.cell5 {w : World} {s u : Nat} {l : List Nat} {q : Fn.Q} (h : Sq w s l u q) : w.cell? ⟨s, 5, none⟩ = some (.pointer (some ⟨q.c, 0, none⟩)) := by simp [World.cell?, h.cells]
namespace Fn
theorem ris_iff (l : List Nat) (u : Nat) : Ris (ints l) (u : Int) l.length ↔ Up l ∧ ∀ i, i < l.length → l.getD i 0 < u := by
  constructor
  · intro h
    refine ⟨fun i hi => ?_, fun i hi => ?_⟩
    · have := (h (i + 1) hi).1
      rw [lastI_succ, ints_getD, ints_getD] at this
      omega
    · have := (h i hi).2
      rw [ints_getD] at this
      omega
  · rintro ⟨h1, h2⟩ i hi
    rw [ints_getD]
    refine ⟨?_, by have := h2 i hi; omega⟩
    cases i with
    | zero => simp [lastI]
    | succ i =>
      rw [lastI_succ, ints_getD]
      have := h1 i hi
      omega
/-- Numbers that rise, from 0 on, are naturals. -/
theorem ris_nat {li : List Int} {b : Int} (h : Ris li b li.length) : ∃ l, li = ints l := by
  refine ⟨li.map Int.toNat, ?_⟩
  have hz : ∀ i, i < li.length → 0 ≤ li.getD i 0 := by
    intro i
    induction i with
    | zero => intro hi; have := (h 0 hi).1; simpa [lastI] using this
    | succ i ih =>
      intro hi
      have h1 := (h (i + 1) hi).1
      rw [lastI_succ] at h1
      have := ih (by omega)
      omega
  unfold ints
  rw [List.map_map]
  apply List.ext_getElem?
  intro i
  rw [List.getElem?_map]
  by_cases hi : i < li.length
  · have := hz i hi
    rw [List.getD_eq_getElem?_getD] at this
    rw [List.getElem?_eq_getElem hi] at this ⊢
    simp at this ⊢
    omega
  · rw [List.getElem?_eq_none (by omega)]
    rfl
/-- The numbers may be a sequence's. -/
def OkI (li : List Int) (b : Int) : Prop := 1 ≤ b ∧ b ≤ 1099511627776 ∧ li.length ≤ 16777215 ∧ Ris li b li.length
theorem OkI.nat {li : List Int} {b : Int} (h : OkI li b) : ∃ l u, li = ints l ∧ b = ((u : Nat) : Int) ∧ Ok l u := by
  obtain ⟨h1, h2, h3, h4⟩ := h
  obtain ⟨l, rfl⟩ := ris_nat h4
  obtain ⟨u, rfl⟩ := Int.eq_ofNat_of_zero_le (show 0 ≤ b by omega)
  rw [ints_length] at h3 h4
  obtain ⟨h5, h6⟩ := (ris_iff l u).1 h4
  exact ⟨l, u, rfl, rfl, h5, h6, by omega, by omega, by omega⟩
theorem Ok.int {l : List Nat} {u : Nat} (h : Ok l u) : OkI (ints l) (u : Int) := by
  have := h.pos
  have := h.le
  have := h.len
  refine ⟨by omega, by omega, by rw [ints_length]; omega, ?_⟩
  rw [ints_length]
  exact (ris_iff l u).2 ⟨h.up, h.lt⟩
end Fn
set_option maxHeartbeats 1000000 in
theorem Make_no (li : List Int) (b : Int) (v : Value) (w : World) (h : Ints w v li) (hl : li.length ≤ 9223372036854775807) (hno : ¬ Fn.OkI li b) :
    Calls Tryd.prog 12 #[v, .int .i64 b] w fun e w' => e = .returned (.tuple #[.pointer none, .int .i64 1]) ∧ w' = w := by
  have HR := hidden (rising_any li b v w h hl)
  have HN := hidden hno
  obtain ⟨ao, cap, rfl, hcap, _⟩ := h.cells
  clear h hno
  by_cases h1 : b < 1
  · have d1 : decide (b < 1) = true := by simpa using h1
    go_enter Tryd.func12, Tryd.ntmps12
    go_wp2_with fail
    go_ret2
    exact ⟨rfl, rfl⟩
  · have d1 : decide (b < 1) = false := by simpa using h1
    by_cases h2 : 1099511627776 < b
    · have d2 : decide (1099511627776 < b) = true := by simpa using h2
      go_enter Tryd.func12, Tryd.ntmps12
      go_wp2_with fail
      go_ret2
      exact ⟨rfl, rfl⟩
    · have d2 : decide (1099511627776 < b) = false := by simpa using h2
      by_cases h3 : 16777215 < li.length
      · have d3 : decide ((16777215 : Int) < (li.length : Int)) = true := by simp; omega
        go_enter Tryd.func12, Tryd.ntmps12
        go_wp2_with fail
        go_ret2
        exact ⟨rfl, rfl⟩
      · have d3 : decide ((16777215 : Int) < (li.length : Int)) = false := by simp; omega
        go_enter Tryd.func12, Tryd.ntmps12
        go_wp2_with fail
        refine (HR.out).mono ?_
        rintro e' w1 ⟨⟨r, rfl, hr⟩, rfl⟩
        have : r = false := by
          cases r
          · rfl
          · exact absurd ⟨by omega, by omega, by omega, hr.1 rfl⟩ HN.out
        subst this
        clear hr
        go_wp2_with fail
        go_ret2
        exact ⟨rfl, rfl⟩
set_option maxHeartbeats 1000000 in
theorem Make_ok (l : List Nat) (u : Nat) (v : Value) (w : World) (h : Ints w v (Fn.ints l)) (ok : Fn.Ok l u) (hT : Tab w) :
    Calls Tryd.prog 12 #[v, .int .i64 (u : Nat)] w fun e w' => ∃ s q, e = .returned (.tuple #[.pointer (some ⟨s, 0, none⟩), .int .i64 0]) ∧ Sq w' s l u q ∧ Below w.heap.size w w' := by
  have hn := ok.len
  have hu1 := ok.pos
  have hu2 := ok.le
  have HR := hidden (rising_any (Fn.ints l) u v w h (by rw [Fn.ints_length]; omega))
  have HI := hidden h
  have OK := hidden ok
  have HT := hidden hT
  have hint := ok.int
  have HInt := hidden hint
  obtain ⟨ao, cap, rfl, hcap, _⟩ := h.cells
  rw [Fn.ints_length] at hcap HR HI
  obtain ⟨N, hN⟩ : ∃ N, N = l.length := ⟨_, rfl⟩
  have HN := hidden hN
  rw [← hN] at hn hcap HR HI
  have HSO := hidden (fun w => shapeOf_any N u w hn (by omega))
  clear h ok hT hint
  rw [Fn.ints_length, ← hN]
  clear hN
  go_enter Tryd.func12, Tryd.ntmps12
  go_wp2_with fail
  refine (HR.out).mono ?_
  rintro e' w1 ⟨⟨r, rfl, hr⟩, rfl⟩
  obtain rfl : r = true := hr.2 (by rw [Fn.ints_length]; have := HInt.out.2.2.2; rw [Fn.ints_length] at this; exact this)
  clear hr
  go_wp2_with fail
  refine (HSO.out _).mono ?_
  rintro e' w2 ⟨rfl, hq2⟩
  unfold Fn.sh at *
  obtain ⟨W, hW⟩ : ∃ W, W = Fn.wdt N u := ⟨_, rfl⟩
  rw [← hW]
  have HW := hidden hW
  have HB2 := hidden hq2
  clear hW hq2
  have HRW : Hid (∀ w', Below w1.heap.size w1 w' → Calls Tryd.prog 33 #[.slice ao N cap, .agg #[.int .i64 (N : Nat), .int .i64 (u : Nat), .int .i64 (W : Nat)]] w' fun e w'' => RowsPost w' l u e w'') := fun w' hb => by
    have := rows_any l u _ w' (HI.out.below hb (Nat.le_refl _)) OK.out
    unfold Fn.sh at this
    rw [← HN.out, ← HW.out] at this
    exact this
  go_wp2_with fail
  obtain ⟨w3, hw3⟩ : ∃ w3, w3 = w2.alloc (.cells #[.int .i64 (N : Nat), .int .i64 (u : Nat), .int .i64 (W : Nat)] 50) := ⟨_, rfl⟩
  rw [← hw3]
  have hb3 : Below w1.heap.size w1 w3 := by rw [hw3]; exact HB2.out.alloc HB2.out.size _
  have HB3 := hidden hb3
  have c0 : w3.cell? ⟨w2.heap.size, 0, none⟩ = some (.int .i64 (N : Nat)) := by rw [hw3]; simp
  have c1 : w3.cell? ⟨w2.heap.size, 1, none⟩ = some (.int .i64 (u : Nat)) := by rw [hw3]; simp
  have c2 : w3.cell? ⟨w2.heap.size, 2, none⟩ = some (.int .i64 (W : Nat)) := by rw [hw3]; simp
  clear hw3
  refine (HRW.out w3 hb3).mono ?_
  rintro e' w4 ⟨r0, r1, u0, u1, rfl, hr0, hr1, hb4⟩
  have HR0 := hidden hr0
  have HR1 := hidden hr1
  have d0 := cell_after hb4 c0
  have d1 := cell_after hb4 c1
  have d2 := cell_after hb4 c2
  have HB4 := hidden (below_after hb3 hb4 (by exact Nat.le_refl _))
  have HT4 := hidden (HT.out.below HB4.out (Nat.le_refl _))
  clear hb3 hr0 hr1 c0 c1 c2 hb4
  have HC := hidden (CNew_any r1 _ _ u1 (w4.drewN 1) (HR1.out.drewN 1) (HT4.out.drewN 1))
  go_wp2_with fail
  go_region_held (fun w' => w'.cell? ⟨w2.heap.size, 0, none⟩ = some (.int .i64 (N : Nat)) ∧ w'.cell? ⟨w2.heap.size, 1, none⟩ = some (.int .i64 (u : Nat)) ∧ w'.cell? ⟨w2.heap.size, 2, none⟩ = some (.int .i64 (W : Nat))) (first | (exact ⟨by assumption, by assumption, by assumption⟩) | go_keep)
    (first
      | (go_at_call 34; refine (HC.out).mono ?_; rintro e' w5 ⟨c, d, g, b0, b1, rfl, hc5, hb5⟩; have HC5 := hidden hc5; have HB5 := hidden (below_undrewN hb5); clear hc5 hb5; have e0 := cell_after HB5.out d0; have e1 := cell_after HB5.out d1; have e2 := cell_after HB5.out d2))
  go_wp2_with fail
  go_ret2
  have hb5 := HB5.out
  have hx := (Below.refl w5.heap.size w5).alloc (Nat.le_refl _) (.cells #[.int .i64 (N : Nat), .int .i64 (u : Nat), .int .i64 (W : Nat), .pointer (some ⟨r0, 0, none⟩), .pointer (some ⟨r1, 0, none⟩), .pointer (some ⟨c, 0, none⟩)] 58)
  have hR0 := (HR0.out.below hb5 (Nat.le_refl _)).below hx (Nat.le_refl _)
  have hR1 := (HR1.out.below hb5 (Nat.le_refl _)).below hx (Nat.le_refl _)
  refine ⟨w5.heap.size, ⟨r0, r1, c, d, g, b0, b1, u0, u1⟩, rfl, ⟨OK.out, ?_, hR0, hR1, HC5.out.below hx (Nat.le_refl _)⟩, below_after (below_after HB4.out hb5) hx⟩
  rw [← HN.out, ← HW.out]
  exact heap_alloc_new _ _
end Go.Proofs.YtfohldojcdhnhaaDoor
