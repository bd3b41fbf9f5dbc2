/-
  The contract of a sequence's Less: how many numbers are less than x, for every x. Of Next, Prev and Has, too.
-/
import Derived.Test.YtfohldojcdhnhaaDoorFnPart
namespace Go.Proofs.YtfohldojcdhnhaaDoor
open Go.RowKit Go.Shelf
attribute [local go_sem] Oper.semAt_some
namespace Fn
theorem seg_mem (l : List Nat) {f k i : Nat} (h1 : f ≤ i) (h2 : i < f + k) : (i, nth l i) ∈ seg l f k := by
  unfold seg
  rw [List.mem_map]
  refine ⟨i - f, List.mem_range.2 (by omega), ?_⟩
  rw [show f + (i - f) = i from by omega]
theorem less_all {l : List Nat} (h : Up l) {x f t : Nat} (h1 : f ≤ less l (x : Int)) (h2 : less l (x : Int) ≤ t) (h4 : t ≤ l.length) (hp : ∀ p ∈ seg l f (t - f), p.2 < x) : less l (x : Int) = t := by
  rcases Nat.lt_or_ge (less l (x : Int)) t with hl | hl
  · have h3 := hp _ (seg_mem l h1 (show less l (x : Int) < f + (t - f) by omega))
    simp only [nth] at h3
    have := (less_spec h (x : Int)).hi _ (Nat.le_refl _) (by omega)
    omega
  · omega
theorem less_stop {l : List Nat} (h : Up l) {x f k : Nat} (h1 : f ≤ less l (x : Int)) (h4 : f + k < l.length) (hp : ∀ p ∈ seg l f k, p.2 < x) (hx : x ≤ nth l (f + k)) : less l (x : Int) = f + k := by
  have h2 : less l (x : Int) ≤ f + k := hi_of h (by simp only [nth] at hx; omega)
  rcases Nat.lt_or_ge (less l (x : Int)) (f + k) with hl | hl
  · have h3 := hp _ (seg_mem l h1 hl)
    simp only [nth] at h3
    have := (less_spec h (x : Int)).hi _ (Nat.le_refl _) (by omega)
    omega
  · omega
end Fn
theorem frozen_after {w w' : World} {p : Addr} {v : Value} (hb : Below w.heap.size w w') (h : w.cell? p = some v) : w'.frozen? p = w.frozen? p := by
  have := hb.block p.block (World.block_lt_of_cell? w p h)
  simp only [World.frozen?, this]
set_option maxRecDepth 100000 in
set_option maxHeartbeats 2000000 in
theorem Less_mid (s u x : Nat) (l : List Nat) (q : Fn.Q) (w : World) (h : Sq w s l u q) (hT : Tab w) (h0 : 0 < l.length) (hx0 : 0 < x) (hx : x < u) :
    Calls Tryd.prog 21 #[.pointer (some ⟨s, 0, none⟩), .int .i64 (x : Nat)] w fun e w' => e = .returned (.int .i64 ((Fn.less l (x : Int) : Nat) : Int)) ∧ Below w.heap.size w w' := by
  have HS := hidden h
  have HT := hidden hT
  have hu := h.ok.le
  have hn := h.ok.len
  obtain ⟨N, hN⟩ : ∃ N, N = l.length := ⟨_, rfl⟩
  have c0 := h.cell0
  have c1 := h.cell1
  have c2 := h.cell2
  have hsl := lt_of_block h.cells
  obtain ⟨W, hW⟩ : ∃ W, W = Fn.wdt l.length u := ⟨_, rfl⟩
  rw [← hW] at c2
  rw [← hN] at c0 h0 hn
  obtain ⟨H, hH⟩ : ∃ H, H = x / 2 ^ W := ⟨_, rfl⟩
  have hH2 : (x : Int) / 2 ^ W = (H : Int) := by rw [hH, Wd.div_pow]
  have hHx : H ≤ x := by rw [hH]; exact Nat.div_le_self _ _
  have hW40 : W ≤ 40 := by rw [hW]; exact Fn.wdt_le (by omega)
  have HHV := hidden (fun w' (hb : Below w.heap.size w w') => halve_any s u x H l q w' (h.below hb (Nat.le_refl _)) (hT.below hb (Nat.le_refl _)) (by omega) hx (by rw [hH, hW]))
  have HN := hidden hN
  have HW := hidden hW
  have HH := hidden hH
  clear h hT hN hW hH
  refine (callsIn_wide (n := 10)).1 ?_
  refine callsIn_of_wp_marks Tryd.func21 rfl trivial ?_ rfl
  simp only [Tryd.ntmps21, List.size_toArray, List.length_cons, List.length_nil, Nat.reduceAdd, Nat.reduceSub, Array.replicate_succ, Array.replicate_zero, List.push_toArray, List.append_toArray, List.nil_append, List.cons_append]
  refine wpIn_wide.2 ?_
  have d0 : decide ((x : Int) ≤ 0) = false := by simp; omega
  have d1 : ((N : Int) == 0) = false := by simp; omega
  have d2 : decide ((u : Int) ≤ (x : Int)) = false := by simp; omega
  go_wp2_with fail
  obtain ⟨w0, hw0⟩ : ∃ w0, w0 = (w.alloc (.cells #[.int .i64 (x : Nat)] 3)).alloc (.cells #[.int .i64 0] 3) := ⟨_, rfl⟩
  rw [← hw0]
  have hb0 : Below w.heap.size w w0 := by rw [hw0]; exact ((Below.refl _ _).alloc (Nat.le_refl _) _).alloc (by simp) _
  have e3 : w0.cell? ⟨w.heap.size, 0, none⟩ = some (.int .i64 (x : Nat)) := by rw [hw0]; exact cell_made (cell_new_at rfl)
  have e4 : w0.cell? ⟨w.heap.size + 1, 0, none⟩ = some (.int .i64 0) := by rw [hw0]; exact cell_new_at (by simp)
  have f4 : w0.frozen? ⟨w.heap.size + 1, 0, none⟩ = false := by rw [hw0]; exact Lib.frozen_of_heap (heap_new_at (by simp)) 0
  have s0 := cell_after hb0 c0
  have s1 := cell_after hb0 c1
  have s2 := cell_after hb0 c2
  have HB0 := hidden hb0
  clear hw0 c0 c1 c2 hb0
  go_region
  go_wp2_with fail
  go_region
  go_wp2_with fail
  refine (HHV.out _ HB0.out.drew.drew).mono ?_
  rintro e' w1 ⟨⟨f, t, rfl, hf1, hf2, hf3, hf4⟩, hb1⟩
  have g3 := cell_after hb1 e3
  have g4 := cell_after hb1 e4
  have k4 : w1.frozen? ⟨w.heap.size + 1, 0, none⟩ = false := (frozen_after hb1 e4).trans f4
  have HB1 := hidden (below_after HB0.out.drew.drew hb1)
  have HF := hidden (And.intro hf1 (And.intro hf2 (And.intro hf3 hf4)))
  have ht : t < 16777216 := by have := Fn.ah_le l (Fn.wdt l.length u) (H + 1); have := HN.out; omega
  clear hf1 hf2 hf3 hf4 hb1 e3 e4 f4 s0 s1 s2
  go_wp2_with fail
  refine (part_any s H f t w1).mono ?_
  rintro e' w2 ⟨bf, bt, bs, bh, rfl, hb2, cf, ct, cs, ch⟩
  have e3 := cell_after hb2 g3
  have e4 := cell_after hb2 g4
  have f4 : w2.frozen? ⟨w.heap.size + 1, 0, none⟩ = false := (frozen_after hb2 g4).trans k4
  have HB2 := hidden (below_after HB1.out hb2)
  have HSt := hidden (part_stops 9 (by decide) s u H f t bf bt bs bh l q w2 (by have := HF.out; omega) ht cf ct cs ch (HS.out.below HB2.out (Nat.le_refl _)) (fun i h1 h2 => Fn.ah_part HS.out.ok.up (by have := HF.out; omega) (by have := HF.out; omega)))
  clear hb2 cf ct cs ch g3 g4 k4
  go_wp2_with fail
  refine (wpIn_wide (n := 10)).1 ?_
  refine wpIn_rangeFunc_ownF rfl (by decide) (gf := 68) (lb := #[.pointer (some ⟨bf, 0, none⟩), .pointer (some ⟨bt, 0, none⟩), .pointer (some ⟨bs, 0, none⟩), .pointer (some ⟨bh, 0, none⟩)]) rfl trivial (enters_of Tryd.func68 (by kernel_rfl) rfl)
    HSt.out belowK_t (belowK_b (Nat.le_refl _)) (Below.refl _ _) (fun _ => rfl)
    (fun pre W' => ((∀ p ∈ pre, p.2 < x) ∧ W'.cell? ⟨w.heap.size, 0, none⟩ = some (.int .i64 (x : Nat)) ∧ W'.cell? ⟨w.heap.size + 1, 0, none⟩ = some (.int .i64 0) ∧ W'.frozen? ⟨w.heap.size + 1, 0, none⟩ = false) ∧ Below w.heap.size w W')
    (fun c pre W' => (c = .ret ∧ ∃ pre' p, pre = pre' ++ [p] ∧ (∀ p' ∈ pre', p'.2 < x) ∧ x ≤ p.2 ∧ W'.cell? ⟨w.heap.size + 1, 0, none⟩ = some (.int .i64 (p.1 : Nat))) ∧ Below w.heap.size w W')
    (OwnFrom.and (Own.from (fun s A B row hs hg hr => ⟨hs.1, cell_kept hs.2.1 hg hr, cell_kept hs.2.2.1 hg hr, (frozen_kept hs.2.2.1 hg hr).trans hs.2.2.2⟩) _) (ownFrom_below (Nat.le_refl _) HB2.out.size))
    (fun c => OwnFrom.and (Own.from (fun s A B row hs hg hr => by obtain ⟨h1, pre', p, h2, h3, h4, h5⟩ := hs; exact ⟨h1, pre', p, h2, h3, h4, cell_kept h5 hg hr⟩) _) (ownFrom_below (Nat.le_refl _) HB2.out.size))
    ⟨⟨by simp, e3, e4, f4⟩, HB2.out⟩ ?a1 ?assign ?body ?done ?stop
  case assign =>
    intro l' x' W' K hK
    gi_wp2
    exact hK
  case body =>
    rintro l' pre p W' ⟨⟨hp, h3, h4, h4f⟩, hB⟩ _
    obtain ⟨i, y⟩ := p
    simp only []
    have HP := hidden hp
    have HB := hidden hB
    have H4 := hidden h4
    have H4f := hidden h4f
    clear hp hB
    by_cases hy : x ≤ y
    · have d5 : decide ((x : Int) ≤ (y : Int)) = true := by simpa using hy
      gi_wp2
      exact ⟨KeepsOthers.setCell _ _ _, ⟨rfl, pre, (i, y), rfl, HP.out, hy, World.cell?_setCell_same' _ _ _ (by rw [H4.out]; rfl)⟩, HB.out.setCell (p := ⟨w.heap.size + 1, 0, none⟩) (by simp) _⟩
    · have d5 : decide ((x : Int) ≤ (y : Int)) = false := by simpa using hy
      gi_wp2
      exact ⟨KeepsOthers.refl _, Below.refl _ _, ⟨fun p hp => (List.mem_append.1 hp).elim (HP.out p) (fun e => by simp at e; subst e; show y < x; omega), h3, H4.out, H4f.out⟩, HB.out⟩
  case done =>
    rintro D ys W' hD rfl ⟨⟨hp, h3, h4, h4f⟩, hB⟩ hK
    have HP := hidden hp
    have HB := hidden hB
    have H4 := hidden h4
    have HK := hidden hK
    clear hp hB hK
    go_wp2_with fail
    have hK' := (KeepsOthers.setCell W' ⟨w.heap.size + 1, 0, none⟩ (.int .i64 (t : Nat))).same D _ HK.out rfl
    refine ⟨by simp, .inl ⟨_, _, rfl, run_takeDeferred hK', ?_⟩⟩
    have hc5 := cell_kept (World.cell?_setCell_same' W' ⟨w.heap.size + 1, 0, none⟩ (.int .i64 (t : Nat)) (by rw [H4.out]; rfl)) (grownBy_putObj' _ D (.deferred none)) (fun r e => by cases e; exact ⟨_, hK', rfl⟩)
    refine ⟨.int .i64 (t : Nat), ?_, ret_int (by have := Fn.less_all HS.out.ok.up HF.out.2.1 HF.out.2.2.1 (by have := HF.out.2.2.2; have := Fn.ah_le l (Fn.wdt l.length u) (H + 1); omega) HP.out; omega), (HB.out.setCell (p := ⟨w.heap.size + 1, 0, none⟩) (by simp) _).trans (belowK_b (w := w) (Nat.le_refl _) _ D _ _ (by have := HB2.out.size; omega) hK' rfl rfl)⟩
    simp [results, Tryd.f21, go_sem, hc5]
  case stop =>
    rintro D c pre W' hD ⟨k, hk, rfl⟩ ⟨⟨rfl, pre', p, hp1, hp2, hp3, hc⟩, hB⟩ hK
    rw [Fn.seg_succ] at hp1
    obtain ⟨rfl, h5⟩ := List.append_inj' hp1 rfl
    obtain rfl : (f + k, Fn.nth l (f + k)) = p := by simpa using h5
    have HP2 := hidden hp2
    have HP3 := hidden hp3
    have HB := hidden hB
    have HK := hidden hK
    have HC := hidden hc
    clear hp1 hp2 hp3 hc hB hK h5
    gi_wp2
    refine ⟨by simp, .inl ⟨_, _, rfl, run_takeDeferred HK.out, ?_⟩⟩
    have hc5 := cell_kept HC.out (grownBy_putObj' _ D (.deferred none)) (fun r e => by cases e; exact ⟨_, HK.out, rfl⟩)
    refine ⟨.int .i64 ((f + k : Nat) : Int), ?_, ret_int (by have := Fn.less_stop HS.out.ok.up HF.out.2.1 (by have := HF.out.2.2.2; have := Fn.ah_le l (Fn.wdt l.length u) (H + 1); omega) HP2.out HP3.out; omega), HB.out.trans (belowK_b (w := w) (Nat.le_refl _) W' D _ _ (by have := HB2.out.size; omega) HK.out rfl rfl)⟩
    simp [results, Tryd.f21, go_sem, hc5]
set_option maxRecDepth 100000 in
set_option maxHeartbeats 2000000 in
/-- Of a number that isn't above 0, and of no numbers: 0. -/
theorem Less_none (s u : Nat) (x : Int) (l : List Nat) (q : Fn.Q) (w : World) (h : Sq w s l u q) (hx : x ≤ 0 ∨ l.length = 0) :
    Calls Tryd.prog 21 #[.pointer (some ⟨s, 0, none⟩), .int .i64 x] w fun e w' => e = .returned (.int .i64 0) ∧ Below w.heap.size w w' := by
  have c0 := h.cell0
  obtain ⟨N, hN⟩ : ∃ N, N = l.length := ⟨_, rfl⟩
  rw [← hN] at c0 hx
  have hc : ((w.alloc (.cells #[.int .i64 x] 3)).alloc (.cells #[.int .i64 0] 3)).cell? ⟨w.heap.size + 1, 0, none⟩ = some (.int .i64 0) := cell_new_at (by simp)
  have HC := hidden hc
  have hsl := lt_of_block h.cells
  clear h hN hc
  by_cases h1 : x ≤ 0
  · have d0 : decide (x ≤ 0) = true := by simpa using h1
    refine (callsIn_wide (n := 10)).1 ?_
    refine callsIn_of_wp_marks Tryd.func21 rfl trivial ?_ rfl
    simp only [Tryd.ntmps21, List.size_toArray, List.length_cons, List.length_nil, Nat.reduceAdd, Nat.reduceSub, Array.replicate_succ, Array.replicate_zero, List.push_toArray, List.append_toArray, List.nil_append, List.cons_append]
    refine wpIn_wide.2 ?_
    go_wp2_with fail
    refine ⟨.int .i64 0, ?_, rfl, ((Below.refl _ _).alloc (Nat.le_refl _) _).alloc (by simp) _⟩
    simp [results, Tryd.f21, go_sem, HC.out]
  · have d0 : decide (x ≤ 0) = false := by simpa using h1
    obtain rfl : N = 0 := by omega
    rw [Int.natCast_zero] at c0
    refine (callsIn_wide (n := 10)).1 ?_
    refine callsIn_of_wp_marks Tryd.func21 rfl trivial ?_ rfl
    simp only [Tryd.ntmps21, List.size_toArray, List.length_cons, List.length_nil, Nat.reduceAdd, Nat.reduceSub, Array.replicate_succ, Array.replicate_zero, List.push_toArray, List.append_toArray, List.nil_append, List.cons_append]
    refine wpIn_wide.2 ?_
    go_wp2_with fail
    refine ⟨.int .i64 0, ?_, rfl, ((Below.refl _ _).alloc (Nat.le_refl _) _).alloc (by simp) _⟩
    simp [results, Tryd.f21, go_sem, HC.out]
set_option maxRecDepth 100000 in
set_option maxHeartbeats 2000000 in
/-- Of a number from the bound on: all. -/
theorem Less_all (s u : Nat) (x : Int) (l : List Nat) (q : Fn.Q) (w : World) (h : Sq w s l u q) (h0 : 0 < l.length) (hx : (u : Int) ≤ x) :
    Calls Tryd.prog 21 #[.pointer (some ⟨s, 0, none⟩), .int .i64 x] w fun e w' => e = .returned (.int .i64 (l.length : Nat)) ∧ Below w.heap.size w w' := by
  have c0 := h.cell0
  have c1 := h.cell1
  have hu := h.ok.pos
  have hsl := lt_of_block h.cells
  obtain ⟨N, hN⟩ : ∃ N, N = l.length := ⟨_, rfl⟩
  rw [← hN] at c0 h0 ⊢
  clear h hN
  have d0 : decide (x ≤ 0) = false := by simp; omega
  have d1 : ((N : Int) == 0) = false := by simp; omega
  have d2 : decide ((u : Int) ≤ x) = true := by simpa using hx
  refine (callsIn_wide (n := 10)).1 ?_
  refine callsIn_of_wp_marks Tryd.func21 rfl trivial ?_ rfl
  simp only [Tryd.ntmps21, List.size_toArray, List.length_cons, List.length_nil, Nat.reduceAdd, Nat.reduceSub, Array.replicate_succ, Array.replicate_zero, List.push_toArray, List.append_toArray, List.nil_append, List.cons_append]
  refine wpIn_wide.2 ?_
  go_wp2_with fail
  obtain ⟨w0, hw0⟩ : ∃ w0, w0 = (w.alloc (.cells #[.int .i64 x] 3)).alloc (.cells #[.int .i64 0] 3) := ⟨_, rfl⟩
  rw [← hw0]
  have hb0 : Below w.heap.size w w0 := by rw [hw0]; exact ((Below.refl _ _).alloc (Nat.le_refl _) _).alloc (by simp) _
  have e3 : w0.cell? ⟨w.heap.size, 0, none⟩ = some (.int .i64 x) := by rw [hw0]; exact cell_made (cell_new_at rfl)
  have e4 : w0.cell? ⟨w.heap.size + 1, 0, none⟩ = some (.int .i64 0) := by rw [hw0]; exact cell_new_at (by simp)
  have f4 : w0.frozen? ⟨w.heap.size + 1, 0, none⟩ = false := by rw [hw0]; exact Lib.frozen_of_heap (heap_new_at (by simp)) 0
  have s0 := cell_after hb0 c0
  have s1 := cell_after hb0 c1
  have HB0 := hidden hb0
  clear hw0 c0 c1 hb0
  go_region
  go_wp2_with fail
  have hc5 := World.cell?_setCell_same' w0 ⟨w.heap.size + 1, 0, none⟩ (.int .i64 (N : Nat)) (by rw [e4]; rfl)
  refine ⟨.int .i64 (N : Nat), ?_, rfl, HB0.out.drew.setCell (by simp) _⟩
  simp [results, Tryd.f21, go_sem, hc5]
theorem Fn.less_zero {l : List Nat} (h : Fn.Up l) {x : Int} (hx : x ≤ 0 ∨ l.length = 0) : Fn.less l x = 0 := by
  refine Fn.less_eq h ⟨by omega, fun i hi => by omega, fun i _ hi => ?_⟩
  omega
theorem Fn.less_top {l : List Nat} {u : Nat} (h : Fn.Ok l u) {x : Int} (hx : (u : Int) ≤ x) : Fn.less l x = l.length := by
  refine Fn.less_eq h.up ⟨by omega, fun i hi => ?_, fun i _ hi => by omega⟩
  have := h.lt i hi
  omega
theorem SLess_any (s u : Nat) (x : Int) (l : List Nat) (q : Fn.Q) (w : World) (h : Sq w s l u q) (hT : Tab w) :
    Calls Tryd.prog 21 #[.pointer (some ⟨s, 0, none⟩), .int .i64 x] w fun e w' => e = .returned (.int .i64 ((Fn.less l x : Nat) : Int)) ∧ Below w.heap.size w w' := by
  by_cases h1 : x ≤ 0 ∨ l.length = 0
  · rw [Fn.less_zero h.ok.up h1]
    exact Less_none s u x l q w h h1
  · by_cases h2 : (u : Int) ≤ x
    · rw [Fn.less_top h.ok h2]
      exact Less_all s u x l q w h (by omega) h2
    · obtain ⟨y, rfl⟩ := Int.eq_ofNat_of_zero_le (show 0 ≤ x by omega)
      exact Less_mid s u y l q w h hT (by omega) (by omega) (by omega)
namespace Fn
/-- The least number that isn't less than x; the greatest that isn't greater. -/
def next (l : List Nat) (x : Int) : Option Nat := l[less l x]?
def prev (l : List Nat) (x : Int) : Option Nat := if less l (x + 1) = 0 then none else l[less l (x + 1) - 1]?
theorem getD_some {l : List Nat} {i : Nat} (h : i < l.length) : l[i]? = some (l.getD i 0) := by
  rw [List.getD_eq_getElem?_getD, List.getElem?_eq_getElem h]
  rfl
/-- A number, or 0; and whether there is one. -/
def two (o : Option Nat) : Value := .tuple #[.int .i64 ((o.getD 0 : Nat) : Int), .bool o.isSome]
theorem less_cap {l : List Nat} {u : Nat} (h : Ok l u) (x : Int) : less l (min x ((u : Int) - 1) + 1) = less l (x + 1) := by
  rcases Int.lt_or_le x ((u : Int) - 1) with hl | hl
  · rw [Int.min_eq_left (by omega)]
  · rw [Int.min_eq_right hl, less_top h (by omega), less_top h (by omega)]
end Fn
set_option maxHeartbeats 1000000 in
theorem SNext_any (s u : Nat) (x : Int) (l : List Nat) (q : Fn.Q) (w : World) (h : Sq w s l u q) (hT : Tab w) :
    Calls Tryd.prog 17 #[.pointer (some ⟨s, 0, none⟩), .int .i64 x] w fun e w' => e = .returned (Fn.two (Fn.next l x)) ∧ Below w.heap.size w w' := by
  have HS := hidden h
  have HT := hidden hT
  have HL := hidden (SLess_any s u x l q w h hT)
  have hr := Fn.less_le l x
  have hn : Hid (Fn.next l x = l[Fn.less l x]?) := by show _ = _; rfl
  generalize Fn.less l x = r at *
  unfold Fn.two
  by_cases hi : r < l.length
  · rw [hn.out, Fn.getD_some hi]
    have HG := hidden (fun w' (hb : Below w.heap.size w w') => SGet_in s u r r l q w' (h.below hb (Nat.le_refl _)) (hT.below hb (Nat.le_refl _)) hi rfl)
    generalize l.getD r 0 = y at *
    clear h hT hi
    go_enter Tryd.func17, Tryd.ntmps17
    go_wp2_with fail
    refine (HL.out).mono ?_
    rintro e' w1 ⟨rfl, hb1⟩
    have HB1 := hidden hb1
    clear hb1
    go_wp2_with fail
    refine (HG.out w1 HB1.out).mono ?_
    rintro e' w2 ⟨rfl, hb2⟩
    have HB2 := hidden (below_after HB1.out hb2)
    clear hb2
    go_wp2_with fail
    go_ret2
    exact ⟨rfl, HB2.out⟩
  · rw [hn.out, List.getElem?_eq_none (by omega)]
    have HG := hidden (fun w' (hb : Below w.heap.size w w') => SGet_out s u r l q w' (h.below hb (Nat.le_refl _)) (.inr (by omega)))
    clear h hT hi
    go_enter Tryd.func17, Tryd.ntmps17
    go_wp2_with fail
    refine (HL.out).mono ?_
    rintro e' w1 ⟨rfl, hb1⟩
    have HB1 := hidden hb1
    clear hb1
    go_wp2_with fail
    refine (HG.out w1 HB1.out).mono ?_
    rintro e' w2 ⟨rfl, hb2⟩
    have HB2 := hidden (below_after HB1.out hb2)
    clear hb2
    go_wp2_with fail
    go_ret2
    exact ⟨rfl, HB2.out⟩
set_option maxHeartbeats 1000000 in
theorem SPrev_any (s u : Nat) (x : Int) (l : List Nat) (q : Fn.Q) (w : World) (h : Sq w s l u q) (hT : Tab w) (hx : -9223372036854775808 ≤ x) :
    Calls Tryd.prog 19 #[.pointer (some ⟨s, 0, none⟩), .int .i64 x] w fun e w' => e = .returned (Fn.two (Fn.prev l x)) ∧ Below w.heap.size w w' := by
  have HS := hidden h
  have HT := hidden hT
  have hc := Fn.less_cap h.ok x
  have c1 := h.cell1
  have hu := h.ok.le
  have hu1 := h.ok.pos
  have hn := h.ok.len
  obtain ⟨z, hz⟩ : ∃ z, min x ((u : Int) - 1) = z := ⟨_, rfl⟩
  rw [hz] at hc
  have hz2 : z ≤ 1099511627776 := by omega
  have hz3 : -9223372036854775808 ≤ z := by omega
  have HL := hidden (SLess_any s u (z + 1) l q w h hT)
  rw [hc] at HL
  have hr := Fn.less_le l (x + 1)
  have hp : Hid (Fn.prev l x = if Fn.less l (x + 1) = 0 then none else l[Fn.less l (x + 1) - 1]?) := by show _ = _; rfl
  generalize Fn.less l (x + 1) = r at *
  unfold Fn.two
  have hrr : r < 16777216 := by omega
  by_cases hi : r = 0
  · rw [hp.out, if_pos hi]
    subst hi
    have HG := hidden (fun w' (hb : Below w.heap.size w w') => SGet_out s u (-1) l q w' (h.below hb (Nat.le_refl _)) (.inl (by omega)))
    clear h hT
    rw [Int.natCast_zero] at HL
    go_enter Tryd.func19, Tryd.ntmps19
    go_wp2_with fail
    refine (HL.out).mono ?_
    rintro e' w1 ⟨rfl, hb1⟩
    have HB1 := hidden hb1
    clear hb1
    go_wp2_with fail
    refine (HG.out w1 HB1.out).mono ?_
    rintro e' w2 ⟨rfl, hb2⟩
    have HB2 := hidden (below_after HB1.out hb2)
    clear hb2
    go_wp2_with fail
    go_ret2
    exact ⟨rfl, HB2.out⟩
  · rw [hp.out, if_neg hi, Fn.getD_some (by omega)]
    have HG := hidden (fun w' (hb : Below w.heap.size w w') => SGet_in s u (r - 1) ((r : Int) - 1) l q w' (h.below hb (Nat.le_refl _)) (hT.below hb (Nat.le_refl _)) (by omega) (by omega))
    generalize l.getD (r - 1) 0 = y at *
    clear h hT
    go_enter Tryd.func19, Tryd.ntmps19
    go_wp2_with fail
    refine (HL.out).mono ?_
    rintro e' w1 ⟨rfl, hb1⟩
    have HB1 := hidden hb1
    clear hb1
    go_wp2_with fail
    refine (HG.out w1 HB1.out).mono ?_
    rintro e' w2 ⟨rfl, hb2⟩
    have HB2 := hidden (below_after HB1.out hb2)
    clear hb2
    go_wp2_with fail
    go_ret2
    exact ⟨rfl, HB2.out⟩
set_option maxHeartbeats 1000000 in
theorem SHas_any (s u : Nat) (x : Int) (l : List Nat) (q : Fn.Q) (w : World) (h : Sq w s l u q) (hT : Tab w) :
    Calls Tryd.prog 23 #[.pointer (some ⟨s, 0, none⟩), .int .i64 x] w fun e w' => e = .returned (.bool ((Fn.next l x).isSome && ((((Fn.next l x).getD 0 : Nat) : Int) == x))) ∧ Below w.heap.size w w' := by
  have HN := hidden (SNext_any s u x l q w h hT)
  unfold Fn.two at HN
  generalize Fn.next l x = o at *
  clear h hT
  cases o with
  | none =>
    rw [show (none : Option Nat).isSome = false from rfl] at *
    go_enter Tryd.func23, Tryd.ntmps23
    go_wp2_with fail
    refine (HN.out).mono ?_
    rintro e' w1 ⟨rfl, hb1⟩
    have HB1 := hidden hb1
    clear hb1
    go_wp2_with fail
    go_ret
    exact ⟨rfl, HB1.out⟩
  | some y =>
    rw [show (some y : Option Nat).isSome = true from rfl, show (some y : Option Nat).getD 0 = y from rfl] at *
    go_enter Tryd.func23, Tryd.ntmps23
    go_wp2_with fail
    refine (HN.out).mono ?_
    rintro e' w1 ⟨rfl, hb1⟩
    have HB1 := hidden hb1
    clear hb1
    go_wp2_with fail
    go_ret
    exact ⟨ret_bool (by simp), HB1.out⟩
end Go.Proofs.YtfohldojcdhnhaaDoor
