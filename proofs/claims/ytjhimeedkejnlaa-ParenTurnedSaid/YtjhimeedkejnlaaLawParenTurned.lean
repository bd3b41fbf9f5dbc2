/-
  The walk of the law ParenTurned: it returns true for every list of Puts and every question; nothing that was there is changed.
-/
import Derived.Test.YtjhimeedkejnlaaPnAwake
import Derived.Test.YtjhimeedkejnlaaPnFill
import Derived.Test.YtjhimeedkejnlaaOpsBelow
import Derived.Deep.RegionHeldLaw
import Derived.Deep.RegionHeld
namespace Go.Proofs.Ytjhimeedkejnlaa
open Go.RowKit
theorem Forth_at (r n X f g : Nat) (d : Int) (u : Value) (w : World) (h : Rw w r n X u) (hfg : f ≤ g) (hg : g ≤ n) :
    Calls Try.prog 15 #[.pointer (some ⟨r, 0, none⟩), .int .i64 (f : Nat), .int .i64 (g : Nat), .int .i64 d] w fun e w' => e = .returned (.int .i64 (Pn.forth X f g d)) ∧ Below w.heap.size w w' := by
  have := Forth_any r n X f g d u w h
  rw [Pn.fr_nat n f (by omega), Pn.to_nat n f g hfg hg] at this
  exact this
theorem Back_at (r n X f g : Nat) (d : Int) (u : Value) (w : World) (h : Rw w r n X u) (hfg : f ≤ g) (hg : g ≤ n) :
    Calls Try.prog 17 #[.pointer (some ⟨r, 0, none⟩), .int .i64 (f : Nat), .int .i64 (g : Nat), .int .i64 d] w fun e w' => e = .returned (.int .i64 (Pn.back X f g d)) ∧ Below w.heap.size w w' := by
  have := Back_any r n X f g d u w h
  rw [Pn.fr_nat n f (by omega), Pn.to_nat n f g hfg hg] at this
  exact this
theorem Excess_at (r n X f g : Nat) (u : Value) (w : World) (h : Rw w r n X u) (hfg : f ≤ g) (hg : g ≤ n) :
    Calls Try.prog 13 #[.pointer (some ⟨r, 0, none⟩), .int .i64 (f : Nat), .int .i64 (g : Nat)] w fun e w' => e = .returned (.int .i64 (Wd.exc (X / 2 ^ f) (g - f))) ∧ w' = w := by
  have := PExcess_any r n X f g u w h
  rw [Pn.fr_nat n f (by omega), Pn.to_nat n f g hfg hg] at this
  exact this
set_option maxHeartbeats 4000000 in
set_option maxRecDepth 100000 in
theorem pturned_any (L : List Bool) (v : Value) (a b d : Int) (w : World) (h : Bl w v L) (hL : L.length ≤ 4294967295) (hd1 : -5000 ≤ d) (hd2 : d ≤ 5000) :
    Calls Try.prog 21 #[v, .int .i64 a, .int .i64 b, .int .i64 d] w fun e w' => e = .returned (.bool true) ∧ Below w.heap.size w w' := by
  obtain ⟨hA, hB⟩ := Pn.fr_to L.length a b
  have HE := hidden (rEnds_any L v a b w h.view)
  generalize Pn.fr L.length a = f at *
  generalize Pn.to L.length a b = g at *
  have HB2 : Hid (Bl w v L) := h
  have hmk := Pn.mk_bools L.length (by omega)
  obtain ⟨ab, cb, hv, hcb, hf⟩ := h.view
  subst hv
  have HF := hidden hf
  have HN : Hid ((Pn.opp L).length = L.length) := Pn.opp_length L
  clear hf h
  go_enter Try.func21, Try.ntmps21
  go_wp2_with fail
  refine HE.out.mono ?_
  rintro e1 w2 ⟨rfl, rfl⟩
  go_wp2_with fail
  go_loopw [13] (fun i wr => ∃ k : Nat, k ≤ L.length ∧ i = .int .i64 k ∧ wr.heap[w2.heap.size]? = some (.cells (Pn.fillB (Pn.opp L) k) 4 (0, 0)) ∧ Below w2.heap.size w2 wr) (fun i _ => L.length - (intOf i).toNat)
  case atStart =>
    refine ⟨0, by omega, rfl, ?_, (Below.refl _ _).alloc (Nat.le_refl _) _⟩
    rw [heap_alloc_new, Pn.fillB_zero, HN.out]
  case round =>
    obtain ⟨k, hk, rfl, hg, hb⟩ := hrel
    have HG := hidden hg
    have HB := hidden hb
    by_cases hlt : k < L.length
    · obtain ⟨b, off, rfl, hbl, hcell⟩ := HF.out (by omega)
      have c0 := (hb.cell (p := ⟨b, off + k, none⟩) hbl).trans (hcell k hlt)
      obtain ⟨p, hp⟩ : ∃ p : Nat, p = L.length - 1 - k := ⟨_, rfl⟩
      have hp1 : (L.length : Int) - 1 - (k : Int) = (p : Int) := by omega
      have hp2 : p < L.length := by omega
      have hpM : p = (Pn.opp L).length - 1 - k := by rw [HN.out]; exact hp
      have c1 : wr.cell? ⟨w2.heap.size, p, none⟩ = some (.bool false) := by rw [Lib.cell_of_heap hg, Pn.fillB_at _ k p (by rw [HN.out]; exact hlt) hpM]
      have f1 : wr.frozen? ⟨w2.heap.size, p, none⟩ = false := Lib.frozen_of_heap hg p
      have hn := Pn.fillB_next (Pn.opp L) k p (by rw [HN.out]; exact hlt) hpM
      have HEE : Hid ((Pn.opp L).getD p false = !(L.getD k false)) := by rw [hp]; exact Pn.opp_get L k hlt
      obtain ⟨o, ho⟩ : ∃ o, o = L.getD k false := ⟨_, rfl⟩
      rw [← ho] at c0 HEE
      rw [HEE.out] at hn
      have HNX := hidden hn
      clear hcell ho hg hb hn hp hpM
      go_wp2_with fail
      refine ⟨⟨k + 1, by omega, by go_num, ?_, HB.out.setCell (Nat.le_refl _) _⟩, by simp [intOf]; omega⟩
      rw [setCell_heap_same _ _ _ _ _ _ _ HG.out, HNX.out]
    · obtain rfl : k = L.length := by omega
      have HT : Hid (Bl wr (.slice (some ⟨w2.heap.size, 0, none⟩) L.length L.length) (Pn.opp L)) := Pn.of_fillB HN.out (by omega) hg
      have HB3 : Hid (Bl wr (.slice ab L.length cb) L) := HB2.out.below hb (Nat.le_refl _)
      have HQ3 : Hid (Below w2.heap.size w2 wr) := hb
      clear hg hb HG HB
      obtain ⟨ng, hng⟩ : ∃ ng : Nat, ng = L.length - g := ⟨_, rfl⟩
      obtain ⟨nf, hnf⟩ : ∃ nf : Nat, nf = L.length - f := ⟨_, rfl⟩
      have i1 : (L.length : Int) - (g : Int) = (ng : Int) := by omega
      have i2 : (L.length : Int) - (f : Int) = (nf : Int) := by omega
      have j1 : ng ≤ nf := by omega
      have j2 : nf ≤ L.length := by omega
      have hfind := Pn.turned_find L (Pn.opp L) (Pn.opp_get L) f g d hA hB
      have hexc := Pn.turned_exc L (Pn.opp L) (Pn.opp_get L) f g hA hB
      have hxb := Wd.exc_bounds (Bt.num L / 2 ^ f) (g - f)
      rw [← hng, ← hnf] at hfind hexc
      have hkb := Pn.forth_bounds (Bt.num L) f g d hA
      clear hng hnf
      go_wp2_with fail
      refine (Made_any L _ _ HB3.out (by omega)).mono ?_
      rintro e' w4 ⟨r4, u4, rfl, hr4, hq4, _, _⟩
      have HR4 := hidden hr4
      have HT4 : Hid (Bl w4 (.slice (some ⟨w2.heap.size, 0, none⟩) L.length L.length) (Pn.opp L)) := HT.out.below hq4 (Nat.le_refl _)
      have HQ4 := hidden (HQ3.out.trans (hq4.mono HQ3.out.size))
      clear hr4 hq4
      go_wp2_with fail
      refine (Made_any (Pn.opp L) _ _ HT4.out (by rw [HN.out]; omega)).mono ?_
      rintro e' w6 ⟨r6, u6, rfl, hr6, hq6, _, _⟩
      rw [HN.out] at hr6
      have HR6 := hidden hr6
      have HR46 := hidden (HR4.out.below hq6 (Nat.le_refl _))
      have HQ6 := hidden (HQ4.out.trans (hq6.mono HQ4.out.size))
      clear hr6 hq6
      go_wp2_with fail
      refine (Forth_at r4 L.length (Bt.num L) f g d u4 _ HR46.out hA hB).mono ?_
      rintro e' w7 ⟨rfl, hq7⟩
      have HR7 := hidden (HR6.out.below hq7 (Nat.le_refl _))
      have HR47 := hidden (HR46.out.below hq7 (Nat.le_refl _))
      have HQ7 := hidden (HQ6.out.trans (hq7.mono HQ6.out.size))
      clear hq7
      go_wp2_with fail
      refine (Back_at r6 L.length (Bt.num (Pn.opp L)) ng nf (-d) u6 _ HR7.out j1 j2).mono ?_
      rintro e' w8 ⟨rfl, hq8⟩
      have HR8 := hidden (HR7.out.below hq8 (Nat.le_refl _))
      have HR48 := hidden (HR47.out.below hq8 (Nat.le_refl _))
      have HQ8 := hidden (HQ7.out.trans (hq8.mono HQ7.out.size))
      clear hq8
      have X1 := hidden (Excess_at r4 L.length (Bt.num L) f g u4 _ HR48.out hA hB)
      have X2 := hidden (Excess_at r6 L.length (Bt.num (Pn.opp L)) ng nf u6 _ HR8.out j1 j2)
      rw [hexc] at X2
      generalize Wd.exc (Bt.num L / 2 ^ f) (g - f) = x at *
      generalize Pn.forth (Bt.num L) f g d = y at *
      generalize Pn.back (Bt.num (Pn.opp L)) ng nf (-d) = z at *
      have hx : -4294967296 ≤ x ∧ x ≤ 4294967296 := by omega
      clear hexc hxb
      rcases hfind with ⟨h1, h2⟩ | ⟨h1, h2⟩
      · subst h1 h2
        go_wp2_with fail
        refine X1.out.mono ?_
        rintro e' w9 ⟨rfl, rfl⟩
        go_wp2_with fail
        refine X2.out.mono ?_
        rintro e' w9 ⟨rfl, rfl⟩
        go_wp2_with fail
        go_ret
        exact ⟨rfl, HQ8.out⟩
      · have hz : (z == (L.length : Int) - 1 - y) = true := by rw [h2]; simp
        have hy : (y == -1) = false := by simp; omega
        have hyb : y ≤ 4294967296 := by omega
        clear h2 hkb
        go_wp2_with fail
        refine X1.out.mono ?_
        rintro e' w9 ⟨rfl, rfl⟩
        go_wp2_with fail
        refine X2.out.mono ?_
        rintro e' w9 ⟨rfl, rfl⟩
        go_wp2_with fail
        go_ret
        exact ⟨rfl, HQ8.out⟩
set_option maxHeartbeats 1000000 in
theorem ParenTurned_long (l : List (Nat × Int)) (u : Value) (a b d : Int) (w : World) (h : Ops w u l) (hl : 60 < l.length) (hm : l.length ≤ 9223372036854775807) :
    Calls Try.prog 7 #[u, .agg #[.int .i64 a, .int .i64 b, .int .i64 d]] w fun e w' => e = .returned (.bool true) ∧ Below w.heap.size w w' := by
  obtain ⟨ao, cap, rfl, hcap, hc⟩ := h.cells
  clear h hc
  go_enter Try.func7, Try.ntmps7
  go_wp2_with fail
  obtain ⟨w0, hw0⟩ : ∃ w0, w0 = w.alloc (.cells #[.int .i64 a, .int .i64 b, .int .i64 d] 38) := ⟨_, rfl⟩
  rw [← hw0]
  have hb0 : Below w.heap.size w w0 := by rw [hw0]; exact (Below.refl _ _).alloc (Nat.le_refl _) _
  have hc0 : w0.heap[w.heap.size]? = some (.cells #[.int .i64 a, .int .i64 b, .int .i64 d] 38 (0, 0)) := by rw [hw0]; exact heap_alloc_new _ _
  have HB0 := hidden hb0
  have HC0 := hidden hc0
  clear hw0 hb0 hc0
  refine (awake6_any w0).mono ?_
  rintro e' w1 ⟨rfl, hq1⟩
  have hc1 : w1.heap[w.heap.size]? = some (.cells #[.int .i64 a, .int .i64 b, .int .i64 d] 38 (0, 0)) := (hq1.block _ (lt_of_block HC0.out)).trans HC0.out
  have HQ1 := hidden (HB0.out.trans (hq1.mono HB0.out.size))
  have c0 : w1.cell? ⟨w.heap.size, 0, none⟩ = some (.int .i64 a) := Lib.cell_of_heap hc1 0
  have c1 : w1.cell? ⟨w.heap.size, 1, none⟩ = some (.int .i64 b) := Lib.cell_of_heap hc1 1
  have c2 : w1.cell? ⟨w.heap.size, 2, none⟩ = some (.int .i64 d) := Lib.cell_of_heap hc1 2
  clear hq1 hc1
  go_wp2_with fail
  refine (awake6_any w1).mono ?_
  rintro e w2 ⟨rfl, hq2⟩
  have HQ2 := hidden (HQ1.out.trans (hq2.mono HQ1.out.size))
  clear hq2
  go_wp2_with fail
  go_ret
  exact ⟨rfl, HQ2.out⟩
set_option maxHeartbeats 1000000 in
theorem ParenTurned_low (l : List (Nat × Int)) (u : Value) (a b d : Int) (w : World) (h : Ops w u l) (hl : l.length ≤ 60) (hd : d < -5000) :
    Calls Try.prog 7 #[u, .agg #[.int .i64 a, .int .i64 b, .int .i64 d]] w fun e w' => e = .returned (.bool true) ∧ Below w.heap.size w w' := by
  obtain ⟨ao, cap, rfl, hcap, hc⟩ := h.cells
  clear h hc
  go_enter Try.func7, Try.ntmps7
  go_wp2_with fail
  obtain ⟨w0, hw0⟩ : ∃ w0, w0 = w.alloc (.cells #[.int .i64 a, .int .i64 b, .int .i64 d] 38) := ⟨_, rfl⟩
  rw [← hw0]
  have hb0 : Below w.heap.size w w0 := by rw [hw0]; exact (Below.refl _ _).alloc (Nat.le_refl _) _
  have hc0 : w0.heap[w.heap.size]? = some (.cells #[.int .i64 a, .int .i64 b, .int .i64 d] 38 (0, 0)) := by rw [hw0]; exact heap_alloc_new _ _
  have HB0 := hidden hb0
  have HC0 := hidden hc0
  clear hw0 hb0 hc0
  refine (awake6_any w0).mono ?_
  rintro e' w1 ⟨rfl, hq1⟩
  have hc1 : w1.heap[w.heap.size]? = some (.cells #[.int .i64 a, .int .i64 b, .int .i64 d] 38 (0, 0)) := (hq1.block _ (lt_of_block HC0.out)).trans HC0.out
  have HQ1 := hidden (HB0.out.trans (hq1.mono HB0.out.size))
  have c0 : w1.cell? ⟨w.heap.size, 0, none⟩ = some (.int .i64 a) := Lib.cell_of_heap hc1 0
  have c1 : w1.cell? ⟨w.heap.size, 1, none⟩ = some (.int .i64 b) := Lib.cell_of_heap hc1 1
  have c2 : w1.cell? ⟨w.heap.size, 2, none⟩ = some (.int .i64 d) := Lib.cell_of_heap hc1 2
  clear hq1 hc1
  go_wp2_with fail
  refine (awake6_any w1).mono ?_
  rintro e w2 ⟨rfl, hq2⟩
  have HQ2 := hidden (HQ1.out.trans (hq2.mono HQ1.out.size))
  clear hq2
  go_wp2_with fail
  go_ret
  exact ⟨rfl, HQ2.out⟩
set_option maxHeartbeats 1000000 in
theorem ParenTurned_high (l : List (Nat × Int)) (u : Value) (a b d : Int) (w : World) (h : Ops w u l) (hl : l.length ≤ 60) (hd : 5000 < d) :
    Calls Try.prog 7 #[u, .agg #[.int .i64 a, .int .i64 b, .int .i64 d]] w fun e w' => e = .returned (.bool true) ∧ Below w.heap.size w w' := by
  obtain ⟨ao, cap, rfl, hcap, hc⟩ := h.cells
  clear h hc
  go_enter Try.func7, Try.ntmps7
  go_wp2_with fail
  obtain ⟨w0, hw0⟩ : ∃ w0, w0 = w.alloc (.cells #[.int .i64 a, .int .i64 b, .int .i64 d] 38) := ⟨_, rfl⟩
  rw [← hw0]
  have hb0 : Below w.heap.size w w0 := by rw [hw0]; exact (Below.refl _ _).alloc (Nat.le_refl _) _
  have hc0 : w0.heap[w.heap.size]? = some (.cells #[.int .i64 a, .int .i64 b, .int .i64 d] 38 (0, 0)) := by rw [hw0]; exact heap_alloc_new _ _
  have HB0 := hidden hb0
  have HC0 := hidden hc0
  clear hw0 hb0 hc0
  refine (awake6_any w0).mono ?_
  rintro e' w1 ⟨rfl, hq1⟩
  have hc1 : w1.heap[w.heap.size]? = some (.cells #[.int .i64 a, .int .i64 b, .int .i64 d] 38 (0, 0)) := (hq1.block _ (lt_of_block HC0.out)).trans HC0.out
  have HQ1 := hidden (HB0.out.trans (hq1.mono HB0.out.size))
  have c0 : w1.cell? ⟨w.heap.size, 0, none⟩ = some (.int .i64 a) := Lib.cell_of_heap hc1 0
  have c1 : w1.cell? ⟨w.heap.size, 1, none⟩ = some (.int .i64 b) := Lib.cell_of_heap hc1 1
  have c2 : w1.cell? ⟨w.heap.size, 2, none⟩ = some (.int .i64 d) := Lib.cell_of_heap hc1 2
  clear hq1 hc1
  go_wp2_with fail
  refine (awake6_any w1).mono ?_
  rintro e w2 ⟨rfl, hq2⟩
  have HQ2 := hidden (HQ1.out.trans (hq2.mono HQ1.out.size))
  clear hq2
  go_wp2_with fail
  go_ret
  exact ⟨rfl, HQ2.out⟩
set_option maxHeartbeats 4000000 in
theorem ParenTurned_short (l : List (Nat × Int)) (u : Value) (a b d : Int) (w : World) (h : Ops w u l) (hl : l.length ≤ 60) (hd1 : -5000 ≤ d) (hd2 : d ≤ 5000) :
    Calls Try.prog 7 #[u, .agg #[.int .i64 a, .int .i64 b, .int .i64 d]] w fun e w' => e = .returned (.bool true) ∧ Below w.heap.size w w' := by
  have HH := hidden h
  have hL := Bt.all_length l l.length
  rw [List.take_of_length_le (Nat.le_refl _)] at hL
  obtain ⟨ao, cap, hu, hcap, _⟩ := h.cells
  subst hu
  clear h
  go_enter Try.func7, Try.ntmps7
  go_wp2_with fail
  obtain ⟨w0, hw0⟩ : ∃ w0, w0 = w.alloc (.cells #[.int .i64 a, .int .i64 b, .int .i64 d] 38) := ⟨_, rfl⟩
  rw [← hw0]
  have hb0 : Below w.heap.size w w0 := by rw [hw0]; exact (Below.refl _ _).alloc (Nat.le_refl _) _
  have hc0 : w0.heap[w.heap.size]? = some (.cells #[.int .i64 a, .int .i64 b, .int .i64 d] 38 (0, 0)) := by rw [hw0]; exact heap_alloc_new _ _
  have HB0 := hidden hb0
  have HC0 := hidden hc0
  clear hw0 hb0 hc0
  refine (awake6_any w0).mono ?_
  rintro e' w1 ⟨rfl, hq1⟩
  have hc1 : w1.heap[w.heap.size]? = some (.cells #[.int .i64 a, .int .i64 b, .int .i64 d] 38 (0, 0)) := (hq1.block _ (lt_of_block HC0.out)).trans HC0.out
  have HQ1 := hidden (HB0.out.trans (hq1.mono HB0.out.size))
  have c0 : w1.cell? ⟨w.heap.size, 0, none⟩ = some (.int .i64 a) := Lib.cell_of_heap hc1 0
  have c1 : w1.cell? ⟨w.heap.size, 1, none⟩ = some (.int .i64 b) := Lib.cell_of_heap hc1 1
  have c2 : w1.cell? ⟨w.heap.size, 2, none⟩ = some (.int .i64 d) := Lib.cell_of_heap hc1 2
  clear hq1 hc1
  have HO1 := hidden (HH.out.below HQ1.out (Nat.le_refl _))
  have HO1d := hidden (HO1.out.below ((Below.refl w1.heap.size w1).drew) (Nat.le_refl _))
  have HQ1d := hidden HQ1.out.drew
  have k0 : w1.drew.cell? ⟨w.heap.size, 0, none⟩ = some (.int .i64 a) := c0
  have k1 : w1.drew.cell? ⟨w.heap.size, 1, none⟩ = some (.int .i64 b) := c1
  have k2 : w1.drew.cell? ⟨w.heap.size, 2, none⟩ = some (.int .i64 d) := c2
  go_wp2_with fail
  go_region_held (fun w' => w'.cell? ⟨w.heap.size, 0, none⟩ = some (.int .i64 a) ∧ w'.cell? ⟨w.heap.size, 1, none⟩ = some (.int .i64 b) ∧ w'.cell? ⟨w.heap.size, 2, none⟩ = some (.int .i64 d)) (first | (exact ⟨by assumption, by assumption, by assumption⟩) | go_keep)
    (first
      | (go_at_call 9; refine (All_any l _ _ HO1d.out hl).mono ?_; rintro e' w3 ⟨v2, rfl, hb2, hq2⟩; have HB2 : Hid (Bl w3 v2 (Bt.all l)) := hb2; have HQ2 := hidden (HQ1d.out.trans (hq2.mono HQ1d.out.size)); have g0 : w3.cell? ⟨w.heap.size, 0, none⟩ = some (.int .i64 a) := (hq2.cell (p := ⟨w.heap.size, 0, none⟩) (World.block_lt_of_cell? _ ⟨w.heap.size, 0, none⟩ k0)).trans k0; have g1 : w3.cell? ⟨w.heap.size, 1, none⟩ = some (.int .i64 b) := (hq2.cell (p := ⟨w.heap.size, 1, none⟩) (World.block_lt_of_cell? _ ⟨w.heap.size, 1, none⟩ k1)).trans k1; have g2 : w3.cell? ⟨w.heap.size, 2, none⟩ = some (.int .i64 d) := (hq2.cell (p := ⟨w.heap.size, 2, none⟩) (World.block_lt_of_cell? _ ⟨w.heap.size, 2, none⟩ k2)).trans k2; clear hb2 hq2)
      | (go_at_call 21; refine (pturned_any (Bt.all l) v2 a b d _ HB2.out (by omega) hd1 hd2).mono ?_; rintro e' w4 ⟨rfl, hq4⟩; have HQ4 := hidden (HQ2.out.trans (hq4.mono HQ2.out.size)); have m0 : w4.cell? ⟨w.heap.size, 0, none⟩ = some (.int .i64 a) := (hq4.cell (p := ⟨w.heap.size, 0, none⟩) (World.block_lt_of_cell? _ ⟨w.heap.size, 0, none⟩ g0)).trans g0; have m1 : w4.cell? ⟨w.heap.size, 1, none⟩ = some (.int .i64 b) := (hq4.cell (p := ⟨w.heap.size, 1, none⟩) (World.block_lt_of_cell? _ ⟨w.heap.size, 1, none⟩ g1)).trans g1; have m2 : w4.cell? ⟨w.heap.size, 2, none⟩ = some (.int .i64 d) := (hq4.cell (p := ⟨w.heap.size, 2, none⟩) (World.block_lt_of_cell? _ ⟨w.heap.size, 2, none⟩ g2)).trans g2; clear hq4))
  go_wp2_with fail
  go_ret
  exact ⟨rfl, HQ4.out⟩
theorem ParenTurned_walk (l : List (Nat × Int)) (u : Value) (a b d : Int) (w : World) (h : Ops w u l) (hm : l.length ≤ 9223372036854775807) :
    Calls Try.prog 7 #[u, .agg #[.int .i64 a, .int .i64 b, .int .i64 d]] w fun e w' => e = .returned (.bool true) ∧ Below w.heap.size w w' := by
  by_cases hl : l.length ≤ 60
  · by_cases h1 : d < -5000
    · exact ParenTurned_low l u a b d w h hl h1
    · by_cases h2 : 5000 < d
      · exact ParenTurned_high l u a b d w h hl h2
      · exact ParenTurned_short l u a b d w h hl (by omega) (by omega)
  · exact ParenTurned_long l u a b d w h (by omega) hm
end Go.Proofs.Ytjhimeedkejnlaa
