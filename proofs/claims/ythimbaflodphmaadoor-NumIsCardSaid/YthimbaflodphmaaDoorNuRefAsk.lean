/-
  The contracts of laceworkref10's Is, Cmp and Whole: for every text of up to a million bytes; memory is but made.
-/
import Derived.Deep.RegionHeld
import Derived.Test.YthimbaflodphmaaDoorNuTell
import Derived.Test.YthimbaflodphmaaDoorNuRd
namespace Go.Proofs.YthimbaflodphmaaDoor
open Go.RowKit Go.Sort
open Nu
namespace Nu
/-- Digits as they lie in memory. -/
structure Lies (w : World) (g : Nat) (F : Nat → Nat) (L : Nat) : Prop where
  lt : g < w.heap.size
  dg : Dg w g F L
theorem Lies.below {w w' : World} {g L : Nat} {F : Nat → Nat} (h : Lies w g F L) (hb : Below w.heap.size w w') : Lies w' g F L := ⟨Nat.lt_of_lt_of_le h.lt hb.size, h.dg.below hb h.lt⟩
theorem rr_some {w w' : World} {p : Pt} {e : Ending} {L : Nat} {F : Nat → Nat} {P E : Int} (hL : L = (p.wh ++ p.fr).length) (hF : F = df (p.wh ++ p.fr)) (hP : P = ((p.wh.length : Nat) : Int)) (hE : E = clip 1000000000000 p) (hp : 0 < L) (h : RrPost w (some p) e w') :
    ∃ g cap, e = .returned (.tuple #[nv p.neg g L cap P E, .bool true]) ∧ Lies w' g F L ∧ Below w.heap.size w w' := by
  subst hL hF hP hE
  obtain ⟨v, he, ho, hb⟩ := h
  rw [dz_length] at ho
  obtain ⟨g, cap, hv, hg, hd⟩ := dg_own ho hp (fun j hj => dz_at _ j hj)
  exact ⟨g, cap, by rw [he, hv]; rfl, ⟨hg, hd⟩, hb⟩
/-- What is known of a number that was read. -/
structure Got (p : Pt) (m : Nat) (L : Nat) (F : Nat → Nat) (P E : Int) : Prop where
  hL : L = (p.wh ++ p.fr).length
  hF : F = df (p.wh ++ p.fr)
  hP : P = ((p.wh.length : Nat) : Int)
  hE : E = clip 1000000000000 p
  ok : p.Ok m
  pos : 0 < L
  le : L ≤ m
  p0 : 0 ≤ P
  p1 : P ≤ m
  e0 : -1000000000000 ≤ E
  e1 : E ≤ 1000000000000
  nine : ∀ j, F j ≤ 9
  past : ∀ j, L ≤ j → F j = 0
theorem read_pos {l : List UInt8} {p : Pt} (h : Nu.read l = some p) : 0 < (p.wh ++ p.fr).length := by
  rw [List.length_append]
  have hb : body (has 45 l) (off 45 l) = some p := h
  unfold body at hb
  split at hb
  · cases hb
  rename_i h0
  split at hb
  · cases hb
  have hl : ((off 45 l).take (dc (off 45 l))).length ≠ 0 := by
    have := dc_le (off 45 l)
    rw [List.length_take]
    omega
  split at hb
  · split at hb
    · cases hb
    · have := (tail_ok hb).2.1
      rw [this]
      omega
  · have := (tail_ok hb).2.1
    rw [this]
    omega
theorem got {l : List UInt8} {p : Pt} (h : Nu.read l = some p) : ∃ L F P E, Got p l.length L F P E := by
  have hpos := read_pos h
  have hok := (read_ok h).2
  have hle := hok.le
  have hcl := clip_in p
  have hll : (p.wh ++ p.fr).length = p.wh.length + p.fr.length := List.length_append
  exact ⟨_, _, _, _, rfl, rfl, rfl, rfl, hok, hpos, by omega, by omega, by omega, hcl.1, hcl.2, df_le _ hok.all, fun j hj => df_past _ j hj⟩
end Nu
set_option maxHeartbeats 1000000 in
set_option maxRecDepth 100000 in
theorem rIs10_any (l : List UInt8) (w : World) (hs : l.length ≤ 1000000) :
    Calls Tryd.prog 14 #[.string (str l)] w fun e w' => e = .returned (.bool (Nu.read l).isSome) ∧ Below w.heap.size w w' := by
  have hr := rRead_any l w hs
  cases hR : Nu.read l with
  | none =>
    rw [hR] at hr
    clear hR
    go_enter Tryd.func14, Tryd.ntmps14
    go_wp2_with fail
    refine hr.mono ?_
    rintro e w2 ⟨rfl, hb⟩
    have HB := hidden hb
    clear hb
    go_wp2_with fail
    go_ret
    exact ⟨rfl, HB.out.alloc HB.out.size _⟩
  | some p =>
    rw [hR] at hr
    obtain ⟨L, F, P, E, hG⟩ := got hR
    have HG := hidden hG
    clear hR hG
    go_enter Tryd.func14, Tryd.ntmps14
    go_wp2_with fail
    refine hr.mono ?_
    intro e w2 hpost
    obtain ⟨g, cap, rfl, hlies, hb⟩ := rr_some HG.out.hL HG.out.hF HG.out.hP HG.out.hE HG.out.pos hpost
    have HB := hidden hb
    clear hlies hpost hb
    unfold nv
    go_wp2_with fail
    go_ret
    exact ⟨rfl, HB.out.alloc HB.out.size _⟩
set_option maxHeartbeats 2000000 in
set_option maxRecDepth 100000 in
theorem rCmp10_any (l : List UInt8) (n : Int) (h0 : -9223372036854775808 ≤ n) (h1 : n ≤ 9223372036854775807) (w : World) (hs : l.length ≤ 1000000) :
    Calls Tryd.prog 16 #[.string (str l), .int .i64 n] w fun e w' => e = .returned (.int .i64 (cmpZ n (Nu.read l))) ∧ Below w.heap.size w w' := by
  have hr := rRead_any l w hs
  cases hR : Nu.read l with
  | none =>
    rw [hR] at hr
    clear hR
    have hz : cmpZ n none = 0 := rfl
    rw [hz]
    go_enter Tryd.func16, Tryd.ntmps16
    go_wp2_with fail
    refine hr.mono ?_
    rintro e w2 ⟨rfl, hb⟩
    have HB := hidden hb
    clear hb
    go_wp2_with fail
    go_ret
    exact ⟨rfl, HB.out.alloc HB.out.size _⟩
  | some p =>
    rw [hR] at hr
    obtain ⟨L, F, P, E, hG⟩ := got hR
    have HG := hidden hG
    have hz : cmpZ n (some p) = cmp3 p.val (10 * n) := rfl
    rw [hz]
    clear hR hz hG
    obtain ⟨t, ht⟩ : ∃ t : Nat, 20000000000000 ≤ t := ⟨_, Nat.le_refl _⟩
    obtain ⟨N, hN⟩ : ∃ N, N = Lib.nDigits n.natAbs := ⟨_, rfl⟩
    have hNl : n.natAbs < 10 ^ N := by rw [hN]; exact Lib.lt_pow_nDigits _
    have hN1 : 0 < N := by rw [hN]; exact Lib.nDigits_pos _
    have hN20 : N ≤ 20 := by
      rw [hN]
      by_cases h1u : 1 ≤ n.natAbs
      · have := Lib.numDigits_eq n.natAbs h1u (by omega)
        split at this <;> omega
      · rw [Lib.nDigits_small (by omega)]
        omega
    have htell := tell_cmp HG.out.ok hs n h0 h1 t ht N hNl
    rw [← HG.out.hF, ← HG.out.hP, ← HG.out.hE] at htell
    obtain ⟨za, hza⟩ := told (∀ j, j < L → F j = 0)
    obtain ⟨zb, hzb⟩ := told (∀ j, j < N → uf n.natAbs N j = 0)
    have hless := fun (v : World) (g cap g2 cap2 : Nat) (hl : Lies v g F L) (hl2 : Lies v g2 (uf n.natAbs N) N) => by
      have g1 := HG.out.le
      have g2 := HG.out.p0
      have g3 := HG.out.p1
      have g4 := HG.out.e0
      have g5 := HG.out.e1
      have g6 := HG.out.pos
      exact rLess10_any p.neg (decide (n < 0)) g _ L N cap cap2 P ((N : Nat) : Int) E 0 F (uf n.natAbs N) v hl.dg hl2.dg hl.lt hl2.lt (by omega) (by omega)
        (by omega) (by omega) (by omega) (by omega) HG.out.nine (fun j => uf_le _ _ _) HG.out.past (fun j hj => uf_past _ _ j hj) t (by omega) (by omega) za zb hza hzb
    simp only [htell] at hless
    have hof : ∀ v : World, Calls Tryd.prog 33 #[.int .i64 n] v fun e w' => ∃ g cap, e = .returned (nv (decide (n < 0)) g N cap ((N : Nat) : Int) 0) ∧ Lies w' g (uf n.natAbs N) N ∧ Below v.heap.size v w' := fun v => by
      refine (rOf_any n h0 h1 v).mono ?_
      rintro e w' ⟨v2, rfl, ho, hb⟩
      rw [← hN] at ho ⊢
      obtain ⟨g, cap, rfl, hg, hd⟩ := dg_own ho hN1 (fun j hj => by have := dgs_uf n.natAbs j (by rw [← hN]; exact hj); rwa [← hN] at this)
      exact ⟨g, cap, rfl, ⟨hg, hd⟩, hb⟩
    unfold nv at hof hless
    generalize uf n.natAbs N = U at hof hless
    generalize cmp3 p.val (10 * n) = r at hless ⊢
    have HOF := hidden hof
    have HLESS := hidden hless
    clear hof hless hza hzb htell hN hNl hN1 hN20 ht
    go_enter Tryd.func16, Tryd.ntmps16
    go_wp2_with fail
    refine hr.mono ?_
    intro e w2 hpost
    obtain ⟨g, cap, rfl, hlies, hb⟩ := rr_some HG.out.hL HG.out.hF HG.out.hP HG.out.hE HG.out.pos hpost
    have HB := hidden hb
    have HL := hidden hlies
    clear hb hlies hpost hr
    unfold nv
    go_wp2_with fail
    obtain ⟨w3, hw3⟩ : ∃ w3, w3 = w2.alloc (.cells #[.bool p.neg, .slice (some ⟨g, 0, none⟩) L cap, .int .i64 P, .int .i64 E] 47) := ⟨_, rfl⟩
    have hrow : w3.heap[w2.heap.size]? = some (.cells #[.bool p.neg, .slice (some ⟨g, 0, none⟩) L cap, .int .i64 P, .int .i64 E] 47 (0, 0)) := by rw [hw3]; exact heap_alloc_new _ _
    have hb3 : Below w2.heap.size w2 w3 := by rw [hw3]; exact bel_new _ _
    rw [← hw3]
    have HL3 := hidden (HL.out.below hb3)
    have HB3 := hidden (bel_then HB.out hb3)
    have HROW := hidden hrow
    have c0 := Lib.cell_of_heap hrow 0
    have c1 := Lib.cell_of_heap hrow 1
    have c2 := Lib.cell_of_heap hrow 2
    have c3 := Lib.cell_of_heap hrow 3
    simp only [List.getElem?_toArray, List.getElem?_cons_zero, List.getElem?_cons_succ] at c0 c1 c2 c3
    clear hw3 hrow hb3
    generalize w2.heap.size = z at c0 c1 c2 c3 HROW ⊢
    go_region_held (fun w' => w'.cell? ⟨z, 0, none⟩ = some (.bool p.neg) ∧ w'.cell? ⟨z, 1, none⟩ = some (.slice (some ⟨g, 0, none⟩) L cap) ∧ w'.cell? ⟨z, 2, none⟩ = some (.int .i64 P) ∧ w'.cell? ⟨z, 3, none⟩ = some (.int .i64 E)) (first | (exact ⟨by assumption, by assumption, by assumption, by assumption⟩) | go_keep)
      (first
        | (go_at_call 33; refine (HOF.out _).mono ?_; rintro e w4 ⟨g2, cap2, rfl, hl2, hb4⟩; have HB4 := hidden (bel_then (Below.refl w3.heap.size w3).drew hb4); have HL2 := hidden hl2; clear hl2 hb4; have d0 := (HB4.out.cell (World.block_lt_of_cell? _ _ c0)).trans c0; have d1 := (HB4.out.cell (World.block_lt_of_cell? _ _ c1)).trans c1; have d2 := (HB4.out.cell (World.block_lt_of_cell? _ _ c2)).trans c2; have d3 := (HB4.out.cell (World.block_lt_of_cell? _ _ c3)).trans c3)
        | (go_at_call 32; refine (HLESS.out _ _ _ _ _ (HL3.out.below HB4.out) HL2.out).mono ?_; rintro e w5 ⟨rfl, hb5⟩; have HB5 := hidden (bel_then HB4.out hb5); clear hb5; have e0 := (HB5.out.cell (World.block_lt_of_cell? _ _ c0)).trans c0; have e1 := (HB5.out.cell (World.block_lt_of_cell? _ _ c1)).trans c1; have e2 := (HB5.out.cell (World.block_lt_of_cell? _ _ c2)).trans c2; have e3 := (HB5.out.cell (World.block_lt_of_cell? _ _ c3)).trans c3))
    all_goals
      (go_wp2_with fail
       go_ret
       exact ⟨rfl, bel_then HB3.out HB5.out⟩)
end Go.Proofs.YthimbaflodphmaaDoor
