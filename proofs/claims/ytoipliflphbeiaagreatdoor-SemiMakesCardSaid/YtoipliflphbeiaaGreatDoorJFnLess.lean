/-
  The contract of the iterator that a sequence's part hands back: the numbers of one high part, with their places, in order.
  The contract of a sequence's Less: how many numbers are less than x, for every x. Of Next, Prev and Has, too.
  The contracts of laceworkref05's Right, Width, Less, Next and Prev, and of laceworklaw05's awake and few.
-/
import Derived.RangeFuncNested
import Derived.RangeFuncBound
import Derived.RangeFuncCalls
import Derived.RangeFuncLeaves
import Derived.RangeFuncFrom
import Derived.Shelf.Abstract
import Derived.Shelf.RegionOpen
import Derived.WalkKit
import Derived.OwnWalkIn
import Derived.TacticsInMore
import Derived.LoopNIn
import Derived.LoopIn
import Derived.Test.YtoipliflphbeiaaGreatDoorJFnMake
namespace Go.Proofs.YtoipliflphbeiaaGreatDoor
open Go.RowKit Go.Shelf
attribute [local go_sem] Oper.semAt_some
namespace Fn
/-- The i-th number. -/
def nth (l : List Nat) (i : Nat) : Nat := l.getD i 0
/-- The numbers from f on, k of them, with their places. -/
def seg (l : List Nat) (f k : Nat) : List (Nat × Nat) := (List.range k).map fun j => (f + j, nth l (f + j))
theorem seg_succ (l : List Nat) (f k : Nat) : seg l f (k + 1) = seg l f k ++ [(f + k, nth l (f + k))] := by simp [seg, List.range_succ]
theorem seg_length (l : List Nat) (f k : Nat) : (seg l f k).length = k := by simp [seg]
end Fn
theorem cell_new_at {w : World} {v : Value} {t : TypeId} {k : Nat} (hk : k = w.heap.size) : (w.alloc (.cells #[v] t)).cell? ⟨k, 0, none⟩ = some v := by
  subst hk
  exact Lib.cell_of_heap (heap_alloc_new _ _) 0
theorem drewN_grown (w : World) (m : Nat) : w.grownBy (w.drewN m) none := ⟨rfl, rfl, rfl, Nat.le_refl _, fun _ _ _ => rfl⟩
set_option maxRecDepth 100000 in
set_option maxHeartbeats 2000000 in
theorem part1_in (n : Nat) (hn : 1 ≤ n) (y s u H f t n0 bf bt bs bh : Nat) (l : List Nat) (q : Fn.Q) (J Jx : List (Nat × Nat) → World → Prop) (W : World)
    (hY : ∀ pre x W, J pre W → pre.length < t - f → YieldAt Fence.wide (n - 1) Tryz.prog y #[.int .i64 (x.1 : Nat), .int .i64 (x.2 : Nat)] W fun e W' =>
      (e = .returned (.bool true) ∧ J (pre ++ [x]) W' ∧ Below n0 W W') ∨ (e = .returned (.bool false) ∧ Jx (pre ++ [x]) W'))
    (hJd : ∀ pre W m, J pre W → J pre (W.drewN m)) (hf : f ≤ t) (ht : t < 16777216)
    (cf : W.cell? ⟨bf, 0, none⟩ = some (.int .i64 (f : Nat))) (ct : W.cell? ⟨bt, 0, none⟩ = some (.int .i64 (t : Nat))) (cs : W.cell? ⟨bs, 0, none⟩ = some (.pointer (some ⟨s, 0, none⟩))) (ch : W.cell? ⟨bh, 0, none⟩ = some (.int .i64 (H : Nat)))
    (hbt : bt < n0) (hbs : bs < n0) (hbh : bh < n0) (hSq : ∀ W', Below n0 W W' → Sq W' s l u q) (hP : ∀ i, f ≤ i → i < t → i < l.length ∧ H = l.getD i 0 / 2 ^ Fn.wdt l.length u) (h0 : J [] W) :
    CallsIn Fence.wide n Tryz.prog 115 #[.func (.yield y) #[] #[], .pointer (some ⟨bf, 0, none⟩), .pointer (some ⟨bt, 0, none⟩), .pointer (some ⟨bs, 0, none⟩), .pointer (some ⟨bh, 0, none⟩)] W fun e W' => (∃ v, e = .returned v) ∧
      ((∃ ys, ys = Fn.seg l f (t - f) ∧ J ys W') ∨ (∃ pre, (∃ k, k < t - f ∧ pre = Fn.seg l f (k + 1)) ∧ Jx pre W')) := by
  have HY := hidden hY
  have HJD := hidden hJd
  have HSq := hidden hSq
  have HP := hidden hP
  have CT := hidden ct
  have CS := hidden cs
  have CH := hidden ch
  clear hY hJd hSq hP ct cs ch
  refine callsIn_of_wp Tryz.func115 rfl trivial ?_ rfl
  simp only [Tryz.ntmps115, List.size_toArray, List.length_cons, List.length_nil, Nat.reduceAdd, Nat.reduceSub, Array.replicate_succ, Array.replicate_zero, List.push_toArray, List.append_toArray, List.nil_append, List.cons_append]
  gi_wp2
  gi_loopw [6] (fun i wr => ∃ k : Nat, k ≤ t - f ∧ i = .int .i64 ((f + k : Nat) : Int) ∧ J (Fn.seg l f k) wr ∧ Below n0 W wr) (fun i _ => t - (intOf i).toNat)
  case atStart => exact ⟨0, Nat.zero_le _, rfl, h0, Below.refl _ _⟩
  case round =>
    obtain ⟨k, hk, rfl, hJs, hb⟩ := hrel
    have c2 := (hb.cell (p := ⟨bt, 0, none⟩) hbt).trans CT.out
    have c3 := (hb.cell (p := ⟨bs, 0, none⟩) hbs).trans CS.out
    have c4 := (hb.cell (p := ⟨bh, 0, none⟩) hbh).trans CH.out
    have HBr := hidden hb
    have HJs := hidden hJs
    clear hb hJs
    by_cases hlt : k < t - f
    · obtain ⟨i, hi⟩ : ∃ i, i = f + k := ⟨_, rfl⟩
      rw [← hi]
      have hit : (i : Int) < (t : Int) := by omega
      have HI := hidden hi
      have hi2 : i < 16777216 := by omega
      obtain ⟨hp1, hp2⟩ := HP.out i (by omega) (by omega)
      have HNU := hidden (number_any s u i H H l q wr (HSq.out wr HBr.out) hp1 rfl hp2)
      have HX : Hid (∃ x, x = l.getD i 0) := ⟨_, rfl⟩
      obtain ⟨x, hx⟩ := HX.out
      rw [← hx] at HNU
      have HXX := hidden hx
      clear hi hp1 hp2 HX hx
      gi_wp2_with fail
      refine ⟨trivial, (callsIn_wide.2 HNU.out).mono ?_⟩
      rintro e' w1 ⟨rfl, m, rfl⟩
      obtain ⟨fn, tmps, assign, body, hy, hR⟩ := HY.out (Fn.seg l f k) (i, x) (wr.drewN m) (HJD.out _ _ m HJs.out) (by rw [Fn.seg_length]; exact hlt)
      dsimp only at hy
      have HRR := hidden hR
      clear hR
      gi_wp2
      refine HRR.out.mono ?_
      rintro e W3 (⟨rfl, hJ3, hk3⟩ | ⟨rfl, hJx3⟩)
      · have HJ3 := hidden hJ3
        have HK3 := hidden (below_drewN HBr.out m |>.trans hk3)
        clear hJ3 hk3
        gi_wp2
        go_roundw
        case rel => exact ⟨k + 1, by omega, by rw [HI.out]; go_num, by rw [Fn.seg_succ]; have := HJ3.out; rw [HXX.out, HI.out] at this; exact this, HK3.out⟩
        case measure => have := HI.out; simp [intOf]; omega
      · have HJ3 := hidden hJx3
        clear hJx3
        gi_wp2
        refine bodyPost_ret (results_none rfl _ _ _) rfl ?_
        refine ⟨⟨_, rfl⟩, .inr ⟨_, ⟨k, hlt, rfl⟩, ?_⟩⟩
        rw [Fn.seg_succ]
        have := HJ3.out
        rw [HXX.out, HI.out] at this
        exact this
    · obtain rfl : k = t - f := by omega
      have hft : ((f + (t - f) : Nat) : Int) = (t : Int) := by omega
      rw [hft]
      gi_wp2
      go_end0
      exact ⟨⟨_, rfl⟩, .inl ⟨_, rfl, HJs.out⟩⟩
/-- What part hands back, as an iterator. -/
theorem part_stops (n : Nat) (hn : 1 ≤ n) (s u H f t bf bt bs bh : Nat) (l : List Nat) (q : Fn.Q) (w : World) (hf : f ≤ t) (ht : t < 16777216)
    (cf : w.cell? ⟨bf, 0, none⟩ = some (.int .i64 (f : Nat))) (ct : w.cell? ⟨bt, 0, none⟩ = some (.int .i64 (t : Nat))) (cs : w.cell? ⟨bs, 0, none⟩ = some (.pointer (some ⟨s, 0, none⟩))) (ch : w.cell? ⟨bh, 0, none⟩ = some (.int .i64 (H : Nat)))
    (hSq : Sq w s l u q) (hP : ∀ i, f ≤ i → i < t → i < l.length ∧ H = l.getD i 0 / 2 ^ Fn.wdt l.length u) :
    SeqStopsK Fence.wide n Tryz.prog 115 #[.pointer (some ⟨bf, 0, none⟩), .pointer (some ⟨bt, 0, none⟩), .pointer (some ⟨bs, 0, none⟩), .pointer (some ⟨bh, 0, none⟩)]
      (fun x : Nat × Nat => #[.int .i64 (x.1 : Nat), .int .i64 (x.2 : Nat)]) (Below w.heap.size) (fun ys => ys = Fn.seg l f (t - f)) (fun pre => ∃ k, k < t - f ∧ pre = Fn.seg l f (k + 1)) (t - f) w := fun y J Jx W hW hJ _ hY h0 => by
  have hbt := World.block_lt_of_cell? w ⟨bt, 0, none⟩ ct
  have hbs := World.block_lt_of_cell? w ⟨bs, 0, none⟩ cs
  have hbh := World.block_lt_of_cell? w ⟨bh, 0, none⟩ ch
  exact part1_in n hn y s u H f t w.heap.size bf bt bs bh l q J Jx W hY (fun pre W' m hj => hJ pre W' _ none hj (drewN_grown W' m) (fun r e => by cases e)) hf ht
    (cell_after hW cf) (cell_after hW ct) (cell_after hW cs) (cell_after hW ch) hbt hbs hbh (fun W' hb => hSq.below (hW.trans hb) (Nat.le_refl _)) hP h0
set_option maxHeartbeats 1000000 in
theorem part_any (s H f t : Nat) (w : World) :
    Calls Tryz.prog 81 #[.pointer (some ⟨s, 0, none⟩), .int .i64 (H : Nat), .int .i64 (f : Nat), .int .i64 (t : Nat)] w fun e w' => ∃ bf bt bs bh, e = .returned (.func (.func 115) #[] #[.pointer (some ⟨bf, 0, none⟩), .pointer (some ⟨bt, 0, none⟩), .pointer (some ⟨bs, 0, none⟩), .pointer (some ⟨bh, 0, none⟩)]) ∧ Below w.heap.size w w' ∧
      w'.cell? ⟨bf, 0, none⟩ = some (.int .i64 (f : Nat)) ∧ w'.cell? ⟨bt, 0, none⟩ = some (.int .i64 (t : Nat)) ∧ w'.cell? ⟨bs, 0, none⟩ = some (.pointer (some ⟨s, 0, none⟩)) ∧ w'.cell? ⟨bh, 0, none⟩ = some (.int .i64 (H : Nat)) := by
  go_enter Tryz.func81, Tryz.ntmps81
  go_wp2_with fail
  go_ret
  refine ⟨_, _, _, _, rfl, (((((Below.refl _ _).alloc (Nat.le_refl _) _).alloc (by simp) _).alloc (by simp; omega) _).alloc (by simp; omega) _), ?_, ?_, ?_, ?_⟩
  · exact cell_made (cell_new_at (by simp))
  · exact cell_new_at (by simp)
  · exact cell_made (cell_made (cell_made (cell_new_at rfl)))
  · exact cell_made (cell_made (cell_new_at (by simp)))
end Go.Proofs.YtoipliflphbeiaaGreatDoor
namespace Go.Proofs.YtoipliflphbeiaaGreatDoor
open Go.RowKit Go.Shelf
attribute [local go_sem] Oper.semAt_some
namespace Fn
theorem seg_mem (l : List Nat) {f k i : Nat} (h1 : f ≤ i) (h2 : i < f + k) : (i, nth l i) ∈ seg l f k := by
  unfold seg
  rw [List.mem_map]
  refine ⟨i - f, List.mem_range.2 (by omega), ?_⟩
  rw [show f + (i - f) = i from by omega]
theorem less_all {l : List Nat} (h : Up l) {x f t : Nat} (h1 : f ≤ less l (x : Int)) (h2 : less l (x : Int) ≤ t) (h4 : t ≤ l.length) (hp : ∀ p ∈ seg l f (t - f), p.2 < x) : less l (x : Int) = t := by
  rcases Nat.lt_or_ge (less l (x : Int)) t with hl | hl
  · have h3 := hp _ (seg_mem l h1 (show less l (x : Int) < f + (t - f) by omega))
    simp only [nth] at h3
    have := (less_spec h (x : Int)).hi _ (Nat.le_refl _) (by omega)
    omega
  · omega
theorem less_stop {l : List Nat} (h : Up l) {x f k : Nat} (h1 : f ≤ less l (x : Int)) (h4 : f + k < l.length) (hp : ∀ p ∈ seg l f k, p.2 < x) (hx : x ≤ nth l (f + k)) : less l (x : Int) = f + k := by
  have h2 : less l (x : Int) ≤ f + k := hi_of h (by simp only [nth] at hx; omega)
  rcases Nat.lt_or_ge (less l (x : Int)) (f + k) with hl | hl
  · have h3 := hp _ (seg_mem l h1 hl)
    simp only [nth] at h3
    have := (less_spec h (x : Int)).hi _ (Nat.le_refl _) (by omega)
    omega
  · omega
end Fn
theorem frozen_after {w w' : World} {p : Addr} {v : Value} (hb : Below w.heap.size w w') (h : w.cell? p = some v) : w'.frozen? p = w.frozen? p := by
  have := hb.block p.block (World.block_lt_of_cell? w p h)
  simp only [World.frozen?, this]
set_option maxRecDepth 100000 in
set_option maxHeartbeats 2000000 in
theorem Less_mid (s u x : Nat) (l : List Nat) (q : Fn.Q) (w : World) (h : Sq w s l u q) (hT : Tab w) (h0 : 0 < l.length) (hx0 : 0 < x) (hx : x < u) :
    Calls Tryz.prog 49 #[.pointer (some ⟨s, 0, none⟩), .int .i64 (x : Nat)] w fun e w' => e = .returned (.int .i64 ((Fn.less l (x : Int) : Nat) : Int)) ∧ Below w.heap.size w w' := by
  have HS := hidden h
  have HT := hidden hT
  have hu := h.ok.le
  have hn := h.ok.len
  obtain ⟨N, hN⟩ : ∃ N, N = l.length := ⟨_, rfl⟩
  have c0 := h.cell0
  have c1 := h.cell1
  have c2 := h.cell2
  have hsl := lt_of_block h.cells
  obtain ⟨W, hW⟩ : ∃ W, W = Fn.wdt l.length u := ⟨_, rfl⟩
  rw [← hW] at c2
  rw [← hN] at c0 h0 hn
  obtain ⟨H, hH⟩ : ∃ H, H = x / 2 ^ W := ⟨_, rfl⟩
  have hH2 : (x : Int) / 2 ^ W = (H : Int) := by rw [hH, Wd.div_pow]
  have hHx : H ≤ x := by rw [hH]; exact Nat.div_le_self _ _
  have hW40 : W ≤ 40 := by rw [hW]; exact Fn.wdt_le (by omega)
  have HHV := hidden (fun w' (hb : Below w.heap.size w w') => halve_any s u x H l q w' (h.below hb (Nat.le_refl _)) (hT.below hb (Nat.le_refl _)) (by omega) hx (by rw [hH, hW]))
  have HN := hidden hN
  have HW := hidden hW
  have HH := hidden hH
  clear h hT hN hW hH
  refine (callsIn_wide (n := 10)).1 ?_
  refine callsIn_of_wp_marks Tryz.func49 rfl trivial ?_ rfl
  simp only [Tryz.ntmps49, List.size_toArray, List.length_cons, List.length_nil, Nat.reduceAdd, Nat.reduceSub, Array.replicate_succ, Array.replicate_zero, List.push_toArray, List.append_toArray, List.nil_append, List.cons_append]
  refine wpIn_wide.2 ?_
  have d0 : decide ((x : Int) ≤ 0) = false := by simp; omega
  have d1 : ((N : Int) == 0) = false := by simp; omega
  have d2 : decide ((u : Int) ≤ (x : Int)) = false := by simp; omega
  go_wp2_with fail
  obtain ⟨w0, hw0⟩ : ∃ w0, w0 = (w.alloc (.cells #[.int .i64 (x : Nat)] 3)).alloc (.cells #[.int .i64 0] 3) := ⟨_, rfl⟩
  rw [← hw0]
  have hb0 : Below w.heap.size w w0 := by rw [hw0]; exact ((Below.refl _ _).alloc (Nat.le_refl _) _).alloc (by simp) _
  have e3 : w0.cell? ⟨w.heap.size, 0, none⟩ = some (.int .i64 (x : Nat)) := by rw [hw0]; exact cell_made (cell_new_at rfl)
  have e4 : w0.cell? ⟨w.heap.size + 1, 0, none⟩ = some (.int .i64 0) := by rw [hw0]; exact cell_new_at (by simp)
  have f4 : w0.frozen? ⟨w.heap.size + 1, 0, none⟩ = false := by rw [hw0]; exact Lib.frozen_of_heap (heap_new_at (by simp)) 0
  have s0 := cell_after hb0 c0
  have s1 := cell_after hb0 c1
  have s2 := cell_after hb0 c2
  have HB0 := hidden hb0
  clear hw0 c0 c1 c2 hb0
  go_region
  go_wp2_with fail
  go_region
  go_wp2_with fail
  refine (HHV.out _ HB0.out.drew.drew).mono ?_
  rintro e' w1 ⟨⟨f, t, rfl, hf1, hf2, hf3, hf4⟩, hb1⟩
  have g3 := cell_after hb1 e3
  have g4 := cell_after hb1 e4
  have k4 : w1.frozen? ⟨w.heap.size + 1, 0, none⟩ = false := (frozen_after hb1 e4).trans f4
  have HB1 := hidden (below_after HB0.out.drew.drew hb1)
  have HF := hidden (And.intro hf1 (And.intro hf2 (And.intro hf3 hf4)))
  have ht : t < 16777216 := by have := Fn.ah_le l (Fn.wdt l.length u) (H + 1); have := HN.out; omega
  clear hf1 hf2 hf3 hf4 hb1 e3 e4 f4 s0 s1 s2
  go_wp2_with fail
  refine (part_any s H f t w1).mono ?_
  rintro e' w2 ⟨bf, bt, bs, bh, rfl, hb2, cf, ct, cs, ch⟩
  have e3 := cell_after hb2 g3
  have e4 := cell_after hb2 g4
  have f4 : w2.frozen? ⟨w.heap.size + 1, 0, none⟩ = false := (frozen_after hb2 g4).trans k4
  have HB2 := hidden (below_after HB1.out hb2)
  have HSt := hidden (part_stops 9 (by decide) s u H f t bf bt bs bh l q w2 (by have := HF.out; omega) ht cf ct cs ch (HS.out.below HB2.out (Nat.le_refl _)) (fun i h1 h2 => Fn.ah_part HS.out.ok.up (by have := HF.out; omega) (by have := HF.out; omega)))
  clear hb2 cf ct cs ch g3 g4 k4
  go_wp2_with fail
  refine (wpIn_wide (n := 10)).1 ?_
  refine wpIn_rangeFunc_ownF rfl (by decide) (gf := 115) (lb := #[.pointer (some ⟨bf, 0, none⟩), .pointer (some ⟨bt, 0, none⟩), .pointer (some ⟨bs, 0, none⟩), .pointer (some ⟨bh, 0, none⟩)]) rfl trivial (enters_of Tryz.func115 (by kernel_rfl) rfl)
    HSt.out belowK_t (belowK_b (Nat.le_refl _)) (Below.refl _ _) (fun _ => rfl)
    (fun pre W' => ((∀ p ∈ pre, p.2 < x) ∧ W'.cell? ⟨w.heap.size, 0, none⟩ = some (.int .i64 (x : Nat)) ∧ W'.cell? ⟨w.heap.size + 1, 0, none⟩ = some (.int .i64 0) ∧ W'.frozen? ⟨w.heap.size + 1, 0, none⟩ = false) ∧ Below w.heap.size w W')
    (fun c pre W' => (c = .ret ∧ ∃ pre' p, pre = pre' ++ [p] ∧ (∀ p' ∈ pre', p'.2 < x) ∧ x ≤ p.2 ∧ W'.cell? ⟨w.heap.size + 1, 0, none⟩ = some (.int .i64 (p.1 : Nat))) ∧ Below w.heap.size w W')
    (OwnFrom.and (Own.from (fun s A B row hs hg hr => ⟨hs.1, cell_kept hs.2.1 hg hr, cell_kept hs.2.2.1 hg hr, (frozen_kept hs.2.2.1 hg hr).trans hs.2.2.2⟩) _) (ownFrom_below (Nat.le_refl _) HB2.out.size))
    (fun c => OwnFrom.and (Own.from (fun s A B row hs hg hr => by obtain ⟨h1, pre', p, h2, h3, h4, h5⟩ := hs; exact ⟨h1, pre', p, h2, h3, h4, cell_kept h5 hg hr⟩) _) (ownFrom_below (Nat.le_refl _) HB2.out.size))
    ⟨⟨by simp, e3, e4, f4⟩, HB2.out⟩ ?a1 ?assign ?body ?done ?stop
  case assign =>
    intro l' x' W' K hK
    gi_wp2
    exact hK
  case body =>
    rintro l' pre p W' ⟨⟨hp, h3, h4, h4f⟩, hB⟩ _
    obtain ⟨i, y⟩ := p
    simp only []
    have HP := hidden hp
    have HB := hidden hB
    have H4 := hidden h4
    have H4f := hidden h4f
    clear hp hB
    by_cases hy : x ≤ y
    · have d5 : decide ((x : Int) ≤ (y : Int)) = true := by simpa using hy
      gi_wp2
      exact ⟨KeepsOthers.setCell _ _ _, ⟨rfl, pre, (i, y), rfl, HP.out, hy, World.cell?_setCell_same' _ _ _ (by rw [H4.out]; rfl)⟩, HB.out.setCell (p := ⟨w.heap.size + 1, 0, none⟩) (by simp) _⟩
    · have d5 : decide ((x : Int) ≤ (y : Int)) = false := by simpa using hy
      gi_wp2
      exact ⟨KeepsOthers.refl _, Below.refl _ _, ⟨fun p hp => (List.mem_append.1 hp).elim (HP.out p) (fun e => by simp at e; subst e; show y < x; omega), h3, H4.out, H4f.out⟩, HB.out⟩
  case done =>
    rintro D ys W' hD rfl ⟨⟨hp, h3, h4, h4f⟩, hB⟩ hK
    have HP := hidden hp
    have HB := hidden hB
    have H4 := hidden h4
    have HK := hidden hK
    clear hp hB hK
    go_wp2_with fail
    have hK' := (KeepsOthers.setCell W' ⟨w.heap.size + 1, 0, none⟩ (.int .i64 (t : Nat))).same D _ HK.out rfl
    refine ⟨by simp, .inl ⟨_, _, rfl, run_takeDeferred hK', ?_⟩⟩
    have hc5 := cell_kept (World.cell?_setCell_same' W' ⟨w.heap.size + 1, 0, none⟩ (.int .i64 (t : Nat)) (by rw [H4.out]; rfl)) (grownBy_putObj' _ D (.deferred none)) (fun r e => by cases e; exact ⟨_, hK', rfl⟩)
    refine ⟨.int .i64 (t : Nat), ?_, ret_int (by have := Fn.less_all HS.out.ok.up HF.out.2.1 HF.out.2.2.1 (by have := HF.out.2.2.2; have := Fn.ah_le l (Fn.wdt l.length u) (H + 1); omega) HP.out; omega), (HB.out.setCell (p := ⟨w.heap.size + 1, 0, none⟩) (by simp) _).trans (belowK_b (w := w) (Nat.le_refl _) _ D _ _ (by have := HB2.out.size; omega) hK' rfl rfl)⟩
    simp [results, Tryz.f49, go_sem, hc5]
  case stop =>
    rintro D c pre W' hD ⟨k, hk, rfl⟩ ⟨⟨rfl, pre', p, hp1, hp2, hp3, hc⟩, hB⟩ hK
    rw [Fn.seg_succ] at hp1
    obtain ⟨rfl, h5⟩ := List.append_inj' hp1 rfl
    obtain rfl : (f + k, Fn.nth l (f + k)) = p := by simpa using h5
    have HP2 := hidden hp2
    have HP3 := hidden hp3
    have HB := hidden hB
    have HK := hidden hK
    have HC := hidden hc
    clear hp1 hp2 hp3 hc hB hK h5
    gi_wp2
    refine ⟨by simp, .inl ⟨_, _, rfl, run_takeDeferred HK.out, ?_⟩⟩
    have hc5 := cell_kept HC.out (grownBy_putObj' _ D (.deferred none)) (fun r e => by cases e; exact ⟨_, HK.out, rfl⟩)
    refine ⟨.int .i64 ((f + k : Nat) : Int), ?_, ret_int (by have := Fn.less_stop HS.out.ok.up HF.out.2.1 (by have := HF.out.2.2.2; have := Fn.ah_le l (Fn.wdt l.length u) (H + 1); omega) HP2.out HP3.out; omega), HB.out.trans (belowK_b (w := w) (Nat.le_refl _) W' D _ _ (by have := HB2.out.size; omega) HK.out rfl rfl)⟩
    simp [results, Tryz.f49, go_sem, hc5]
set_option maxRecDepth 100000 in
set_option maxHeartbeats 2000000 in
/-- Of a number that isn't above 0, and of no numbers: 0. -/
theorem Less_none (s u : Nat) (x : Int) (l : List Nat) (q : Fn.Q) (w : World) (h : Sq w s l u q) (hx : x ≤ 0 ∨ l.length = 0) :
    Calls Tryz.prog 49 #[.pointer (some ⟨s, 0, none⟩), .int .i64 x] w fun e w' => e = .returned (.int .i64 0) ∧ Below w.heap.size w w' := by
  have c0 := h.cell0
  obtain ⟨N, hN⟩ : ∃ N, N = l.length := ⟨_, rfl⟩
  rw [← hN] at c0 hx
  have hc : ((w.alloc (.cells #[.int .i64 x] 3)).alloc (.cells #[.int .i64 0] 3)).cell? ⟨w.heap.size + 1, 0, none⟩ = some (.int .i64 0) := cell_new_at (by simp)
  have HC := hidden hc
  have hsl := lt_of_block h.cells
  clear h hN hc
  by_cases h1 : x ≤ 0
  · have d0 : decide (x ≤ 0) = true := by simpa using h1
    refine (callsIn_wide (n := 10)).1 ?_
    refine callsIn_of_wp_marks Tryz.func49 rfl trivial ?_ rfl
    simp only [Tryz.ntmps49, List.size_toArray, List.length_cons, List.length_nil, Nat.reduceAdd, Nat.reduceSub, Array.replicate_succ, Array.replicate_zero, List.push_toArray, List.append_toArray, List.nil_append, List.cons_append]
    refine wpIn_wide.2 ?_
    go_wp2_with fail
    refine ⟨.int .i64 0, ?_, rfl, ((Below.refl _ _).alloc (Nat.le_refl _) _).alloc (by simp) _⟩
    simp [results, Tryz.f49, go_sem, HC.out]
  · have d0 : decide (x ≤ 0) = false := by simpa using h1
    obtain rfl : N = 0 := by omega
    rw [Int.natCast_zero] at c0
    refine (callsIn_wide (n := 10)).1 ?_
    refine callsIn_of_wp_marks Tryz.func49 rfl trivial ?_ rfl
    simp only [Tryz.ntmps49, List.size_toArray, List.length_cons, List.length_nil, Nat.reduceAdd, Nat.reduceSub, Array.replicate_succ, Array.replicate_zero, List.push_toArray, List.append_toArray, List.nil_append, List.cons_append]
    refine wpIn_wide.2 ?_
    go_wp2_with fail
    refine ⟨.int .i64 0, ?_, rfl, ((Below.refl _ _).alloc (Nat.le_refl _) _).alloc (by simp) _⟩
    simp [results, Tryz.f49, go_sem, HC.out]
set_option maxRecDepth 100000 in
set_option maxHeartbeats 2000000 in
/-- Of a number from the bound on: all. -/
theorem Less_all (s u : Nat) (x : Int) (l : List Nat) (q : Fn.Q) (w : World) (h : Sq w s l u q) (h0 : 0 < l.length) (hx : (u : Int) ≤ x) :
    Calls Tryz.prog 49 #[.pointer (some ⟨s, 0, none⟩), .int .i64 x] w fun e w' => e = .returned (.int .i64 (l.length : Nat)) ∧ Below w.heap.size w w' := by
  have c0 := h.cell0
  have c1 := h.cell1
  have hu := h.ok.pos
  have hsl := lt_of_block h.cells
  obtain ⟨N, hN⟩ : ∃ N, N = l.length := ⟨_, rfl⟩
  rw [← hN] at c0 h0 ⊢
  clear h hN
  have d0 : decide (x ≤ 0) = false := by simp; omega
  have d1 : ((N : Int) == 0) = false := by simp; omega
  have d2 : decide ((u : Int) ≤ x) = true := by simpa using hx
  refine (callsIn_wide (n := 10)).1 ?_
  refine callsIn_of_wp_marks Tryz.func49 rfl trivial ?_ rfl
  simp only [Tryz.ntmps49, List.size_toArray, List.length_cons, List.length_nil, Nat.reduceAdd, Nat.reduceSub, Array.replicate_succ, Array.replicate_zero, List.push_toArray, List.append_toArray, List.nil_append, List.cons_append]
  refine wpIn_wide.2 ?_
  go_wp2_with fail
  obtain ⟨w0, hw0⟩ : ∃ w0, w0 = (w.alloc (.cells #[.int .i64 x] 3)).alloc (.cells #[.int .i64 0] 3) := ⟨_, rfl⟩
  rw [← hw0]
  have hb0 : Below w.heap.size w w0 := by rw [hw0]; exact ((Below.refl _ _).alloc (Nat.le_refl _) _).alloc (by simp) _
  have e3 : w0.cell? ⟨w.heap.size, 0, none⟩ = some (.int .i64 x) := by rw [hw0]; exact cell_made (cell_new_at rfl)
  have e4 : w0.cell? ⟨w.heap.size + 1, 0, none⟩ = some (.int .i64 0) := by rw [hw0]; exact cell_new_at (by simp)
  have f4 : w0.frozen? ⟨w.heap.size + 1, 0, none⟩ = false := by rw [hw0]; exact Lib.frozen_of_heap (heap_new_at (by simp)) 0
  have s0 := cell_after hb0 c0
  have s1 := cell_after hb0 c1
  have HB0 := hidden hb0
  clear hw0 c0 c1 hb0
  go_region
  go_wp2_with fail
  have hc5 := World.cell?_setCell_same' w0 ⟨w.heap.size + 1, 0, none⟩ (.int .i64 (N : Nat)) (by rw [e4]; rfl)
  refine ⟨.int .i64 (N : Nat), ?_, rfl, HB0.out.drew.setCell (by simp) _⟩
  simp [results, Tryz.f49, go_sem, hc5]
theorem Fn.less_zero {l : List Nat} (h : Fn.Up l) {x : Int} (hx : x ≤ 0 ∨ l.length = 0) : Fn.less l x = 0 := by
  refine Fn.less_eq h ⟨by omega, fun i hi => by omega, fun i _ hi => ?_⟩
  omega
theorem Fn.less_top {l : List Nat} {u : Nat} (h : Fn.Ok l u) {x : Int} (hx : (u : Int) ≤ x) : Fn.less l x = l.length := by
  refine Fn.less_eq h.up ⟨by omega, fun i hi => ?_, fun i _ hi => by omega⟩
  have := h.lt i hi
  omega
theorem SLess_any (s u : Nat) (x : Int) (l : List Nat) (q : Fn.Q) (w : World) (h : Sq w s l u q) (hT : Tab w) :
    Calls Tryz.prog 49 #[.pointer (some ⟨s, 0, none⟩), .int .i64 x] w fun e w' => e = .returned (.int .i64 ((Fn.less l x : Nat) : Int)) ∧ Below w.heap.size w w' := by
  by_cases h1 : x ≤ 0 ∨ l.length = 0
  · rw [Fn.less_zero h.ok.up h1]
    exact Less_none s u x l q w h h1
  · by_cases h2 : (u : Int) ≤ x
    · rw [Fn.less_top h.ok h2]
      exact Less_all s u x l q w h (by omega) h2
    · obtain ⟨y, rfl⟩ := Int.eq_ofNat_of_zero_le (show 0 ≤ x by omega)
      exact Less_mid s u y l q w h hT (by omega) (by omega) (by omega)
namespace Fn
/-- The least number that isn't less than x; the greatest that isn't greater. -/
def next (l : List Nat) (x : Int) : Option Nat := l[less l x]?
theorem getD_some {l : List Nat} {i : Nat} (h : i < l.length) : l[i]? = some (l.getD i 0) := by
  rw [List.getD_eq_getElem?_getD, List.getElem?_eq_getElem h]
  rfl
end Fn
end Go.Proofs.YtoipliflphbeiaaGreatDoor
namespace Go.Proofs.YtoipliflphbeiaaGreatDoor
open Go.RowKit
theorem drewN_twice (w : World) (a b : Nat) : (w.drewN a).drewN b = w.drewN (a + b) := by simp
namespace Fn
theorem Ris.last {li : List Int} {b : Int} {k : Nat} (h : Ris li b k) : 0 ≤ lastI li k := by
  induction k with
  | zero => exact Int.le_refl _
  | succ k ih =>
    have h1 := ih (fun i hi => h i (by omega))
    have h2 := (h k (by omega)).1
    rw [lastI_succ]
    omega
def RightPost (li : List Int) (b : Int) (e : Ending) : Prop := ∃ r, e = .returned (.bool r) ∧ (r = true ↔ OkI li b)
theorem RightPost.no {li : List Int} {b : Int} {e : Ending} (h : ¬ Ris li b li.length) (he : e = .returned (.bool false)) : RightPost li b e := ⟨false, he, ⟨(fun h => by cases h), fun g => absurd g.2.2.2 h⟩⟩
end Fn
namespace Fn
theorem wdt_step {n u k : Nat} (h : ¬ (n = 0 ∨ u < 2 * n)) (hu : u < 2 ^ 64) : (2 ≤ u / n / 2 ^ k → k + 1 ≤ wdt n u) ∧ (u / n / 2 ^ k < 2 → wdt n u ≤ k) := by
  have hn : 0 < n := by omega
  obtain ⟨h1, h2, h3⟩ := wdt_spec h hu
  have hq1 : 2 ^ wdt n u ≤ u / n := (Nat.le_div_iff_mul_le hn).2 h1
  have hq2 : u / n < 2 ^ (wdt n u + 1) := (Nat.div_lt_iff_lt_mul hn).2 h2
  constructor
  · intro h4
    have h5 : 2 * 2 ^ k ≤ u / n := (Nat.le_div_iff_mul_le (Nat.two_pow_pos _)).1 h4
    rcases Nat.lt_or_ge k (wdt n u) with hl | hl
    · exact hl
    · have h6 : 2 ^ (wdt n u + 1) ≤ 2 ^ (k + 1) := Nat.pow_le_pow_right (by decide) (by omega)
      rw [Nat.pow_succ 2 k] at h6
      omega
  · intro h4
    have h5 : u / n < 2 * 2 ^ k := (Nat.div_lt_iff_lt_mul (Nat.two_pow_pos _)).1 h4
    rcases Nat.lt_or_ge k (wdt n u) with hl | hl
    · have h6 : 2 ^ (k + 1) ≤ 2 ^ wdt n u := Nat.pow_le_pow_right (by decide) (by omega)
      rw [Nat.pow_succ 2 k] at h6
      omega
    · exact hl
theorem wdt_le63 {n u : Nat} : wdt n u ≤ 63 := by
  by_cases h : n = 0 ∨ u < 2 * n
  · rw [wdt_none h]; omega
  · rw [wdt_some h]
    have := Wd.needTo_le (u / n) 64
    omega
end Fn
set_option maxHeartbeats 1000000 in
theorem Width_any (n u : Nat) (w : World) (hn : n < 16777216) (hu : u < 9223372036854775808) :
    Calls Tryz.prog 35 #[.int .i64 (n : Nat), .int .i64 (u : Nat)] w fun e w' => e = .returned (.int .i64 ((Fn.wdt n u : Nat) : Int)) ∧ w' = w := by
  by_cases h0 : n = 0
  · subst h0
    rw [Fn.wdt_none (.inl rfl), Int.natCast_zero]
    go_enter Tryz.func35, Tryz.ntmps35
    go_wp2_with fail
    go_ret
    exact ⟨rfl, rfl⟩
  · have d0 : ((n : Int) == 0) = false := by simp; omega
    by_cases h : u < 2 * n
    · rw [Fn.wdt_none (.inr h), Int.natCast_zero]
      have d1 : decide ((u : Int) < 2 * (n : Int)) = true := by simp; omega
      go_enter Tryz.func35, Tryz.ntmps35
      go_wp2_with fail
      go_ret
      exact ⟨rfl, rfl⟩
    · have d1 : decide ((u : Int) < 2 * (n : Int)) = false := by simp; omega
      have hW := Fn.wdt_le63 (n := n) (u := u)
      have HST := hidden (fun k => Fn.wdt_step (k := k) (show ¬ (n = 0 ∨ u < 2 * n) by omega) (show u < 2 ^ 64 by omega))
      obtain ⟨q, hq⟩ : ∃ q, q = u / n := ⟨_, rfl⟩
      have hq2 : (u : Int) / (n : Int) = (q : Int) := by rw [hq]; rfl
      have hq3 : q ≤ u := by rw [hq]; exact Nat.div_le_self _ _
      rw [← hq] at HST
      generalize Fn.wdt n u = W at *
      clear hq
      go_enter Tryz.func35, Tryz.ntmps35
      go_wp2_with fail
      go_loopw [5, 6] (fun i v wr => ∃ k : Nat, k ≤ W ∧ i = .int .i64 (k : Nat) ∧ v = .int .i64 ((q / 2 ^ k : Nat) : Int) ∧ wr = w) (fun i _ _ => W - (intOf i).toNat)
      case atStart => exact ⟨0, by omega, rfl, by simp, rfl⟩
      case round =>
        obtain ⟨k, hk, rfl, rfl, rfl⟩ := hrel
        obtain ⟨h1, h2⟩ := HST.out k
        have hv : q / 2 ^ k ≤ q := Nat.div_le_self _ _
        have hs : q / 2 ^ k / 2 = q / 2 ^ (k + 1) := by rw [Nat.div_div_eq_div_mul, ← Nat.pow_succ]
        obtain ⟨v, hv2⟩ : ∃ v, v = q / 2 ^ k := ⟨_, rfl⟩
        rw [← hv2] at h1 h2 hv hs ⊢
        have HH1 := hidden h1
        have HH2 := hidden h2
        have HS := hidden hs
        clear h1 h2 hs hv2
        by_cases hlt : 1 < v
        · have d2 : decide ((1 : Int) < (v : Int)) = true := by simp; omega
          obtain ⟨v', hv'⟩ : ∃ v' : Nat, (v : Int) / 2 = (v' : Int) := ⟨v / 2, by omega⟩
          have HV : Hid (v' = v / 2) := by show _ = _; omega
          go_wp2_with fail
          go_roundw
          case rel => exact ⟨k + 1, HH1.out (by omega), by go_num, by rw [← HS.out, ← HV.out], trivial⟩
          case measure => have := HH1.out (by omega); simp [intOf]; omega
        · have d2 : decide ((1 : Int) < (v : Int)) = false := by simp; omega
          go_wp2_with fail
          go_ret
          exact ⟨ret_int (by have := HH2.out (by omega); omega), rfl⟩
end Go.Proofs.YtoipliflphbeiaaGreatDoor
