/-
  The contract of numbers of package fano: the numbers that a row's bits make, whether they rise or not.
-/
import Derived.RangeFuncBox
import Derived.Deep.RegionHeld3
import Derived.Test.YtfohldojcdhnhaaDoorFnOnes
import Derived.Test.YtfohldojcdhnhaaDoorRounds
namespace Go.Proofs.YtfohldojcdhnhaaDoor
open Go.RowKit Go.Shelf
attribute [local go_sem] Oper.semAt_some
theorem Tryd.infoI : (Tryd.prog.info? 3).map (fun i => (i.zero, i.size, i.bytes)) = some (some (.int .i64 0), 1, 8) := by kernel_rfl
namespace Fn
/-- Two parts put together, as the program does it. -/
def jn (x : Int) (L W : Nat) : Int := bits .or .i64 (IntKind.i64.wrap (x * 2 ^ W)) (L : Int)
/-- The i-th number, by the place of its 1. -/
def jnAt (Z W x i : Nat) : Int := jn (IntKind.i64.wrap ((x : Int) - (i : Int))) (Bt.fd Z (i * W) W) W
def decI (Z W : Nat) (pre : List Nat) : List Int := (List.range pre.length).map fun i => jnAt Z W (pre.getD i 0) i
theorem decI_length (Z W : Nat) (pre : List Nat) : (decI Z W pre).length = pre.length := by simp [decI]
theorem decI_snoc (Z W : Nat) (pre : List Nat) (x : Nat) : decI Z W (pre ++ [x]) = decI Z W pre ++ [jnAt Z W x pre.length] := by
  unfold decI
  rw [List.length_append, List.length_singleton, List.range_succ, List.map_append]
  congr 1
  · apply List.map_congr_left
    intro i hi
    rw [List.mem_range] at hi
    rw [List.getD_eq_getElem?_getD, List.getD_eq_getElem?_getD, List.getElem?_append_left hi]
  · simp
def nvals (li : List Int) : List Value := li.map fun x => Value.int .i64 x
theorem nvals_length (li : List Int) : (nvals li).length = li.length := by simp [nvals]
theorem nvals_snoc (li : List Int) (x : Int) : nvals (li ++ [x]) = nvals li ++ [.int .i64 x] := by simp [nvals]
end Fn
theorem made_ints (c : Nat) : madeCells #[Value.int .i64 0] c = Array.replicate c (Value.int .i64 0) := by
  apply Array.toList_inj.1
  rw [toList_madeCells_one, Array.toList_replicate]
theorem mk_ints (c : Nat) (hc : c ≤ 4294967296) (u : World) : (Instr.makeSlice 22 (.int .i64 0) (.int .i64 (c : Int))).run Tryd.prog u = .ok (.slice (some ⟨u.heap.size, 0, none⟩) 0 c) (u.alloc (.cells (Array.replicate c (Value.int .i64 0)) 3)) := by
  obtain ⟨i0, hi, hz0, hz1, hz2⟩ := info_parts Tryd.infoI
  have h := run_make (P := Tryd.prog) u 22 3 i0 (.int .i64 0) Tryd.underlying22 hi hz0 .i64 .i64 0 (c : Int) (by omega) (by omega) (by rw [hz2]; omega) (by omega)
  rw [← made_ints]
  simpa [hz1, Value.cells] using h
theorem own_made (w : World) (c : Nat) (hc : c ≤ 4294967296) : (w.alloc (.cells (Array.replicate c (Value.int .i64 0)) 3)).ownsRow w.heap.size 3 1 (.slice (some ⟨w.heap.size, 0, none⟩) 0 c) 0 (Fn.nvals []) :=
  ⟨by simp [Fn.nvals], .inr ⟨w.heap.size, c, _, rfl, Nat.le_refl _, heap_alloc_new _ _, Nat.zero_le _, by unfold maxLen; omega, by simp, by simp [Fn.nvals]⟩⟩
set_option maxHeartbeats 400000 in
theorem join_gen (x : Int) (L W : Nat) (w : World) (hW : W ≤ 40) :
    Calls Tryd.prog 65 #[.int .i64 x, .int .i64 (L : Nat), .int .i64 (W : Nat)] w fun e w' => e = .returned (.int .i64 (Fn.jn x L W)) ∧ w' = w := by
  have hj : Fn.jn x L W = bits .or .i64 (IntKind.i64.wrap (x * 2 ^ W)) (L : Int) := rfl
  rw [hj]
  clear hj
  obtain ⟨V, hV⟩ : ∃ V, IntKind.i64.wrap (x * 2 ^ W) = V := ⟨_, rfl⟩
  rw [hV]
  go_enter Tryd.func65, Tryd.ntmps65
  go_wp2_with fail
  go_ret
  exact ⟨rfl, rfl⟩
theorem cell_far {w : World} {p a : Addr} {v x : Value} (h : w.cell? p = some v) (hne : p.block ≠ a.block) : (w.setCell a x).cell? p = some v :=
  (World.cell?_of_block (w := w) (a := p) (setCell_heap_other w a x p.block hne)).trans h
/-- What numbers tells. -/
def NumPost (w : World) (n W Z Y H : Nat) (e : Ending) (w' : World) : Prop :=
  Below w.heap.size w w' ∧ ∃ v f, e = .returned (.tuple #[v, .bool f]) ∧ ((f = true ∧ Wd.ones Y H = n ∧ w'.ownsRow 0 3 1 v n (Fn.nvals (Fn.decI Z W (Fn.plc Y H n)))) ∨ (f = false ∧ Wd.ones Y H ≠ n))
set_option linter.unusedSimpArgs false in
set_option maxRecDepth 100000 in
set_option maxHeartbeats 4000000 in
theorem numbers_any (r m X n u H : Nat) (ru : Value) (w : World) (h : Rw w r m X ru) (hT : Tab w) (hn : n < 16777216) (hu : u < 2199023255552) (hm : m = 65 + Fn.lows n u + H) :
    Calls Tryd.prog 50 #[.pointer (some ⟨r, 0, none⟩), Fn.sh n u] w fun e w' => NumPost w n (Fn.wdt n u) (Bt.cut X 65 (Fn.lows n u)) (Bt.cut X (65 + Fn.lows n u) H) H e w' := by
  have HR := hidden h
  have HT := hidden hT
  have hml := h.len
  have HLO := hidden (fun w => lows_any n u w hn hu)
  have hW := Fn.wdt_le (n := n) hu
  have hlow : Fn.lows n u = n * Fn.wdt n u := rfl
  unfold Fn.sh at *
  generalize hLL : Fn.lows n u = LL at *
  generalize hWW : Fn.wdt n u = W at *
  have HCA := hidden (fun w' (hb : Below w.heap.size w w') => Clip_core r m X 65 (65 + LL) 65 ((65 : Int) + (LL : Int)) ru w' (h.below hb (Nat.le_refl _)) (by omega) (by omega) (by omega) (by omega))
  have HCB := hidden (fun w' (hb : Below w.heap.size w w') => Clip_core r m X (65 + LL) m ((65 : Int) + (LL : Int)) (m : Int) ru w' (h.below hb (Nat.le_refl _)) (by omega) (by omega) (by omega) (by omega))
  rw [show 65 + LL - 65 = LL from by omega] at HCA
  rw [show m - (65 + LL) = H from by omega] at HCB
  have HLW := hidden hlow
  have hLm : LL ≤ 4294967296 := by omega
  have hH : H ≤ 4294967296 := by omega
  have HRL := hidden (fun w' (hb : Below w.heap.size w w') => RLen_any r m X ru w' (h.below hb (Nat.le_refl _)))
  clear h hT hlow hm hLL hWW
  obtain ⟨Y, hY⟩ : ∃ Y, Y = Bt.cut X (65 + LL) H := ⟨_, rfl⟩
  obtain ⟨Z, hZ⟩ : ∃ Z, Z = Bt.cut X 65 LL := ⟨_, rfl⟩
  rw [← hY] at HCB ⊢
  rw [← hZ] at HCA ⊢
  clear hY hZ
  have hmk := mk_ints n (by omega)
  refine (callsIn_wide (n := 10)).1 ?_
  refine callsIn_of_wp_marks Tryd.func50 rfl trivial ?_ rfl
  simp only [Tryd.ntmps50, List.size_toArray, List.length_cons, List.length_nil, Nat.reduceAdd, Nat.reduceSub, Array.replicate_succ, Array.replicate_zero, List.push_toArray, List.append_toArray, List.nil_append, List.cons_append]
  refine wpIn_wide.2 ?_
  go_wp2_with fail
  obtain ⟨w0, hw0⟩ : ∃ w0, w0 = ((w.alloc (.cells #[.int .i64 (n : Nat), .int .i64 (u : Nat), .int .i64 (W : Nat)] 50)).alloc (.cells #[.slice none 0 0] 22)).alloc (.cells #[.bool false] 4) := ⟨_, rfl⟩
  rw [← hw0]
  have hb0 : Below w.heap.size w w0 := by rw [hw0]; exact (((Below.refl _ _).alloc (Nat.le_refl _) _).alloc (by simp) _).alloc (by simp; omega) _
  have s0 : w0.cell? ⟨w.heap.size, 0, none⟩ = some (.int .i64 (n : Nat)) := by rw [hw0]; exact cell_made (cell_made (by simp))
  have s1 : w0.cell? ⟨w.heap.size, 1, none⟩ = some (.int .i64 (u : Nat)) := by rw [hw0]; exact cell_made (cell_made (by simp))
  have s2 : w0.cell? ⟨w.heap.size, 2, none⟩ = some (.int .i64 (W : Nat)) := by rw [hw0]; exact cell_made (cell_made (by simp))
  have x4 : Boxed w0 (w.heap.size + 1) 22 (.slice none 0 0) := by
    rw [hw0]
    refine Boxed.alloc ?_ _
    have := Boxed.new (w.alloc (.cells #[.int .i64 (n : Nat), .int .i64 (u : Nat), .int .i64 (W : Nat)] 50)) 22 (.slice none 0 0)
    rw [World.size_alloc] at this
    exact this
  have x5 : Boxed w0 (w.heap.size + 1 + 1) 4 (.bool false) := by
    rw [hw0]
    have := Boxed.new ((w.alloc (.cells #[.int .i64 (n : Nat), .int .i64 (u : Nat), .int .i64 (W : Nat)] 50)).alloc (.cells #[.slice none 0 0] 22)) 4 (.bool false)
    rw [World.size_alloc, World.size_alloc] at this
    exact this
  have HS0 := hidden s0
  have HS2 := hidden s2
  have HX4 := hidden x4
  have HX5 := hidden x5
  have HB0 := hidden hb0
  have hsz0 : w.heap.size < w0.heap.size := World.block_lt_of_cell? w0 ⟨w.heap.size, 0, none⟩ s0
  clear hw0 hb0 x4 x5
  refine (HLO.out w0).mono ?_
  rintro e' w1 ⟨rfl, hb1⟩
  have HB1 := hidden hb1
  have HBW1 := hidden (below_after HB0.out hb1)
  clear s0 s1 s2 hb1
  go_wp2_with fail
  refine (HCA.out w1 HBW1.out).mono ?_
  rintro e' w2 ⟨r0, u0, rfl, hr0, hb2, _, _⟩
  have HR0 := hidden hr0
  have HB2 := hidden (below_after HB1.out hb2)
  have HBW2 := hidden (below_after HBW1.out hb2)
  clear hr0 hb2
  go_wp2_with fail
  refine (HRL.out w2 HBW2.out).mono ?_
  rintro e' w2' ⟨rfl, rfl⟩
  go_wp2_with fail
  refine (HCB.out w2' HBW2.out).mono ?_
  rintro e' w3 ⟨r1, u1, rfl, hr1, hb3, _, _⟩
  have HR1 := hidden hr1
  have HR03 := hidden (HR0.out.below hb3 (Nat.le_refl _))
  have HB3 := hidden (below_after HB2.out hb3)
  have HBW3 := hidden (below_after HBW2.out hb3)
  have t0 := cell_after HB3.out HS0.out
  have hsz3 : w.heap.size < w3.heap.size := World.block_lt_of_cell? w3 ⟨w.heap.size, 0, none⟩ t0
  clear hr1 hb3
  go_wp2_with fail
  obtain ⟨w4, hw4⟩ : ∃ w4, w4 = w3.alloc (.cells #[.pointer (some ⟨r0, 0, none⟩)] 52) := ⟨_, rfl⟩
  rw [← hw4]
  have hsz4 : w4.heap.size = w3.heap.size + 1 := by rw [hw4]; simp
  have x7 : Boxed w4 w3.heap.size 52 (.pointer (some ⟨r0, 0, none⟩)) := by rw [hw4]; exact Boxed.new _ _ _
  have hb34 : Below w3.heap.size w3 w4 := by rw [hw4]; exact (Below.refl _ _).alloc (Nat.le_refl _) _
  have HB34 := hidden hb34
  have HX7 := hidden x7
  obtain ⟨w6, hw6⟩ : ∃ w6, w6 = (w4.alloc (.cells (Array.replicate n (Value.int .i64 0)) 3)).alloc (.cells #[.slice (some ⟨w3.heap.size + 1, 0, none⟩) 0 n] 22) := ⟨_, rfl⟩
  rw [← hw6]
  have hb46 : Below w4.heap.size w4 w6 := by rw [hw6]; exact ((Below.refl _ _).alloc (Nat.le_refl _) _).alloc (by simp) _
  have x9 : Boxed w6 (w3.heap.size + 1 + 1) 22 (.slice (some ⟨w3.heap.size + 1, 0, none⟩) 0 n) := by
    rw [hw6]
    have := Boxed.new (w4.alloc (.cells (Array.replicate n (Value.int .i64 0)) 3)) 22 (.slice (some ⟨w3.heap.size + 1, 0, none⟩) 0 n)
    rw [World.size_alloc, hsz4] at this
    exact this
  have o9 : w6.ownsRow w4.heap.size 3 1 (.slice (some ⟨w3.heap.size + 1, 0, none⟩) 0 n) 0 (Fn.nvals []) := by
    rw [hw6, ← hsz4]
    exact (own_made w4 n (by omega)).alloc _
  have HB46 := hidden hb46
  have HX9 := hidden x9
  have HO9 := hidden o9
  have hsz6 : w4.heap.size + 2 = w6.heap.size := by rw [hw6]; simp
  clear hw4 hw6 hb34 hb46 x7 x9 o9 t0
  have HBW4 := hidden (below_after HBW3.out HB34.out)
  have HBW6 := hidden (below_after HBW4.out HB46.out)
  have HT6 := hidden (HT.out.below HBW6.out (Nat.le_refl _))
  have HB04 := hidden (below_after HB3.out HB34.out)
  refine (ones_any r1 w6).mono ?_
  rintro e' w7 ⟨bx, rfl, hb7, hx, hbx⟩
  have HB7 := hidden hb7
  have HXX := hidden hx
  have HR14 := hidden (HR1.out.below HB34.out (Nat.le_refl _))
  have HR17 := hidden (((HR1.out.below HB34.out (Nat.le_refl _)).below HB46.out (Nat.le_refl _)).below hb7 (Nat.le_refl _))
  have HT7 := hidden (HT6.out.below hb7 (Nat.le_refl _))
  have HST := hidden (ones_stops 9 (by decide) bx r1 H Y u1 w7 hx.cell HR17.out HT7.out)
  have hsz7 : w6.heap.size ≤ w7.heap.size := hb7.size
  have x9 := HX9.out.kept (World.grownBy.mk hb7.os hb7.tape hb7.output hb7.size (fun k hk _ => hb7.block k hk)) (row := none) (by simp)
  have o9 := own_below HO9.out hb7 (Nat.le_refl _)
  have HX97 := hidden x9
  have HO97 := hidden o9
  have HB47 := hidden (below_after HB46.out hb7)
  clear hb7 hx x9 o9
  obtain ⟨n0, hn0⟩ : ∃ n0, n0 = w4.heap.size := ⟨_, rfl⟩
  rw [← hn0] at HO97 HB47
  have hB9 : n0 ≤ w3.heap.size + 1 + 1 := by omega
  go_wp2_with fail
  refine (wpIn_wide (n := 10)).1 ?_
  refine wpIn_rangeFunc_ownF rfl (by decide) (gf := 96) (lb := #[.pointer (some ⟨bx, 0, none⟩)]) rfl trivial (enters_of Tryd.func96 (by kernel_rfl) rfl)
    HST.out (fun h k => Fn.Kept.trans h k) (Fn.Kept.book (fun k hk => by
      rcases hk with rfl | rfl | hk | rfl
      · exact HXX.out.lt
      · exact lt_of_block HR17.out.cells
      · exact own_lt HR17.out.own k hk
      · exact HT7.out.lt)) (Below.refl _ _) (fun _ => rfl)
    (fun pre W' => (pre.length ≤ n ∧ (∃ v, Boxed W' (w3.heap.size + 1 + 1) 22 v ∧ W'.ownsRow n0 3 1 v pre.length (Fn.nvals (Fn.decI Z W pre)) ∧ True)) ∧ Boxed W' bx 52 (.pointer (some ⟨r1, 0, none⟩)) ∧ Below n0 w4 W')
    (fun c pre W' => (c = .ret ∧ n < pre.length ∧ Boxed W' (w.heap.size + 1) 22 (.slice none 0 0) ∧ Boxed W' (w.heap.size + 1 + 1) 4 (.bool false)) ∧ Below w.heap.size w W')
    (fun s A B row hs hg hr => ⟨⟨hs.1.1, holdsRow_own n0 (w3.heap.size + 1 + 1) 22 3 1 (fun pre : List Nat => pre.length) (fun pre => Fn.nvals (Fn.decI Z W pre)) (fun _ _ => True) s A B row hs.1.2 hg (fun r e => (hr r e).2)⟩, Own.from (boxed_own bx 52 (fun _ => .pointer (some ⟨r1, 0, none⟩))) _ s A B row hs.2.1 hg hr, ownFrom_below (Nat.le_of_eq hn0) (by omega) s A B row hs.2.2 hg hr⟩)
    (fun c s A B row hs hg hr => ⟨⟨hs.1.1, hs.1.2.1, Own.from (boxed_own _ 22 (fun _ => .slice none 0 0)) _ s A B row hs.1.2.2.1 hg hr, Own.from (boxed_own _ 4 (fun _ => .bool false)) _ s A B row hs.1.2.2.2 hg hr⟩, ownFrom_below (Nat.le_refl _) (by have := HBW6.out.size; omega) s A B row hs.2 hg hr⟩)
    ⟨⟨Nat.zero_le _, _, HX97.out, HO97.out, trivial⟩, HXX.out, HB47.out⟩ ?a1 ?assign ?body ?done ?stop
  case assign =>
    intro l' x' W' K hK
    gi_wp2
    exact hK
  case body =>
    rintro l' pre x W' ⟨⟨hpn, v, hxv, hov, _⟩, hxb, hbW⟩ _
    have hbW4 : Below w4.heap.size w4 W' := by rw [← hn0]; exact hbW
    have q0 := cell_after hbW4 (cell_after HB04.out HS0.out)
    have q2 := cell_after hbW4 (cell_after HB04.out HS2.out)
    have q7 := cell_after hbW4 HX7.out.cell
    have HRL := hidden ((HR03.out.below HB34.out (Nat.le_refl _)).below hbW4 (Nat.le_refl _))
    have y4 : Boxed W' (w.heap.size + 1) 22 (.slice none 0 0) := (hbW4.block _ (Nat.lt_of_lt_of_le HX4.out.lt HB04.out.size)).trans ((HB04.out.block _ HX4.out.lt).trans HX4.out)
    have y5 : Boxed W' (w.heap.size + 1 + 1) 4 (.bool false) := (hbW4.block _ (Nat.lt_of_lt_of_le HX5.out.lt HB04.out.size)).trans ((HB04.out.block _ HX5.out.lt).trans HX5.out)
    obtain ⟨ao, cap, hv⟩ : ∃ ao cap, v = .slice ao pre.length cap := by
      rcases hov.2 with ⟨h1, h2⟩ | ⟨g, cap, _, h1, _⟩
      · exact ⟨none, 0, by rw [h1, h2]⟩
      · exact ⟨some ⟨g, 0, none⟩, cap, h1⟩
    have c9 := hxv.cell
    have HXV := hidden hxv
    have HOV := hidden hov
    have HXB := hidden hxb
    have HBW' := hidden hbW
    have HBWW := hidden (below_after HBW4.out hbW4)
    have HPN := hidden hpn
    rw [hv] at c9
    obtain ⟨L, hL⟩ : ∃ L, L = pre.length := ⟨_, rfl⟩
    rw [← hL] at c9 hpn
    have HHL := hidden hL
    have HHV := hidden hv
    have HY4 := hidden y4
    have HY5 := hidden y5
    by_cases hfull : L = n
    · have z4 := y4.cell
      have z5 := y5.cell
      have zf4 := y4.frozen
      have zf5 := y5.frozen
      have hne : ((L : Int) == (n : Int)) = true := by simp [hfull]
      clear hv hL hxv hov hxb hbW hbW4 y4 y5
      gi_wp2
      have k4 : Boxed (W'.setCell ⟨w.heap.size + 1, 0, none⟩ (.slice none 0 0)) (w.heap.size + 1) 22 (.slice none 0 0) := HY4.out.set _
      have k5 : Boxed (W'.setCell ⟨w.heap.size + 1, 0, none⟩ (.slice none 0 0)) (w.heap.size + 1 + 1) 4 (.bool false) := HY5.out.kept (grownBy_setCell' W' _ _) (by simp)
      refine ⟨(KeepsOthers.setCell _ _ _).trans (KeepsOthers.setCell _ _ _), ⟨rfl, ?_, k4.kept (grownBy_setCell' _ _ _) (by simp), k5.set _⟩, (HBWW.out.setCell (p := ⟨w.heap.size + 1, 0, none⟩) (by simp) _).setCell (p := ⟨w.heap.size + 1 + 1, 0, none⟩) (by simp; omega) _⟩
      rw [List.length_append, ← HHL.out]
      simp
      omega
    · have hne : ((L : Int) == (n : Int)) = false := by simp; omega
      have hLn : L < n := by omega
      clear hv hL hxv hov hxb hbW hbW4 y4 y5
      gi_wp2_with fail
      have hle : L * W + W ≤ LL := by
        have h1 : (L + 1) * W ≤ n * W := Nat.mul_le_mul_right _ hLn
        rw [Nat.add_mul, Nat.one_mul] at h1
        rw [HLW.out]
        exact h1
      have HLOW := hidden (lowest_any r0 LL Z L W u0 W'.drew HRL.out.drew hW hle)
      have HJG := hidden (join_gen (IntKind.i64.wrap ((x : Int) - (L : Int))) (Bt.fd Z (L * W) W) W W'.drew hW)
      obtain ⟨J', hJ'⟩ : ∃ J', J' = Fn.jnAt Z W x L := ⟨_, rfl⟩
      have HJA : Hid (Fn.jn (IntKind.i64.wrap ((x : Int) - (L : Int))) (Bt.fd Z (L * W) W) W = J') := by show _ = _; rw [hJ']; rfl
      rw [HJA.out] at HJG
      have HJ' := hidden hJ'
      have c9a : (W'.alloc (.cells #[.int .i64 J'] 3)).cell? ⟨w3.heap.size + 1 + 1, 0, none⟩ = some (.slice ao L cap) := cell_made c9
      have q7a : (W'.alloc (.cells #[.int .i64 J'] 3)).cell? ⟨w3.heap.size, 0, none⟩ = some (.pointer (some ⟨r0, 0, none⟩)) := cell_made q7
      have q2a : (W'.alloc (.cells #[.int .i64 J'] 3)).cell? ⟨w.heap.size, 2, none⟩ = some (.int .i64 (W : Nat)) := cell_made q2
      clear hle hJ'
      have hsv : v = .slice ao L cap := by rw [HHL.out]; exact HHV.out
      have hov2 : W'.drew.ownsRow n0 3 1 (.slice ao L cap) L (Fn.nvals (Fn.decI Z W pre)) := by
        have e := HOV.out
        rw [hsv, ← HHL.out] at e
        exact e
      have hxv2 : Boxed W'.drew (w3.heap.size + 1 + 1) 22 (.slice ao L cap) := by
        have e := HXV.out
        rw [hsv] at e
        exact e
      have HOV2 := hidden hov2
      have HXV2 := hidden hxv2
      have hsW : n0 ≤ W'.drew.heap.size := by have := HBW'.out.size; show n0 ≤ W'.heap.size; omega
      have HSW := hidden hsW
      clear hsv hov2 hxv2 hsW
      refine wpIn_region_held_round (S := fun w' => w'.cell? ⟨w3.heap.size, 0, none⟩ = some (.pointer (some ⟨r0, 0, none⟩)) ∧ w'.cell? ⟨w.heap.size, 2, none⟩ = some (.int .i64 (W : Nat))) (by kernel_rfl) (by kernel_rfl) (by rintro ⟨_, _, h⟩; exact h) ⟨q7, q2⟩ (fun hHeld => ?_)
      refine wpAnyH_take (i := 1) (oi := _) (v := ?_) rfl (by kernel_rfl) (by kernel_rfl) (by kernel_rfl) (fun _ _ _ h => h) (Or.inl ⟨by rfl, ?_⟩) (by assumption) ?_
      rotate_left
      · intro w' hSw
        obtain ⟨q1, q2⟩ := hSw
        go_simp
        try with_reducible rfl
      simp only [Act.put, List.setIfInBounds_toArray, List.set_cons_zero, List.set_cons_succ]
      refine wpAnyH_take (i := 2) (oi := _) (v := ?_) rfl (by kernel_rfl) (by kernel_rfl) (by kernel_rfl) (fun _ _ _ h => h) (Or.inl ⟨by rfl, ?_⟩) (by assumption) ?_
      rotate_left
      · intro w' hSw
        obtain ⟨q1, q2⟩ := hSw
        go_simp
        try with_reducible rfl
      simp only [Act.put, List.setIfInBounds_toArray, List.set_cons_zero, List.set_cons_succ]
      refine wpAnyH_take (i := 3) (oi := _) (v := ?_) rfl (by kernel_rfl) (by kernel_rfl) (by kernel_rfl) (fun _ _ _ h => h) (Or.inl ⟨by rfl, ?_⟩) (by assumption) ?_
      rotate_left
      · intro w' hSw
        obtain ⟨q1, q2⟩ := hSw
        go_simp
        try with_reducible rfl
      simp only [Act.put, List.setIfInBounds_toArray, List.set_cons_zero, List.set_cons_succ]
      refine wpAnyH_take (i := 4) (oi := _) (v := ?_) rfl (by kernel_rfl) (by kernel_rfl) (by kernel_rfl) (fun _ _ _ h => h) (Or.inl ⟨by rfl, ?_⟩) (by assumption) ?_
      rotate_left
      · intro w' hSw
        obtain ⟨q1, q2⟩ := hSw
        go_simp
        try with_reducible rfl
      simp only [Act.put, List.setIfInBounds_toArray, List.set_cons_zero, List.set_cons_succ]
      refine wpAnyH_take (i := 5) (oi := _) (v := ?_) rfl (by kernel_rfl) (by kernel_rfl) (by kernel_rfl) (fun _ _ _ h => h) (Or.inl ⟨by rfl, ?_⟩) (by assumption) ?_
      rotate_left
      · intro w' hSw
        obtain ⟨q1, q2⟩ := hSw
        go_simp
        try with_reducible rfl
      simp only [Act.put, List.setIfInBounds_toArray, List.set_cons_zero, List.set_cons_succ]
      refine wpAnyH_take (i := 6) (oi := _) (v := ?_) rfl (by kernel_rfl) (by kernel_rfl) (by kernel_rfl) (fun _ _ _ h => h) (Or.inl ⟨by rfl, ?_⟩) (by assumption) ?_
      rotate_left
      · intro w' hSw
        obtain ⟨q1, q2⟩ := hSw
        go_simp
        try with_reducible rfl
      simp only [Act.put, List.setIfInBounds_toArray, List.set_cons_zero, List.set_cons_succ]
      refine wpAnyH_take (i := 7) (oi := _) (v := ?_) rfl (by kernel_rfl) (by kernel_rfl) (by kernel_rfl) (fun _ _ _ h => h) (Or.inl ⟨by rfl, ?_⟩) (by assumption) ?_
      rotate_left
      · intro w' hSw
        obtain ⟨q1, q2⟩ := hSw
        go_simp
        try with_reducible rfl
      simp only [Act.put, List.setIfInBounds_toArray, List.set_cons_zero, List.set_cons_succ]
      refine wpAnyH_take (i := 9) (oi := _) (v := ?_) rfl (by kernel_rfl) (by kernel_rfl) (by kernel_rfl) (fun _ _ _ h => h) (Or.inl ⟨by rfl, ?_⟩) (by assumption) ?_
      rotate_left
      · intro w' hSw
        obtain ⟨q1, q2⟩ := hSw
        go_simp
        try with_reducible rfl
      simp only [Act.put, List.setIfInBounds_toArray, List.set_cons_zero, List.set_cons_succ]
      refine wpAnyH_take (i := 10) (oi := _) (v := ?_) rfl (by kernel_rfl) (by kernel_rfl) (by kernel_rfl) (fun _ _ _ h => h) (Or.inl ⟨by rfl, ?_⟩) (by assumption) ?_
      rotate_left
      · intro w' hSw
        obtain ⟨q1, q2⟩ := hSw
        go_simp
        try with_reducible rfl
      simp only [Act.put, List.setIfInBounds_toArray, List.set_cons_zero, List.set_cons_succ]
      refine wpAnyH_ready (rs := [0, 8]) (by kernel_rfl) (by simp) (AllReadyH.cons rfl (fun K hK => ?a0) (AllReadyH.cons rfl (fun K hK => ?a8) AllReadyH.nil))
      case' a0 =>
        go_simp
        refine hK.out _ _ (by first | exact ⟨q7, q2⟩ | exact ⟨q7a, q2a⟩) (fun _ => ?_)
        clear hK K
        refine wpAnyH_ready (rs := [8]) (by kernel_rfl) (by simp) (AllReadyH.cons rfl (fun K hK => ?_) AllReadyH.nil)
        go_simp
        go_wp2_with (go_at_call 66; refine (HLOW.out).mono ?_; rintro e' w8 ⟨rfl, rfl⟩)
        refine hK.out _ _ ⟨q7, q2⟩ (fun _ => ?_)
        clear hK K
        refine wpAnyH_ready (rs := [11]) (by kernel_rfl) (by simp) (AllReadyH.cons rfl (fun K hK => ?_) AllReadyH.nil)
        go_simp
        go_wp2_with (go_at_call 65; refine (HJG.out).mono ?_; rintro e' w8 ⟨rfl, rfl⟩)
        refine hK.out _ _ ⟨q7, q2⟩ (fun _ => ?_)
        clear hK K
        refine wpAnyH_ready (rs := [12]) (by kernel_rfl) (by simp) (AllReadyH.cons rfl (fun K hK => ?_) AllReadyH.nil)
        go_simp
        refine hK.out _ _ ⟨q7a, q2a⟩ (fun _ => ?_)
        clear hK K
      case' a8 =>
        go_simp
        go_wp2_with (go_at_call 66; refine (HLOW.out).mono ?_; rintro e' w8 ⟨rfl, rfl⟩)
        refine hK.out _ _ ⟨q7, q2⟩ (fun _ => ?_)
        clear hK K
        refine wpAnyH_ready (rs := [0, 11]) (by kernel_rfl) (by simp) (AllReadyH.cons rfl (fun K hK => ?b0) (AllReadyH.cons rfl (fun K hK => ?b11) AllReadyH.nil))
      case' b0 =>
        go_simp
        refine hK.out _ _ (by first | exact ⟨q7, q2⟩ | exact ⟨q7a, q2a⟩) (fun _ => ?_)
        clear hK K
        refine wpAnyH_ready (rs := [11]) (by kernel_rfl) (by simp) (AllReadyH.cons rfl (fun K hK => ?_) AllReadyH.nil)
        go_simp
        go_wp2_with (go_at_call 65; refine (HJG.out).mono ?_; rintro e' w8 ⟨rfl, rfl⟩)
        refine hK.out _ _ ⟨q7, q2⟩ (fun _ => ?_)
        clear hK K
        refine wpAnyH_ready (rs := [12]) (by kernel_rfl) (by simp) (AllReadyH.cons rfl (fun K hK => ?_) AllReadyH.nil)
        go_simp
        refine hK.out _ _ ⟨q7a, q2a⟩ (fun _ => ?_)
        clear hK K
      case' b11 =>
        go_simp
        go_wp2_with (go_at_call 65; refine (HJG.out).mono ?_; rintro e' w8 ⟨rfl, rfl⟩)
        refine hK.out _ _ ⟨q7, q2⟩ (fun _ => ?_)
        clear hK K
        refine wpAnyH_ready (rs := [0, 12]) (by kernel_rfl) (by simp) (AllReadyH.cons rfl (fun K hK => ?c0) (AllReadyH.cons rfl (fun K hK => ?c12) AllReadyH.nil))
      case' c0 =>
        go_simp
        refine hK.out _ _ (by first | exact ⟨q7, q2⟩ | exact ⟨q7a, q2a⟩) (fun _ => ?_)
        clear hK K
        refine wpAnyH_ready (rs := [12]) (by kernel_rfl) (by simp) (AllReadyH.cons rfl (fun K hK => ?_) AllReadyH.nil)
        go_simp
        refine hK.out _ _ ⟨q7a, q2a⟩ (fun _ => ?_)
        clear hK K
      case' c12 =>
        go_simp
        refine hK.out _ _ ⟨q7a, q2a⟩ (fun _ => ?_)
        clear hK K
        refine wpAnyH_ready (rs := [0]) (by kernel_rfl) (by simp) (AllReadyH.cons rfl (fun K hK => ?_) AllReadyH.nil)
        go_simp
        refine hK.out _ _ (by first | exact ⟨q7, q2⟩ | exact ⟨q7a, q2a⟩) (fun _ => ?_)
        clear hK K
      all_goals refine wpAnyH_ready (rs := [13]) (by kernel_rfl) (by simp) (AllReadyH.cons rfl (fun K hK => ?_) AllReadyH.nil)
      all_goals
        rw [if_pos (by rfl)]
        obtain ⟨i0, hi, hz0, hz1, hz2⟩ := info_parts Tryd.infoI
        refine wp_append_own _ (.tmp 35) (.tmp 47) 22 rfl n0 3 i0 (.int .i64 0) 1 8 Tryd.underlying22 hi hz0 hz1 hz2 rfl (by decide) (.slice ao L cap) L (Fn.nvals (Fn.decI Z W pre)) rfl (HOV2.out.alloc _) ⟨W'.heap.size, 0, none⟩ 1 1 [.int .i64 J'] rfl rfl (World.news_of_block (heap_alloc_new W'.drew _)) (by intro u hu; simp at hu; subst hu; rfl) (by unfold maxLen; omega) (by omega) (by show n0 ≤ (W'.drew.alloc _).heap.size; rw [World.size_alloc]; exact Nat.le_succ_of_le HSW.out) ?_
        intro v' w1 hown1 hgrow1 _
        obtain ⟨g', cap', rfl⟩ := ownsRow_succ hown1
        obtain ⟨e1, e2, e3, e4, e5⟩ := HXV2.out.appended (by decide) HOV2.out HSW.out hB9 hown1 hgrow1
        have d9 := e1.cell
        have df9 := e1.frozen
        have HE2 := hidden e2
        have HE3 := hidden e3
        have HE4 := hidden e4
        have HE5 := hidden e5
        have hb1 : Below n0 W'.drew w1 := ((Below.refl _ _).alloc HSW.out _).grown hgrow1 (by rw [World.size_alloc]; exact Nat.le_succ_of_le HSW.out) (fun k e => (HOV2.out.lt k e).1)
        have d7 : w1.cell? ⟨w3.heap.size, 0, none⟩ = some (.pointer (some ⟨r0, 0, none⟩)) := (hb1.cell (p := ⟨w3.heap.size, 0, none⟩) (by show w3.heap.size < n0; omega)).trans q7
        have d2 : w1.cell? ⟨w.heap.size, 2, none⟩ = some (.int .i64 (W : Nat)) := (hb1.cell (p := ⟨w.heap.size, 2, none⟩) (by show w.heap.size < n0; omega)).trans q2
        have kx : Boxed (w1.setCell ⟨w3.heap.size + 1 + 1, 0, none⟩ (.slice (some ⟨g', 0, none⟩) (L + 1) cap')) bx 52 (.pointer (some ⟨r1, 0, none⟩)) := by
          have hx1 : Boxed W'.drew bx 52 (.pointer (some ⟨r1, 0, none⟩)) := HXB.out
          have hx2 : Boxed w1 bx 52 (.pointer (some ⟨r1, 0, none⟩)) := (hx1.alloc _).kept hgrow1 (hx1.not_row (by decide) HOV2.out)
          exact hx2.kept (grownBy_setCell' _ _ _) (by simp; omega)
        have HKX := hidden kx
        clear hown1 hgrow1 e1 e2 e3 e4 e5 kx hb1
        simp only [Act.put, List.setIfInBounds_toArray, List.set_cons_zero, List.set_cons_succ]
        refine hK.out _ _ ⟨d7, d2⟩ (fun _ => ?_)
        clear hK K
        refine wpAnyH_ready (rs := [14]) (by kernel_rfl) (by simp) (AllReadyH.cons rfl (fun K hK => ?_) AllReadyH.nil)
        go_simp
        obtain ⟨w9, hw9⟩ : ∃ w9, w9 = w1.setCell ⟨w3.heap.size + 1 + 1, 0, none⟩ (.slice (some ⟨g', 0, none⟩) (L + 1) cap') := ⟨_, rfl⟩
        rw [← hw9] at HE2 HE3 HE4 HE5 HKX ⊢
        have hb9 : Below n0 W'.drew w9 := HE5.out
        have d7' : w9.cell? ⟨w3.heap.size, 0, none⟩ = some (.pointer (some ⟨r0, 0, none⟩)) := (hb9.cell (p := ⟨w3.heap.size, 0, none⟩) (by show w3.heap.size < n0; omega)).trans q7
        have d2' : w9.cell? ⟨w.heap.size, 2, none⟩ = some (.int .i64 (W : Nat)) := (hb9.cell (p := ⟨w.heap.size, 2, none⟩) (by show w.heap.size < n0; omega)).trans q2
        refine hK.out _ _ ⟨d7', d2'⟩ (fun _ => ?_)
        clear hK K
        refine wpAnyH_done (by kernel_rfl) ?_ _
        have hrow : w9.ownsRow n0 3 1 (.slice (some ⟨g', 0, none⟩) (L + 1) cap') (pre ++ [x]).length (Fn.nvals (Fn.decI Z W (pre ++ [x]))) := by
          rw [Fn.decI_snoc, Fn.nvals_snoc, List.length_append, ← HHL.out, ← HJ'.out]
          exact HE3.out
        refine ⟨(KeepsOthers.drew W').trans HE4.out, ?_, ⟨by rw [List.length_append, ← HHL.out]; simp; omega, _, HE2.out, hrow, trivial⟩, HKX.out, HBW'.out.trans ((Below.refl n0 W').drew.trans hb9)⟩
        intro k hk
        rcases hk with rfl | rfl | hk | rfl
        · exact HKX.out.trans HXB.out.symm
        · exact hb9.block _ (by have := lt_of_block HR14.out.cells; omega)
        · exact hb9.block _ (by have := own_lt HR14.out.own k hk; omega)
        · exact hb9.block _ (by have := (HT.out.below HBW4.out (Nat.le_refl _)).lt; omega)
  case done =>
    rintro D ys W' hD rfl ⟨⟨hpn, v, hxv, hov, _⟩, _, hbW⟩ hK
    rw [Fn.plc_length] at hpn hov
    obtain ⟨K', hK'⟩ : ∃ K', K' = Wd.ones Y H := ⟨_, rfl⟩
    rw [← hK'] at hpn hov
    have hbW4 : Below w4.heap.size w4 W' := by rw [← hn0]; exact hbW
    have q0 := cell_after hbW4 (cell_after HB04.out HS0.out)
    have y4 : Boxed W' (w.heap.size + 1) 22 (.slice none 0 0) := (hbW4.block _ (Nat.lt_of_lt_of_le HX4.out.lt HB04.out.size)).trans ((HB04.out.block _ HX4.out.lt).trans HX4.out)
    have y5 : Boxed W' (w.heap.size + 1 + 1) 4 (.bool false) := (hbW4.block _ (Nat.lt_of_lt_of_le HX5.out.lt HB04.out.size)).trans ((HB04.out.block _ HX5.out.lt).trans HX5.out)
    obtain ⟨ao, cap, hv⟩ : ∃ ao cap, v = .slice ao K' cap := by
      rcases hov.2 with ⟨h1, h2⟩ | ⟨g, cap, _, h1, _⟩
      · exact ⟨none, 0, by rw [h1, h2]⟩
      · exact ⟨some ⟨g, 0, none⟩, cap, h1⟩
    subst hv
    have c9 := hxv.cell
    have z4 := y4.cell
    have zf4 := y4.frozen
    have z5 := y5.cell
    have zf5 := y5.frozen
    have HXV := hidden hxv
    have HOV := hidden hov
    have HY4 := hidden y4
    have HY5 := hidden y5
    have HBWW := hidden (below_after HBW4.out hbW4)
    have HKK := hidden hK'
    have HK := hidden hK
    clear hxv hov y4 y5 hbW hbW4 hK' hK
    go_wp2_with fail
    have f1 : ∀ x, (W'.setCell ⟨w.heap.size + 1, 0, none⟩ x).cell? ⟨w3.heap.size + 1 + 1, 0, none⟩ = some (.slice ao K' cap) := fun x => cell_far c9 (by show w3.heap.size + 1 + 1 ≠ w.heap.size + 1; omega)
    have f2 : ∀ x, (W'.setCell ⟨w.heap.size + 1, 0, none⟩ x).cell? ⟨w.heap.size, 0, none⟩ = some (.int .i64 (n : Nat)) := fun x => cell_far q0 (by show w.heap.size ≠ w.heap.size + 1; omega)
    have g1 : ∀ x y, ((W'.setCell ⟨w.heap.size + 1, 0, none⟩ x).setCell ⟨w.heap.size + 1 + 1, 0, none⟩ y).cell? ⟨w3.heap.size + 1 + 1, 0, none⟩ = some (.slice ao K' cap) := fun x y => cell_far (f1 x) (by show w3.heap.size + 1 + 1 ≠ w.heap.size + 1 + 1; omega)
    have g2 : ∀ x y, ((W'.setCell ⟨w.heap.size + 1, 0, none⟩ x).setCell ⟨w.heap.size + 1 + 1, 0, none⟩ y).cell? ⟨w.heap.size, 0, none⟩ = some (.int .i64 (n : Nat)) := fun x y => cell_far (f2 x) (by show w.heap.size ≠ w.heap.size + 1 + 1; omega)
    have z5' : ∀ x, (W'.setCell ⟨w.heap.size + 1, 0, none⟩ x).cell? ⟨w.heap.size + 1 + 1, 0, none⟩ = some (.bool false) := fun x => cell_far z5 (by show w.heap.size + 1 + 1 ≠ w.heap.size + 1; omega)
    refine wp_region_noPanic ?_
    go_region_held (fun w' => w'.cell? ⟨w3.heap.size + 1 + 1, 0, none⟩ = some (.slice ao K' cap) ∧ w'.cell? ⟨w.heap.size, 0, none⟩ = some (.int .i64 (n : Nat))) (first | (exact ⟨c9, q0⟩) | (exact ⟨f1 _, f2 _⟩) | (exact ⟨g1 _ _, g2 _ _⟩)) (fail)
    refine NoPanic.normal ?_
    go_wp2_with fail
    have hn4 := HY4.out.not_row (e := 3) (by decide) HOV.out
    have hn5 := HY5.out.not_row (e := 3) (by decide) HOV.out
    have o1 : (W'.setCell ⟨w.heap.size + 1, 0, none⟩ (.slice ao K' cap)).ownsRow n0 3 1 (.slice ao K' cap) K' (Fn.nvals (Fn.decI Z W (Fn.plc Y H K'))) := ownsRow_setCell_other HOV.out (Ne.symm hn4) _
    have b4 : Boxed (W'.setCell ⟨w.heap.size + 1, 0, none⟩ (.slice ao K' cap)) (w.heap.size + 1) 22 (.slice ao K' cap) := HY4.out.set _
    have b5 : Boxed (W'.setCell ⟨w.heap.size + 1, 0, none⟩ (.slice ao K' cap)) (w.heap.size + 1 + 1) 4 (.bool false) := HY5.out.kept (grownBy_setCell' W' _ _) (by simp)
    have hK1 := (KeepsOthers.setCell W' ⟨w.heap.size + 1, 0, none⟩ (.slice ao K' cap)).same D _ HK.out rfl
    have hB1 := HBWW.out.setCell (p := ⟨w.heap.size + 1, 0, none⟩) (by simp) (.slice ao K' cap)
    generalize hW1 : W'.setCell ⟨w.heap.size + 1, 0, none⟩ (.slice ao K' cap) = W1 at *
    have o2 : (W1.setCell ⟨w.heap.size + 1 + 1, 0, none⟩ (.bool ((K' : Int) == (n : Int)))).drew.ownsRow n0 3 1 (.slice ao K' cap) K' (Fn.nvals (Fn.decI Z W (Fn.plc Y H K'))) := ownsRow_setCell_other o1 (Ne.symm hn5) _
    have d4 : Boxed (W1.setCell ⟨w.heap.size + 1 + 1, 0, none⟩ (.bool ((K' : Int) == (n : Int)))).drew (w.heap.size + 1) 22 (.slice ao K' cap) := by
      have e : Boxed (W1.setCell ⟨w.heap.size + 1 + 1, 0, none⟩ (.bool ((K' : Int) == (n : Int)))) (w.heap.size + 1) 22 (.slice ao K' cap) := b4.kept (grownBy_setCell' W1 _ _) (by simp)
      exact e
    have d5 : Boxed (W1.setCell ⟨w.heap.size + 1 + 1, 0, none⟩ (.bool ((K' : Int) == (n : Int)))).drew (w.heap.size + 1 + 1) 4 (.bool ((K' : Int) == (n : Int))) := b5.set _
    have hK2 : (W1.setCell ⟨w.heap.size + 1 + 1, 0, none⟩ (.bool ((K' : Int) == (n : Int)))).drew.heap[D]? = some (.deferred (some [])) := (KeepsOthers.setCell W1 ⟨w.heap.size + 1 + 1, 0, none⟩ (.bool ((K' : Int) == (n : Int)))).same D _ hK1 rfl
    have hB2 := (hB1.setCell (p := ⟨w.heap.size + 1 + 1, 0, none⟩) (by simp; omega) (.bool ((K' : Int) == (n : Int)))).drew
    generalize hW2 : (W1.setCell ⟨w.heap.size + 1 + 1, 0, none⟩ (.bool ((K' : Int) == (n : Int)))).drew = W2 at *
    refine ⟨by simp, .inl ⟨_, _, rfl, run_takeDeferred hK2, ?_⟩⟩
    have hc4 := cell_kept d4.cell (grownBy_putObj' _ D (.deferred none)) (fun r e => by cases e; exact ⟨_, hK2, rfl⟩)
    have hc5 := cell_kept d5.cell (grownBy_putObj' _ D (.deferred none)) (fun r e => by cases e; exact ⟨_, hK2, rfl⟩)
    have o3 := ownsRow_putObj o2 (.deferred none) hK2 rfl
    refine ⟨.tuple #[.slice ao K' cap, .bool ((K' : Int) == (n : Int))], ?_, hB2.trans (belowK_b (w := w) (Nat.le_refl _) W2 D _ _ (by have := HBW6.out.size; omega) hK2 rfl rfl), .slice ao K' cap, _, rfl, ?_⟩
    · simp [results, Tryd.f50, go_sem, hc4, hc5]
    · by_cases hkn : K' = n
      · left
        refine ⟨by simp [hkn], by rw [← HKK.out]; exact hkn, ?_⟩
        rw [← hkn]
        exact own_base o3 (Nat.zero_le n0)
      · right
        exact ⟨by simp; omega, by rw [← HKK.out]; exact hkn⟩
  case stop =>
    rintro D c pre W' hD ⟨k, hk, rfl⟩ ⟨⟨rfl, hlt, h4, h5⟩, hB⟩ hK
    rw [Fn.plc_length] at hlt
    have HB := hidden hB
    have H4 := hidden h4.cell
    have H5 := hidden h5.cell
    have HK := hidden hK
    clear h4 h5 hB hK
    gi_wp2
    refine ⟨by simp, .inl ⟨_, _, rfl, run_takeDeferred HK.out, ?_⟩⟩
    have hc4 := cell_kept H4.out (grownBy_putObj' _ D (.deferred none)) (fun r e => by cases e; exact ⟨_, HK.out, rfl⟩)
    have hc5 := cell_kept H5.out (grownBy_putObj' _ D (.deferred none)) (fun r e => by cases e; exact ⟨_, HK.out, rfl⟩)
    refine ⟨.tuple #[.slice none 0 0, .bool false], ?_, HB.out.trans (belowK_b (w := w) (Nat.le_refl _) W' D _ _ (by have := HBW6.out.size; omega) HK.out rfl rfl), _, false, rfl, .inr ⟨rfl, by omega⟩⟩
    simp [results, Tryd.f50, go_sem, hc4, hc5]
end Go.Proofs.YtfohldojcdhnhaaDoor
