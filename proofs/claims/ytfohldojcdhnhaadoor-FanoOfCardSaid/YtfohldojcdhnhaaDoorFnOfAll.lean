/-
  The contract of Of of package fano, for every string.
-/
import Derived.Test.YtfohldojcdhnhaaDoorFnOf
namespace Go.Proofs.YtfohldojcdhnhaaDoor
open Go.RowKit
set_option maxHeartbeats 1000000 in
theorem FOf_none (s : ByteArray) (w : World) (hs : s.size ≤ 9223372036854775807) (h : Bt.ofB s.data.toList = none) :
    Calls Tryd.prog 26 #[.string s] w fun e w' => e = .returned (.tuple #[.pointer none, .int .i64 3]) ∧ Below w.heap.size w w' := by
  have HO := hidden (Of_none s w hs h)
  clear h
  go_enter Tryd.func26, Tryd.ntmps26
  go_wp2_with fail
  refine (HO.out).mono ?_
  rintro e' w1 ⟨rfl, hb1⟩
  have HB1 := hidden hb1
  clear hb1
  go_wp2_with fail
  go_ret2
  exact ⟨rfl, HB1.out⟩
set_option maxHeartbeats 2000000 in
theorem FOf_yes (s : ByteArray) (X m : Nat) (l : List Nat) (u : Nat) (w : World) (hs : s.size ≤ 9223372036854775807) (h : Bt.ofB s.data.toList = some (m, X)) (hr : Fn.Reads X m l u) (hT : Tab w) :
    Calls Tryd.prog 26 #[.string s] w fun e w' => ∃ p q, e = .returned (.tuple #[.pointer (some ⟨p, 0, none⟩), .int .i64 0]) ∧ Sq w' p l u q ∧ Below w.heap.size w w' := by
  have HO := hidden (Of_some s m X w hs h)
  have HRD := hidden hr
  have HT := hidden hT
  have hn := hr.ok.len
  have hu := hr.ok.le
  have hu1 := hr.ok.pos
  have HSI := hidden (fun r ru w' (h : Rw w' r m X ru) => shapeIn_any r m X ru w' h)
  have hwant : Fn.want X m = (m : Int) := by
    unfold Fn.want
    rw [hr.cnt, hr.bnd, Fn.highsI_eq hu1]
    have := hr.len
    omega
  rw [hwant, hr.cnt, hr.bnd, show ((m : Int) == (m : Int)) = true from by simp] at HSI
  have HNU := hidden (fun r ru w' (h : Rw w' r m X ru) (hT' : Tab w') => numbers_any r m X l.length u (Fn.highs l.length u) ru w' h hT' hn (by omega) hr.len)
  unfold Fn.sh at HSI HNU
  obtain ⟨N, hN⟩ : ∃ N, N = l.length := ⟨_, rfl⟩
  rw [← hN] at HSI HNU
  obtain ⟨W, hW⟩ : ∃ W, W = Fn.wdt N u := ⟨_, rfl⟩
  rw [← hW] at HSI HNU
  have HN := hidden hN
  have HW := hidden hW
  clear h hr hT hwant hN hW
  go_enter Tryd.func26, Tryd.ntmps26
  go_wp2_with fail
  refine (HO.out).mono ?_
  rintro e' w1 ⟨r, ru, rfl, hrw, hb1, _, _⟩
  have HRW := hidden hrw
  have HB1 := hidden hb1
  clear hrw hb1
  go_wp2_with fail
  refine (HSI.out r ru w1 HRW.out).mono ?_
  rintro e' w2 ⟨rfl, hb2⟩
  have HRW2 := hidden (HRW.out.below hb2 (Nat.le_refl _))
  have HB2 := hidden (below_after HB1.out hb2)
  clear hb2
  go_wp2_with fail
  obtain ⟨w3, hw3⟩ : ∃ w3, w3 = w2.alloc (.cells #[.int .i64 (N : Nat), .int .i64 (u : Nat), .int .i64 (W : Nat)] 50) := ⟨_, rfl⟩
  rw [← hw3]
  have hb3 : Below w2.heap.size w2 w3 := by rw [hw3]; exact (Below.refl _ _).alloc (Nat.le_refl _) _
  have c1 : w3.cell? ⟨w2.heap.size, 1, none⟩ = some (.int .i64 (u : Nat)) := by rw [hw3]; exact Lib.cell_of_heap (heap_alloc_new _ _) 1
  have HRW3 := hidden (HRW2.out.below hb3 (Nat.le_refl _))
  have HB3 := hidden (below_after HB2.out hb3)
  have HC1 := hidden c1
  clear hw3 hb3 c1
  refine (HNU.out r ru w3 HRW3.out (HT.out.below HB3.out (Nat.le_refl _))).mono ?_
  rintro e' w4 ⟨hb4, v, f, rfl, hf⟩
  have hones := HRD.out.ones
  have hdec := HRD.out.dec
  rw [← HN.out] at hones hdec
  rw [← HW.out] at hdec
  have hI : f = true ∧ Ints w4 v (Fn.ints l) := by
    rcases hf with ⟨hf1, _, hf3⟩ | ⟨_, hf2⟩
    · refine ⟨hf1, Ints.of_nown (B := 0) (n := N) ?_ (by rw [Fn.ints_length, ← HN.out])⟩
      rw [← hdec]
      exact hf3
    · exact absurd hones hf2
  obtain ⟨rfl, hI2⟩ := hI
  have HI := hidden hI2
  have HB4 := hidden (below_after HB3.out hb4)
  have c1 := cell_after hb4 HC1.out
  obtain ⟨ao, cap, hv, _, _⟩ := hI2.cells
  rw [Fn.ints_length, ← HN.out] at hv
  subst hv
  clear hb4 hf hones hdec hI2
  go_wp2_with fail
  refine (Make_ok l u _ w4 HI.out HRD.out.ok (HT.out.below HB4.out (Nat.le_refl _))).mono ?_
  rintro e' w5 ⟨p, q, rfl, hs5, hb5⟩
  have HS5 := hidden hs5
  have HB5 := hidden (below_after HB4.out hb5)
  clear hs5 hb5
  go_wp2_with fail
  go_ret2
  exact ⟨p, q, rfl, HS5.out, HB5.out⟩
set_option maxHeartbeats 2000000 in
theorem FOf_no (s : ByteArray) (X m : Nat) (w : World) (hs : s.size ≤ 9223372036854775807) (h : Bt.ofB s.data.toList = some (m, X)) (hr : ∀ l u, ¬ Fn.Reads X m l u) (hT : Tab w) :
    Calls Tryd.prog 26 #[.string s] w fun e w' => e = .returned (.tuple #[.pointer none, .int .i64 3]) ∧ Below w.heap.size w w' := by
  have HO := hidden (Of_some s m X w hs h)
  have HRD := hidden hr
  have HT := hidden hT
  have HSI := hidden (fun r ru w' (h : Rw w' r m X ru) => shapeIn_any r m X ru w' h)
  have hn := Fn.cnt_lt X m
  have hu := Fn.bnd_lt X m
  have hH := Fn.highsI_bounds hn hu
  have hwd : Fn.want X m = 65 + ((Fn.lows (Fn.cnt X m) (Fn.bnd X m) : Nat) : Int) + Fn.highsI (Fn.cnt X m) (Fn.bnd X m) := rfl
  have HNU := hidden (fun r ru w' (h : Rw w' r m X ru) (hT' : Tab w') (hm : m = 65 + Fn.lows (Fn.cnt X m) (Fn.bnd X m) + (Fn.highsI (Fn.cnt X m) (Fn.bnd X m)).toNat) => numbers_any r m X (Fn.cnt X m) (Fn.bnd X m) (Fn.highsI (Fn.cnt X m) (Fn.bnd X m)).toNat ru w' h hT' hn hu hm)
  have HWD := hidden hwd
  unfold Fn.sh at HSI HNU
  obtain ⟨N, hN⟩ : ∃ N, N = Fn.cnt X m := ⟨_, rfl⟩
  obtain ⟨u, hu'⟩ : ∃ u, u = Fn.bnd X m := ⟨_, rfl⟩
  rw [← hN, ← hu'] at HSI HNU HWD hH
  rw [← hN] at hn
  rw [← hu'] at hu
  obtain ⟨W, hW⟩ : ∃ W, W = Fn.wdt N u := ⟨_, rfl⟩
  rw [← hW] at HSI HNU
  obtain ⟨T, hTT⟩ : ∃ T, T = Fn.want X m := ⟨_, rfl⟩
  rw [← hTT] at HSI HWD
  have HN := hidden hN
  have HU := hidden hu'
  have HW := hidden hW
  clear h hr hT hwd hN hu' hW hTT
  go_enter Tryd.func26, Tryd.ntmps26
  go_wp2_with fail
  refine (HO.out).mono ?_
  rintro e' w1 ⟨r, ru, rfl, hrw, hb1, _, _⟩
  have HRW := hidden hrw
  have HB1 := hidden hb1
  have hml := hrw.len
  clear hrw hb1
  go_wp2_with fail
  refine (HSI.out r ru w1 HRW.out).mono ?_
  rintro e' w2 ⟨rfl, hb2⟩
  have HRW2 := hidden (HRW.out.below hb2 (Nat.le_refl _))
  have HB2 := hidden (below_after HB1.out hb2)
  clear hb2
  obtain ⟨w3, hw3⟩ : ∃ w3, w3 = w2.alloc (.cells #[.int .i64 (N : Nat), .int .i64 (u : Nat), .int .i64 (W : Nat)] 50) := ⟨_, rfl⟩
  have hb3 : Below w2.heap.size w2 w3 := by rw [hw3]; exact (Below.refl _ _).alloc (Nat.le_refl _) _
  have c1 : w3.cell? ⟨w2.heap.size, 1, none⟩ = some (.int .i64 (u : Nat)) := by rw [hw3]; exact Lib.cell_of_heap (heap_alloc_new _ _) 1
  have HRW3 := hidden (HRW2.out.below hb3 (Nat.le_refl _))
  have HB3 := hidden (below_after HB2.out hb3)
  have HC1 := hidden c1
  by_cases hmT : (m : Int) = T
  · have hd : ((m : Int) == T) = true := by simpa using hmT
    rw [hd]
    have hm2 : m = 65 + Fn.lows N u + (Fn.highsI N u).toNat := by have := HWD.out; omega
    have HM2 := hidden hm2
    clear hb3 c1 hm2 hmT hd
    go_wp2_with fail
    rw [← hw3]
    clear hw3
    refine (HNU.out r ru w3 HRW3.out (HT.out.below HB3.out (Nat.le_refl _)) HM2.out).mono ?_
    rintro e' w4 ⟨hb4, v, f, rfl, hf⟩
    have HB4 := hidden (below_after HB3.out hb4)
    have c1 := cell_after hb4 HC1.out
    clear hb4
    cases f
    · clear hf
      go_wp2_with fail
      go_ret2
      exact ⟨rfl, HB4.out⟩
    · have hf2 : Wd.ones (Bt.cut X (65 + Fn.lows N u) (Fn.highsI N u).toNat) (Fn.highsI N u).toNat = N ∧ w4.ownsRow 0 3 1 v N (Fn.nvals (Fn.decI (Bt.cut X 65 (Fn.lows N u)) W (Fn.plc (Bt.cut X (65 + Fn.lows N u) (Fn.highsI N u).toNat) (Fn.highsI N u).toNat N))) := by
        rcases hf with ⟨_, h1, h2⟩ | ⟨h1, _⟩
        · exact ⟨h1, h2⟩
        · cases h1
      obtain ⟨hones, hown⟩ := hf2
      obtain ⟨li, hli⟩ : ∃ li, li = Fn.decI (Bt.cut X 65 (Fn.lows N u)) W (Fn.plc (Bt.cut X (65 + Fn.lows N u) (Fn.highsI N u).toNat) (Fn.highsI N u).toNat N) := ⟨_, rfl⟩
      rw [← hli] at hown
      have hlen : li.length = N := by rw [hli, Fn.decI_length, Fn.plc_length]
      have hI := Ints.of_nown hown hlen.symm
      have hno : ¬ Fn.OkI li (u : Int) := by
        intro hok
        obtain ⟨l, u2, hl, hu2, ok⟩ := hok.nat
        obtain rfl : u = u2 := by omega
        have hll : l.length = N := by rw [← hlen, hl, Fn.ints_length]
        have hH2 : (Fn.highsI N u).toNat = Fn.highs N u := by rw [Fn.highsI_eq ok.pos]; simp
        rw [hH2] at hones hli
        have hM := HM2.out
        rw [hH2] at hM
        have hWW := HW.out
        rw [← hll] at hones hli hM hWW
        rw [hWW] at hli
        exact HRD.out l u ⟨ok, by rw [← HN.out, hll], HU.out.symm, hM, hones, by rw [← hli, hl]⟩
      have HNO := hidden hno
      have HI := hidden hI
      have hl2 : li.length ≤ 9223372036854775807 := by omega
      obtain ⟨ao, cap, hv, _, _⟩ := hI.cells
      rw [hlen] at hv
      subst hv
      have HL2 := hidden hl2
      clear hf hones hown hli hlen hI hno hl2
      go_wp2_with fail
      refine (Make_no li u _ w4 HI.out HL2.out HNO.out).mono ?_
      rintro e' w5 ⟨rfl, rfl⟩
      go_wp2_with fail
      go_ret2
      exact ⟨rfl, HB4.out⟩
  · have hd : ((m : Int) == T) = false := by simpa using hmT
    rw [hd]
    clear hb3 c1 hmT hd
    go_wp2_with fail
    go_ret2
    rw [← hw3]
    exact ⟨rfl, HB3.out⟩
end Go.Proofs.YtfohldojcdhnhaaDoor
