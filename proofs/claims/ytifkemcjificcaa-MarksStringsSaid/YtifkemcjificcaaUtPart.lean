/-
  The contract of laceworkref09's part: of one to three bytes whether some scalar's bytes begin so, and go on; nothing that was there is changed.
-/
import Derived.WalkMore
import Derived.Deep.RegionHeldLaw
import Derived.Deep.RegionLaw
import Derived.Test.YtifkemcjificcaaUtOb
import Derived.Test.YtifkemcjificcaaUtRefR
namespace Go.Proofs.Ytifkemcjificcaa
open Go.RowKit
def lenV : Value → Nat | .slice _ n _ => n | _ => 0
theorem two_at (w : World) (a o : Obj) : ((w.alloc a).alloc o).drew.heap[w.heap.size + 1]? = some o := by
  show ((w.alloc a).alloc o).heap[w.heap.size + 1]? = some o
  exact uheap_new_at (by simp)
theorem two_size (w : World) (a o : Obj) (B : Nat) (h : B ≤ w.heap.size) : B ≤ ((w.alloc a).alloc o).drew.heap.size := by
  show B ≤ ((w.alloc a).alloc o).heap.size
  simp
  omega
theorem two_below {B : Nat} {w w' : World} (h : Below B w w') (hs : B ≤ w'.heap.size) (a o : Obj) : Below B w ((w'.alloc a).alloc o).drew := ((h.alloc hs _).alloc (by simp; omega) _).drew
theorem below_grown {B : Nat} {w w' w'' : World} {v : Value} (h : Below B w w') (hg : w'.grownBy w'' v.ownBlock) (hs : B ≤ w'.heap.size) (hv : ∀ k, v.ownBlock = some k → B ≤ k) : Below B w w'' := h.grown hg hs hv
set_option maxHeartbeats 4000000 in
set_option maxRecDepth 100000 in
theorem upart_any (s : ByteArray) (w : World) (h0 : 0 < s.size) (h3 : s.size ≤ 3) :
    Calls Try.prog 32 #[.string s] w fun e w' => e = .returned (.bool (Ut.parB s.data.toList)) ∧ Below w.heap.size w w' := by
  have hcv : ∀ u : World, Sem.run Try.prog (convert 9 47 (.string s)) u = .ok (.slice (some ⟨u.heap.size, 0, none⟩) s.size (grownCap u s.size 0 5)) (u.drew.alloc (.cells (bytesRow s (grownCap u s.size 0 5)) 5 ((bytesRow s (grownCap u s.size 0 5)).size, (bytesRow s (grownCap u s.size 0 5)).size + 1))) := fun u => run_bytes_of_string u 9 47 5 s Try.underlying9 Try.underlying47 Try.underlying5
  obtain ⟨p, hp⟩ : ∃ p, p = s.data.toList := ⟨_, rfl⟩
  have hpl : p.length = s.size := by rw [hp]; rfl
  obtain ⟨N, hN⟩ : ∃ N, N = s.size := ⟨_, rfl⟩
  have HOF := hidden (fun u cap h => Ob.of_string u s cap h)
  rw [← hp, ← hN] at HOF
  rw [← hp]
  rw [← hN] at hpl h0 h3 hcv
  have HPL := hidden hpl
  have HN := hidden hN
  have hsz : s.size = N := hN.symm
  clear hp hpl hN
  go_enter Try.func32, Try.ntmps32
  go_wp2_with fail
  obtain ⟨w1, hw1⟩ : ∃ w1 : World, w1 = (w.alloc (.cells #[.int .u8 128, .int .u8 160, .int .u8 144] 5)).alloc (.cells #[.int .u8 191, .int .u8 159, .int .u8 143] 5) := ⟨_, rfl⟩
  rw [← hw1]
  have HB1 : Hid (Below w.heap.size w w1) := by
    show Below _ _ _
    rw [hw1]
    exact ((Below.refl _ _).alloc (Nat.le_refl _) _).alloc (by simp) _
  have hL : w1.heap[w.heap.size]? = some (.cells #[.int .u8 128, .int .u8 160, .int .u8 144] 5 (0, 0)) := by
    rw [hw1, Below.heap_alloc _ _ _ (by simp), heap_alloc_new]
  have hH : w1.heap[w.heap.size + 1]? = some (.cells #[.int .u8 191, .int .u8 159, .int .u8 143] 5 (0, 0)) := by
    rw [hw1]
    exact uheap_new_at (by simp)
  have HL : Hid (∀ wr i, Below w1.heap.size w1 wr → i < 3 → wr.cell? ⟨w.heap.size, i, none⟩ = some (.int .u8 ((Ut.plo i).toNat : Int))) := fun wr i hb hi => by
    rw [hb.cell (p := ⟨w.heap.size, i, none⟩) (lt_of_block hL), Lib.cell_of_heap hL]
    obtain rfl | rfl | rfl : i = 0 ∨ i = 1 ∨ i = 2 := by omega
    all_goals rfl
  have HH : Hid (∀ wr i, Below w1.heap.size w1 wr → i < 3 → wr.cell? ⟨w.heap.size + 1, i, none⟩ = some (.int .u8 ((Ut.phi i).toNat : Int))) := fun wr i hb hi => by
    rw [hb.cell (p := ⟨w.heap.size + 1, i, none⟩) (lt_of_block hH), Lib.cell_of_heap hH]
    obtain rfl | rfl | rfl : i = 0 ∨ i = 1 ∨ i = 2 := by omega
    all_goals rfl
  clear hL hH hw1
  go_loopw [5] (fun v wr => ∃ i : Nat, i ≤ 3 ∧ v = .int .i64 (i : Nat) ∧ Below w1.heap.size w1 wr ∧ ∀ i' k j, i' < i → k < 3 → 0 < j → N + j ≤ 4 → Ut.Ms p i' k j) (fun v _ => 3 - (intOf v).toNat)
  case atStart => exact ⟨0, by omega, rfl, Below.refl _ _, fun i' k j h => by omega⟩
  case round =>
    obtain ⟨i, hi, rfl, hb, hm⟩ := hrel
    have HB := hidden hb
    have HM := hidden hm
    clear hb hm
    by_cases hlt : i < 3
    · have hi3 : (i : Int) < 3 := by omega
      have HLT := hidden hlt
      clear hlt hi
      go_wp2_with fail
      go_hide hQ
      go_loopw [6] (fun v wr2 => ∃ k : Nat, k ≤ 3 ∧ v = .int .i64 (k : Nat) ∧ Below w1.heap.size w1 wr2 ∧ ∀ k' j, k' < k → 0 < j → N + j ≤ 4 → Ut.Ms p i k' j) (fun v _ => 3 - (intOf v).toNat)
      case atStart => exact ⟨0, by omega, rfl, HB.out, fun k' j h => by omega⟩
      case round =>
        obtain ⟨k, hk, rfl, hb, hm⟩ := hrel
        have HB2 := hidden hb
        have HM2 := hidden hm
        clear hb hm
        by_cases hlt2 : k < 3
        · have hk3 : (k : Int) < 3 := by omega
          have HLT2 := hidden hlt2
          clear hlt2 hk
          go_wp2_with fail
          go_hide hQ2
          go_loopw [7] (fun v wr3 => ∃ r : Nat, N + r ≤ 4 ∧ v = .int .i64 ((N : Int) + 1 + (r : Int)) ∧ Below w1.heap.size w1 wr3 ∧ ∀ j, 0 < j → j ≤ r → Ut.Ms p i k j) (fun v _ => 5 - (intOf v).toNat)
          case atStart => exact ⟨0, by omega, by simp, HB2.out, fun j h1 h2 => by omega⟩
          case round =>
            obtain ⟨r, hr, rfl, hb, hm⟩ := hrel
            have HB3 := hidden hb
            have HM3 := hidden hm
            clear hb hm
            by_cases hlt3 : N + 1 + r ≤ 4
            · have hr4 : (N : Int) + 1 + (r : Int) ≤ 4 := by omega
              have HLT3 := hidden hlt3
              clear hlt3 hr
              go_wp2_with fail
              have hge := grownCap_ge wr N 0 5
              obtain ⟨C, hC⟩ : ∃ C, C = grownCap wr N 0 5 := ⟨_, rfl⟩
              rw [← hC] at hge
              rw [← hC]
              have hO := HOF.out wr C hge
              have hsw := HB3.out.size
              have HB4 : Hid (Below w1.heap.size w1 (wr.alloc (.cells (bytesRow s C) 5 ((bytesRow s C).size, (bytesRow s C).size + 1))).drew) := (HB3.out.alloc hsw _).drew
              obtain ⟨wz, hwz⟩ : ∃ wz, wz = (wr.alloc (.cells (bytesRow s C) 5 ((bytesRow s C).size, (bytesRow s C).size + 1))).drew := ⟨_, rfl⟩
              rw [← hwz] at hO HB4
              rw [← hwz]
              have HO4 : Hid (Ob wz w1.heap.size (.slice (some ⟨wr.heap.size, 0, none⟩) N C) N p) := by
                obtain ⟨g, cap, cur, fr, e1, e2, e3, e4⟩ := hO
                exact ⟨g, cap, cur, fr, e1, e2, Nat.le_trans hsw e3, e4⟩
              clear hO hwz hC hge hsw
              go_hide hQ3
              go_loopw [8] (fun v wr4 => ∃ e n : Nat, e ≤ r + 1 ∧ n = N + e ∧ Ob wr4 w1.heap.size v n (Ut.ext (Ut.px i k) p e) ∧ Below w1.heap.size w1 wr4) (fun v _ => N + r + 1 - lenV v)
              case atStart => exact ⟨0, N, by omega, by omega, HO4.out, HB4.out⟩
              case round =>
                obtain ⟨e, n, he, hn, hob, hb⟩ := hrel
                have HB5 := hidden hb
                have HO5 := hidden hob
                obtain ⟨g, cap, hv⟩ := hob.shape
                subst hv
                have hsz5 := hb.size
                clear hb hob
                by_cases hlt4 : e < r + 1
                · have hnm : (n : Int) < (N : Int) + 1 + (r : Int) := by omega
                  have HNE := hidden hn
                  clear hn
                  by_cases h1 : n = 1
                  · have d0 := HL.out wr i HB5.out HLT.out
                    have d1 := HH.out wr i HB5.out HLT.out
                    have i0 : (0 : Int) ≤ (i : Int) := by omega
                    have hn1 : ((n : Int) == 1) = true := by rw [h1]; rfl
                    have H1 := hidden h1
                    clear h1
                    have HX : Hid (Ut.ext (Ut.px i k) p (e + 1) = Ut.ext (Ut.px i k) p e ++ [Ut.px i k]) := by
                      show Ut.ext (Ut.px i k) p e ++ [_] = _
                      rw [Ut.ext_length, HPL.out, ← HNE.out, if_pos H1.out]
                    have hk2 : (k : Int).tmod 2 = 0 ∧ Ut.px i k = Ut.plo i ∨ (k : Int).tmod 2 = 1 ∧ Ut.px i k = Ut.phi i := by
                      have e2 : (k : Int).tmod 2 = ((k % 2 : Nat) : Int) := rfl
                      unfold Ut.px
                      rw [e2]
                      by_cases h2 : k % 2 = 0
                      · exact .inl ⟨by omega, if_pos h2⟩
                      · exact .inr ⟨by omega, if_neg h2⟩
                    obtain ⟨A, hA⟩ : ∃ A, A = Ut.plo i := ⟨_, rfl⟩
                    obtain ⟨D, hD⟩ : ∃ D, D = Ut.phi i := ⟨_, rfl⟩
                    rw [← hA] at hk2 d0
                    rw [← hD] at hk2 d1
                    obtain ⟨x, hx⟩ : ∃ x, x = Ut.px i k := ⟨_, rfl⟩
                    rw [← hx] at hk2 HX HO5
                    have HXE := hidden hx
                    clear hA hD hx
                    rcases hk2 with ⟨hk2, hxa⟩ | ⟨hk2, hxa⟩
                    · have HXA := hidden hxa
                      clear hxa
                      go_wp2_with fail
                      subst hQ3
                      subst hQ2
                      subst hQ
                      go_region_law ((refine step_append_ob _ rfl (.tmp 37) (.tmp 51) 47 rfl rfl w1.heap.size (.slice (some ⟨g, 0, none⟩) n cap) n (Ut.ext x p e) rfl (by exact ((HO5.out.alloc _).alloc _).drew) _ 1 A _ rfl (by exact two_at _ _ _) (by omega) (by exact two_size _ _ _ _ hsz5) ?_; intro g2 cap2 w5 hob5 hgr5; have HO6 := hidden hob5; have HB6 : Hid (Below w1.heap.size w1 w5) := below_grown (two_below HB5.out hsz5 _ _) hgr5 (two_size _ _ _ _ hsz5) (fun q e => (HO5.out.lt q e).1); clear hob5 hgr5))
                      all_goals go_simp
                      all_goals
                        (go_roundw
                         case rel =>
                           have hob6 := HO6.out
                           rw [← HXA.out, ← HX.out, HXE.out] at hob6
                           repeat apply Exists.intro
                           exact ⟨⟨e + 1, n + 1, by omega, by have := HNE.out; omega, hob6, HB6.out⟩, rfl⟩
                         case measure => have := HNE.out; simp [lenV]; omega)
                    · have HXA := hidden hxa
                      clear hxa
                      go_wp2_with fail
                      subst hQ3
                      subst hQ2
                      subst hQ
                      go_region_law ((refine step_append_ob _ rfl (.tmp 37) (.tmp 51) 47 rfl rfl w1.heap.size (.slice (some ⟨g, 0, none⟩) n cap) n (Ut.ext x p e) rfl (by exact ((HO5.out.alloc _).alloc _).drew) _ 1 D _ rfl (by exact two_at _ _ _) (by omega) (by exact two_size _ _ _ _ hsz5) ?_; intro g2 cap2 w5 hob5 hgr5; have HO6 := hidden hob5; have HB6 : Hid (Below w1.heap.size w1 w5) := below_grown (two_below HB5.out hsz5 _ _) hgr5 (two_size _ _ _ _ hsz5) (fun q e => (HO5.out.lt q e).1); clear hob5 hgr5))
                      all_goals go_simp
                      all_goals
                        (go_roundw
                         case rel =>
                           have hob6 := HO6.out
                           rw [← HXA.out, ← HX.out, HXE.out] at hob6
                           repeat apply Exists.intro
                           exact ⟨⟨e + 1, n + 1, by omega, by have := HNE.out; omega, hob6, HB6.out⟩, rfl⟩
                         case measure => have := HNE.out; simp [lenV]; omega)
                  · have hn1 : ((n : Int) == 1) = false := by rw [beq_eq_false_iff_ne]; omega
                    have HX : Hid (Ut.ext (Ut.px i k) p (e + 1) = Ut.ext (Ut.px i k) p e ++ [128]) := by
                      show Ut.ext (Ut.px i k) p e ++ [_] = _
                      rw [Ut.ext_length, HPL.out, ← HNE.out, if_neg h1]
                    have H1 := hidden h1
                    clear h1
                    go_wp2_with (at_builtin; refine wpList_append_ob _ rfl (.tmp 53) (.tmp 54) 47 rfl rfl w1.heap.size (.slice (some ⟨g, 0, none⟩) n cap) n (Ut.ext (Ut.px i k) p e) rfl (by exact HO5.out.alloc _) _ 1 128 _ rfl (by exact heap_alloc_new _ _) (by omega) (by simp; omega) ?_; intro g2 cap2 w5 hob5 hgr5; have HO6 := hidden hob5; have HB6 : Hid (Below w1.heap.size w1 w5) := (HB5.out.alloc hsz5 _).grown hgr5 (by simp; omega) (fun q e => (HO5.out.lt q e).1); clear hob5 hgr5)
                    go_roundw
                    case rel => exact ⟨e + 1, n + 1, by omega, by have := HNE.out; omega, by rw [HX.out]; exact HO6.out, HB6.out⟩
                    case measure => have := HNE.out; simp [lenV]; omega
                · obtain rfl : e = r + 1 := by omega
                  have hnm : (n : Int) = (N : Int) + 1 + (r : Int) := by omega
                  have hnm2 : ¬ ((n : Int) < (N : Int) + 1 + (r : Int)) := by omega
                  have hcs := HO5.out.string
                  obtain ⟨L, hL⟩ : ∃ L, L = Ut.ext (Ut.px i k) p (r + 1) := ⟨_, rfl⟩
                  have hll : L.length = N + (r + 1) := by rw [hL, Ut.ext_length, HPL.out]
                  have HRS := hidden (fun w => rScalar_any ⟨L.toArray⟩ w (by show L.length ≤ _; omega))
                  rw [← hL] at hcs
                  have hsc : (Ut.sc L).2 = Ut.ld 0 L := by
                    unfold Ut.sc
                    split
                    · rename_i h; exact h.symm
                    · rfl
                  have HLQ := hidden hL
                  have HNE := hidden hn
                  have HNM := hidden hnm
                  obtain ⟨F, hF⟩ : ∃ F, F = (Ut.sc L).1 := ⟨_, rfl⟩
                  obtain ⟨G, hG⟩ : ∃ G, G = (Ut.sc L).2 := ⟨_, rfl⟩
                  have hRS : ∀ w, Calls Try.prog 25 #[.string ⟨L.toArray⟩] w fun e w' => e = .returned (.tuple #[.int .i64 (F : Nat), .int .i64 (G : Nat)]) ∧ Below w.heap.size w w' := by
                    rw [hF, hG]
                    exact HRS.out
                  have HRS2 := hidden hRS
                  have HG : Hid (G = Ut.ld 0 (Ut.ext (Ut.px i k) p (r + 1))) := by
                    show _ = _
                    rw [hG, hsc, HLQ.out]
                  clear hL hll HRS hsc hn hnm hF hG hRS
                  by_cases hit : G = N + (r + 1)
                  · have hgi : ((G : Int) == (N : Int) + 1 + (r : Int)) = true := by rw [beq_iff_eq]; omega
                    have HPAR : Hid (Ut.Par p) := Ut.par_of_hit (Ut.px i k) p (r + 1) (by rw [HPL.out]; exact h0) (by omega) (by rw [HPL.out, ← HG.out]; exact hit)
                    clear hit
                    go_wp2_with fail
                    subst hQ3
                    go_wp2_with fail
                    refine (HRS2.out _).mono ?_
                    rintro e w5 ⟨rfl, hq⟩
                    have HB7 : Hid (Below w1.heap.size w1 w5) := HB5.out.trans (hq.mono hsz5)
                    clear hq
                    go_wp2_with fail
                    subst hQ2
                    go_wp2_with fail
                    subst hQ
                    go_wp2_with fail
                    go_ret
                    rw [Ut.parB_yes p HPAR.out]
                    exact ⟨rfl, HB1.out.trans (HB7.out.mono HB1.out.size)⟩
                  · have hgi : ((G : Int) == (N : Int) + 1 + (r : Int)) = false := by rw [beq_eq_false_iff_ne]; omega
                    have HMS : Hid (∀ j, 0 < j → j ≤ r + 1 → Ut.Ms p i k j) := fun j h1 h2 => by
                      by_cases h3 : j ≤ r
                      · exact HM3.out j h1 h3
                      · obtain rfl : j = r + 1 := by omega
                        unfold Ut.Ms
                        rw [HPL.out, ← HG.out]
                        exact hit
                    clear hit
                    go_wp2_with fail
                    subst hQ3
                    go_wp2_with fail
                    refine (HRS2.out _).mono ?_
                    rintro e w5 ⟨rfl, hq⟩
                    have HB7 : Hid (Below w1.heap.size w1 w5) := HB5.out.trans (hq.mono hsz5)
                    clear hq
                    go_wp2_with fail
                    go_roundw
                    case rel => exact ⟨r + 1, by have := HLT3.out; omega, by go_num, HB7.out, HMS.out⟩
                    case measure => have := HLT3.out; simp [intOf]; omega
            · have hr4 : ¬ ((N : Int) + 1 + (r : Int) ≤ 4) := by omega
              have HMS : Hid (∀ k' j, k' < k + 1 → 0 < j → N + j ≤ 4 → Ut.Ms p i k' j) := fun k' j h1 h2 h3 => by
                by_cases h4 : k' < k
                · exact HM2.out k' j h4 h2 h3
                · obtain rfl : k' = k := by omega
                  exact HM3.out j h2 (by omega)
              clear hlt3 hr
              go_wp2_with fail
              subst hQ2
              go_wp2_with fail
              go_roundw
              case rel => exact ⟨k + 1, by have := HLT2.out; omega, by go_num, HB3.out, HMS.out⟩
              case measure => have := HLT2.out; simp [intOf]; omega
        · have hk3 : ¬ ((k : Int) < 3) := by omega
          have HMS : Hid (∀ i' k j, i' < i + 1 → k < 3 → 0 < j → N + j ≤ 4 → Ut.Ms p i' k j) := fun i' k' j h1 h2 h3 h4 => by
            by_cases h5 : i' < i
            · exact HM.out i' k' j h5 h2 h3 h4
            · obtain rfl : i' = i := by omega
              exact HM2.out k' j (by omega) h3 h4
          clear hlt2 hk
          go_wp2_with fail
          subst hQ
          go_wp2_with fail
          go_roundw
          case rel => exact ⟨i + 1, by have := HLT.out; omega, by go_num, HB2.out, HMS.out⟩
          case measure => have := HLT.out; simp [intOf]; omega
    · have hi3 : ¬ ((i : Int) < 3) := by omega
      have HNP : Hid (¬ Ut.Par p) := fun hpar => by
        obtain ⟨i', k', j', h1, h2, h4, h5, h6⟩ := Ut.hit_of_par p (by rw [HPL.out]; exact h0) (by rw [HPL.out]; exact h3) hpar
        rw [HPL.out] at h5
        exact h6 (HM.out i' k' j' (by omega) h2 h4 h5)
      clear hlt hi
      go_wp2_with fail
      go_ret
      rw [Ut.parB_no p HNP.out]
      exact ⟨rfl, HB1.out.trans (HB.out.mono HB1.out.size)⟩
end Go.Proofs.Ytifkemcjificcaa
