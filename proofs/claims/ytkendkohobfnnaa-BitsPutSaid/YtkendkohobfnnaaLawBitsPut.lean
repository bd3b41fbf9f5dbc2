/-
  The walk of the law BitsPut: it returns true for every list of Puts and every number; nothing that was there is changed.
-/
import Derived.Test.YtkendkohobfnnaaBtAwake
import Derived.Test.YtkendkohobfnnaaTwo
import Derived.Deep.RegionHeldLaw
namespace Go.Proofs.Ytkendkohobfnnaa
open Go.RowKit
/-- What holds whenever the loop comes round: the builder and the reference's list agree, so do the early row and its list. -/
structure PutRel (W wr : World) (B b : Nat) (L : List Bool) (vb vw : Value) (r : Nat) (Lx : List Bool) (u vt : Value) : Prop where
  bd : Bd wr B b L.length (Bt.num L) vb
  want : Bl wr vw L
  row : Rw wr r Lx.length (Bt.num Lx) u
  thn : Bl wr vt Lx
  ne : u.ownBlock = none ∨ vb.ownBlock ≠ u.ownBlock
  bel : Below W.heap.size W wr
  base : W.heap.size ≤ B
theorem PutRel.next {W wr w1 w2 : World} {B b r : Nat} {L L' Lx : List Bool} {vb vb' vw vw' u vt : Value} (h : PutRel W wr B b L vb vw r Lx u vt) (h1 : Below wr.heap.size wr w1) (hw : Bl w1 vw' L') (hb : Bd w2 B b L'.length (Bt.num L') vb') (hk : Kp w1 w2 b vb vb') : PutRel W w2 B b L' vb' vw' r Lx u vt := by
  have b1 := h.bd.below h1 (Nat.le_refl _)
  have r1 := h.row.below h1 (Nat.le_refl _)
  have hbl : Below B w1 w2 := hk.below b1
  refine ⟨hb, hw.kp b1 hk, r1.kp b1 hk h.ne, (h.thn.below h1 (Nat.le_refl _)).kp b1 hk, ?_, (h.bel.trans (h1.mono h.bel.size)).trans (hbl.mono h.base), h.base⟩
  rcases h.ne with hn | hn
  · exact .inl hn
  · rcases hk.own with ho | ⟨g, ho, hg⟩
    · rw [ho]; exact .inr hn
    · right
      intro e
      have := own_lt r1.own g (by rw [← e]; exact ho)
      omega
theorem PutRel.early {W wr w1 : World} {B b r r' : Nat} {L Lx : List Bool} {vb vw u vt u' : Value} (h : PutRel W wr B b L vb vw r Lx u vt) (hr : Rw w1 r' L.length (Bt.num L) u') (h1 : Below wr.heap.size wr w1) (hu : ∀ k, u'.ownBlock = some k → wr.heap.size ≤ k) : PutRel W w1 B b L vb vw r' L u' vw := by
  refine ⟨h.bd.below h1 (Nat.le_refl _), h.want.below h1 (Nat.le_refl _), hr, h.want.below h1 (Nat.le_refl _), ?_, h.bel.trans (h1.mono h.bel.size), h.base⟩
  cases hc : u'.ownBlock with
  | none => exact .inl rfl
  | some k =>
    right
    intro e
    have := own_lt h.bd.own k e
    have := hu k hc
    omega
set_option maxHeartbeats 1000000 in
theorem BitsPut_long (l : List (Nat × Int)) (u : Value) (ea : Int) (w : World) (h : Ops w u l) (hl : 60 < l.length) (hm : l.length ≤ 9223372036854775807) :
    Calls Try.prog 3 #[u, .int .u8 ea] w fun e w' => e = .returned (.bool true) ∧ Below w.heap.size w w' := by
  obtain ⟨ao, cap, rfl, hcap, hc⟩ := h.cells
  clear h hc
  go_enter Try.func3, Try.ntmps3
  go_wp2_with fail
  refine (awake_any w).mono ?_
  rintro e w1 ⟨rfl, hq1⟩
  have HQ1 := hidden hq1
  clear hq1
  go_wp2_with fail
  refine (awake_any w1).mono ?_
  rintro e w2 ⟨rfl, hq2⟩
  have HQ2 := hidden hq2
  clear hq2
  go_wp2_with fail
  go_ret
  exact ⟨rfl, HQ1.out.trans (HQ2.out.mono HQ1.out.size)⟩
set_option maxHeartbeats 2000000 in
theorem BitsPut_short (l : List (Nat × Int)) (u : Value) (ea : Int) (w : World) (h : Ops w u l) (hl : l.length ≤ 60) (he0 : 0 ≤ ea) (he1 : ea ≤ 255) :
    Calls Try.prog 3 #[u, .int .u8 ea] w fun e w' => e = .returned (.bool true) ∧ Below w.heap.size w w' := by
  obtain ⟨ao, cap, rfl, hcap, hc⟩ := h.cells
  have HC := hidden hc
  have HLT := hidden h.lt
  clear hc h
  go_enter Try.func3, Try.ntmps3
  go_wp2_with fail
  refine (awake_any w).mono ?_
  rintro e w1 ⟨rfl, hq1⟩
  have HQ1 := hidden hq1
  clear hq1
  have HN := hidden (Bd.new w1)
  go_wp2_with fail
  refine (BRow_any w1.heap.size 0 0 w1.heap.size (.slice none 0 0) _ HN.out).mono ?_
  rintro e w2 ⟨r0, u0, rfl, hr, hbr, hr2, hr3⟩
  have HREL : Hid (PutRel w w2 w1.heap.size w1.heap.size (Bt.all (l.take 0)) (.slice none 0 0) (.slice none 0 0) r0 [] u0 (.slice none 0 0)) := by
    refine ⟨?_, World.ownsRow_nil _ _ _ _, hr, World.ownsRow_nil _ _ _ _, ?_, ?_, HQ1.out.size⟩
    · exact HN.out.below hbr (Nat.le_refl _)
    · cases hc : u0.ownBlock with
      | none => exact .inl rfl
      | some k => exact .inr (by simp [Value.ownBlock])
    · exact (HQ1.out.alloc HQ1.out.size _).trans (hbr.mono (by simp; have := HQ1.out.size; omega))
  clear hr hbr hr2 hr3
  go_wp2_with fail
  go_loopw [6, 7, 8, 9] (fun vw vt x i wr => ∃ (k r : Nat) (vb u : Value) (Lx : List Bool), k ≤ l.length ∧ i = .int .i64 k ∧ x = .pointer (some ⟨r, 0, none⟩) ∧ PutRel w wr w1.heap.size w1.heap.size (Bt.all (l.take k)) vb vw r Lx u vt) (fun _ _ _ i _ => l.length - (intOf i).toNat)
  case atStart => exact ⟨0, r0, _, u0, [], by omega, rfl, rfl, HREL.out⟩
  case round =>
    obtain ⟨k, r, vb, u, Lx, hk, rfl, rfl, hrel⟩ := hrel
    have HR := hidden hrel
    have hbb := hrel.bel
    clear hrel
    by_cases hlt : k < l.length
    · obtain ⟨b, off, rfl, hb, hcell⟩ := HC.out (by omega)
      obtain ⟨x, n, hxn⟩ : ∃ x n, l[k]? = some (x, n) := ⟨l[k].1, l[k].2, by rw [List.getElem?_eq_getElem hlt]⟩
      have hg : l.getD k (0, 0) = (x, n) := by rw [List.getD_eq_getElem?_getD, hxn]; rfl
      have hcc := hcell k hlt
      rw [hg] at hcc
      have c0 := (hbb.cell (p := ⟨b, off + k * 2, none⟩) hb).trans hcc.1
      have c1 := (hbb.cell (p := ⟨b, off + k * 2 + 1, none⟩) hb).trans hcc.2
      have hx : x < 18446744073709551616 := HLT.out (x, n) (List.mem_of_getElem? hxn)
      have HXN := hidden hxn
      have hlen := Bt.all_length l k
      have HCC := hidden hcc
      have HBB := hidden hbb
      clear hcell hxn hg hcc hbb
      go_wp2_with fail
      refine (rPut_any (Bt.all (l.take k)) u6 x n _ HR.out.want (by omega) hx).mono ?_
      rintro e w3 ⟨v3, rfl, hq1, hq2⟩
      have HP1 := hidden hq1
      have HP2 := hidden hq2
      have hb3 : Hid (Below w.heap.size w w3) := HBB.out.trans (hq2.mono HBB.out.size)
      have d0 := (hb3.out.cell (p := ⟨b, off + k * 2, none⟩) hb).trans HCC.out.1
      have d1 := (hb3.out.cell (p := ⟨b, off + k * 2 + 1, none⟩) hb).trans HCC.out.2
      have HB3 := hidden (HR.out.bd.below hq2 (Nat.le_refl _))
      have hL3 := Bt.putB_length (Bt.all (l.take k)) (x, n)
      generalize hL2 : Bt.putB (Bt.all (l.take k)) (x, n) = L2 at *
      generalize hE : Bt.errB (x, n) = E at *
      obtain ⟨v3a, v3c, hv3, _⟩ := hq1.form
      subst hv3
      have HL2 := hidden hL2
      have HE := hidden hE
      clear hq1 hq2 c0 c1 hL2 hE
      go_wp2_with fail
      have i0 : (0 : Int) ≤ (k : Int) := by omega
      have i1 : (k : Int) < (l.length : Int) := by omega
      go_region_held (fun w' => w'.cell? ⟨b, off + k * 2, none⟩ = some (.int .u64 x) ∧ w'.cell? ⟨b, off + k * 2 + 1, none⟩ = some (.int .i64 n)) (first | (exact ⟨by assumption, by assumption⟩) | go_keep)
        (first
          | (go_at_call 12; refine (Put_list w1.heap.size w1.heap.size (Bt.all (l.take k)) vb x n _ HB3.out.drew (by omega) hx).mono ?_; rintro e w4 hq; rw [HL2.out, HE.out] at hq; obtain ⟨rfl, v4, hq3, hq4⟩ := hq; have HQ3 := hidden hq3; have HQ4 := hidden hq4.undrew; have hbl : Hid (Below w.heap.size w w4) := hb3.out.trans ((hq4.undrew.below HB3.out).mono HQ1.out.size); clear hq3 hq4; have e0 := (hbl.out.cell (p := ⟨b, off + k * 2, none⟩) hb).trans HCC.out.1; have e1 := (hbl.out.cell (p := ⟨b, off + k * 2 + 1, none⟩) hb).trans HCC.out.2)
          | (go_at_call 13; refine (BLen_any w1.heap.size _ _ w1.heap.size v4 _ HQ3.out).mono ?_; rintro e w5 ⟨rfl, rfl⟩))
      have HN5 := hidden (HR.out.next HP2.out HP1.out HQ3.out HQ4.out)
      have HL5 : Hid (Bt.all (l.take (k + 1)) = L2) := (Bt.all_take_succ l k (x, n) HXN.out).trans HL2.out
      go_wp2_with fail
      · refine (BRow_any w1.heap.size _ _ w1.heap.size v4 _ HQ3.out).mono ?_
        rintro e w6 ⟨r6, u66, rfl, h1, h2, h3, h4⟩
        have HN6 := hidden (HN5.out.early h1 h2 h4)
        clear h1 h2 h3 h4
        go_wp2_with fail
        go_roundw
        case rel => exact ⟨k + 1, r6, v4, u66, L2, by omega, by go_num, rfl, by rw [HL5.out]; exact HN6.out⟩
        case measure => simp [intOf]; omega
      · go_roundw
        case rel => exact ⟨k + 1, r, v4, u, Lx, by omega, by go_num, rfl, by rw [HL5.out]; exact HN5.out⟩
        case measure => simp [intOf]; omega
    · obtain rfl : k = l.length := by omega
      clear hbb
      go_wp2_with fail
      refine (BRow_any w1.heap.size _ _ w1.heap.size vb _ HR.out.bd).mono ?_
      rintro e w6 ⟨r6, u66, rfl, h1, h2, h3, h4⟩
      have HR6 := hidden h1
      have HB6 := hidden h2
      clear h1 h2 h3 h4
      go_wp2_with fail
      refine (Is_true r6 _ u66 u6 _ HR6.out (HR.out.want.below HB6.out (Nat.le_refl _)).view).mono ?_
      rintro e w7 ⟨rfl, m7, hm7⟩
      have HM7 := hidden hm7
      clear hm7
      go_wp2_with fail
      refine (Is_true r Lx u u7 _ (by rw [HM7.out]; exact (HR.out.row.below HB6.out (Nat.le_refl _)).drewN _) (by rw [HM7.out]; exact (HR.out.thn.below (drewN_below HB6.out m7) (Nat.le_refl _)).view)).mono ?_
      rintro e w8 ⟨rfl, m8, hm8⟩
      have HM8 := hidden hm8
      clear hm8
      go_wp2_with fail
      go_ret
      refine ⟨rfl, ?_⟩
      rw [HM8.out, HM7.out]
      exact drewN_below (drewN_below (HR.out.bel.trans (HB6.out.mono HR.out.bel.size)) _) _
theorem BitsPut_walk (l : List (Nat × Int)) (u : Value) (ea : Int) (w : World) (h : Ops w u l) (hm : l.length ≤ 9223372036854775807) (he0 : 0 ≤ ea) (he1 : ea ≤ 255) :
    Calls Try.prog 3 #[u, .int .u8 ea] w fun e w' => e = .returned (.bool true) ∧ Below w.heap.size w w' := by
  by_cases hl : l.length ≤ 60
  · exact BitsPut_short l u ea w h hl he0 he1
  · exact BitsPut_long l u ea w h (by omega) hm
end Go.Proofs.Ytkendkohobfnnaa
