/-
  The walk of the law MinmaxBack: it returns true for every list of pieces and every number; nothing that was there is changed.
-/
import Derived.Test.YtdjhpfojbnikdaaMxRef
namespace Go.Proofs.Ytdjhpfojbnikdaa
open Go.RowKit
namespace Mx
open Wd
theorem exc_one (L : List Bool) (i : Nat) (h : L.getD i false = true) : exc (Bt.num L) (i + 1) = exc (Bt.num L) i + 1 := by
  rw [exc_succ, Bt.bt_num, h]
  simp
theorem exc_none (L : List Bool) (i : Nat) (h : L.getD i false = false) : exc (Bt.num L) (i + 1) = exc (Bt.num L) i - 1 := by
  rw [exc_succ, Bt.bt_num, h]
  simp
  omega
/-- What has gone above a number and does not meet it stays above it. -/
theorem stays (L : List Bool) (i : Nat) (h : L.getD i false = true) (c : Nat) (hno : ∀ j, i < j → j ≤ c → exc (Bt.num L) j ≠ exc (Bt.num L) i) : ∀ j, i < j → j ≤ c → exc (Bt.num L) i < exc (Bt.num L) j := by
  intro j
  induction j with
  | zero => intro h1; omega
  | succ j ih =>
    intro h1 h2
    by_cases e : j = i
    · subst e
      rw [exc_one L j h]
      omega
    · have h3 := ih (by omega) (by omega)
      have h4 := hno (j + 1) h1 h2
      have h5 := exc_succ (Bt.num L) j
      have h6 := bt_lt (Bt.num L) j
      omega
/-- What opens is closed: what is found. -/
theorem closes (L : List Bool) (i : Nat) (hi : i < L.length) (h : L.getD i false = true) :
    (Pn.forth (Bt.num L) i L.length 0 = -1 ∧ exc (Bt.num L) i < exc (Bt.num L) L.length) ∨
    ∃ p : Nat, Pn.forth (Bt.num L) i L.length 0 = p ∧ p < L.length ∧ L.getD p false = false ∧ Pn.back (Bt.num L) 0 (p + 1) 0 = i ∧ exc (Bt.num L) (p + 1) = exc (Bt.num L) i := by
  have hs := forth_spec (Bt.num L) i L.length 0 (by omega)
  rw [Int.add_zero] at hs
  rcases hs with ⟨h1, h2⟩ | ⟨p, h1, h2, h3, h4, h5⟩
  · exact .inl ⟨h1, stays L i h L.length h2 L.length hi (Nat.le_refl _)⟩
  · refine .inr ⟨p, h1, h3, ?_, ?_, h4⟩
    · by_cases e : p = i
      · subst e
        rw [exc_one L p h] at h4
        omega
      · have h6 := stays L i h p h5 p (by omega) (Nat.le_refl _)
        cases ho : L.getD p false with
        | false => rfl
        | true =>
          rw [exc_one L p ho] at h4
          omega
    · refine (back_spec (Bt.num L) 0 (p + 1) 0 (Nat.zero_le _)).unique (.inr ⟨i, rfl, Nat.zero_le _, by omega, by omega, fun j j1 j2 => ?_⟩)
      have := h5 j j1 (by omega)
      omega
end Mx
set_option maxHeartbeats 2000000 in
set_option maxRecDepth 100000 in
theorem MinmaxBack_walk (l : List (Bool × Nat)) (u : Value) (a : Int) (w : World) (h : Pcs w u l) (hm : l.length ≤ 9223372036854775807) (ha : 0 ≤ a) (ha2 : a ≤ 65535) :
    Calls Try.prog 6 #[u, .int .u16 a] w fun e w' => e = .returned (.bool true) ∧ Below w.heap.size w w' := by
  have HP := hidden h
  obtain ⟨i, rfl⟩ := Int.eq_ofNat_of_zero_le ha
  have HLEN := hidden (Mx.bitsOf_len l (min l.length 400))
  clear h
  go_enter Try.func6, Try.ntmps6
  go_wp2_with fail
  refine (awake7_any w).mono ?_
  rintro e' w1 ⟨rfl, hq1⟩
  have HQ1 := hidden hq1
  have HP1 := hidden (HP.out.below hq1 (Nat.le_refl _))
  clear hq1
  go_wp2_with fail
  refine (Bits7_any l u w1 HP1.out hm).mono ?_
  rintro e' w2 ⟨v2, rfl, hb2, hq2⟩
  have hLL : (Mx.allOf l).length ≤ 4000 := HLEN.out
  have HB2 : Hid (Bl w2 v2 (Mx.allOf l)) := hb2
  have HQ2 := hidden (HQ1.out.trans (hq2.mono HQ1.out.size))
  clear hb2 hq2
  generalize Mx.allOf l = L at *
  go_wp2_with fail
  refine (Made_any L v2 w2 HB2.out (by omega)).mono ?_
  rintro e' w3 ⟨r3, u3, rfl, hr3, hq3, _, _⟩
  have HR3 := hidden hr3
  have HB3 : Hid (Bl w3 v2 L) := HB2.out.below hq3 (Nat.le_refl _)
  have HQ3 := hidden (HQ2.out.trans (hq3.mono HQ2.out.size))
  clear hr3 hq3
  go_wp2_with fail
  refine (MNew_any r3 _ _ u3 _ HR3.out).mono ?_
  rintro e' w4 ⟨t, gs, m, rfl, ht4, hq4⟩
  have HT4 := hidden ht4
  have hb4 : Bl w4 v2 L := HB3.out.below hq4 (Nat.le_refl _)
  have HB4 : Hid (Bl w4 v2 L) := hb4
  have HQ4 := hidden (HQ3.out.trans (hq4.mono HQ3.out.size))
  obtain ⟨ao, cap, rfl, hcap, hcell⟩ := hb4.view
  clear ht4 hq4 hb4
  by_cases hlt : i < L.length
  · have hi1 : (i : Int) < (L.length : Int) := by omega
    obtain ⟨b, off, rfl, hbs, hc⟩ := hcell (by omega)
    have c0 := hc i hlt
    have i0 : (0 : Int) ≤ (i : Int) := by omega
    cases ho : L.getD i false
    · rw [ho] at c0
      clear hc hcell
      go_wp2_with fail
      go_ret
      exact ⟨rfl, HQ4.out⟩
    · rw [ho] at c0
      have HCL := hidden (Mx.closes L i hlt ho)
      have hf := TForth_any t r3 _ _ u3 gs m (i : Int) 0 _ HT4.out
      rw [Pn.fr_nat _ i (by omega)] at hf
      have HF := hidden hf
      have HC := hidden hc
      clear hc hf ho hcell
      go_wp2_with fail
      refine HF.out.mono ?_
      rintro e' w5 ⟨rfl, hb5⟩
      have HT5 := hidden (HT4.out.below hb5 (Nat.le_refl _))
      have HQ5 := hidden (HQ4.out.trans (hb5.mono HQ4.out.size))
      have HB5 := hidden hb5
      clear hb5 c0
      have hxi := TExcess_any t r3 _ _ u3 gs m (i : Int) w5 HT5.out
      rw [Pn.fr_nat _ i (by omega)] at hxi
      have HXI := hidden hxi
      clear hxi
      have hbi := Wd.exc_bounds (Bt.num L) i
      rcases HCL.out with ⟨h1, h2⟩ | ⟨p, h1, h2, h3, h4, h5⟩
      · rw [h1]
        have hxn := TExcess_any t r3 _ _ u3 gs m (L.length : Int) w5 HT5.out
        rw [Pn.fr_nat _ _ (Nat.le_refl _)] at hxn
        have HXN := hidden hxn
        clear hxn h1 hbi HCL
        generalize Wd.exc (Bt.num L) i = E at *
        generalize Wd.exc (Bt.num L) L.length = E2 at *
        go_wp2_with fail
        refine HXN.out.mono ?_
        rintro e' w6 ⟨rfl, rfl⟩
        go_wp2_with fail
        refine HXI.out.mono ?_
        rintro e' w6 ⟨rfl, rfl⟩
        go_wp2_with fail
        go_ret
        exact ⟨rfl, HQ5.out⟩
      · rw [h1]
        have d0 := (HB5.out.cell (p := ⟨b, off + p, none⟩) hbs).trans (HC.out p h2)
        rw [h3] at d0
        have hbk := TBack_any t r3 _ _ u3 gs m ((p + 1 : Nat) : Int) 0 w5 HT5.out
        rw [Pn.fr_nat _ _ (by omega), h4] at hbk
        have HBK := hidden hbk
        have hp1 : (p : Int) < (L.length : Int) := by omega
        have hp0 : (0 : Int) ≤ (p : Int) := by omega
        have hpc : (p : Int) + 1 = ((p + 1 : Nat) : Int) := by omega
        have HX5 := hidden h5
        have HP2 := hidden h2
        obtain ⟨p1, hp1d⟩ : ∃ p1 : Nat, p1 = p + 1 := ⟨_, rfl⟩
        rw [← hp1d] at hpc HBK HX5
        have HPD := hidden hp1d
        clear hbk h1 h3 h4 h5 hbi HCL h2 hp1d
        go_wp2_with fail
        refine HBK.out.mono ?_
        rintro e' w6 ⟨rfl, hb6⟩
        have HT6 := hidden (HT5.out.below hb6 (Nat.le_refl _))
        have HQ6 := hidden (HQ5.out.trans (hb6.mono HQ5.out.size))
        clear hb6
        have hxp := TExcess_any t r3 _ _ u3 gs m (p1 : Int) w6 HT6.out
        rw [Pn.fr_nat _ _ (by have := HPD.out; have := HP2.out; omega), HX5.out] at hxp
        have hxi := TExcess_any t r3 _ _ u3 gs m (i : Int) w6 HT6.out
        rw [Pn.fr_nat _ i (by omega)] at hxi
        have HXP := hidden hxp
        have HXI6 := hidden hxi
        clear hxp hxi d0
        go_wp2_with fail
        refine HXP.out.mono ?_
        rintro e' w7 ⟨rfl, rfl⟩
        go_wp2_with fail
        refine HXI6.out.mono ?_
        rintro e' w7 ⟨rfl, rfl⟩
        go_wp2_with fail
        go_ret
        exact ⟨rfl, HQ6.out⟩
  · have hi1 : (L.length : Int) ≤ (i : Int) := by omega
    clear hcell
    go_wp2_with fail
    go_ret
    exact ⟨rfl, HQ4.out⟩
end Go.Proofs.Ytdjhpfojbnikdaa
