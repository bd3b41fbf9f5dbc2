/-
  The walk of the law NestInside: it returns true for every list of bits and every two numbers; nothing that was there is changed.
-/
import Derived.Test.YtmeclkmmgbndkaaDoorJNsAsk
import Derived.Test.YtmeclkmmgbndkaaDoorJNsMath
import Derived.Test.YtmeclkmmgbndkaaDoorOpenBools
namespace Go.Proofs.YtmeclkmmgbndkaaDoor
open Go.RowKit
set_option maxHeartbeats 1000000 in
theorem NestInside_shut (L : List Bool) (a b : Int) (u : Value) (w : World) (h : Ba w u L) (hs : 1000 < L.length ∨ (L.length ≤ 1000 ∧ Pn.bal (Bt.num L) L.length = false) ∨ L.length = 0) (hm : L.length ≤ 9223372036854775807) (hT : Tab w) :
    Calls Tryd.prog 5 #[u, .int .u16 a, .int .u16 b] w fun e w' => e = .returned (.bool true) ∧ Below w.heap.size w w' := by
  have HT := hidden hT
  have HH := hidden h
  obtain ⟨ao, cap, rfl, hcap, _⟩ := h.view
  clear h hT
  rcases hs with hl | ⟨hl, hb⟩ | hl
  · go_enter Tryd.func5, Tryd.ntmps5
    go_wp2_with fail
    refine (awake8_any w HT.out).mono ?_
    rintro e w1 ⟨rfl, hq1⟩
    have HQ1 := hidden hq1
    clear hq1
    go_wp2_with fail
    refine (awake8_any w1 (HT.out.below HQ1.out (Nat.le_refl _))).mono ?_
    rintro e w2 ⟨rfl, hq2⟩
    have HQ2 := hidden hq2
    clear hq2
    go_wp2_with fail
    go_ret
    exact ⟨rfl, HQ1.out.trans (HQ2.out.mono HQ1.out.size)⟩
  · have HBal := hidden hb
    clear hb
    go_enter Tryd.func5, Tryd.ntmps5
    go_wp2_with fail
    refine (awake8_any w HT.out).mono ?_
    rintro e w1 ⟨rfl, hq1⟩
    have HQ1 := hidden hq1
    have HO1 := hidden (HH.out.below hq1 (Nat.le_refl _))
    clear hq1
    go_wp2_with fail
    refine (rBalanced_any L _ w1 HO1.out.view (by omega)).mono ?_
    rintro e' w2 ⟨rfl, rfl⟩
    rw [HBal.out]
    go_wp2_with fail
    refine (awake8_any w2 (HT.out.below HQ1.out (Nat.le_refl _))).mono ?_
    rintro e w2 ⟨rfl, hq2⟩
    have HQ2 := hidden hq2
    clear hq2
    go_wp2_with fail
    go_ret
    exact ⟨rfl, HQ1.out.trans (HQ2.out.mono HQ1.out.size)⟩
  · obtain rfl : L = [] := List.eq_nil_of_length_eq_zero hl
    have HBal : Hid (Pn.bal (Bt.num []) 0 = true) := by show _ = _; decide +kernel
    clear hl
    simp only [List.length_nil] at hcap ⊢
    go_enter Tryd.func5, Tryd.ntmps5
    go_wp2_with fail
    refine (awake8_any w HT.out).mono ?_
    rintro e w1 ⟨rfl, hq1⟩
    have HQ1 := hidden hq1
    have HO1 := hidden (HH.out.below hq1 (Nat.le_refl _))
    clear hq1
    go_wp2_with fail
    refine (rBalanced_any [] _ w1 HO1.out.view (by decide)).mono ?_
    rintro e' w2 ⟨rfl, rfl⟩
    rw [show Pn.bal (Bt.num []) ([] : List Bool).length = true from HBal.out]
    go_wp2_with fail
    refine (awake8_any w2 (HT.out.below HQ1.out (Nat.le_refl _))).mono ?_
    rintro e w2 ⟨rfl, hq2⟩
    have HQ2 := hidden hq2
    clear hq2
    go_wp2_with fail
    go_ret
    exact ⟨rfl, HQ1.out.trans (HQ2.out.mono HQ1.out.size)⟩
theorem Ns.inside_end {X n x y up : Nat} (h : Ns.Ok X n) (hx : Ns.Nd X n x) (hy : Ns.Nd X n y) (hl : x ≤ y) (ha : Ns.Anc X up y) (hs : Ns.Anc X x y → Ns.Anc X x up) (he : up ≤ x ∨ Wd.exc X up = 0) :
    (Ns.cl X n y < Ns.cl X n x → up = x ∧ Wd.exc X x < Wd.exc X y) ∧ (¬ Ns.cl X n y < Ns.cl X n x → x ≠ y → Ns.cl X n x < y ∧ up ≠ x) := by
  refine ⟨fun hc => ?_, fun hc hne => ?_⟩
  · obtain ⟨h1, h2⟩ := Ns.anc_of_close h hx hy hl hc
    have h3 := hs h1
    have h4 := h1.over y h2 (Nat.le_refl _)
    refine ⟨?_, h4⟩
    by_cases e : x < up
    · have h5 := h3.over up e (Nat.le_refl _)
      have h6 := h.low x (Nat.le_of_lt hx.1)
      omega
    · have := h3.le
      omega
  · obtain ⟨h1, h2⟩ := Ns.apart h hx hy (by omega) (by omega)
    exact ⟨h1, by rintro rfl; exact h2 ha⟩
set_option maxHeartbeats 4000000 in
set_option maxRecDepth 100000 in
theorem NestInside_open (L : List Bool) (a b : Int) (u : Value) (w : World) (h : Ba w u L) (hl : L.length ≤ 1000) (hl0 : 0 < L.length) (hb : Pn.bal (Bt.num L) L.length = true) (ha0 : 0 ≤ a) (ha1 : a ≤ 65535) (hb0 : 0 ≤ b) (hb1 : b ≤ 65535) (hT : Tab w) :
    Calls Tryd.prog 5 #[u, .int .u16 a, .int .u16 b] w fun e w' => e = .returned (.bool true) ∧ Below w.heap.size w w' := by
  have HT := hidden hT
  have HH := hidden h
  obtain ⟨ao, cap, hu, hcap, _⟩ := h.view
  subst hu
  have HBal := hidden hb
  clear h hT hb
  go_enter Tryd.func5, Tryd.ntmps5
  go_wp2_with fail
  refine (awake8_any w HT.out).mono ?_
  rintro e w1 ⟨rfl, hq1⟩
  have HQ1 := hidden hq1
  have HO1 := hidden (HH.out.below hq1 (Nat.le_refl _))
  clear hq1
  go_wp2_with fail
  refine (rBalanced_any L _ w1 HO1.out.view (by omega)).mono ?_
  rintro e' w2 ⟨rfl, rfl⟩
  rw [HBal.out]
  have hlz : ((L.length : Int) == 0) = false := beq_false_of_ne (by omega)
  go_wp2_with fail
  refine (Made_view L _ w2 HO1.out.view (by omega)).mono ?_
  rintro e' w3 ⟨r3, u3, rfl, hr3, hq3⟩
  have HR3 := hidden hr3
  have HQ3 := hidden (HQ1.out.trans (hq3.mono HQ1.out.size))
  have HT3 := hidden (HT.out.below HQ3.out (Nat.le_refl _))
  clear hr3 hq3 HO1 hlz
  generalize Bt.num L = X at *
  obtain ⟨n, hn⟩ : ∃ n, n = L.length := ⟨_, rfl⟩
  rw [← hn] at HR3 HBal hl hl0 hcap ⊢
  clear hn HH
  go_wp2_with fail
  refine (NNew_any r3 _ _ u3 _ HR3.out HT3.out HBal.out).mono ?_
  rintro e' w4 ⟨z, kk, rfl, hz4, hq4⟩
  have HN4 := hidden hz4
  have HQ4 := hidden (HQ3.out.trans (hq4.mono HQ3.out.size))
  have HT4 := hidden (HT3.out.below hq4 (Nat.le_refl _))
  have HOK := hidden hz4.ok
  have hhalf : 2 * Wd.ones X n = n := by
    have := hz4.ok.all
    unfold Wd.exc at this
    omega
  obtain ⟨N, hN⟩ : ∃ N, N = Wd.ones X n := ⟨_, rfl⟩
  rw [← hN] at hhalf
  have HNN := hidden hN
  have hN0 : 0 < N := by omega
  have HNO : Hid (∀ W, Nt W z n X kk → Calls Tryd.prog 11 #[.pointer (some ⟨z, 0, none⟩)] W fun e w' => e = .returned (.int .i64 (N : Int)) ∧ ∃ m, w' = W.drewN m) := fun W hW => by rw [HNN.out]; exact Nodes_any z n X kk W hW
  obtain ⟨ka, hka⟩ : ∃ k : Nat, (k : Int) = a % (N : Int) := ⟨(a % (N : Int)).toNat, by have := Int.emod_nonneg a (show (N : Int) ≠ 0 by omega); omega⟩
  have hkaN : ka < N := by have := Int.emod_lt_of_pos a (show (0 : Int) < (N : Int) by omega); omega
  obtain ⟨kb, hkb⟩ : ∃ k : Nat, (k : Int) = b % (N : Int) := ⟨(b % (N : Int)).toNat, by have := Int.emod_nonneg b (show (N : Int) ≠ 0 by omega); omega⟩
  have hkbN : kb < N := by have := Int.emod_lt_of_pos b (show (0 : Int) < (N : Int) by omega); omega
  have hat := Ck.pl_at (Y := X) (k := ka) (n := n) (by rw [← HNN.out]; exact hkaN)
  have hbt := Ck.pl_at (Y := X) (k := kb) (n := n) (by rw [← HNN.out]; exact hkbN)
  generalize Ck.pl X ka n = i at hat
  generalize Ck.pl X kb n = j at hbt
  have HAT := hidden hat
  have HBT := hidden hbt
  have hka' : a % (N : Int) = (ka : Int) := hka.symm
  have hkb' : b % (N : Int) = (kb : Int) := hkb.symm
  have hNz : ((N : Int) == 0) = false := beq_false_of_ne (by omega)
  have HNDi : Hid (Ns.Nd X n i) := ⟨hat.lt, hat.one⟩
  have HNDj : Hid (Ns.Nd X n j) := ⟨hbt.lt, hbt.one⟩
  clear hz4 hq4 hN HR3 HT3 HQ3 HBal hka hkb hat hbt
  go_wp2_with fail
  refine (HNO.out w4 HN4.out).mono ?_
  rintro e' w5 ⟨rfl, m5, rfl⟩
  have HB5 : Hid (Below w4.heap.size w4 (w4.drewN m5)) := drewN_below (Below.refl _ _) _
  have HN5 := hidden (HN4.out.below HB5.out (Nat.le_refl _))
  have HT5 := hidden (HT4.out.below HB5.out (Nat.le_refl _))
  have HQ5 := hidden (HQ4.out.trans (HB5.out.mono HQ4.out.size))
  generalize w4.drewN m5 = w5 at *
  clear HN4 HT4 HQ4 HB5
  go_wp2_with fail
  refine (Node_at z n X ka i kk w5 HN5.out HT5.out HAT.out).mono ?_
  rintro e' w6 ⟨rfl, hb6⟩
  have HQ6 := hidden (HQ5.out.trans (hb6.mono HQ5.out.size))
  have HN6 := hidden (HN5.out.below hb6 (Nat.le_refl _))
  have HT6 := hidden (HT5.out.below hb6 (Nat.le_refl _))
  clear hb6
  go_wp2_with fail
  refine (HNO.out w6 HN6.out).mono ?_
  rintro e' w7 ⟨rfl, m7, rfl⟩
  have HB7 : Hid (Below w6.heap.size w6 (w6.drewN m7)) := drewN_below (Below.refl _ _) _
  have HN7 := hidden (HN6.out.below HB7.out (Nat.le_refl _))
  have HT7 := hidden (HT6.out.below HB7.out (Nat.le_refl _))
  have HQ7 := hidden (HQ6.out.trans (HB7.out.mono HQ6.out.size))
  generalize w6.drewN m7 = w7 at *
  clear HN6 HT6 HQ6 HB7
  go_wp2_with fail
  refine (Node_at z n X kb j kk w7 HN7.out HT7.out HBT.out).mono ?_
  rintro e' w8 ⟨rfl, hb8⟩
  have HQ8 := hidden (HQ7.out.trans (hb8.mono HQ7.out.size))
  have HN8 := hidden (HN7.out.below hb8 (Nat.le_refl _))
  clear hb8
  obtain ⟨x, hx⟩ : ∃ x : Nat, x = min i j := ⟨_, rfl⟩
  obtain ⟨y, hy⟩ : ∃ y : Nat, y = max i j := ⟨_, rfl⟩
  have HNDx : Hid (Ns.Nd X n x) := by rcases Nat.le_total i j with e | e; rw [hx, Nat.min_eq_left e]; exact HNDi.out; rw [hx, Nat.min_eq_right e]; exact HNDj.out
  have HNDy : Hid (Ns.Nd X n y) := by rcases Nat.le_total i j with e | e; rw [hy, Nat.max_eq_right e]; exact HNDj.out; rw [hy, Nat.max_eq_left e]; exact HNDi.out
  have hmin : min (i : Int) (j : Int) = (x : Int) := by omega
  have hmax : max (i : Int) (j : Int) = (y : Int) := by omega
  have hxy : x ≤ y := by omega
  have hyn := HNDy.out.1
  clear hx hy hka' hkb' hNz hkaN hkbN HAT HBT HNDi HNDj HT5 HT7 HN5 HN7 HQ5 HQ7
  go_wp2_with fail
  have HCX := hidden (Ns.cl_spec HOK.out HNDx.out)
  have HCY := hidden (Ns.cl_spec HOK.out HNDy.out)
  have HIE := hidden (fun up => Ns.inside_end (up := up) HOK.out HNDx.out HNDy.out hxy)
  have hcx := Close_node z n X x kk w8 HN8.out HNDx.out
  obtain ⟨ex, hex⟩ : ∃ ex, ex = Ns.cl X n x := ⟨_, rfl⟩
  obtain ⟨ey, hey⟩ : ∃ ey, ey = Ns.cl X n y := ⟨_, rfl⟩
  rw [← hex] at hcx HIE HCX
  rw [← hey] at HIE HCY
  have HHEY := hidden hey
  clear hex hey
  refine hcx.mono ?_
  rintro e' w9 ⟨rfl, hb9⟩
  have HQ9 := hidden (HQ8.out.trans (hb9.mono HQ8.out.size))
  have HN9 := hidden (HN8.out.below hb9 (Nat.le_refl _))
  clear hb9 hcx HN8 HQ8
  have hcy := Close_node z n X y kk w9 HN9.out HNDy.out
  rw [← HHEY.out] at hcy
  have HCC := hidden hcy
  clear hcy
  go_wp2_with fail
  refine HCC.out.mono ?_
  rintro e' wa ⟨rfl, hba⟩
  have HQa := hidden (HQ9.out.trans (hba.mono HQ9.out.size))
  have HNa := hidden (HN9.out.below hba (Nat.le_refl _))
  clear hba HCC HN9 HQ9
  obtain ⟨dx, hdx⟩ : ∃ dx, dx = Wd.exc X x := ⟨_, rfl⟩
  obtain ⟨dy, hdy⟩ : ∃ dy, dy = Wd.exc X y := ⟨_, rfl⟩
  have HDX := Depth_any z n X x kk wa HNa.out HNDx.out
  have HDY := Depth_any z n X y kk wa HNa.out HNDy.out
  have hdy0 := Ns.exc_half HOK.out (Nat.le_of_lt hyn)
  rw [← hdx] at HDX HIE
  rw [← hdy] at HDY HIE hdy0
  have HDX := hidden HDX
  have HDY := hidden HDY
  have HEY := hidden hdy
  clear hdx hdy
  go_wp2_with fail
  refine HDX.out.mono ?_
  rintro e' wb ⟨rfl, rfl⟩
  go_wp2_with fail
  refine HDY.out.mono ?_
  rintro e' wc ⟨rfl, rfl⟩
  clear HDX HDY hmin hmax
  go_wp2_with fail
  go_loopw [23, 24] (fun s23 s24 wr => ∃ up m : Nat, s23 = .int .i64 (up : Nat) ∧ s24 = .int .i64 (m : Nat) ∧ Ns.Nd X n up ∧ Ns.Anc X up y ∧ (Ns.Anc X x y → Ns.Anc X x up) ∧ Wd.exc X up + m = dy ∧ Below wc.heap.size wc wr) (fun s23 _ _ => (intOf s23).toNat)
  case atStart => exact ⟨y, 0, rfl, rfl, HNDy.out, Ns.Anc.refl _ _, fun h => h, by rw [HEY.out]; simp, Below.refl _ _⟩
  case round =>
    obtain ⟨up, m, rfl, rfl, hnd, hanc, hstay, hexc, hbr⟩ := hrel
    have HQR := hidden (HQa.out.trans (hbr.mono HQa.out.size))
    have HNr := hidden (HNa.out.below hbr (Nat.le_refl _))
    have HBR := hidden hbr
    have HND := hidden hnd
    have HANC := hidden hanc
    have HST := hidden hstay
    have HEX := hidden hexc
    have hlow := HOK.out.low up (Nat.le_of_lt hnd.1)
    have hm6 : m < 600 := by omega
    have hupn := hnd.1
    clear hnd hanc hstay hexc hbr hlow
    by_cases hgt : x < up
    · have hgt' : (x : Int) < (up : Int) := by omega
      by_cases h0 : Wd.exc X up = 0
      · have HP := hidden (Parent_none z n X up kk wr HNr.out HND.out h0)
        have HF := hidden (HIE.out up HANC.out HST.out (.inr h0))
        have H0 := hidden h0
        clear h0
        go_wp2_with fail
        refine HP.out.mono ?_
        rintro e' wd ⟨rfl, hbd⟩
        have HQR := hidden (HQR.out.trans (hbd.mono HQR.out.size))
        clear hbd
        obtain ⟨hf1, hf2⟩ := HF.out
        clear HF
        by_cases hc : ey < ex
        · obtain ⟨rfl, h5⟩ := hf1 hc
          clear hf1 hf2
          go_wp2_with fail
          go_ret
          exact ⟨rfl, HQR.out⟩
        · have hc' : ¬ ((ey : Int) < (ex : Int)) := by omega
          by_cases hxe : x = y
          · subst hxe
            have hexx : ¬ ((ex : Int) < (x : Int)) := by have := HCX.out.gt; omega
            clear hf1 hf2
            go_wp2_with fail
            go_ret
            exact ⟨rfl, HQR.out⟩
          · obtain ⟨h5, h6⟩ := hf2 hc hxe
            have h7 : ((up : Int) == (x : Int)) = false := beq_false_of_ne (by omega)
            clear hf1 hf2
            go_wp2_with fail
            go_ret
            exact ⟨rfl, HQR.out⟩
      · obtain ⟨p, _, hp⟩ := Ns.back_par (X := X) (i := up) (by have := HOK.out.low up (Nat.le_of_lt hupn); omega)
        have HP := hidden (Parent_some z n X up p kk wr HNr.out HND.out hp)
        have HPR := hidden hp
        have hpl := hp.lt
        have H0 := hidden h0
        clear hp h0
        go_wp2_with fail
        refine HP.out.mono ?_
        rintro e' wd ⟨rfl, hbd⟩
        have HBD := hidden (HBR.out.trans (hbd.mono HBR.out.size))
        clear hbd
        go_wp2_with fail
        refine ⟨⟨p, m + 1, rfl, by go_num, HOK.out.nd HPR.out.one, HANC.out.up HPR.out, fun h => (HST.out h).stay hgt HPR.out, by have := HEX.out; have := HPR.out.eq; omega, HBD.out⟩, by simp [intOf]; omega⟩
    · have hgt' : ¬ ((x : Int) < (up : Int)) := by omega
      have HF := hidden (HIE.out up HANC.out HST.out (.inl (by omega)))
      obtain ⟨hf1, hf2⟩ := HF.out
      clear HF
      by_cases hc : ey < ex
      · obtain ⟨rfl, h5⟩ := hf1 hc
        clear hf1 hf2
        go_wp2_with fail
        go_ret
        exact ⟨rfl, HQR.out⟩
      · have hc' : ¬ ((ey : Int) < (ex : Int)) := by omega
        by_cases hxe : x = y
        · subst hxe
          have hexx : ¬ ((ex : Int) < (x : Int)) := by have := HCX.out.gt; omega
          clear hf1 hf2
          go_wp2_with fail
          go_ret
          exact ⟨rfl, HQR.out⟩
        · obtain ⟨h5, h6⟩ := hf2 hc hxe
          have h7 : ((up : Int) == (x : Int)) = false := beq_false_of_ne (by omega)
          clear hf1 hf2
          go_wp2_with fail
          go_ret
          exact ⟨rfl, HQR.out⟩
theorem NestInside_walk (L : List Bool) (a b : Int) (u : Value) (w : World) (h : Ba w u L) (hm : L.length ≤ 9223372036854775807) (ha0 : 0 ≤ a) (ha1 : a ≤ 65535) (hb0 : 0 ≤ b) (hb1 : b ≤ 65535) (hT : Tab w) :
    Calls Tryd.prog 5 #[u, .int .u16 a, .int .u16 b] w fun e w' => e = .returned (.bool true) ∧ Below w.heap.size w w' := by
  by_cases hl : L.length ≤ 1000
  · cases hb : Pn.bal (Bt.num L) L.length with
    | true =>
      by_cases h0 : L.length = 0
      · exact NestInside_shut L a b u w h (.inr (.inr h0)) hm hT
      · exact NestInside_open L a b u w h hl (by omega) hb ha0 ha1 hb0 hb1 hT
    | false => exact NestInside_shut L a b u w h (.inr (.inl ⟨hl, hb⟩)) hm hT
  · exact NestInside_shut L a b u w h (.inl (by omega)) hm hT
end Go.Proofs.YtmeclkmmgbndkaaDoor
