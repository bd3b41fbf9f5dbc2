/-
  The walk of the law NestWalks: it returns true for every list of bits; nothing that was there is changed.
-/
import Derived.Test.YtmeclkmmgbndkaaDoorJNsAsk
import Derived.Test.YtmeclkmmgbndkaaDoorJNsKids
import Derived.Test.YtmeclkmmgbndkaaDoorOpenBools
namespace Go.Proofs.YtmeclkmmgbndkaaDoor
open Go.RowKit
/-- Where the guard of a law of a list of bits holds: it is long, or not balanced. -/
def Ns.shutW (L : List Bool) : Prop := 1000 < L.length ∨ (L.length ≤ 1000 ∧ Pn.bal (Bt.num L) L.length = false)
set_option maxHeartbeats 1000000 in
set_option maxRecDepth 100000 in
theorem NestWalks_shut (L : List Bool) (u : Value) (w : World) (h : Ba w u L) (hs : Ns.shutW L) (hm : L.length ≤ 9223372036854775807) (hT : Tab w) :
    Calls Tryd.prog 3 #[u] w fun e w' => e = .returned (.bool true) ∧ Below w.heap.size w w' := by
  have HT := hidden hT
  have HH := hidden h
  obtain ⟨ao, cap, rfl, hcap, _⟩ := h.view
  clear h hT
  rcases hs with hl | ⟨hl, hb⟩
  · go_enter Tryd.func3, Tryd.ntmps3
    go_wp2_with fail
    refine (awake8_any w HT.out).mono ?_
    rintro e w1 ⟨rfl, hq1⟩
    have HQ1 := hidden hq1
    clear hq1
    go_wp2_with fail
    refine (awake8_any w1 (HT.out.below HQ1.out (Nat.le_refl _))).mono ?_
    rintro e w2 ⟨rfl, hq2⟩
    have HQ2 := hidden hq2
    clear hq2
    go_wp2_with fail
    go_ret
    exact ⟨rfl, HQ1.out.trans (HQ2.out.mono HQ1.out.size)⟩
  · have HBal := hidden hb
    clear hb
    go_enter Tryd.func3, Tryd.ntmps3
    go_wp2_with fail
    refine (awake8_any w HT.out).mono ?_
    rintro e w1 ⟨rfl, hq1⟩
    have HQ1 := hidden hq1
    have HO1 := hidden (HH.out.below hq1 (Nat.le_refl _))
    clear hq1
    go_wp2_with fail
    refine (rBalanced_any L _ w1 HO1.out.view (by omega)).mono ?_
    rintro e' w2 ⟨rfl, rfl⟩
    rw [HBal.out]
    go_wp2_with fail
    refine (awake8_any w2 (HT.out.below HQ1.out (Nat.le_refl _))).mono ?_
    rintro e w2 ⟨rfl, hq2⟩
    have HQ2 := hidden hq2
    clear hq2
    go_wp2_with fail
    go_ret
    exact ⟨rfl, HQ1.out.trans (HQ2.out.mono HQ1.out.size)⟩
set_option maxHeartbeats 4000000 in
set_option maxRecDepth 100000 in
theorem NestWalks_open (L : List Bool) (u : Value) (w : World) (h : Ba w u L) (hl : L.length ≤ 1000) (hb : Pn.bal (Bt.num L) L.length = true) (hT : Tab w) :
    Calls Tryd.prog 3 #[u] w fun e w' => e = .returned (.bool true) ∧ Below w.heap.size w w' := by
  have HT := hidden hT
  have HH := hidden h
  obtain ⟨ao, cap, hu, hcap, _⟩ := h.view
  subst hu
  have HBal := hidden hb
  clear h hT hb
  go_enter Tryd.func3, Tryd.ntmps3
  go_wp2_with fail
  refine (awake8_any w HT.out).mono ?_
  rintro e w1 ⟨rfl, hq1⟩
  have HQ1 := hidden hq1
  have HO1 := hidden (HH.out.below hq1 (Nat.le_refl _))
  clear hq1
  go_wp2_with fail
  refine (rBalanced_any L _ w1 HO1.out.view (by omega)).mono ?_
  rintro e' w2 ⟨rfl, rfl⟩
  rw [HBal.out]
  go_wp2_with fail
  refine (Made_view L _ w2 HO1.out.view (by omega)).mono ?_
  rintro e' w3 ⟨r3, u3, rfl, hr3, hq3⟩
  have HR3 := hidden hr3
  have HQ3 := hidden (HQ1.out.trans (hq3.mono HQ1.out.size))
  have HT3 := hidden (HT.out.below HQ3.out (Nat.le_refl _))
  clear hr3 hq3 HO1
  generalize Bt.num L = X at *
  obtain ⟨n, hn⟩ : ∃ n, n = L.length := ⟨_, rfl⟩
  rw [← hn] at HR3 HBal hl hcap ⊢
  clear hn HH
  go_wp2_with fail
  refine (NNew_any r3 _ _ u3 _ HR3.out HT3.out HBal.out).mono ?_
  rintro e' w4 ⟨z, kk, rfl, hz4, hq4⟩
  have HN4 := hidden hz4
  have HQ4 := hidden (HQ3.out.trans (hq4.mono HQ3.out.size))
  have HT4 := hidden (HT3.out.below hq4 (Nat.le_refl _))
  have HOK := hidden hz4.ok
  obtain ⟨N, hN⟩ : ∃ N, N = Wd.ones X n := ⟨_, rfl⟩
  have HNN := hidden hN
  have HNO : Hid (∀ W, Nt W z n X kk → Calls Tryd.prog 11 #[.pointer (some ⟨z, 0, none⟩)] W fun e w' => e = .returned (.int .i64 (N : Int)) ∧ ∃ m, w' = W.drewN m) := fun W hW => by rw [HNN.out]; exact Nodes_any z n X kk W hW
  have hN9 : N ≤ 1000 := by rw [hN]; exact Nat.le_trans (Wd.ones_le X n) hl
  clear hz4 hq4 hN HR3 HT3 HQ3 HBal
  go_wp2_with fail
  go_loopw [5] (fun s5 wr => ∃ k : Nat, k ≤ N ∧ s5 = .int .i64 (k : Nat) ∧ Below w4.heap.size w4 wr) (fun s5 _ => N - (intOf s5).toNat)
  case atStart => exact ⟨0, by omega, rfl, Below.refl _ _⟩
  case round =>
    obtain ⟨k, hkN, rfl, hbr⟩ := hrel
    have HBR := hidden hbr
    have HNr := hidden (HN4.out.below hbr (Nat.le_refl _))
    clear hbr
    go_wp2_with fail
    refine (HNO.out wr HNr.out).mono ?_
    rintro e' w5 ⟨rfl, m5, rfl⟩
    have HB5 : Hid (Below w4.heap.size w4 (wr.drewN m5)) := drewN_below HBR.out _
    have HN5 := hidden (HN4.out.below HB5.out (Nat.le_refl _))
    have HT5 := hidden (HT4.out.below HB5.out (Nat.le_refl _))
    generalize wr.drewN m5 = w5 at *
    clear HBR HNr
    by_cases hlt : k < N
    · have hat := Ck.pl_at (Y := X) (k := k) (n := n) (by rw [← HNN.out]; exact hlt)
      generalize Ck.pl X k n = i at hat
      have HAT := hidden hat
      have HND : Hid (Ns.Nd X n i) := ⟨hat.lt, hat.one⟩
      have hin := hat.lt
      have hlt' : (k : Int) < (N : Int) := by omega
      clear hat
      go_wp2_with fail
      refine (Node_at z n X k i kk w5 HN5.out HT5.out HAT.out).mono ?_
      rintro e' w6 ⟨rfl, hb6⟩
      have HB6 := hidden (HB5.out.trans (hb6.mono HB5.out.size))
      have HN6 := hidden (HN5.out.below hb6 (Nat.le_refl _))
      clear hb6
      obtain ⟨d, hd⟩ : ∃ d, d = Wd.exc X i := ⟨_, rfl⟩
      have hdlo := HOK.out.low i (Nat.le_of_lt hin)
      have hdhi : Wd.exc X i ≤ 1000 := by have := Wd.ones_le X i; unfold Wd.exc; omega
      rw [← hd] at hdlo hdhi
      have hde := Depth_any z n X i kk w6 HN6.out HND.out
      rw [← hd] at hde
      have HDE := hidden hde
      have HD := hidden hd
      clear hde hd
      go_wp2_with fail
      refine HDE.out.mono ?_
      rintro e' w7 ⟨rfl, rfl⟩
      obtain ⟨c, hc⟩ : ∃ c, c = (Ns.kids X n i).length := ⟨_, rfl⟩
      have hco := Count_any z n X i kk w7 HN6.out HND.out
      rw [← hc] at hco
      have HCO := hidden hco
      have HC := hidden hc
      clear hco hc HDE
      go_wp2_with fail
      refine HCO.out.mono ?_
      rintro e' w8 ⟨rfl, hb8⟩
      have HB8 := hidden (HB6.out.trans (hb8.mono HB6.out.size))
      have HN8 := hidden (HN6.out.below hb8 (Nat.le_refl _))
      clear hb8 HCO
      have HF : Hid (Calls Tryd.prog 15 #[.pointer (some ⟨z, 0, none⟩), .int .i64 (i : Nat)] w8 fun e w' => e = .returned (.tuple #[.int .i64 (Ns.cv X (i + 1)), .int .i64 (Ns.ce X (i + 1))]) ∧ w' = w8) := First_any z n X i kk w8 HN8.out HND.out
      go_wp2_with fail
      refine HF.out.mono ?_
      rintro e' w9 ⟨rfl, rfl⟩
      clear HF
      have HAF := hidden (Ns.AtC.first HOK.out HND.out)
      have HSO := hidden (fun a => Ns.AtC.some HOK.out HND.out (a := a))
      have HNE := hidden (fun a => Ns.AtC.none HOK.out HND.out (a := a))
      have HLE := hidden (fun a (ha : Ns.AtC X n i a) => Nat.le_trans ha.le (Nat.le_of_lt (Ns.cl_spec HOK.out HND.out).lt))
      go_wp2_with fail
      go_loopw [12, 13, 14] (fun s12 s13 s14 wq => ∃ a p, s12 = .int .i64 (Ns.cv X a) ∧ s13 = .int .i64 (Ns.ce X a) ∧ s14 = .int .i64 ((p.length : Nat) : Int) ∧ Ns.AtC X n i a ∧ Ns.kids X n i = p ++ Ns.ks X n i a ∧ 2 * p.length ≤ a ∧ Below w9.heap.size w9 wq) (fun s12 s13 _ _ => bif intOf s13 == 0 then n + 2 - (intOf s12).toNat else 0)
      case atStart => exact ⟨i + 1, [], rfl, rfl, rfl, HAF.out, rfl, by simp, Below.refl _ _⟩
      case round =>
        obtain ⟨a, p, rfl, rfl, rfl, ha, hk, hp2, hbq⟩ := hrel
        have HBQ := hidden (HB8.out.trans (hbq.mono HB8.out.size))
        have HBQ9 := hidden hbq
        have HNq := hidden (HN8.out.below hbq (Nat.le_refl _))
        have haM := HLE.out a ha
        have HA := hidden ha
        have HK := hidden hk
        have HP2 := hidden hp2
        obtain ⟨q, hq⟩ : ∃ q, q = p.length := ⟨_, rfl⟩
        have HQ := hidden hq
        have hq6 : q < 600 := by omega
        have hq6' : (q : Int) < 600 := by omega
        rw [← hq]
        clear hbq ha hk hp2 hq
        rcases Ns.bt_or X a with hz | hz
        · have e1 : Ns.ce X a = 7 := by unfold Ns.ce; rw [Ns.on_nat, hz]; rfl
          obtain ⟨_, e2⟩ := HNE.out a HA.out hz
          have e3 : (q : Int) = (c : Int) := by rw [HC.out, HK.out, e2, List.append_nil, HQ.out]
          rw [e1]
          clear e1 hz e2
          go_wp2_with fail
          exact ⟨⟨k + 1, by omega, by go_num, HBQ.out⟩, by simp [intOf]; omega⟩
        · have e1 : Ns.ce X a = 0 := by unfold Ns.ce; rw [Ns.on_nat, hz]; rfl
          have e2 : Ns.cv X a = (a : Int) := by unfold Ns.cv; rw [Ns.on_nat, hz]; rfl
          obtain ⟨h1, h2, h3, h4, h5⟩ := HSO.out a HA.out hz
          have HNa := hidden h1
          have HA2 := hidden h4
          have hca := Ns.cl_spec HOK.out h1
          have hgt := hca.gt
          have HCA := hidden hca
          have hpar : Ns.Par X a i := (Ns.par_iff HND.out (Ns.cl_spec HOK.out HND.out) hz).2 ⟨HA.out.gt, h2, HA.out.eq⟩
          have hexa : Wd.exc X a = d + 1 := by rw [HD.out]; exact HA.out.eq
          have hk5 : Ns.kids X n i = p ++ a :: Ns.ks X n i (Ns.cl X n a + 1) := by rw [HK.out, h5]
          have hkk := Ns.k_in hk5 HQ.out.symm
          have HK5 := hidden hk5
          rw [e1, e2]
          have HP := hidden (Parent_some z n X a i kk wr HNq.out h1 hpar)
          clear e1 e2 hz h1 h2 h3 h4 h5 hca hpar hk5
          go_wp2_with fail
          refine HP.out.mono ?_
          rintro e' wa ⟨rfl, hba⟩
          have HBa := hidden (HBQ9.out.trans (hba.mono HBQ9.out.size))
          have HNa2 := hidden (HNq.out.below hba (Nat.le_refl _))
          clear hba HP
          have hda := Depth_any z n X a kk wa HNa2.out HNa.out
          rw [hexa] at hda
          have HDA := hidden hda
          clear hda hexa
          go_wp2_with fail
          refine HDA.out.mono ?_
          rintro e' wb ⟨rfl, rfl⟩
          have hch := Child_any z n X i q kk wb HNa2.out HND.out (by omega)
          rw [hkk.1, hkk.2] at hch
          have HCH := hidden hch
          clear hch hkk HDA
          go_wp2_with fail
          refine HCH.out.mono ?_
          rintro e' wc ⟨rfl, hbc⟩
          have HBc := hidden (HBa.out.trans (hbc.mono HBa.out.size))
          have HNc := hidden (HNa2.out.below hbc (Nat.le_refl _))
          clear hbc HCH
          have hnx := Next_any z n X a kk wc HNc.out HNa.out
          obtain ⟨b, hb⟩ : ∃ b, b = Ns.cl X n a + 1 := ⟨_, rfl⟩
          rw [← hb] at hnx
          have HNX : Hid (Calls Tryd.prog 18 #[.pointer (some ⟨z, 0, none⟩), .int .i64 (a : Nat)] wc fun e w' => e = .returned (.tuple #[.int .i64 (Ns.cv X b), .int .i64 (Ns.ce X b)]) ∧ Below wc.heap.size wc w') := hnx
          have HBB := hidden hb
          have hbn : b ≤ n := by have := HLE.out _ HA2.out; omega
          have hba2 : a + 2 ≤ b := by omega
          clear hnx hb
          go_wp2_with fail
          refine HNX.out.mono ?_
          rintro e' wd ⟨rfl, hbd⟩
          have HBd := hidden (HBc.out.trans (hbd.mono HBc.out.size))
          have HNd := hidden (HNc.out.below hbd (Nat.le_refl _))
          clear hbd HNX
          rcases Ns.bt_or X b with hz | hz
          · have e1 : Ns.ce X b = 7 := by unfold Ns.ce; rw [Ns.on_nat, hz]; rfl
            have e0 : Ns.cv X b = 0 := by unfold Ns.cv; rw [Ns.on_nat, hz]; rfl
            have E1 := hidden e1
            have E0 := hidden e0
            rw [e1, e0]
            clear e1 e0 hz
            go_wp2_with fail
            refine ⟨⟨b, p ++ [a], by rw [E0.out], by rw [E1.out], by rw [List.length_append, List.length_singleton, ← HQ.out]; go_num, by rw [HBB.out]; exact HA2.out, by rw [HK5.out, HBB.out, List.append_assoc]; rfl, by rw [List.length_append, List.length_singleton]; have := HP2.out; omega, HBd.out⟩, ?_⟩
            simp [intOf]
            omega
          · have e1 : Ns.ce X b = 0 := by unfold Ns.ce; rw [Ns.on_nat, hz]; rfl
            have e0 : Ns.cv X b = (b : Int) := by unfold Ns.cv; rw [Ns.on_nat, hz]; rfl
            have E1 := hidden e1
            have E0 := hidden e0
            rw [e1, e0]
            have hndb : Ns.Nd X n b := HOK.out.nd hz
            have HPV := hidden (Prev_some z n X b a kk wd HNd.out hndb (by rw [HBB.out, Nat.add_sub_cancel]; exact HCA.out))
            clear e1 e0 hz hndb
            go_wp2_with fail
            refine HPV.out.mono ?_
            rintro e' we ⟨rfl, hbe⟩
            have HBe := hidden (HBd.out.trans (hbe.mono HBd.out.size))
            clear hbe HPV
            go_wp2_with fail
            refine ⟨⟨b, p ++ [a], by rw [E0.out], by rw [E1.out], by rw [List.length_append, List.length_singleton, ← HQ.out]; go_num, by rw [HBB.out]; exact HA2.out, by rw [HK5.out, HBB.out, List.append_assoc]; rfl, by rw [List.length_append, List.length_singleton]; have := HP2.out; omega, HBe.out⟩, ?_⟩
            simp [intOf]
            omega
    · obtain rfl : k = N := by omega
      have hlt' : ¬ ((k : Int) < (k : Int)) := by omega
      go_wp2_with fail
      go_ret
      exact ⟨rfl, HQ4.out.trans (HB5.out.mono HQ4.out.size)⟩
theorem NestWalks_walk (L : List Bool) (u : Value) (w : World) (h : Ba w u L) (hm : L.length ≤ 9223372036854775807) (hT : Tab w) :
    Calls Tryd.prog 3 #[u] w fun e w' => e = .returned (.bool true) ∧ Below w.heap.size w w' := by
  by_cases hl : L.length ≤ 1000
  · cases hb : Pn.bal (Bt.num L) L.length with
    | true => exact NestWalks_open L u w h hl hb hT
    | false => exact NestWalks_shut L u w h (.inr ⟨hl, hb⟩) hm hT
  · exact NestWalks_shut L u w h (.inl (by omega)) hm hT
end Go.Proofs.YtmeclkmmgbndkaaDoor
