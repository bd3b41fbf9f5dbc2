/-
  The walk of the law NestSums: it returns true for every list of bits; nothing that was there is changed.
-/
import Derived.Test.YtmeclkmmgbndkaaDoorJNsAsk
import Derived.Test.YtmeclkmmgbndkaaDoorJNsKids
import Derived.Test.YtmeclkmmgbndkaaDoorJNsMath
import Derived.Test.YtmeclkmmgbndkaaDoorOpenBools
namespace Go.Proofs.YtmeclkmmgbndkaaDoor
open Go.RowKit
/-- Where the guard of a law of a list of bits holds: it is long, or not balanced. -/
def Ns.shut (L : List Bool) : Prop := 1000 < L.length ∨ (L.length ≤ 1000 ∧ Pn.bal (Bt.num L) L.length = false)
set_option maxHeartbeats 1000000 in
theorem NestSums_shut (L : List Bool) (u : Value) (w : World) (h : Ba w u L) (hs : Ns.shut L) (hm : L.length ≤ 9223372036854775807) (hT : Tab w) :
    Calls Tryd.prog 6 #[u] w fun e w' => e = .returned (.bool true) ∧ Below w.heap.size w w' := by
  have HT := hidden hT
  have HH := hidden h
  obtain ⟨ao, cap, rfl, hcap, _⟩ := h.view
  clear h hT
  rcases hs with hl | ⟨hl, hb⟩
  · go_enter Tryd.func6, Tryd.ntmps6
    go_wp2_with fail
    refine (awake8_any w HT.out).mono ?_
    rintro e w1 ⟨rfl, hq1⟩
    have HQ1 := hidden hq1
    clear hq1
    go_wp2_with fail
    refine (awake8_any w1 (HT.out.below HQ1.out (Nat.le_refl _))).mono ?_
    rintro e w2 ⟨rfl, hq2⟩
    have HQ2 := hidden hq2
    clear hq2
    go_wp2_with fail
    go_ret
    exact ⟨rfl, HQ1.out.trans (HQ2.out.mono HQ1.out.size)⟩
  · have HBal := hidden hb
    clear hb
    go_enter Tryd.func6, Tryd.ntmps6
    go_wp2_with fail
    refine (awake8_any w HT.out).mono ?_
    rintro e w1 ⟨rfl, hq1⟩
    have HQ1 := hidden hq1
    have HO1 := hidden (HH.out.below hq1 (Nat.le_refl _))
    clear hq1
    go_wp2_with fail
    refine (rBalanced_any L _ w1 HO1.out.view (by omega)).mono ?_
    rintro e' w2 ⟨rfl, rfl⟩
    rw [HBal.out]
    go_wp2_with fail
    refine (awake8_any w2 (HT.out.below HQ1.out (Nat.le_refl _))).mono ?_
    rintro e w2 ⟨rfl, hq2⟩
    have HQ2 := hidden hq2
    clear hq2
    go_wp2_with fail
    go_ret
    exact ⟨rfl, HQ1.out.trans (HQ2.out.mono HQ1.out.size)⟩
theorem Ns.half {X n : Nat} (h : Ns.Ok X n) : 2 * Wd.ones X n = n := by
  have := h.all
  unfold Wd.exc at this
  omega
set_option maxHeartbeats 4000000 in
set_option maxRecDepth 100000 in
theorem NestSums_open (L : List Bool) (u : Value) (w : World) (h : Ba w u L) (hl : L.length ≤ 1000) (hb : Pn.bal (Bt.num L) L.length = true) (hT : Tab w) :
    Calls Tryd.prog 6 #[u] w fun e w' => e = .returned (.bool true) ∧ Below w.heap.size w w' := by
  have HT := hidden hT
  have HH := hidden h
  obtain ⟨ao, cap, hu, hcap, _⟩ := h.view
  subst hu
  have HBal := hidden hb
  clear h hT hb
  go_enter Tryd.func6, Tryd.ntmps6
  go_wp2_with fail
  refine (awake8_any w HT.out).mono ?_
  rintro e w1 ⟨rfl, hq1⟩
  have HQ1 := hidden hq1
  have HO1 := hidden (HH.out.below hq1 (Nat.le_refl _))
  clear hq1
  go_wp2_with fail
  refine (rBalanced_any L _ w1 HO1.out.view (by omega)).mono ?_
  rintro e' w2 ⟨rfl, rfl⟩
  rw [HBal.out]
  go_wp2_with fail
  refine (Made_view L _ w2 HO1.out.view (by omega)).mono ?_
  rintro e' w3 ⟨r3, u3, rfl, hr3, hq3⟩
  have HR3 := hidden hr3
  have HQ3 := hidden (HQ1.out.trans (hq3.mono HQ1.out.size))
  have HT3 := hidden (HT.out.below HQ3.out (Nat.le_refl _))
  clear hr3 hq3 HO1
  generalize Bt.num L = X at *
  obtain ⟨n, hn⟩ : ∃ n, n = L.length := ⟨_, rfl⟩
  rw [← hn] at HR3 HBal hl hcap ⊢
  clear hn HH
  go_wp2_with fail
  refine (NNew_any r3 _ _ u3 _ HR3.out HT3.out HBal.out).mono ?_
  rintro e' w4 ⟨z, kk, rfl, hz4, hq4⟩
  have HN4 := hidden hz4
  have HQ4 := hidden (HQ3.out.trans (hq4.mono HQ3.out.size))
  have HT4 := hidden (HT3.out.below hq4 (Nat.le_refl _))
  have HOK := hidden hz4.ok
  have hhalf := Ns.half hz4.ok
  have HSH := hidden (Ns.share_all hz4.ok)
  obtain ⟨N, hN⟩ : ∃ N, N = Wd.ones X n := ⟨_, rfl⟩
  rw [← hN] at hhalf HSH
  have HNN := hidden hN
  clear hz4 hq4 hN HR3 HT3 HQ3 HBal
  go_wp2_with fail
  go_loopw [5, 6] (fun s5 s6 wr => ∃ a k : Nat, a ≤ n ∧ Wd.ones X a = k ∧ s5 = .int .i64 ((Ns.sumTo (Ns.share X n) a : Nat) : Int) ∧ s6 = .int .i64 (k : Nat) ∧ Below w4.heap.size w4 wr) (fun _ s6 _ => N - (intOf s6).toNat)
  case atStart => exact ⟨0, 0, by omega, rfl, rfl, rfl, Below.refl _ _⟩
  case round =>
    obtain ⟨a, k, ha, hk, rfl, rfl, hbr⟩ := hrel
    have HBR := hidden hbr
    have HNr := hidden (HN4.out.below hbr (Nat.le_refl _))
    have HTr := hidden (HT4.out.below hbr (Nat.le_refl _))
    have hkN : k ≤ N := by rw [← hk, HNN.out]; exact Wd.ones_mono X a n ha
    have HK := hidden hk
    have HA := hidden ha
    clear hbr hk ha
    have hno := Nodes_any z n X kk wr HNr.out
    rw [← HNN.out] at hno
    have HNO := hidden hno
    clear hno
    go_wp2_with fail
    refine HNO.out.mono ?_
    rintro e' w5 ⟨rfl, m5, rfl⟩
    have HB5 : Hid (Below w4.heap.size w4 (wr.drewN m5)) := drewN_below HBR.out _
    have HN5 := hidden (HN4.out.below HB5.out (Nat.le_refl _))
    have HT5 := hidden (HT4.out.below HB5.out (Nat.le_refl _))
    generalize wr.drewN m5 = w5 at *
    clear HNO HBR HNr HTr
    by_cases hlt : k < N
    · have hat := Ck.pl_at (Y := X) (k := k) (n := n) (by rw [← HNN.out]; exact hlt)
      generalize Ck.pl X k n = p at hat
      have HAT := hidden hat
      have HND : Hid (Ns.Nd X n p) := ⟨hat.lt, hat.one⟩
      have hs : Ns.sumTo (Ns.share X n) a = Ns.sumTo (Ns.share X n) p := Ns.share_ones (by rw [HK.out, hat.cnt])
      have hs1 : Ns.sumTo (Ns.share X n) (p + 1) = Ns.sumTo (Ns.share X n) p + ((Ns.kids X n p).length + (if Wd.exc X p = 0 then 1 else 0)) := by
        show _ + Ns.share X n p = _
        unfold Ns.share
        rw [if_pos hat.one]
      have hle := Ns.share_le HOK.out (a := p + 1) hat.lt
      have hcnt : Wd.ones X (p + 1) = k + 1 := by rw [Wd.ones_succ, hat.cnt, hat.one]
      have hpn := hat.lt
      rw [hs]
      obtain ⟨s0, hs0⟩ : ∃ s0, s0 = Ns.sumTo (Ns.share X n) p := ⟨_, rfl⟩
      obtain ⟨q, hq⟩ : ∃ q, q = (Ns.kids X n p).length := ⟨_, rfl⟩
      obtain ⟨d, hd⟩ : ∃ d, d = Wd.exc X p := ⟨_, rfl⟩
      rw [← hs0, ← hq, ← hd] at hs1
      have HS1 := hidden hs1
      have HC := hidden hcnt
      have hsb : s0 + q ≤ 1001 := by rw [hs1] at hle; omega
      have hdlo := HOK.out.low p (by omega)
      rw [← hd] at hdlo
      rw [← hs0]
      have HQ := hidden hq
      have HD := hidden hd
      clear hat hs hs1 hle hcnt hs0 hq hd
      go_wp2_with fail
      refine (Node_at z n X k p kk w5 HN5.out HT5.out HAT.out).mono ?_
      rintro e' w6 ⟨rfl, hb6⟩
      have HB6 := hidden (HB5.out.trans (hb6.mono HB5.out.size))
      have HN6 := hidden (HN5.out.below hb6 (Nat.le_refl _))
      clear hb6
      have hco := Count_any z n X p kk w6 HN6.out HND.out
      rw [← HQ.out] at hco
      have HCO := hidden hco
      clear hco
      go_wp2_with fail
      refine HCO.out.mono ?_
      rintro e' w7 ⟨rfl, hb7⟩
      have HB7 := hidden (HB6.out.trans (hb7.mono HB6.out.size))
      have HN7 := hidden (HN6.out.below hb7 (Nat.le_refl _))
      clear hb7
      have hde := Depth_any z n X p kk w7 HN7.out HND.out
      rw [← HD.out] at hde
      have HDE := hidden hde
      clear hde
      go_wp2_with fail
      refine HDE.out.mono ?_
      rintro e' w8 ⟨rfl, rfl⟩
      by_cases hdz : d = 0
      · subst hdz
        go_wp2_with fail
        refine ⟨⟨p + 1, k + 1, hpn, HC.out, ?_, by go_num, HB7.out⟩, by simp [intOf]; omega⟩
        rw [HS1.out, if_pos trivial]
        exact congrArg (Value.int .i64) (by omega)
      · have hdb : (d == 0) = false := by simpa using hdz
        go_wp2_with fail
        refine ⟨⟨p + 1, k + 1, hpn, HC.out, ?_, by go_num, HB7.out⟩, by simp [intOf]; omega⟩
        rw [HS1.out, if_neg hdz]
        exact congrArg (Value.int .i64) (by omega)
    · obtain rfl : k = N := by omega
      have hs : Ns.sumTo (Ns.share X n) a = k := by rw [Ns.share_ones (X := X) (n := n) (a := a) (b := n) (by rw [HK.out, HNN.out]), HSH.out]
      rw [hs]
      have hno := Nodes_any z n X kk w5 HN5.out
      rw [← HNN.out] at hno
      have HNO := hidden hno
      clear hno hs
      have hdiv : (n : Int) / 2 = (k : Int) := by omega
      have htd : (n : Int).tdiv 2 = (k : Int) := by rw [Int.tdiv_eq_ediv_of_nonneg (by omega)]; exact hdiv
      go_wp2_with fail
      refine HNO.out.mono ?_
      rintro e' w6 ⟨rfl, m6, rfl⟩
      have HB6 : Hid (Below w.heap.size w (w5.drewN m6)) := drewN_below (HQ4.out.trans (HB5.out.mono HQ4.out.size)) _
      go_wp2_with fail
      go_ret
      exact ⟨rfl, HB6.out⟩
theorem NestSums_walk (L : List Bool) (u : Value) (w : World) (h : Ba w u L) (hm : L.length ≤ 9223372036854775807) (hT : Tab w) :
    Calls Tryd.prog 6 #[u] w fun e w' => e = .returned (.bool true) ∧ Below w.heap.size w w' := by
  by_cases hl : L.length ≤ 1000
  · cases hb : Pn.bal (Bt.num L) L.length with
    | true => exact NestSums_open L u w h hl hb hT
    | false => exact NestSums_shut L u w h (.inr ⟨hl, hb⟩) hm hT
  · exact NestSums_shut L u w h (.inl (by omega)) hm hT
end Go.Proofs.YtmeclkmmgbndkaaDoor
