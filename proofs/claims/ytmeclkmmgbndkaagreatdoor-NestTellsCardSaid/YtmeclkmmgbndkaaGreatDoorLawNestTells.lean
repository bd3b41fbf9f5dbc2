/-
  The walk of the law NestTells: it returns true for every list of pieces, every list of places and every number; nothing that was there is changed.
-/
import Derived.BigQuiet
import Derived.Deep.QuietTactic
import Derived.Test.YtmeclkmmgbndkaaGreatDoorNsAns
import Derived.Test.YtmeclkmmgbndkaaGreatDoorJNsAsk
import Derived.Test.YtmeclkmmgbndkaaGreatDoorJMxBits
import Derived.Test.YtmeclkmmgbndkaaGreatDoorMxOpen
import Derived.Test.YtmeclkmmgbndkaaGreatDoorJOpen
import Derived.Test.YtmeclkmmgbndkaaGreatDoorJCk
namespace Go.Proofs.YtmeclkmmgbndkaaGreatDoor
open Go Go.RowKit
set_option maxHeartbeats 1000000 in
theorem NSize_any (z n X : Nat) (k : NK) (w : World) (h : Nt w z n X k) :
    Calls Tryz.prog 19 #[.pointer (some ⟨z, 0, none⟩)] w fun e w' => e = .returned (.int .i64 ((Mx.sz n k.m + Ck.sz X n : Nat) : Int)) ∧ ∃ m, w' = w.drewN m := by
  have c0 := h.cell0
  have c1 := h.cell1
  have h1 := Mx.sz_le n k.m (fun i hi => h.tree.more i hi)
  have h2 := Ck.sz_le X n h.ok.lt
  have hl := h.len
  have HA := hidden (fun m => TSize_any k.t k.r n X k.u k.gs k.m (w.drewN m) (h.tree.below (drewN_below (Below.refl _ _) m) (Nat.le_refl _)))
  have HB := hidden (fun m => CSize_any k.c k.d k.g k.r n X k.b0 k.b1 k.u (w.drewN m) (h.places.below (drewN_below (Below.refl _ _) m) (Nat.le_refl _)))
  generalize Mx.sz n k.m = s0 at *
  generalize Ck.sz X n = s1 at *
  have h3 : s0 ≤ 17179869184 := by omega
  have h4 : s1 ≤ 17179869184 := by omega
  clear h h1 h2
  go_enter Tryz.func19, Tryz.ntmps19
  go_wp2_with fail
  go_quiet (first
    | (go_at_call 43; exact Calls.quiet_of_same (HA.out _))
    | (go_at_call 44; exact Calls.quiet_of (HB.out _)))
  go_wp2_with fail
  go_ret
  refine ⟨ret_int ?_, nq, rfl⟩
  omega
set_option maxHeartbeats 1000000 in
set_option maxRecDepth 100000 in
theorem NestTells_many (q : List Int) (a : Int) (u v : Value) (w : World) (hq : Ints w v q) (hn : 10 < q.length) (hm : q.length ≤ 9223372036854775807) (hT : Tab w) :
    Calls Tryz.prog 3 #[u, v, .int .i64 a] w fun e w' => e = .returned (.bool true) ∧ Below w.heap.size w w' := by
  obtain ⟨aq, capq, rfl, hcapq, _⟩ := hq.cells
  have hn' : (10 : Int) < (q.length : Int) := by omega
  have HT := hidden hT
  clear hq hT
  go_enter Tryz.func3, Tryz.ntmps3
  go_wp2_with fail
  refine (awake8_any w HT.out).mono ?_
  rintro e w1 ⟨rfl, hq1⟩
  have HQ1 := hidden hq1
  clear hq1
  go_wp2_with fail
  refine (awake8_any w1 (HT.out.below HQ1.out (Nat.le_refl _))).mono ?_
  rintro e w2 ⟨rfl, hq2⟩
  have HQ2 := hidden hq2
  clear hq2
  go_wp2_with fail
  go_ret
  exact ⟨rfl, HQ1.out.trans (HQ2.out.mono HQ1.out.size)⟩
set_option maxHeartbeats 4000000 in
set_option maxRecDepth 100000 in
theorem NestTells_none (l : List (Bool × Nat)) (q : List Int) (a : Int) (u v : Value) (w : World) (h : Pcs w u l) (hl : l.length ≤ 9223372036854775807) (hq : Ints w v q) (hn : q.length ≤ 10) (hb : Pn.bal (Bt.num (Mx.allOf l)) (Mx.allOf l).length = false) (hT : Tab w) :
    Calls Tryz.prog 3 #[u, v, .int .i64 a] w fun e w' => e = .returned (.bool true) ∧ Below w.heap.size w w' := by
  obtain ⟨aq, capq, rfl, hcapq, _⟩ := hq.cells
  have hn' : ¬ ((10 : Int) < (q.length : Int)) := by omega
  have HT := hidden hT
  have HP := hidden h
  have HLEN := hidden (Mx.bitsOf_len l (min l.length 400))
  have HBal := hidden hb
  clear h hq hT hb
  go_enter Tryz.func3, Tryz.ntmps3
  go_wp2_with fail
  refine (awake8_any w HT.out).mono ?_
  rintro e' w1 ⟨rfl, hq1⟩
  have HQ1 := hidden hq1
  have HP1 := hidden (HP.out.below hq1 (Nat.le_refl _))
  clear hq1
  go_wp2_with fail
  refine (Bits7_any l u w1 HP1.out hl).mono ?_
  rintro e' w2 ⟨v2, rfl, hb2, hq2⟩
  have hLL : (Mx.allOf l).length ≤ 4000 := HLEN.out
  have HB2 : Hid (Bl w2 v2 (Mx.allOf l)) := hb2
  have HQ2 := hidden (HQ1.out.trans (hq2.mono HQ1.out.size))
  clear hb2 hq2
  generalize Mx.allOf l = L at *
  go_wp2_with fail
  refine (Made_any L v2 w2 HB2.out (by omega)).mono ?_
  rintro e' w3 ⟨r3, u3, rfl, hr3, hq3, _, _⟩
  have HR3 := hidden hr3
  have HB3 : Hid (Bl w3 v2 L) := HB2.out.below hq3 (Nat.le_refl _)
  have HQ3 := hidden (HQ2.out.trans (hq3.mono HQ2.out.size))
  clear hr3 hq3
  go_wp2_with fail
  refine (NNew_none r3 _ _ u3 _ HR3.out HBal.out).mono ?_
  rintro e' w4 ⟨rfl, hq4⟩
  have HB4 : Hid (Bl w4 v2 L) := HB3.out.below hq4 (Nat.le_refl _)
  have HQ4 := hidden (HQ3.out.trans (hq4.mono HQ3.out.size))
  clear hq4
  go_wp2_with fail
  refine (rBalanced_any L _ w4 HB4.out.view (by omega)).mono ?_
  rintro e' w5 ⟨rfl, rfl⟩
  rw [HBal.out]
  go_wp2_with fail
  go_ret
  exact ⟨rfl, HQ4.out⟩
set_option maxHeartbeats 8000000 in
set_option maxRecDepth 100000 in
theorem NestTells_nest (l : List (Bool × Nat)) (q : List Int) (a : Int) (u v : Value) (w : World) (h : Pcs w u l) (hl : l.length ≤ 9223372036854775807) (hq : Ints w v q) (hn : q.length ≤ 10) (hb : Pn.bal (Bt.num (Mx.allOf l)) (Mx.allOf l).length = true) (ha : a ≤ 9223372036854775807) (ha0 : -9223372036854775808 ≤ a) (hT : Tab w) :
    Calls Tryz.prog 3 #[u, v, .int .i64 a] w fun e w' => e = .returned (.bool true) ∧ Below w.heap.size w w' := by
  have HA := hidden hq
  obtain ⟨aq, capq, hvq, hcapq, _⟩ := hq.cells
  subst hvq
  have hn' : ¬ ((10 : Int) < (q.length : Int)) := by omega
  have HT := hidden hT
  have HP := hidden h
  have HLEN := hidden (Mx.bitsOf_len l (min l.length 400))
  have HBal := hidden hb
  clear h hq hT hb
  go_enter Tryz.func3, Tryz.ntmps3
  go_wp2_with fail
  refine (awake8_any w HT.out).mono ?_
  rintro e' w1 ⟨rfl, hq1⟩
  have HQ1 := hidden hq1
  have HP1 := hidden (HP.out.below hq1 (Nat.le_refl _))
  clear hq1
  go_wp2_with fail
  refine (Bits7_any l u w1 HP1.out hl).mono ?_
  rintro e' w2 ⟨v2, rfl, hb2, hq2⟩
  have hLL : (Mx.allOf l).length ≤ 4000 := HLEN.out
  have HB2 : Hid (Bl w2 v2 (Mx.allOf l)) := hb2
  have HQ2 := hidden (HQ1.out.trans (hq2.mono HQ1.out.size))
  clear hb2 hq2
  generalize Mx.allOf l = L at *
  go_wp2_with fail
  refine (Made_any L v2 w2 HB2.out (by omega)).mono ?_
  rintro e' w3 ⟨r3, u3, rfl, hr3, hq3, _, _⟩
  have HR3 := hidden hr3
  have HB3 : Hid (Bl w3 v2 L) := HB2.out.below hq3 (Nat.le_refl _)
  have HQ3 := hidden (HQ2.out.trans (hq3.mono HQ2.out.size))
  clear hr3 hq3
  go_wp2_with fail
  refine (NNew_any r3 _ _ u3 _ HR3.out (HT.out.below HQ3.out (Nat.le_refl _)) HBal.out).mono ?_
  rintro e' w4 ⟨z, kk, rfl, hz4, hq4⟩
  have HN4 := hidden hz4
  have HB4 : Hid (Bl w4 v2 L) := HB3.out.below hq4 (Nat.le_refl _)
  have HQ4 := hidden (HQ3.out.trans (hq4.mono HQ3.out.size))
  clear hz4 hq4
  go_wp2_with fail
  refine (rBalanced_any L _ w4 HB4.out.view (by omega)).mono ?_
  rintro e' w5 ⟨rfl, rfl⟩
  rw [HBal.out]
  obtain ⟨X, hX⟩ : ∃ X, X = Bt.num L := ⟨_, rfl⟩
  obtain ⟨n, hnL⟩ : ∃ n, n = L.length := ⟨_, rfl⟩
  rw [← hX, ← hnL] at HN4
  have HND := hidden (Nodes_ref L X n v2 w5 HB4.out.view hX hnL HN4.out.ok (by omega))
  obtain ⟨ao2, cap2, hv2, hcap2⟩ := HB4.out.view
  subst hv2
  have hn4 : n ≤ 4000 := by omega
  rw [← hnL] at HND hcap2 ⊢
  have HOK := hidden HN4.out.ok
  clear hX hnL hLL HLEN HBal HR3 HB2 HB3 HB4 HP HP1 HQ1 HQ2 HQ3 hcap2
  go_wp2_with fail
  refine HND.out.mono ?_
  rintro e' w6 ⟨v6, rfl, ho6, hb6⟩
  have HV6 := hidden (Ns.Nw.of ho6)
  have HN6 := hidden (HN4.out.below hb6 (Nat.le_refl _))
  have HQ6 := hidden (HQ4.out.trans (hb6.mono HQ4.out.size))
  have HA6 := hidden (HA.out.below HQ6.out (Nat.le_refl _))
  have HT6 := hidden (HT.out.below HQ6.out (Nat.le_refl _))
  clear ho6 hb6 HND HN4 HQ4 HA HT
  go_wp2_with fail
  go_loopw [11] (fun s11 wr => ∃ k : Nat, k ≤ q.length ∧ s11 = .int .i64 (k : Nat) ∧ Below w6.heap.size w6 wr) (fun s11 _ => q.length - (intOf s11).toNat)
  case atStart => exact ⟨0, by omega, rfl, Below.refl _ _⟩
  case round =>
    obtain ⟨k, hk, rfl, hbr⟩ := hrel
    have HBR := hidden hbr
    have HNr := hidden (HN6.out.below hbr (Nat.le_refl _))
    have HVr := hidden (HV6.out.below hbr (Nat.le_refl _))
    have HTr := hidden (HT6.out.below hbr (Nat.le_refl _))
    obtain ⟨ar, cr, hvr, hcr, hqc⟩ := (HA6.out.below hbr (Nat.le_refl _)).cells
    simp only [Value.slice.injEq, true_and] at hvr
    obtain ⟨rfl, rfl⟩ := hvr
    clear hbr
    by_cases hlt : k < q.length
    · obtain ⟨gq, off, rfl, hgq, hcell⟩ := hqc (by omega)
      have c0 := hcell k hlt
      obtain ⟨b, hb⟩ : ∃ b : Int, b = q.getD k 0 := ⟨_, rfl⟩
      rw [← hb] at c0
      have hlt' : (k : Int) < (q.length : Int) := by omega
      have hnu := Number_ref X n v6 b wr HVr.out HOK.out (by omega)
      clear hqc hcell hb
      by_cases hon : Ns.on X b = true
      · obtain ⟨j, rfl, hj⟩ := (Ns.on_iff HOK.out b).1 hon
        have h5 : Ns.numOf X (j : Int) = ((Wd.ones X j : Nat) : Int) := by unfold Ns.numOf; rw [if_pos hon, Int.toNat_natCast]
        rw [h5] at hnu
        have HNU := hidden hnu
        have HND := hidden (node_ref z n X (Wd.ones X j) a kk v6 wr HNr.out HVr.out (Ns.rank_lt hj) hn4 ha)
        generalize Wd.ones X j = r at *
        have hr0 : (0 : Int) ≤ (r : Int) := by omega
        clear hnu h5 hon hj
        go_wp2_with fail
        refine HNU.out.mono ?_
        rintro e' w7 ⟨rfl, rfl⟩
        go_wp2_with fail
        refine HND.out.mono ?_
        rintro e' w8 ⟨rfl, hb8⟩
        have HB8 := hidden (HBR.out.trans (hb8.mono HBR.out.size))
        clear hb8
        go_wp2_with fail
        exact ⟨⟨k + 1, by omega, by go_num, HB8.out⟩, by simp [intOf]; omega⟩
      · have hon' : Ns.on X b = false := by cases hh : Ns.on X b with | false => rfl | true => exact absurd hh hon
        have h5 : Ns.numOf X b = -1 := by unfold Ns.numOf; rw [hon']; rfl
        rw [h5] at hnu
        have HNU := hidden hnu
        have HON := hidden hon'
        clear hnu h5 hon hon'
        go_wp2_with fail
        refine HNU.out.mono ?_
        rintro e' w7 ⟨rfl, rfl⟩
        clear HNU
        go_wp2_with fail
        refine (Close_not z n X kk b w7 HNr.out HON.out).mono ?_
        rintro e' w8 ⟨rfl, rfl⟩
        go_wp2_with fail
        refine (Parent_not z n X kk b w8 HNr.out HON.out).mono ?_
        rintro e' w9 ⟨rfl, rfl⟩
        go_wp2_with fail
        refine (Child_not z n X kk b a w9 HNr.out HON.out).mono ?_
        rintro e' wa ⟨rfl, hba⟩
        have HBa := hidden (HBR.out.trans (hba.mono HBR.out.size))
        have HNa := hidden (HNr.out.below hba (Nat.le_refl _))
        have c0a := Ns.cell_after hba c0
        clear hba c0
        go_wp2_with fail
        refine (Depth_not z n X kk b wa HNa.out HON.out).mono ?_
        rintro e' wb ⟨rfl, rfl⟩
        go_wp2_with fail
        refine (Prev_not z n X kk b wb HNa.out HON.out).mono ?_
        rintro e' wc ⟨rfl, rfl⟩
        go_wp2_with fail
        exact ⟨⟨k + 1, by omega, by go_num, HBa.out⟩, by simp [intOf]; omega⟩
    · obtain rfl : k = q.length := by omega
      have hlt' : ¬ ((q.length : Int) < (q.length : Int)) := by omega
      have HQr := hidden (HQ6.out.trans (HBR.out.mono HQ6.out.size))
      have hsz1 := Mx.sz_le n kk.m (fun i hi => HNr.out.tree.more i hi)
      have hsz2 := Ck.sz_le X n HOK.out.lt
      have HSZ := hidden (fun W (hW : Nt W z n X kk) => NSize_any z n X kk W hW)
      obtain ⟨sz, hsz⟩ : ∃ sz, sz = Mx.sz n kk.m + Ck.sz X n := ⟨_, rfl⟩
      rw [← hsz] at HSZ
      have hs0 : (0 : Int) ≤ (sz : Int) := by omega
      have hs1 : (sz : Int) ≤ 4 * (n : Int) + 4096 := by omega
      have HNO := hidden (fun W (hW : Nt W z n X kk) => Nodes_any z n X kk W hW)
      obtain ⟨ao6, cap6, hv6, hcap6, hc6⟩ := HVr.out.form
      have hN4 : Wd.ones X n ≤ 4000 := Nat.le_trans (Wd.ones_le X n) hn4
      have hdec := Ck.dec X n a
      have HLIST := hidden HVr.out
      have HAT2 := hidden (fun j p (hp : Ck.At X n j p) => Node_at z n X j p kk wr HNr.out HTr.out hp)
      have HNN2 := hidden (fun hp => Node_none z n X a kk wr HNr.out hp)
      have HPL := hidden (fun j p (hp : Ck.At X n j p) => show Ns.pl X n j = p from Ck.pl_eq hp)
      have HBL := hidden (fun j p (hp : Ck.At X n j p) => hp.below)
      obtain ⟨N, hN⟩ : ∃ N, N = Wd.ones X n := ⟨_, rfl⟩
      rw [← hN] at HNO hcap6 hc6 hN4 hdec HNN2 HBL
      have hv6' : v6 = .slice ao6 N cap6 := by rw [hN]; exact hv6
      clear hv6
      subst hv6'
      clear hsz hsz1 hsz2 hN hqc hcr
      rcases hdec with ⟨j, p, rfl, hp⟩ | hout
      · have hjN := HBL.out j p hp
        obtain ⟨g6, rfl, hg6, hcell⟩ := hc6 (by omega)
        have c0 := hcell j 0 hjN (by decide)
        rw [Ns.nf_at, HPL.out j p hp, Nat.add_zero] at c0
        have HNDE := hidden (HAT2.out j p hp)
        have hj0 : (0 : Int) ≤ (j : Int) := by omega
        have hj1 : (j : Int) < (N : Int) := by omega
        have hmm : max (min (j : Int) ((N : Int) - 1)) 0 = (j : Int) := by omega
        have hmn : min (j : Int) ((N : Int) - 1) = (j : Int) := by omega
        have hmx : max (j : Int) 0 = (j : Int) := by omega
        clear hcell hc6 hp HAT2 HNN2 HPL HBL
        go_wp2_with fail
        refine HNDE.out.mono ?_
        rintro e' w7 ⟨rfl, hb7⟩
        have HN7 := hidden (HNr.out.below hb7 (Nat.le_refl _))
        have HQ7 := hidden (HQr.out.trans (hb7.mono HQr.out.size))
        have c7 := Ns.cell_after hb7 c0
        clear hb7 c0
        go_wp2_with fail
        refine (HNO.out w7 HN7.out).mono ?_
        rintro e' w8 ⟨rfl, m8, rfl⟩
        have hb8 : Below w7.heap.size w7 (w7.drewN m8) := drewN_below (Below.refl _ _) _
        have HN8 := hidden (HN7.out.below hb8 (Nat.le_refl _))
        have HQ8 := hidden (HQ7.out.trans (hb8.mono HQ7.out.size))
        have c8 := Ns.cell_after hb8 c7
        generalize w7.drewN m8 = w8 at *
        clear hb8
        go_wp2_with fail
        refine (HSZ.out w8 HN8.out).mono ?_
        rintro e' w9 ⟨rfl, m9, rfl⟩
        have hb9 : Below w8.heap.size w8 (w8.drewN m9) := drewN_below (Below.refl _ _) _
        have HN9 := hidden (HN8.out.below hb9 (Nat.le_refl _))
        have HQ9 := hidden (HQ8.out.trans (hb9.mono HQ8.out.size))
        have c9 := Ns.cell_after hb9 c8
        generalize w8.drewN m9 = w9 at *
        clear hb9
        go_wp2_with fail
        refine (HSZ.out w9 HN9.out).mono ?_
        rintro e' wa ⟨rfl, ma, rfl⟩
        have hba : Below w9.heap.size w9 (w9.drewN ma) := drewN_below (Below.refl _ _) _
        have HQa := hidden (HQ9.out.trans (hba.mono HQ9.out.size))
        have ca := Ns.cell_after hba c9
        generalize w9.drewN ma = wa at *
        clear hba
        go_wp2_with fail
        go_ret
        exact ⟨rfl, HQa.out⟩
      · have HNDE := hidden (HNN2.out hout)
        clear hc6 HAT2 HNN2 HPL HBL
        rcases hout with ho | ho
        · have ho2 : ¬ ((0 : Int) ≤ a) := by omega
          go_wp2_with fail
          refine HNDE.out.mono ?_
          rintro e' w7 ⟨rfl, hb7⟩
          have HN7 := hidden (HNr.out.below hb7 (Nat.le_refl _))
          have HQ7 := hidden (HQr.out.trans (hb7.mono HQr.out.size))
          clear hb7
          go_wp2_with fail
          refine (HNO.out w7 HN7.out).mono ?_
          rintro e' w8 ⟨rfl, m8, rfl⟩
          have hb8 : Below w7.heap.size w7 (w7.drewN m8) := drewN_below (Below.refl _ _) _
          have HN8 := hidden (HN7.out.below hb8 (Nat.le_refl _))
          have HQ8 := hidden (HQ7.out.trans (hb8.mono HQ7.out.size))
          generalize w7.drewN m8 = w8 at *
          clear hb8
          go_wp2_with fail
          refine (HSZ.out w8 HN8.out).mono ?_
          rintro e' w9 ⟨rfl, m9, rfl⟩
          have hb9 : Below w8.heap.size w8 (w8.drewN m9) := drewN_below (Below.refl _ _) _
          have HN9 := hidden (HN8.out.below hb9 (Nat.le_refl _))
          have HQ9 := hidden (HQ8.out.trans (hb9.mono HQ8.out.size))
          generalize w8.drewN m9 = w9 at *
          clear hb9
          go_wp2_with fail
          refine (HSZ.out w9 HN9.out).mono ?_
          rintro e' wa ⟨rfl, ma, rfl⟩
          have hba : Below w9.heap.size w9 (w9.drewN ma) := drewN_below (Below.refl _ _) _
          have HQa := hidden (HQ9.out.trans (hba.mono HQ9.out.size))
          generalize w9.drewN ma = wa at *
          clear hba
          go_wp2_with fail
          go_ret
          exact ⟨rfl, HQa.out⟩
        · have ho0 : (0 : Int) ≤ a := by omega
          have ho1 : ¬ (a < 0) := by omega
          have ho2 : ¬ (a < (N : Int)) := by omega
          go_wp2_with fail
          refine HNDE.out.mono ?_
          rintro e' w7 ⟨rfl, hb7⟩
          have HN7 := hidden (HNr.out.below hb7 (Nat.le_refl _))
          have HQ7 := hidden (HQr.out.trans (hb7.mono HQr.out.size))
          clear hb7
          go_wp2_with fail
          refine (HNO.out w7 HN7.out).mono ?_
          rintro e' w8 ⟨rfl, m8, rfl⟩
          have hb8 : Below w7.heap.size w7 (w7.drewN m8) := drewN_below (Below.refl _ _) _
          have HN8 := hidden (HN7.out.below hb8 (Nat.le_refl _))
          have HQ8 := hidden (HQ7.out.trans (hb8.mono HQ7.out.size))
          generalize w7.drewN m8 = w8 at *
          clear hb8
          go_wp2_with fail
          refine (HSZ.out w8 HN8.out).mono ?_
          rintro e' w9 ⟨rfl, m9, rfl⟩
          have hb9 : Below w8.heap.size w8 (w8.drewN m9) := drewN_below (Below.refl _ _) _
          have HN9 := hidden (HN8.out.below hb9 (Nat.le_refl _))
          have HQ9 := hidden (HQ8.out.trans (hb9.mono HQ8.out.size))
          generalize w8.drewN m9 = w9 at *
          clear hb9
          go_wp2_with fail
          refine (HSZ.out w9 HN9.out).mono ?_
          rintro e' wa ⟨rfl, ma, rfl⟩
          have hba : Below w9.heap.size w9 (w9.drewN ma) := drewN_below (Below.refl _ _) _
          have HQa := hidden (HQ9.out.trans (hba.mono HQ9.out.size))
          generalize w9.drewN ma = wa at *
          clear hba
          go_wp2_with fail
          go_ret
          exact ⟨rfl, HQa.out⟩
theorem NestTells_walk (l : List (Bool × Nat)) (q : List Int) (a : Int) (u v : Value) (w : World) (h : Pcs w u l) (hm : l.length ≤ 9223372036854775807) (hq : Ints w v q) (hm2 : q.length ≤ 9223372036854775807) (ha0 : -9223372036854775808 ≤ a) (ha : a ≤ 9223372036854775807) (hT : Tab w) :
    Calls Tryz.prog 3 #[u, v, .int .i64 a] w fun e w' => e = .returned (.bool true) ∧ Below w.heap.size w w' := by
  by_cases hn : q.length ≤ 10
  · cases hb : Pn.bal (Bt.num (Mx.allOf l)) (Mx.allOf l).length with
    | true => exact NestTells_nest l q a u v w h hm hq hn hb ha ha0 hT
    | false => exact NestTells_none l q a u v w h hm hq hn hb hT
  · exact NestTells_many q a u v w hq (by omega) hm2 hT
end Go.Proofs.YtmeclkmmgbndkaaGreatDoor
