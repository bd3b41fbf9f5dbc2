/-
  The contract of laceworkref10's Whole: for every text of up to a million bytes; memory is but made.
-/
import Derived.Test.YthimbaflodphmaaDoorNuRefAsk
namespace Go.Proofs.YthimbaflodphmaaDoor
open Go.RowKit Go.Sort
open Nu
namespace Nu
theorem tell_zero {p : Pt} {m : Nat} (hp : p.Ok m) (hm : m ≤ 1000000) (h : ∀ j, j < (p.wh ++ p.fr).length → df (p.wh ++ p.fr) j = 0) : wholeZ (some p) = (0, true) := by
  have hk := hp.key_eq hm
  rw [dn_noughts _ _ h, key_zero] at hk
  have hw : wholeZ (some p) = if p.key % 10 ≠ 0 ∨ 90071992547409910 < p.key then (0, false) else (if p.neg then -((p.key / 10 : Nat) : Int) else ((p.key / 10 : Nat) : Int), true) := rfl
  rw [← hk] at hw
  rw [hw, if_neg (by omega)]
  cases p.neg <;> rfl
end Nu
set_option maxHeartbeats 4000000 in
set_option maxRecDepth 100000 in
theorem rWhole10_any (l : List UInt8) (w : World) (hs : l.length ≤ 1000000) :
    Calls Tryd.prog 12 #[.string (str l)] w fun e w' => e = .returned (.tuple #[.int .i64 (wholeZ (Nu.read l)).1, .bool (wholeZ (Nu.read l)).2]) ∧ Below w.heap.size w w' := by
  have hr := rRead_any l w hs
  cases hR : Nu.read l with
  | none =>
    rw [hR] at hr
    clear hR
    have hz : wholeZ none = (0, false) := rfl
    rw [hz]
    clear hz
    go_enter Tryd.func12, Tryd.ntmps12
    go_wp2_with fail
    refine hr.mono ?_
    rintro e w2 ⟨rfl, hb⟩
    have HB := hidden hb
    clear hb
    go_wp2_with fail
    go_ret2
    exact ⟨rfl, HB.out.alloc HB.out.size _⟩
  | some p =>
    rw [hR] at hr
    obtain ⟨L, F, P, E, hG⟩ := got hR
    have HG := hidden hG
    clear hR hG
    obtain ⟨q, hq⟩ : ∃ q, q = wholeZ (some p) := ⟨_, rfl⟩
    rw [← hq]
    obtain ⟨za, hza⟩ := told (∀ j, j < L → F j = 0)
    have hzero : za = true → q = (0, true) := fun h => by
      rw [hq]
      have h2 := hza.1 h
      rw [HG.out.hL, HG.out.hF] at h2
      exact tell_zero HG.out.ok hs h2
    have htips : za = false → ∃ i j, Tips F L i j := fun h => tips_of HG.out.past fun h2 => by
      rw [hza.2 h2] at h
      cases h
    have hwi : ∀ i j, Tips F L i j → WholeIs p F (P + E - 1) i j := fun i j ht => by
      rw [HG.out.hL, HG.out.hF] at ht
      rw [HG.out.hF, HG.out.hP, HG.out.hE]
      exact tell_whole HG.out.ok hs ht
    have g1 := HG.out.le
    have g2 := HG.out.p0
    have g3 := HG.out.p1
    have g4 := HG.out.e0
    have g5 := HG.out.e1
    have hZ := fun (v : World) (g cap : Nat) (hl : Lies v g F L) => rZero10_any p.neg g L cap P E F v hl.dg (by omega) za hza
    have hT := fun (v : World) (g cap i j : Nat) (ht : Tips F L i j) (hl : Lies v g F L) => rTop10_any p.neg g L cap P E F v hl.dg (by omega) (by omega) (by omega) i ht.lt ht.ne ht.ahead
    have hLo := fun (v : World) (g cap i j : Nat) (ht : Tips F L i j) (hl : Lies v g F L) => rLow10_any p.neg g L cap P E F v hl.dg (by omega) (by omega) (by omega) j ht.lt2 ht.ne2 ht.past
    have hA := fun (v : World) (g cap : Nat) (k : Int) (hk : -100000000000000 ≤ k ∧ k ≤ 100000000000000) (hl : Lies v g F L) => rAt10_any p.neg g L cap P E k F v hl.dg (by omega) (by omega) (by omega) hk HG.out.past
    unfold nv at hZ hT hLo hA
    have HZ := hidden hZ
    have HT := hidden hT
    have HLO := hidden hLo
    have HA := hidden hA
    have HZERO := hidden hzero
    have HTIPS := hidden htips
    have HWI := hidden hwi
    have HQ := hidden hq
    clear hZ hT hLo hA hzero htips hwi hza hq
    go_enter Tryd.func12, Tryd.ntmps12
    go_wp2_with fail
    refine hr.mono ?_
    intro e w2 hpost
    obtain ⟨g, cap, rfl, hlies, hb⟩ := rr_some HG.out.hL HG.out.hF HG.out.hP HG.out.hE HG.out.pos hpost
    have HB := hidden hb
    have HL := hidden hlies
    clear hb hlies hpost hr
    unfold nv
    go_wp2_with fail
    obtain ⟨w3, hw3⟩ : ∃ w3, w3 = w2.alloc (.cells #[.bool p.neg, .slice (some ⟨g, 0, none⟩) L cap, .int .i64 P, .int .i64 E] 47) := ⟨_, rfl⟩
    have hrow : w3.heap[w2.heap.size]? = some (.cells #[.bool p.neg, .slice (some ⟨g, 0, none⟩) L cap, .int .i64 P, .int .i64 E] 47 (0, 0)) := by rw [hw3]; exact heap_alloc_new _ _
    have hb3 : Below w2.heap.size w2 w3 := by rw [hw3]; exact bel_new _ _
    rw [← hw3]
    have HL3 := hidden (HL.out.below hb3)
    have HBW := hidden (bel_then HB.out hb3)
    have hc : ∀ v, Below w3.heap.size w3 v → v.cell? ⟨w2.heap.size, 0, none⟩ = some (.bool p.neg) ∧ v.cell? ⟨w2.heap.size, 1, none⟩ = some (.slice (some ⟨g, 0, none⟩) L cap) ∧ v.cell? ⟨w2.heap.size, 2, none⟩ = some (.int .i64 P) ∧ v.cell? ⟨w2.heap.size, 3, none⟩ = some (.int .i64 E) := fun v hv => by
      have h := (hv.block _ (lt_of_block hrow)).trans hrow
      exact ⟨Lib.cell_of_heap h 0, Lib.cell_of_heap h 1, Lib.cell_of_heap h 2, Lib.cell_of_heap h 3⟩
    have HC := hidden hc
    have HB3 := hidden (Below.refl w3.heap.size w3)
    clear hw3 hrow hb3 hc
    generalize w2.heap.size = z at HC ⊢
    obtain ⟨c0, c1, c2, c3⟩ := HC.out _ HB3.out
    go_wp2_with fail
    refine (HZ.out _ g cap (HL3.out.below HB3.out)).mono ?_
    rintro e w4 ⟨rfl, hb4⟩
    have HB4 := hidden (bel_then HB3.out hb4)
    clear hb4 c0 c1 c2 c3
    cases za with
    | true =>
      have hqq := HZERO.out rfl
      subst hqq
      go_wp2_with fail
      go_ret2
      exact ⟨rfl, bel_then HBW.out HB4.out⟩
    | false =>
      obtain ⟨i, j, ht⟩ := HTIPS.out rfl
      have hwi := HWI.out i j ht
      have hij : i ≤ j := Nat.le_of_not_lt fun h => ht.ne (ht.past i h)
      have hjL := ht.lt2
      have hTT := fun v g cap hl => HT.out v g cap i j ht hl
      have hLL := fun v g cap hl => HLO.out v g cap i j ht hl
      have hfl := fun k => fl_lt (P := P + E - 1) (i := i) HG.out.nine ht.ahead k
      have hst := fl_step F (P + E - 1)
      have hle0 := fun k hk => fl_le (P := P + E - 1) HG.out.nine k hk
      clear HT HLO HTIPS HZERO HWI HZ ht
      obtain ⟨T, hT⟩ : ∃ T, T = P + E - 1 - (i : Int) := ⟨_, rfl⟩
      obtain ⟨W, hW⟩ : ∃ W, W = P + E - 1 - (j : Int) := ⟨_, rfl⟩
      have hw1 : W < 0 → q = (0, false) := fun h => by rw [HQ.out]; exact hwi.low (by omega)
      have hw2 : 15 < T → q = (0, false) := fun h => by rw [HQ.out]; exact hwi.top (by omega)
      have hw3 : 0 ≤ W → T ≤ 15 → 9007199254740991 < fl F (P + E - 1) 0 → q = (0, false) := fun h h2 h3 => by rw [HQ.out]; exact hwi.big (by omega) (by omega) h3
      have hw4 : 0 ≤ W → T ≤ 15 → fl F (P + E - 1) 0 ≤ 9007199254740991 → q = (sgn p.neg (fl F (P + E - 1) 0), true) := fun h h2 h3 => by rw [HQ.out]; exact hwi.is (by omega) (by omega) h3
      simp only [← hT] at hTT hfl
      simp only [← hW] at hLL
      have hWT : W ≤ T := by omega
      have hTb : T ≤ 10000000000000 := by omega
      have hWb : -10000000000000 ≤ W := by omega
      generalize fl F (P + E - 1) = Q at hfl hst hle0 hw3 hw4
      generalize dt F (P + E - 1) = D at hst HA
      have HTT := hidden hTT
      have HLL := hidden hLL
      have HFL := hidden hfl
      have HST := hidden hst
      have HLE := hidden hle0
      have HW1 := hidden hw1
      have HW2 := hidden hw2
      have HW3 := hidden hw3
      have HW4 := hidden hw4
      clear hTT hLL hfl hst hle0 hw1 hw2 hw3 hw4 hT hW hwi hij hjL HQ
      obtain ⟨c0, c1, c2, c3⟩ := HC.out _ HB4.out
      go_wp2_with fail
      refine (HLL.out _ g cap (HL3.out.below HB4.out)).mono ?_
      rintro e w5 ⟨rfl, hb5⟩
      have HB5 := hidden (bel_then HB4.out hb5)
      clear hb5 c0 c1 c2 c3
      by_cases hW0 : W < 0
      · have hqq := HW1.out hW0
        subst hqq
        go_wp2_with fail
        go_ret2
        exact ⟨rfl, bel_then HBW.out HB5.out⟩
      · have hW1 : 0 ≤ W := by omega
        obtain ⟨c0, c1, c2, c3⟩ := HC.out _ HB5.out
        go_wp2_with fail
        refine (HTT.out _ g cap (HL3.out.below HB5.out)).mono ?_
        rintro e w6 ⟨rfl, hb6⟩
        have HB6 := hidden (bel_then HB5.out hb6)
        clear hb6 c0 c1 c2 c3
        by_cases hT15 : 15 < T
        · have hqq := HW2.out hT15
          subst hqq
          go_wp2_with fail
          go_ret2
          exact ⟨rfl, bel_then HBW.out HB6.out⟩
        · have hT2 : T ≤ 15 := by omega
          obtain ⟨c0, c1, c2, c3⟩ := HC.out _ HB6.out
          go_wp2_with fail
          refine (HTT.out _ g cap (HL3.out.below HB6.out)).mono ?_
          rintro e w7 ⟨rfl, hb7⟩
          have HB7 := hidden (bel_then HB6.out hb7)
          clear hb7 c0 c1 c2 c3
          have hq0 : Q 0 < 10 ^ 16 := by
            have h1 := HFL.out 0
            have h2 : 10 ^ (T + 1 - 0).toNat ≤ 10 ^ 16 := pow_le (by omega)
            omega
          have HQ0 := hidden hq0
          clear hq0
          go_wp2_with fail
          go_loopw [6, 7] (fun nn kk wr => ∃ k : Int, -1 ≤ k ∧ k ≤ T ∧ kk = .int .i64 k ∧ nn = .int .i64 ((Q (k + 1) : Nat) : Int) ∧ Hid (Below w3.heap.size w3 wr)) (fun _ kk _ => (intOf kk + 1).toNat)
          case atStart =>
            refine ⟨T, by omega, by omega, rfl, ?_, HB7⟩
            have h1 := HFL.out (T + 1)
            rw [show (T + 1 - (T + 1)).toNat = 0 by omega] at h1
            rw [show Q (T + 1) = 0 by omega]
            rfl
          case round =>
            obtain ⟨k, hk1, hk2, rfl, rfl, HB8⟩ := hrel
            by_cases hk0 : 0 ≤ k
            · have hs1 := HST.out k
              have hs2 := HLE.out k hk0
              have hs3 := HLE.out (k + 1) (by omega)
              have hs4 := HQ0.out
              obtain ⟨a, ha⟩ : ∃ a, a = Q (k + 1) := ⟨_, rfl⟩
              obtain ⟨b, hb⟩ : ∃ b, b = Q k := ⟨_, rfl⟩
              obtain ⟨d, hd⟩ : ∃ d, d = D k := ⟨_, rfl⟩
              rw [← ha, ← hb, ← hd] at hs1
              rw [← hb] at hs2
              rw [← ha] at hs3 ⊢
              have hA1 := HA.out
              have hat := fun v hl => hA1 v g cap k (by omega) hl
              rw [← hd] at hat
              have HAT := hidden hat
              obtain ⟨a10, ha10⟩ : ∃ x, x = a * 10 := ⟨_, rfl⟩
              have w1 : IntKind.i64.wrap ((a : Int) * 10) = (a10 : Int) := by rw [IntKind.wrap_i64]; omega
              have w2 : IntKind.i64.wrap (d : Int) = (d : Int) := by rw [IntKind.wrap_i64]; omega
              have w3' : IntKind.i64.wrap ((a10 : Int) + (d : Int)) = (b : Int) := by rw [IntKind.wrap_i64]; omega
              have w4 : IntKind.i64.wrap (k - 1) = k - 1 := by rw [IntKind.wrap_i64]; omega
              have HBQ := hidden hb
              clear hs1 hs2 hs3 hs4 ha hb hd hA1 hat ha10
              obtain ⟨c0, c1, c2, c3⟩ := HC.out _ HB8.out
              go_wp2_with fail
              refine (HAT.out _ (HL3.out.below HB8.out)).mono ?_
              rintro e w9 ⟨rfl, hb9⟩
              have HB9 := hidden (bel_then HB8.out hb9)
              clear hb9 c0 c1 c2 c3
              go_wp2_with fail
              go_roundw
              case rel => exact ⟨k - 1, by omega, by omega, rfl, by rw [Int.sub_add_cancel, ← HBQ.out], HB9⟩
              case measure => simp [intOf]; omega
            · obtain rfl : k = -1 := by omega
              have hqe : Q (-1 + 1) = Q 0 := rfl
              rw [hqe]
              have hq0 := HQ0.out
              have hw3 := HW3.out hW1 hT2
              have hw4 := HW4.out hW1 hT2
              obtain ⟨v, hv⟩ : ∃ v, v = Q 0 := ⟨_, rfl⟩
              rw [← hv] at hw3 hw4 hq0 ⊢
              have hv1 : 9007199254740991 < v → ¬ (v : Int) ≤ 9007199254740991 := fun h => by omega
              have wn : IntKind.i64.wrap (-(v : Int)) = -(v : Int) := by rw [IntKind.wrap_i64]; omega
              obtain ⟨c0, c1, c2, c3⟩ := HC.out _ HB8.out
              have HV := hidden hv
              have HW3' := hidden hw3
              have HW4' := hidden hw4
              clear hv hw3 hw4 hqe hv1
              by_cases hbig : 9007199254740991 < v
              · have hqq := HW3'.out hbig
                subst hqq
                cases hneg : p.neg with
                | true =>
                  rw [hneg] at c0
                  have hlt : -(v : Int) < -9007199254740991 := by omega
                  have hlt2 : ¬ 9007199254740991 < -(v : Int) := by omega
                  clear hneg
                  go_wp2_with fail
                  go_ret2
                  exact ⟨rfl, bel_then HBW.out HB8.out⟩
                | false =>
                  rw [hneg] at c0
                  clear hneg
                  go_wp2_with fail
                  go_ret2
                  exact ⟨rfl, bel_then HBW.out HB8.out⟩
              · have hqq := HW4'.out (by omega)
                have hsm : v ≤ 9007199254740991 := by omega
                cases hneg : p.neg with
                | true =>
                  rw [hneg] at c0 hqq
                  have e1 : sgn true v = -(v : Int) := rfl
                  rw [e1] at hqq
                  subst hqq
                  have hlt : ¬ -(v : Int) < -9007199254740991 := by omega
                  have hlt2 : ¬ 9007199254740991 < -(v : Int) := by omega
                  clear hneg hbig e1
                  go_wp2_with fail
                  go_ret2
                  exact ⟨rfl, bel_then HBW.out HB8.out⟩
                | false =>
                  rw [hneg] at c0 hqq
                  have e1 : sgn false v = (v : Int) := rfl
                  rw [e1] at hqq
                  subst hqq
                  have hlt : ¬ (v : Int) < -9007199254740991 := by omega
                  clear hneg hbig e1
                  go_wp2_with fail
                  go_ret2
                  exact ⟨rfl, bel_then HBW.out HB8.out⟩
end Go.Proofs.YthimbaflodphmaaDoor
