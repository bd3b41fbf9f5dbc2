/-
  The walk of the law SemiLong: it returns true for every two numbers; nothing that was there is changed.
-/
import Derived.Test.YtoipliflphbeiaaGreatDoorSmAwake
import Derived.Test.YtoipliflphbeiaaGreatDoorC14
namespace Go.Proofs.YtoipliflphbeiaaGreatDoor
open Go.RowKit
namespace Sm
theorem nums_le (d j : Nat) (hj : j ≤ 4000) (hd : d ≤ 12) : (91 :: Mk.nums d j).length ≤ 52001 := by
  rw [List.length_cons, Mk.nums_len]
  have := Nat.mul_le_mul hj (show d + 1 ≤ 13 by omega)
  omega
theorem row_more (l : List UInt8) (q : Nat) (b : UInt8) (c : Int) (hc : c = (b.toNat : Int)) : Lib.byteCells (l ++ List.replicate q b) ++ [Value.int .u8 c] = Lib.byteCells (l ++ List.replicate (q + 1) b) := by
  rw [hc, List.replicate_succ', ← List.append_assoc, Lib.byteCells_append (l ++ List.replicate q b) [b]]
  rfl
theorem row_comma (d j : Nat) : Lib.byteCells (91 :: Mk.nums d j ++ List.replicate d 55) ++ [Value.int .u8 44] = Lib.byteCells (91 :: Mk.nums d (j + 1)) := by
  rw [Mk.nums_last, show (91 : UInt8) :: (Mk.nums d j ++ (List.replicate d 55 ++ [44])) = (91 :: Mk.nums d j ++ List.replicate d 55) ++ [44] by simp, Lib.byteCells_append _ [44]]
  rfl
theorem len_more {l : List UInt8} {q N : Nat} {b : UInt8} (h : N = (l ++ List.replicate q b).length) : (l ++ List.replicate (q + 1) b).length = N + 1 := by
  rw [h, List.length_append, List.length_append, List.length_replicate, List.length_replicate]
  omega
theorem own_more {B n : Nat} {w : World} {v : Value} {l : List UInt8} {q : Nat} {b : UInt8} {c : Int} (hc : c = (b.toNat : Int)) (h : w.ownsRow B 5 1 v n (Lib.byteCells (l ++ List.replicate q b) ++ [Value.int .u8 c])) : w.ownsRow B 5 1 v n (Lib.byteCells (l ++ List.replicate (q + 1) b)) := by
  rw [← row_more l q b c hc]
  exact h
theorem own_comma {B n : Nat} {w : World} {v : Value} {d j : Nat} (h : w.ownsRow B 5 1 v n (Lib.byteCells (91 :: Mk.nums d j ++ List.replicate d 55) ++ [Value.int .u8 44])) : w.ownsRow B 5 1 v n (Lib.byteCells (91 :: Mk.nums d (j + 1))) := by
  rw [← row_comma]
  exact h
theorem row_end (d K M : Nat) (hM : M + 1 = (91 :: Mk.nums d (K + 1)).length) : (Lib.byteCells (91 :: Mk.nums d (K + 1))).set M (.int .u8 93) = Lib.byteCells (Mk.long d K) := by
  have e1 : 91 :: Mk.nums d (K + 1) = (91 :: (Mk.nums d K ++ List.replicate d 55)) ++ [44] := by rw [Mk.nums_last]; simp
  have e2 : Mk.long d K = (91 :: (Mk.nums d K ++ List.replicate d 55)) ++ [93] := by unfold Mk.long; simp
  rw [e1, List.length_append] at hM
  rw [e1, e2, Lib.byteCells_append, Lib.byteCells_append]
  have e3 : M = (Lib.byteCells (91 :: (Mk.nums d K ++ List.replicate d 55))).length := by
    rw [Lib.byteCells_length]
    have : ([44] : List UInt8).length = 1 := rfl
    omega
  rw [List.set_append_right _ _ (by omega), e3, Nat.sub_self]
  rfl
theorem long_len (d K : Nat) : (Mk.long d K).length = (91 :: Mk.nums d (K + 1)).length := by
  rw [Mk.nums_last]
  unfold Mk.long
  simp
theorem own_shape {B : Nat} {e : TypeId} {u : World} {v : Value} {n : Nat} {xs : List Value} (h : u.ownsRow B e 1 v n xs) (hn : 0 < n) : ∃ g cap, v = .slice (some ⟨g, 0, none⟩) n cap ∧ B ≤ g ∧ n ≤ cap := by
  rcases h.2 with ⟨_, h0⟩ | ⟨g, cap, cur, hv, hB, _, hnc, _⟩
  · omega
  · exact ⟨g, cap, hv, hB, hnc⟩
theorem long_nums (D K : Nat) (hK : K < 4000) (hD : D < 12) : er (Mk.long (D + 1) K) = 0 ∧ (P (Mk.long (D + 1) K)).length = K + 2 ∧ (∀ h, h < K + 2 → (P (Mk.long (D + 1) K)).getD h 0 = h * (D + 1 + 1)) ∧ Mk.on (B (Mk.long (D + 1) K)) = K + 2 := by
  have hp : P (Mk.long (D + 1) K) = 0 :: (List.range (K + 1)).map (fun j => (j + 1) * (D + 1 + 1)) := Mk.long_pl _ _
  refine ⟨er_of (D := 1) ?_ (Mk.long_out D K) (by omega), ?_, ?_, Mk.long_on _ _⟩
  · rw [long_len]
    have := nums_le (D + 1) (K + 1) (by omega) (by omega)
    omega
  · rw [hp, List.length_cons, List.length_map, List.length_range]
  · intro h hh
    rw [hp]
    cases h with
    | zero => rw [Nat.zero_mul]; rfl
    | succ h =>
      rw [List.getD_eq_getElem?_getD, List.getElem?_cons_succ, List.getElem?_map, List.getElem?_range (by omega)]
      rfl
end Sm
set_option maxHeartbeats 4000000 in
theorem SemiLong_nat (n z : Nat) (w : World) (hn : n ≤ 65535) (hz : z ≤ 255) (hT : Tab w) :
    Calls Tryz.prog 6 #[.int .u16 (n : Nat), .int .u8 (z : Nat)] w fun e w' => e = .returned (.bool true) ∧ Below w.heap.size w w' := by
  have HT := hidden hT
  obtain ⟨i0, hi, hz0, hz1, hz2⟩ := info_parts Tryz.infoByte
  obtain ⟨K, hK⟩ : ∃ K, K = n % 4000 := ⟨_, rfl⟩
  obtain ⟨D, hD⟩ : ∃ D, D = z % 12 := ⟨_, rfl⟩
  have hnK : (n : Int) % 4000 = (K : Int) := by omega
  have hzD : (z : Int) % 12 = (D : Int) := by omega
  have hnK2 : (n : Int).tmod 4000 = (K : Int) := by rw [Int.tmod_eq_emod_of_nonneg (by omega)]; exact hnK
  have hzD2 : (z : Int).tmod 12 = (D : Int) := by rw [Int.tmod_eq_emod_of_nonneg (by omega)]; exact hzD
  have hK2 : K < 4000 := by omega
  have hD2 : D < 12 := by omega
  obtain ⟨hq0, hqn, hqf, hqo⟩ := Sm.long_nums D K hK2 hD2
  obtain ⟨k, hk⟩ : ∃ k, k = K + 1 := ⟨_, rfl⟩
  obtain ⟨d, hd⟩ : ∃ d, d = D + 1 := ⟨_, rfl⟩
  have hk1 : 1 + (K : Int) = (k : Int) := by omega
  have hd1 : 1 + (D : Int) = (d : Int) := by omega
  have hk5 : k ≤ 4000 := by omega
  have hd5 : d ≤ 12 := by omega
  have hk0 : 1 ≤ k := by omega
  have hKk : K = k - 1 := by omega
  rw [← hd] at hq0 hqn hqf hqo
  rw [show K + 2 = k + 1 by omega] at hqn hqf hqo
  have HLE := hidden (fun j (hj : j ≤ k) => Sm.nums_le d j (by omega) hd5)
  obtain ⟨h, hh⟩ : ∃ h, h = k / 2 := ⟨_, rfl⟩
  have hk2 : (k : Int) / 2 = (h : Int) := by omega
  have hk3 : (k : Int).tdiv 2 = (h : Int) := by rw [Int.tdiv_eq_ediv_of_nonneg (by omega)]; exact hk2
  have hhk : h < k + 1 := by omega
  obtain ⟨G, hG⟩ : ∃ G, G = h * (d + 1) := ⟨_, rfl⟩
  have hG5 : G ≤ 53000 := by
    rw [hG]
    have := Nat.mul_le_mul (show h ≤ 4000 by omega) (show d + 1 ≤ 13 by omega)
    omega
  have hG1 : (h : Int) * ((d : Int) + 1) = (G : Int) := by rw [hG, Int.natCast_mul]; rfl
  have hG0 : h = 0 → G = 0 := fun e => by rw [hG, e, Nat.zero_mul]
  obtain ⟨S, hS⟩ : ∃ S, S = (⟨(Mk.long d K).toArray⟩ : ByteArray) := ⟨_, rfl⟩
  have hSl : S.data.toList = Mk.long d K := by rw [hS]
  have hSs : S.size = (91 :: Mk.nums d k).length := by
    rw [hk, ← Sm.long_len, ← hSl]
    rfl
  have hS5 : S.size ≤ 52001 := by rw [hSs]; exact HLE.out k (Nat.le_refl _)
  have HQ0 : Hid (Sm.er S.data.toList = 0) := hidden (by rw [hSl]; exact hq0)
  have HQN : Hid ((Sm.P S.data.toList).length = k + 1) := hidden (by rw [hSl]; exact hqn)
  have HQF : Hid ((Sm.P S.data.toList).getD h 0 = G) := hidden (by rw [hSl, hqf h hhk, hG])
  have HQO : Hid (Mk.on (Sm.B S.data.toList) = k + 1) := hidden (by rw [hSl]; exact hqo)
  have HUA := hidden (Sm.less_all S.data.toList (by show S.size ≤ _; omega))
  have HSS : Hid (S.size = (91 :: Mk.nums d k).length) := hidden hSs
  have HMK := hidden (fun w (hT : Tab w) => smMake_any S w (by omega) hT)
  have HBT := hidden (fun w => rBits14_any S.size (k + 1) w (by omega) (by omega))
  have HEND : Hid (∀ M, M + 1 = S.size → (Lib.byteCells (91 :: Mk.nums d k)).set M (.int .u8 93) = Lib.byteCells (Mk.long d K)) := hidden (fun M hM => by
    rw [hk]
    exact Sm.row_end d K M (by rw [hM, hSs, hk]))
  have HSV : Hid (S = (⟨(Mk.long d K).toArray⟩ : ByteArray)) := hidden hS
  have HLL : Hid ((Mk.long d K).length = S.size) := hidden (by rw [hS]; rfl)
  clear hT hK hD hK2 hD2 hq0 hqn hqf hqo hk hd hKk hh hG hSl hSs hS
  go_enter Tryz.func6, Tryz.ntmps6
  go_wp2_with fail
  refine (awake14_any w HT.out).mono ?_
  rintro e w1 ⟨rfl, h1⟩
  have HB1 := hidden h1
  have HT1 := hidden (HT.out.below h1 (Nat.le_refl _))
  clear h1
  go_wp2_with fail
  go_loopw [7, 8] (fun v i wr => ∃ j : Nat, j ≤ k ∧ i = .int .i64 (j : Nat) ∧ wr.ownsRow w1.heap.size 5 1 v (91 :: Mk.nums d j).length (Lib.byteCells (91 :: Mk.nums d j)) ∧ Below w1.heap.size w1 wr) (fun _ i _ => k - (intOf i).toNat)
  case atStart =>
    refine ⟨0, Nat.zero_le _, rfl, ?_, (Below.refl _ _).alloc (Nat.le_refl _) _⟩
    exact ⟨rfl, .inr ⟨w1.heap.size, 1, #[.int .u8 91], rfl, Nat.le_refl _, heap_alloc_new _ _, Nat.le_refl _, by unfold maxLen; omega, rfl, rfl⟩⟩
  case round =>
    obtain ⟨j, hj, rfl, hown, hb⟩ := hrel
    have HO := hidden hown
    have HB := hidden hb
    have hsz := hb.size
    have hle := HLE.out j hj
    by_cases hlt : j < k
    · have hlt2 : decide ((j : Int) < (k : Int)) = true := decide_eq_true (by omega)
      clear hown hb
      go_wp2_with fail
      go_loopw [7, 9] (fun v i wi => ∃ q : Nat, q ≤ d ∧ i = .int .i64 (q : Nat) ∧ wi.ownsRow w1.heap.size 5 1 v (91 :: Mk.nums d j ++ List.replicate q 55).length (Lib.byteCells (91 :: Mk.nums d j ++ List.replicate q 55)) ∧ Below w1.heap.size w1 wi) (fun _ i _ => d - (intOf i).toNat)
      case atStart => exact ⟨0, Nat.zero_le _, rfl, by rw [List.replicate_zero, List.append_nil]; exact HO.out, HB.out⟩
      case round =>
        obtain ⟨q, hq, rfl, hown, hb⟩ := hrel
        have HOI := hidden hown
        have HBI := hidden hb
        have hszi := hb.size
        obtain ⟨N, hN⟩ : ∃ N, N = (91 :: Mk.nums d j ++ List.replicate q 55).length := ⟨_, rfl⟩
        have hN5 : N ≤ 52020 := by rw [hN, List.length_append, List.length_replicate]; omega
        have HN := hidden hN
        rw [← hN] at HOI
        clear hown hb hN
        by_cases hlq : q < d
        · have hlq2 : decide ((q : Int) < (d : Int)) = true := decide_eq_true (by omega)
          go_wp2_with (at_builtin; refine wpList_append_one _ rfl (.tmp 37) (.tmp 38) 38 rfl w1.heap.size 5 i0 (.int .u8 0) 1 Tryz.underlying38 hi hz0 hz1 hz2 rfl u7 N (Lib.byteCells (91 :: Mk.nums d j ++ List.replicate q 55)) rfl (by exact HOI.out.alloc _) _ 1 (.int .u8 55) _ rfl (by exact heap_alloc_new _ _) rfl (by unfold maxLen; omega) (by omega) (by simp; omega) ?_; intro v2 w2 hown2 hgrow2; have HO2 := hidden hown2; have HG2 := hidden hgrow2; clear hown2 hgrow2)
          go_roundw
          case rel =>
            refine ⟨q + 1, hlq, by go_num, ?_, HBI.out.trans (Mk.ow_grown1 hszi HOI.out HG2.out)⟩
            rw [Sm.len_more HN.out]
            exact Sm.own_more rfl HO2.out
          case measure => simp [intOf]; omega
        · obtain rfl : q = d := by omega
          have hlq2 : decide ((q : Int) < (q : Int)) = false := decide_eq_false (by omega)
          go_wp2_with (at_builtin; refine wpList_append_one _ rfl (.tmp 40) (.tmp 41) 38 rfl w1.heap.size 5 i0 (.int .u8 0) 1 Tryz.underlying38 hi hz0 hz1 hz2 rfl u7 N (Lib.byteCells (91 :: Mk.nums q j ++ List.replicate q 55)) rfl (by exact HOI.out.alloc _) _ 1 (.int .u8 44) _ rfl (by exact heap_alloc_new _ _) rfl (by unfold maxLen; omega) (by omega) (by simp; omega) ?_; intro v2 w2 hown2 hgrow2; have HO2 := hidden hown2; have HG2 := hidden hgrow2; clear hown2 hgrow2)
          go_roundw
          case rel =>
            refine ⟨j + 1, hlt, by go_num, ?_, HBI.out.trans (Mk.ow_grown1 hszi HOI.out HG2.out)⟩
            rw [show (91 :: Mk.nums q (j + 1)).length = N + 1 by rw [HN.out, Mk.nums_last]; simp; omega]
            exact Sm.own_comma HO2.out
          case measure => simp [intOf]; omega
    · obtain rfl : j = k := by omega
      have hlt2 : decide ((j : Int) < (j : Int)) = false := decide_eq_false (by omega)
      rw [← HSS.out] at HO hle
      obtain ⟨M, hM⟩ : ∃ M, M + 1 = S.size := ⟨S.size - 1, by rw [HSS.out, List.length_cons]; omega⟩
      obtain ⟨g, cap, rfl, hg, hcap⟩ := Sm.own_shape HO.out (by omega)
      have f1 := HO.out.frozenAt M
      have hMi : (S.size : Int) - 1 = (M : Int) := by omega
      obtain ⟨hst, _⟩ := HO.out.stored M (.int .u8 93)
      rw [HEND.out M hM] at hst
      have hcv := conv_bytes hst (by omega) HLL.out.symm
      rw [← HSV.out] at hcv
      have c1 : ∃ x, wr.cell? ⟨g, M, none⟩ = some x := by
        have := HO.out.cellAt M (by omega)
        rw [this, List.getElem?_eq_getElem (by rw [Lib.byteCells_length, ← HSS.out]; omega)]
        exact ⟨_, rfl⟩
      obtain ⟨x1, c1⟩ := c1
      have HB2 := hidden (Sm.on2 HB1.out (HB.out.setCell (p := ⟨g, M, none⟩) hg (.int .u8 93)))
      have HT2 := hidden (HT1.out.below (HB.out.setCell (p := ⟨g, M, none⟩) hg (.int .u8 93)) (Nat.le_refl _))
      clear hown hb hst hM hle
      go_wp2_with fail
      refine (HMK.out _ HT2.out).mono ?_
      rintro e w3 ⟨hm, h3⟩
      have HB3 := hidden (Sm.on2 HB2.out h3)
      clear h3
      rcases hm with ⟨he, _⟩ | ⟨_, p, rfl, hx⟩
      · exact absurd HQ0.out he
      · have HSZ : Hid (∀ w', Below w3.heap.size w3 w' → Calls Tryz.prog 20 #[.pointer (some p)] w' fun e w'' => (∃ z : Nat, e = .returned (.int .i64 (z : Nat)) ∧ Hid (∀ W R, (j + 1 = 0 ∨ S.size ≤ (j + 1) * 2 ^ W) → R = (j + 1) * W → z ≤ 4 * (j + 1) + R + 10 * (j + 1) + 8192)) ∧ Below w'.heap.size w' w'') := hidden (fun w' hw' => by
          refine (hx.size w' hw').mono ?_
          rintro e w'' ⟨⟨z, rfl, hz⟩, hb⟩
          refine ⟨⟨z, rfl, hidden (fun W R hW hR => ?_)⟩, hb⟩
          rw [hR, ← HQN.out]
          exact hz W (by rw [HQN.out]; exact hW))
        have HUN : Hid (∀ w', Below w3.heap.size w3 w' → Calls Tryz.prog 19 #[.pointer (some p), .int .i64 (S.size : Int)] w' fun e w'' => e = .returned (.int .i64 ((j : Int) + 1)) ∧ Below w'.heap.size w' w'') := hidden (fun w' hw' => by
          have g := hx.under w' (S.size : Int) hw'
          have g2 := HUA.out
          rw [HQN.out] at g2
          rw [show Fn.less (Sm.P S.data.toList) (S.size : Int) = j + 1 from g2] at g
          exact g)
        obtain ⟨n4, f4, o4, hn4, hf4, ho4, _, _, _, hxx⟩ := hx.nums
        rw [HQN.out] at hn4
        rw [HQO.out] at ho4
        subst hn4 ho4
        have hfh := (hf4 h).trans HQF.out
        have HXX := hidden hxx
        have HMA : Hid (∀ w', Below w3.heap.size w3 w' → Calls Tryz.prog 18 #[.pointer (some p), .int .i64 (h : Nat)] w' fun e w'' => e = .returned (.tuple #[.int .i64 (G : Nat), .int .i64 0]) ∧ Below w'.heap.size w' w'') := hidden (fun w' hw' => by
          have g := hxx.mark w' h hw' hhk
          rw [hfh] at g
          exact g)
        clear hf4 hfh hxx hx HQ0 HQN HQF HQO HUA HSS HMK HEND HSV HLL hcv f1 c1 HLE
        have hj1 : ((j + 1 : Nat) : Int) = (j : Int) + 1 := rfl
        rw [hj1] at HBT
        go_wp2_with fail
        refine (HXX.out.marks _ (Below.refl _ _)).mono ?_
        rintro e w4 ⟨rfl, h4⟩
        have HC4 := hidden h4
        clear h4
        go_wp2_with fail
        refine (HMA.out _ HC4.out).mono ?_
        rintro e w5 ⟨rfl, h5⟩
        have HC5 := hidden (Sm.on2 HC4.out h5)
        clear h5
        by_cases h0 : h = 0
        · have hg := hG0 h0
          have hp0 : ¬ 0 < h := by omega
          subst hg
          clear h0
          go_wp2_with fail
          refine (HUN.out _ HC5.out).mono ?_
          rintro e w6 ⟨rfl, h6⟩
          have HC6 := hidden (Sm.on2 HC5.out h6)
          clear h6
          go_wp2_with fail
          refine (HSZ.out _ HC6.out).mono ?_
          rintro e w7 ⟨⟨z7, rfl, HZ7⟩, h7⟩
          have HC7 := hidden (Sm.on2 HC6.out h7)
          clear h7
          go_wp2_with fail
          refine (HBT.out _).mono ?_
          rintro e w8 ⟨⟨W, R, hW, hR, hR5, rfl⟩, hw8⟩
          have hw8 := hw8.symm
          subst hw8
          have hle := HZ7.out W R hW hR
          rw [hj1]
          have hle2 : decide ((z7 : Int) ≤ 4 * ((j : Int) + 1) + (R : Int) + 10 * ((j : Int) + 1) + 8192) = true := decide_eq_true (by omega)
          clear hW hR hle
          go_wp2_with fail
          refine (HXX.out.nest _ HC7.out).mono ?_
          rintro e w9 ⟨⟨z9, rfl, HN9⟩, h9⟩
          have HC9 := hidden (Sm.on2 HC7.out h9)
          clear h9
          go_wp2_with fail
          refine (HN9.out _ (Below.refl _ _)).mono ?_
          rintro e w10 ⟨rfl, h10⟩
          have HC10 := hidden (Sm.on2 HC9.out h10)
          clear h10
          go_wp2_with fail
          go_ret
          exact ⟨rfl, Sm.on2 HB3.out HC10.out⟩
        · have hp0 : 0 < h := by omega
          clear h0 hG0
          go_wp2_with fail
          refine (HUN.out _ HC5.out).mono ?_
          rintro e w6 ⟨rfl, h6⟩
          have HC6 := hidden (Sm.on2 HC5.out h6)
          clear h6
          go_wp2_with fail
          refine (HSZ.out _ HC6.out).mono ?_
          rintro e w7 ⟨⟨z7, rfl, HZ7⟩, h7⟩
          have HC7 := hidden (Sm.on2 HC6.out h7)
          clear h7
          go_wp2_with fail
          refine (HBT.out _).mono ?_
          rintro e w8 ⟨⟨W, R, hW, hR, hR5, rfl⟩, hw8⟩
          have hw8 := hw8.symm
          subst hw8
          have hle := HZ7.out W R hW hR
          rw [hj1]
          have hle2 : decide ((z7 : Int) ≤ 4 * ((j : Int) + 1) + (R : Int) + 10 * ((j : Int) + 1) + 8192) = true := decide_eq_true (by omega)
          clear hW hR hle
          go_wp2_with fail
          refine (HXX.out.nest _ HC7.out).mono ?_
          rintro e w9 ⟨⟨z9, rfl, HN9⟩, h9⟩
          have HC9 := hidden (Sm.on2 HC7.out h9)
          clear h9
          go_wp2_with fail
          refine (HN9.out _ (Below.refl _ _)).mono ?_
          rintro e w10 ⟨rfl, h10⟩
          have HC10 := hidden (Sm.on2 HC9.out h10)
          clear h10
          go_wp2_with fail
          go_ret
          exact ⟨rfl, Sm.on2 HB3.out HC10.out⟩
theorem SemiLong_walk (a b : Int) (w : World) (h0 : 0 ≤ a) (h1 : a ≤ 65535) (h2 : 0 ≤ b) (h3 : b ≤ 255) (hT : Tab w) :
    Calls Tryz.prog 6 #[.int .u16 a, .int .u8 b] w fun e w' => e = .returned (.bool true) ∧ Below w.heap.size w w' := by
  obtain ⟨n, rfl⟩ := Int.eq_ofNat_of_zero_le h0
  obtain ⟨z, rfl⟩ := Int.eq_ofNat_of_zero_le h2
  exact SemiLong_nat n z w (by omega) (by omega) hT
end Go.Proofs.YtoipliflphbeiaaGreatDoor
