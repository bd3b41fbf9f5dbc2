/-
  The law NumMoves: its walk.
-/
import Derived.Test.YthimbaflodphmaaDoorLawNumWhole
namespace Go.Proofs.YthimbaflodphmaaDoor
open Go.RowKit
open Nu
namespace Nu
theorem str_join (a b : List UInt8) : str a ++ str b = str (a ++ b) := by
  apply ByteArray.ext
  simp [str]
theorem cat_e (l : List UInt8) : str l ++ (⟨#[101]⟩ : ByteArray) = str (l ++ [101]) := by
  apply ByteArray.ext
  simp [str]
theorem cat_less (l : List UInt8) : str l ++ (⟨#[101, 45]⟩ : ByteArray) = str (l ++ [101, 45]) := by
  apply ByteArray.ext
  simp [str]
theorem cat_plus (l : List UInt8) : str l ++ (⟨#[69, 43]⟩ : ByteArray) = str (l ++ [69, 43]) := by
  apply ByteArray.ext
  simp [str]
/-- A byte that the law takes at place i: a digit, and no 0 ahead. -/
def okAt (i : Nat) (c : UInt8) : Prop := 48 ≤ c.toNat ∧ c.toNat ≤ 57 ∧ ¬ (i = 0 ∧ c.toNat = 48)
theorem ok_good {l : List UInt8} (hp : 0 < l.length) (h : ∀ i (hi : i < l.length), okAt i l[i]) : Good l ∧ l.head? ≠ some 48 := by
  have h48 : l.head? ≠ some 48 := by
    intro e
    have h0 := h 0 hp
    rw [List.head?_eq_getElem?, List.getElem?_eq_getElem hp] at e
    have e2 := Option.some.inj e
    rw [e2] at h0
    exact h0.2.2 ⟨rfl, rfl⟩
  refine ⟨⟨?_, hp, fun _ => h48⟩, h48⟩
  intro c hc
  obtain ⟨i, hi, rfl⟩ := List.getElem_of_mem hc
  have h0 := h i hi
  simp only [dig, Bool.and_eq_true, decide_eq_true_eq]
  exact ⟨h0.1, h0.2.1⟩
theorem txt_nat (k : Nat) : txt (k : Int) = Lib.decDigits k := by
  unfold txt
  rw [if_neg (by omega)]
  rfl
end Nu
set_option maxHeartbeats 4000000 in
set_option maxRecDepth 100000 in
theorem NumMoves_walk (s : ByteArray) (kk n : Int) (W : World) (hs : s.size ≤ 9223372036854775807) (k0 : 0 ≤ kk) (k1 : kk ≤ 255) (n0 : -9223372036854775808 ≤ n) (n1 : n ≤ 9223372036854775807) (hT : Ten W) :
    Calls Tryd.prog 6 #[.string s, .int .u8 kk, .int .i64 n] W fun e w' => e = .returned (.bool true) ∧ Below W.heap.size W w' := by
  obtain ⟨z, rfl⟩ : ∃ z : Nat, kk = (z : Int) := ⟨kk.toNat, by omega⟩
  obtain ⟨l, hl⟩ : ∃ l, s = str l := ⟨s.data.toList, (str_of s).symm⟩
  have hsz : s.size = l.length := by rw [hl]; exact str_size l
  have HL := hidden hl
  have HT := hidden hT
  clear hT hl
  go_enter Tryd.func6, Tryd.ntmps6
  go_wp2_with fail
  refine (awake10_any _ HT.out).mono ?_
  rintro e w1 ⟨rfl, hB1⟩
  have HB1 := hidden hB1
  have HT1 := hidden (HT.out.below hB1 (Nat.le_refl _))
  clear hB1
  by_cases hin : l.length ≤ 60 ∧ 0 < l.length
  · obtain ⟨hi1, hi2⟩ := hin
    have hi3 : ¬ l.length = 0 := by omega
    have hi4 : ((l.length : Int) == 0) = false := by rw [beq_eq_false_iff_ne]; omega
    have hat : Hid (∀ (i : Nat) (h : i < s.size) (h2 : i < l.length), s[i]'h = l[i]'h2) := hidden (by
      intro i h h2
      have e := HL.out
      subst e
      exact str_at l i h h2)
    go_wp2_with fail
    go_loop [7] (fun v => ∃ k : Nat, k ≤ l.length ∧ Hid (∀ i (hi : i < l.length), i < k → okAt i l[i]) ∧ v = .int .i64 k) (fun v => l.length - (intOf v).toNat)
    case atStart => exact ⟨0, by omega, hidden (fun i hi h => by omega), rfl⟩
    case round =>
      obtain ⟨k, hk, hok, rfl⟩ := hrel
      by_cases hlt : k < l.length
      · have h6 : k < s.size := by omega
        have hbe := hat.out k h6 hlt
        have HBE := hidden hbe
        clear hbe
        obtain ⟨c, hc⟩ : ∃ c : Nat, c = (s[k]'h6).toNat := ⟨_, rfl⟩
        have HC := hidden hc
        rcases Nat.lt_or_ge c 48 with h4 | h4
        · rw [hc] at h4
          clear hc
          go_wp2_with fail
          go_ret
          exact ⟨rfl, HB1.out⟩
        · rcases Nat.lt_or_ge 57 c with h5 | h5
          · rw [hc] at h4 h5
            clear hc
            go_wp2_with fail
            go_ret
            exact ⟨rfl, HB1.out⟩
          · rw [hc] at h4 h5
            clear hc
            by_cases hz : k = 0 ∧ (s[k]'h6).toNat = 48
            · obtain ⟨rfl, hz2⟩ := hz
              clear h4 h5
              go_wp2_with fail
              go_ret
              exact ⟨rfl, HB1.out⟩
            · have HK : Hid (okAt k l[k]) := hidden (by
                rw [← HBE.out]
                exact ⟨h4, h5, hz⟩)
              have HN : Hid (∀ i (hi : i < l.length), i < k + 1 → okAt i l[i]) := hidden (by
                intro i hi hik
                by_cases hki : i = k
                · subst hki
                  exact HK.out
                · exact hok.out i hi (by omega))
              by_cases hk0 : k = 0
              · subst hk0
                have hne : ¬ (s[0]'h6).toNat = 48 := fun e => hz ⟨rfl, e⟩
                have hnb : (((s[0]'h6).toNat : Int) == 48) = false := by rw [beq_eq_false_iff_ne]; omega
                clear hz
                go_wp2_with fail
                go_round
                case rel => exact ⟨1, by omega, HN, rfl⟩
                case measure => simp [intOf]; omega
              · have hkb : ((k : Int) == 0) = false := by rw [beq_eq_false_iff_ne]; omega
                clear hz
                go_wp2_with fail
                go_round
                case rel => exact ⟨k + 1, by omega, HN, by go_num⟩
                case measure => simp [intOf]; omega
      · obtain rfl : k = l.length := by omega
        have hg := ok_good hi2 (fun i hi => hok.out i hi hi)
        have HG := hidden hg
        clear hg hat hok
        have hm := fun m => moves HG.out.1 HG.out.2 z m
        have hxl : ∀ k, k ≤ 255 → (l ++ List.replicate k 48).length ≤ 320 := fun k hk => by rw [List.length_append, List.length_replicate]; omega
        have hdl := txt_length (z : Int) (by omega) (by omega)
        have htx := fun v => text_any (z : Int) (by omega) (by omega) v
        rw [txt_nat] at hdl
        simp only [txt_nat] at htx
        obtain ⟨D, hD⟩ : ∃ D, D = Lib.decDigits z := ⟨_, rfl⟩
        rw [← hD] at hdl
        simp only [← hD] at htx hm
        have hz255 : z ≤ 255 := by omega
        have hxz := hxl z hz255
        have hw0 := fun v hv => Whole_any l v (by omega) hv
        have hw1 := fun v hv => Whole_any ((l ++ List.replicate z 48) ++ (101 :: 45 :: D)) v (by simp; omega) hv
        have hc0 := fun v hv => Cmp_any l n n0 n1 v (by omega) hv
        have hc1 := fun v hv => Cmp_any ((l ++ List.replicate z 48) ++ (101 :: 45 :: D)) n n0 n1 v (by simp; omega) hv
        have hc2 := fun v hv => Cmp_any (l ++ List.replicate z 48) n n0 n1 v (by omega) hv
        have hc3 := fun v hv => Cmp_any (l ++ (69 :: 43 :: D)) n n0 n1 v (by simp; omega) hv
        have hc4 := fun v hv => Cmp_any (l ++ (101 :: D)) n n0 n1 v (by simp; omega) hv
        simp only [(hm n).1] at hw1
        simp only [(hm n).2.1] at hc1
        simp only [(hm n).2.2.1] at hc3
        simp only [(hm n).2.2.2] at hc4
        clear hm
        obtain ⟨p, hp⟩ : ∃ p, p = wholeZ (Nu.read l) := ⟨_, rfl⟩
        obtain ⟨q, hq⟩ : ∃ q, q = cmpZ n (Nu.read l) := ⟨_, rfl⟩
        obtain ⟨r, hr⟩ : ∃ r, r = cmpZ n (Nu.read (l ++ List.replicate z 48)) := ⟨_, rfl⟩
        simp only [← hp] at hw0 hw1
        simp only [← hq] at hc0 hc1
        simp only [← hr] at hc2 hc3 hc4
        clear hp hq hr hD
        have hsl := HL.out
        obtain ⟨fa, hfa⟩ : ∃ fa : Nat → List UInt8, ∀ k, fa k = l ++ List.replicate k 48 := ⟨_, fun _ => rfl⟩
        have hcn := fun k => cat_nought l k
        simp only [← hfa] at hcn hxl hc1 hc2 hw1 hxz
        have hs0 : s = str (fa 0) := by rw [hfa, List.replicate_zero, List.append_nil, hsl]
        have hfs : ∀ k, k ≤ 255 → (str (fa k)).size ≤ 320 := fun k hk => by rw [str_size]; exact hxl k hk
        obtain ⟨G1, hG1⟩ : ∃ G, G = fa z ++ [101, 45] := ⟨_, rfl⟩
        obtain ⟨G2, hG2⟩ : ∃ G, G = l ++ [69, 43] := ⟨_, rfl⟩
        obtain ⟨G3, hG3⟩ : ∃ G, G = l ++ [101] := ⟨_, rfl⟩
        obtain ⟨E1, hE1⟩ : ∃ E, E = fa z ++ (101 :: 45 :: D) := ⟨_, rfl⟩
        obtain ⟨E2, hE2⟩ : ∃ E, E = l ++ (69 :: 43 :: D) := ⟨_, rfl⟩
        obtain ⟨E3, hE3⟩ : ∃ E, E = l ++ (101 :: D) := ⟨_, rfl⟩
        have j1 : str (fa z) ++ (⟨#[101, 45]⟩ : ByteArray) = str G1 := by rw [cat_less, hG1]
        have j2 : s ++ (⟨#[69, 43]⟩ : ByteArray) = str G2 := by rw [hsl, cat_plus, hG2]
        have j3 : s ++ (⟨#[101]⟩ : ByteArray) = str G3 := by rw [hsl, cat_e, hG3]
        have i1 : str G1 ++ str D = str E1 := by rw [str_join, hG1, hE1, List.append_assoc]; rfl
        have i2 : str G2 ++ str D = str E2 := by rw [str_join, hG2, hE2, List.append_assoc]; rfl
        have i3 : str G3 ++ str D = str E3 := by rw [str_join, hG3, hE3, List.append_assoc]; rfl
        have g1 : (str G1).size ≤ 400 := by rw [str_size, hG1]; simp; omega
        have g2 : (str G2).size ≤ 400 := by rw [str_size, hG2]; simp; omega
        have g3 : (str G3).size ≤ 400 := by rw [str_size, hG3]; simp; omega
        have gD : (str D).size ≤ 21 := by rw [str_size]; exact hdl
        simp only [← hE1] at hc1 hw1
        simp only [← hE2] at hc3
        simp only [← hE3] at hc4
        simp only [← hsl] at hw0 hc0
        have HW0 := hidden hw0
        have HW1 := hidden hw1
        have HC0 := hidden hc0
        have HC1 := hidden hc1
        have HC2 := hidden hc2
        have HC3 := hidden hc3
        have HC4 := hidden hc4
        have HTX := hidden htx
        have HS0 := hidden hs0
        have HFS := hidden hfs
        have HCN := hidden hcn
        clear hw0 hw1 hc0 hc1 hc2 hc3 hc4 htx hs0 hfs hcn hE1 hE2 hE3 hG1 hG2 hG3 hfa hsl hxz hxl hdl
        go_wp2_with fail
        go_loop [8, 9] (fun t i => ∃ k : Nat, k ≤ z ∧ i = .int .i64 k ∧ t = .string (str (fa k))) (fun _ i => z - (intOf i).toNat)
        case atStart => exact ⟨0, by omega, rfl, by rw [HS0.out]⟩
        case round =>
          obtain ⟨k, hk, rfl, rfl⟩ := hrel
          by_cases hlt : k < z
          · have hx := HCN.out k
            have hks := HFS.out k (by omega)
            clear j1 j2 j3 i1 i2 i3
            go_wp2_with fail
            go_round
            case rel => exact ⟨k + 1, by omega, by go_num, rfl⟩
            case measure => simp [intOf]; omega
          · obtain rfl : k = z := by omega
            have hks := HFS.out k (by omega)
            go_wp2_with fail
            refine (HTX.out _).mono ?_
            rintro e w2 ⟨rfl, hB2⟩
            have HB2 := hidden (below_after HB1.out hB2)
            have HT2 := hidden (HT.out.below HB2.out (Nat.le_refl _))
            clear hB2
            go_wp2_with fail
            refine (HW0.out _ HT2.out).mono ?_
            rintro e w3 ⟨rfl, hB3⟩
            have HB3 := hidden (below_after HB2.out hB3)
            have HT3 := hidden (HT.out.below HB3.out (Nat.le_refl _))
            clear hB3
            go_wp2_with fail
            refine (HW1.out _ HT3.out).mono ?_
            rintro e w4 ⟨rfl, hB4⟩
            have HB4 := hidden (below_after HB3.out hB4)
            have HT4 := hidden (HT.out.below HB4.out (Nat.le_refl _))
            clear hB4
            go_wp2_with fail
            refine (HC0.out _ HT4.out).mono ?_
            rintro e w5 ⟨rfl, hB5⟩
            have HB5 := hidden (below_after HB4.out hB5)
            have HT5 := hidden (HT.out.below HB5.out (Nat.le_refl _))
            clear hB5
            go_wp2_with fail
            refine (HC1.out _ HT5.out).mono ?_
            rintro e w6 ⟨rfl, hB6⟩
            have HB6 := hidden (below_after HB5.out hB6)
            have HT6 := hidden (HT.out.below HB6.out (Nat.le_refl _))
            clear hB6
            go_wp2_with fail
            refine (HC2.out _ HT6.out).mono ?_
            rintro e w7 ⟨rfl, hB7⟩
            have HB7 := hidden (below_after HB6.out hB7)
            have HT7 := hidden (HT.out.below HB7.out (Nat.le_refl _))
            clear hB7
            go_wp2_with fail
            refine (HC3.out _ HT7.out).mono ?_
            rintro e w8 ⟨rfl, hB8⟩
            have HB8 := hidden (below_after HB7.out hB8)
            have HT8 := hidden (HT.out.below HB8.out (Nat.le_refl _))
            clear hB8
            go_wp2_with fail
            refine (HC2.out _ HT8.out).mono ?_
            rintro e w9 ⟨rfl, hB9⟩
            have HB9 := hidden (below_after HB8.out hB9)
            have HT9 := hidden (HT.out.below HB9.out (Nat.le_refl _))
            clear hB9
            go_wp2_with fail
            refine (HC4.out _ HT9.out).mono ?_
            rintro e w10 ⟨rfl, hB10⟩
            have HB10 := hidden (below_after HB9.out hB10)
            clear hB10
            go_wp2_with fail
            go_ret
            exact ⟨rfl, HB10.out⟩
  · by_cases hi60 : 60 < l.length
    · go_wp2_with fail
      refine (awake10_any _ HT1.out).mono ?_
      rintro e w2 ⟨rfl, hB2⟩
      have HB2 := hidden (below_after HB1.out hB2)
      clear hB2
      go_wp2_with fail
      go_ret
      exact ⟨rfl, HB2.out⟩
    · have hi0 : l.length = 0 := by omega
      rw [hi0] at hsz
      clear hin hi60
      go_wp2_with fail
      refine (awake10_any _ HT1.out).mono ?_
      rintro e w2 ⟨rfl, hB2⟩
      have HB2 := hidden (below_after HB1.out hB2)
      clear hB2
      go_wp2_with fail
      go_ret
      exact ⟨rfl, HB2.out⟩
end Go.Proofs.YthimbaflodphmaaDoor
