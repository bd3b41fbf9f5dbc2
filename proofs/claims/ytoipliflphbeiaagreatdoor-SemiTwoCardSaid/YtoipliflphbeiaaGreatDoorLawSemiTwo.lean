/-
  The walk of the law SemiTwo: it returns true for every two strings; nothing that was there is changed.
-/
import Derived.Test.YtoipliflphbeiaaGreatDoorSmAwake
import Derived.Test.YtoipliflphbeiaaGreatDoorC06
namespace Go.Proofs.YtoipliflphbeiaaGreatDoor
open Go.RowKit
theorem Sm.app_data2 (s t : ByteArray) : (s ++ t).data.toList = s.data.toList ++ t.data.toList := by
  rw [ByteArray.data_append, Array.toList_append]
theorem SemiTwo_long (s t : ByteArray) (w : World) (hl : 150 < s.size ∨ 150 < t.size) (hT : Tab w) :
    Calls Tryz.prog 7 #[.string s, .string t] w fun e w' => e = .returned (.bool true) ∧ Below w.heap.size w w' := by
  have HT := hidden hT
  have hlt : (decide ((150 : Int) < (s.size : Int)) = true) ∨ (decide ((150 : Int) < (s.size : Int)) = false ∧ decide ((150 : Int) < (t.size : Int)) = true) := by
    by_cases h : 150 < s.size
    · exact .inl (decide_eq_true (by omega))
    · exact .inr ⟨decide_eq_false (by omega), decide_eq_true (by omega)⟩
  clear hl hT
  rcases hlt with hlt | ⟨hlt, hlt2⟩ <;>
  · go_enter Tryz.func7, Tryz.ntmps7
    go_wp2_with fail
    refine (awake14_any w HT.out).mono ?_
    rintro e w1 ⟨rfl, h1⟩
    have HB1 := hidden h1
    have HT1 := hidden (HT.out.below h1 (Nat.le_refl _))
    clear h1
    go_wp2_with fail
    refine (awake14_any _ HT1.out).mono ?_
    rintro e w2 ⟨rfl, h2⟩
    have HB2 := hidden (Sm.on2 HB1.out h2)
    clear h2
    go_wp2_with fail
    go_ret
    exact ⟨rfl, HB2.out⟩
set_option maxHeartbeats 4000000 in
theorem SemiTwo_in (s t : ByteArray) (w : World) (hs : ¬ 150 < s.size) (ht : ¬ 150 < t.size) (hT : Tab w) :
    Calls Tryz.prog 7 #[.string s, .string t] w fun e w' => e = .returned (.bool true) ∧ Below w.heap.size w w' := by
  have HT := hidden hT
  have hls : decide ((150 : Int) < (s.size : Int)) = false := decide_eq_false (by omega)
  have hlt : decide ((150 : Int) < (t.size : Int)) = false := decide_eq_false (by omega)
  have HS := hidden (fun w (hT : Tab w) => smMake_any s w (by omega) hT)
  have HU := hidden (fun w (hT : Tab w) => smMake_any t w (by omega) hT)
  have HZ := hidden (fun w (hT : Tab w) => smMake_any ((⟨#[91]⟩ : ByteArray) ++ s ++ (⟨#[44]⟩ : ByteArray) ++ t ++ (⟨#[93]⟩ : ByteArray)) w (by
    rw [ByteArray.size_append, ByteArray.size_append, ByteArray.size_append, ByteArray.size_append]
    show 1 + s.size + 1 + t.size + 1 ≤ _
    omega) hT)
  have H2 := hidden (Sm.two_nums s.data.toList t.data.toList)
  have hX : ((⟨#[91]⟩ : ByteArray) ++ s ++ (⟨#[44]⟩ : ByteArray) ++ t ++ (⟨#[93]⟩ : ByteArray)).data.toList = 91 :: (s.data.toList ++ 44 :: (t.data.toList ++ [93])) := by
    rw [Sm.app_data2, Sm.app_data2, Sm.app_data2, Sm.app_data2]
    simp
  have HX := hidden hX
  have hsz : ((⟨#[91]⟩ : ByteArray) ++ s ++ (⟨#[44]⟩ : ByteArray) ++ t ++ (⟨#[93]⟩ : ByteArray)).size ≤ 400 := by
    rw [ByteArray.size_append, ByteArray.size_append, ByteArray.size_append, ByteArray.size_append]
    show 1 + s.size + 1 + t.size + 1 ≤ _
    omega
  have HSZ := hidden hsz
  clear hT hX hsz
  go_enter Tryz.func7, Tryz.ntmps7
  go_wp2_with fail
  refine (awake14_any w HT.out).mono ?_
  rintro e w1 ⟨rfl, h1⟩
  have HB1 := hidden h1
  have HT1 := hidden (HT.out.below h1 (Nat.le_refl _))
  clear h1
  go_wp2_with fail
  refine (HS.out _ HT1.out).mono ?_
  rintro e w2 ⟨hm, h2⟩
  have HB2 := hidden (Sm.on2 HB1.out h2)
  have HT2 := hidden (HT1.out.below h2 (Nat.le_refl _))
  clear h2
  rcases hm with ⟨he, rfl⟩ | ⟨he, p, rfl, hx⟩
  · obtain ⟨E, hE⟩ : ∃ E, E = Sm.er s.data.toList := ⟨_, rfl⟩
    rw [← hE] at he ⊢
    have e1 : (E == 0) = false := by rw [beq_eq_false_iff_ne]; exact he
    have e2 : (E != 0) = true := by rw [bne_iff_ne]; exact he
    clear he hE
    go_wp2_with fail
    refine (HU.out _ HT2.out).mono ?_
    rintro e w3 ⟨hm, h3⟩
    have HB3 := hidden (Sm.on2 HB2.out h3)
    clear h3
    rcases hm with ⟨he, rfl⟩ | ⟨he, q, rfl, hy⟩
    · clear he
      go_wp2_with fail
      go_ret
      exact ⟨rfl, HB3.out⟩
    · clear he hy
      go_wp2_with fail
      go_ret
      exact ⟨rfl, HB3.out⟩
  · have HX2 := hidden hx
    have HE := hidden he
    clear hx he
    go_wp2_with fail
    refine (HU.out _ HT2.out).mono ?_
    rintro e w3 ⟨hm, h3⟩
    have HB3 := hidden (Sm.on2 HB2.out h3)
    have HX3 := hidden (HX2.out.later h3)
    have HT3 := hidden (HT2.out.below h3 (Nat.le_refl _))
    clear h3
    rcases hm with ⟨he, rfl⟩ | ⟨he, q, rfl, hy⟩
    · obtain ⟨E, hE⟩ : ∃ E, E = Sm.er t.data.toList := ⟨_, rfl⟩
      rw [← hE] at he ⊢
      have e1 : (E == 0) = false := by rw [beq_eq_false_iff_ne]; exact he
      have e2 : (E != 0) = true := by rw [bne_iff_ne]; exact he
      clear he hE
      go_wp2_with fail
      go_ret
      exact ⟨rfl, HB3.out⟩
    · have HY3 := hidden hy
      have HF := hidden he
      have hsz2 : s.data.toList.length ≤ 150 := by show s.size ≤ 150; omega
      have htz2 : t.data.toList.length ≤ 150 := by show t.size ≤ 150; omega
      obtain ⟨hz0, hzn, hza, hzb, hzo⟩ := H2.out HE.out HF.out hsz2 htz2
      have H2A := hidden hza
      have H2B := hidden hzb
      have H20 := hidden hz0
      have H2N := hidden hzn
      have H2O := hidden hzo
      clear hy he hz0 hzn hza hzb hzo hsz2 htz2
      go_wp2_with fail
      refine (HZ.out _ HT3.out).mono ?_
      rintro e w4 ⟨hm, h4⟩
      have HB4 := hidden (Sm.on2 HB3.out h4)
      have HX4 := hidden (HX3.out.later h4)
      have HY4 := hidden (HY3.out.later h4)
      clear h4
      rcases hm with ⟨he, rfl⟩ | ⟨_, r, rfl, hz⟩
      · rw [HX.out] at he
        exact absurd H20.out he
      · obtain ⟨nx, fx, ox, hnx, hfx, hox, h1x, h2x, h3x, hxx⟩ := HX4.out.nums
        obtain ⟨ny, fy, oy, hny, hfy, hoy, h1y, h2y, h3y, hyy⟩ := HY4.out.nums
        obtain ⟨nz, fz, oz, hnz, hfz, hoz, h1z, h2z, h3z, hzz⟩ := hz.nums
        rw [HX.out] at hnz hfz hoz
        have hnn : nz = nx + ny + 3 := by rw [hnz, hnx, hny]; exact H2N.out
        have hoo : oz = ox + oy + 3 := by rw [hoz, hox, hoy]; exact H2O.out
        have HFA : Hid (∀ j, j < nx → fz (j + 1) = fx j + 1) := hidden (fun j hj => by
          rw [hfz, hfx]
          exact H2A.out j (by rw [← hnx]; exact hj))
        have HFB : Hid (∀ j, j < ny → fz (j + nx + 2) = fy j + s.size + 2) := hidden (fun j hj => by
          rw [hfz, hfy, hnx]
          exact H2B.out j (by rw [← hny]; exact hj))
        have H1X := hidden h2x
        have H1Y := hidden h2y
        have H1Z := hidden h2z
        have HXX := hidden hxx
        have HYY := hidden hyy
        have HZZ := hidden hzz
        have hz4 := HSZ.out
        have hnx5 : nx ≤ 150 := by omega
        have hny5 : ny ≤ 150 := by omega
        have hnz5 : nz ≤ 400 := by omega
        have hox5 : ox ≤ 300 := by omega
        have hoy5 : oy ≤ 300 := by omega
        have hoz5 : oz ≤ 800 := by omega
        clear hz4 hnx hfx hox h1x h2x h3x hxx hny hfy hoy h1y h2y h3y hyy hnz hfz hoz h1z h2z h3z hzz hz H2A H2B H20 H2N H2O HX HSZ HE HF HX2 HX3 HY3 HX4 HY4 HS HU HZ H2 HT HT1 HT2 HT3 HB1 HB2 HB3
        have hq1 : ((nz : Int) != (nx : Int) + (ny : Int) + 3) = false := by rw [bne_eq_false_iff_eq]; omega
        have hq2 : ((oz : Int) == (ox : Int) + (oy : Int) + 3) = true := by rw [beq_iff_eq]; omega
        have HMA : Hid (∀ w' (j : Nat), Below w4.heap.size w4 w' → j < nx → Calls Tryz.prog 18 #[.pointer (some r), .int .i64 ((j : Int) + 1)] w' fun e w'' => e = .returned (.tuple #[.int .i64 ((fx j : Int) + 1), .int .i64 0]) ∧ Below w'.heap.size w' w'') := hidden (fun w' j hw hj => by
          have h := HZZ.out.mark w' (j + 1) hw (by omega)
          rw [HFA.out j hj] at h
          exact h)
        have HMB : Hid (∀ w' (j : Nat), Below w4.heap.size w4 w' → j < ny → Calls Tryz.prog 18 #[.pointer (some r), .int .i64 ((j : Int) + (nx : Int) + 2)] w' fun e w'' => e = .returned (.tuple #[.int .i64 ((fy j : Int) + (s.size : Int) + 2), .int .i64 0]) ∧ Below w'.heap.size w' w'') := hidden (fun w' j hw hj => by
          have h := HZZ.out.mark w' (j + nx + 2) hw (by omega)
          rw [HFB.out j hj] at h
          exact h)
        clear hnn hoo
        go_wp2_with fail
        refine (HZZ.out.marks _ (Below.refl _ _)).mono ?_
        rintro e w5 ⟨rfl, h5⟩
        have HC5 := hidden h5
        clear h5
        go_wp2_with fail
        refine (HXX.out.marks _ HC5.out).mono ?_
        rintro e w6 ⟨rfl, h6⟩
        have HC6 := hidden (Sm.on2 HC5.out h6)
        clear h6
        go_wp2_with fail
        refine (HYY.out.marks _ HC6.out).mono ?_
        rintro e w7 ⟨rfl, h7⟩
        have HC7 := hidden (Sm.on2 HC6.out h7)
        clear h7
        go_wp2_with fail
        go_loopw [11] (fun i wr => ∃ j : Nat, j ≤ nx ∧ i = .int .i64 (j : Nat) ∧ Below w4.heap.size w4 wr) (fun i _ => nx - (intOf i).toNat)
        case atStart => exact ⟨0, Nat.zero_le _, rfl, HC7.out⟩
        case round =>
          obtain ⟨j, hj, rfl, hb⟩ := hrel
          have HB := hidden hb
          clear hb
          by_cases hlt : j < nx
          · have hlt2 : decide ((j : Int) < (nx : Int)) = true := decide_eq_true (by omega)
            have hfj := H1X.out j hlt
            have HA := hidden (fun w' hw => HMA.out w' j hw hlt)
            have HXA := hidden (fun w' hw => HXX.out.mark w' j hw hlt)
            obtain ⟨A, hA⟩ : ∃ A, A = fx j := ⟨_, rfl⟩
            rw [← hA] at hfj HA HXA
            clear hA
            go_wp2_with fail
            refine (HXX.out.marks _ HB.out).mono ?_
            rintro e w8 ⟨rfl, h8⟩
            have HC8 := hidden (Sm.on2 HB.out h8)
            clear h8
            go_wp2_with fail
            refine (HXA.out _ HC8.out).mono ?_
            rintro e w9 ⟨rfl, h9⟩
            have HC9 := hidden (Sm.on2 HC8.out h9)
            clear h9
            go_wp2_with fail
            refine (HA.out _ HC9.out).mono ?_
            rintro e w10 ⟨rfl, h10⟩
            have HC10 := hidden (Sm.on2 HC9.out h10)
            clear h10
            go_wp2_with fail
            go_roundw
            case rel => exact ⟨j + 1, hlt, by go_num, HC10.out⟩
            case measure => simp [intOf]; omega
          · have hlt2 : decide ((j : Int) < (nx : Int)) = false := decide_eq_false (by omega)
            go_wp2_with fail
            refine (HXX.out.marks _ HB.out).mono ?_
            rintro e w8 ⟨rfl, h8⟩
            have HC8 := hidden (Sm.on2 HB.out h8)
            clear h8
            go_wp2_with fail
            clear hlt2 hlt hj
            go_loopw [16] (fun i wr => ∃ j : Nat, j ≤ ny ∧ i = .int .i64 (j : Nat) ∧ Below w4.heap.size w4 wr) (fun i _ => ny - (intOf i).toNat)
            case atStart => exact ⟨0, Nat.zero_le _, rfl, HC8.out⟩
            case round =>
              obtain ⟨k, hk, rfl, hb⟩ := hrel
              have HBK := hidden hb
              clear hb
              by_cases hlk : k < ny
              · have hlk2 : decide ((k : Int) < (ny : Int)) = true := decide_eq_true (by omega)
                have hfk := H1Y.out k hlk
                have HA := hidden (fun w' hw => HMB.out w' k hw hlk)
                have HYA := hidden (fun w' hw => HYY.out.mark w' k hw hlk)
                obtain ⟨A, hA⟩ : ∃ A, A = fy k := ⟨_, rfl⟩
                rw [← hA] at hfk HA HYA
                clear hA
                go_wp2_with fail
                refine (HYY.out.marks _ HBK.out).mono ?_
                rintro e w9 ⟨rfl, h9⟩
                have HC9 := hidden (Sm.on2 HBK.out h9)
                clear h9
                go_wp2_with fail
                refine (HYA.out _ HC9.out).mono ?_
                rintro e w10 ⟨rfl, h10⟩
                have HC10 := hidden (Sm.on2 HC9.out h10)
                clear h10
                go_wp2_with fail
                refine (HXX.out.marks _ HC10.out).mono ?_
                rintro e w11 ⟨rfl, h11⟩
                have HC11 := hidden (Sm.on2 HC10.out h11)
                clear h11
                go_wp2_with fail
                refine (HA.out _ HC11.out).mono ?_
                rintro e w12 ⟨rfl, h12⟩
                have HC12 := hidden (Sm.on2 HC11.out h12)
                clear h12
                go_wp2_with fail
                go_roundw
                case rel => exact ⟨k + 1, hlk, by go_num, HC12.out⟩
                case measure => simp [intOf]; omega
              · have hlk2 : decide ((k : Int) < (ny : Int)) = false := decide_eq_false (by omega)
                go_wp2_with fail
                refine (HYY.out.marks _ HBK.out).mono ?_
                rintro e w9 ⟨rfl, h9⟩
                have HC9 := hidden (Sm.on2 HBK.out h9)
                clear h9
                go_wp2_with fail
                refine (HZZ.out.nest _ HC9.out).mono ?_
                rintro e w10 ⟨⟨z1, rfl, HN1⟩, h10⟩
                have HC10 := hidden (Sm.on2 HC9.out h10)
                clear h10
                go_wp2_with fail
                refine (HN1.out _ (Below.refl _ _)).mono ?_
                rintro e w11 ⟨rfl, h11⟩
                have HC11 := hidden (Sm.on2 HC10.out h11)
                clear h11
                go_wp2_with fail
                refine (HXX.out.nest _ HC11.out).mono ?_
                rintro e w12 ⟨⟨z2, rfl, HN2⟩, h12⟩
                have HC12 := hidden (Sm.on2 HC11.out h12)
                clear h12
                go_wp2_with fail
                refine (HN2.out _ (Below.refl _ _)).mono ?_
                rintro e w13 ⟨rfl, h13⟩
                have HC13 := hidden (Sm.on2 HC12.out h13)
                clear h13
                go_wp2_with fail
                refine (HYY.out.nest _ HC13.out).mono ?_
                rintro e w14 ⟨⟨z3, rfl, HN3⟩, h14⟩
                have HC14 := hidden (Sm.on2 HC13.out h14)
                clear h14
                go_wp2_with fail
                refine (HN3.out _ (Below.refl _ _)).mono ?_
                rintro e w15 ⟨rfl, h15⟩
                have HC15 := hidden (Sm.on2 HC14.out h15)
                clear h15
                go_wp2_with fail
                go_ret
                exact ⟨rfl, Sm.on2 HB4.out HC15.out⟩
theorem SemiTwo_walk (s t : ByteArray) (w : World) (hT : Tab w) :
    Calls Tryz.prog 7 #[.string s, .string t] w fun e w' => e = .returned (.bool true) ∧ Below w.heap.size w w' := by
  by_cases hs : 150 < s.size
  · exact SemiTwo_long s t w (.inl hs) hT
  · by_cases ht : 150 < t.size
    · exact SemiTwo_long s t w (.inr ht) hT
    · exact SemiTwo_in s t w hs ht hT
end Go.Proofs.YtoipliflphbeiaaGreatDoor
