/-
  The contracts of package marks' Is, Places and Parens: of every byte and string; nothing that was there is changed.
-/
import Derived.Test.YtoipliflphbeiaaGreatDoorC02
import Derived.Test.YtoipliflphbeiaaGreatDoorC10
namespace Go.Proofs.YtoipliflphbeiaaGreatDoor
open Go.RowKit
theorem kIs_any (b : Nat) (w : World) (hb : b ≤ 255) :
    Calls Tryz.prog 89 #[.int .u8 (b : Nat)] w fun e w' => e = .returned (.bool (Mk.isM b)) ∧ Below w.heap.size w w' := by
  by_cases hm : Mk.isM b = true
  · rw [hm]
    rcases (Mk.isM_iff b).1 hm with rfl | rfl | rfl | rfl | rfl | rfl <;>
    · clear hm
      go_enter Tryz.func89, Tryz.ntmps89
      go_wp2_with fail
      go_ret
      exact ⟨rfl, Below.refl _ _⟩
  · have hn : ¬ (b = 91 ∨ b = 93 ∨ b = 123 ∨ b = 125 ∨ b = 58 ∨ b = 44) := fun h => hm ((Mk.isM_iff b).2 h)
    have h2 : Mk.isM b = false := by simpa using hm
    rw [h2]
    have e1 : ((b : Int) == 91) = false := by rw [beq_eq_false_iff_ne]; omega
    have e2 : ((b : Int) == 93) = false := by rw [beq_eq_false_iff_ne]; omega
    have e3 : ((b : Int) == 123) = false := by rw [beq_eq_false_iff_ne]; omega
    have e4 : ((b : Int) == 125) = false := by rw [beq_eq_false_iff_ne]; omega
    have e5 : ((b : Int) == 58) = false := by rw [beq_eq_false_iff_ne]; omega
    have e6 : ((b : Int) == 44) = false := by rw [beq_eq_false_iff_ne]; omega
    clear hm hn h2
    go_enter Tryz.func89, Tryz.ntmps89
    go_wp2_with fail
    go_ret
    exact ⟨rfl, Below.refl _ _⟩
namespace Mk
theorem st_in (b : Nat) : st 1 b = if b = 34 then 0 else if b = 92 then 2 else 1 := rfl
end Mk
set_option maxHeartbeats 600000 in
theorem kPlaces_any (s : ByteArray) (w : World) (hs : s.size ≤ 1000000) :
    Calls Tryz.prog 53 #[.string s] w fun e w' => (∃ v, e = .returned v ∧ Mk.Li w' w.heap.size v (Mk.pl 0 0 s.data.toList)) ∧ Below w.heap.size w w' := by
  obtain ⟨i0, hi, hz0, hz1, hz2⟩ := info_parts Tryz.infoIm
  have hlen : s.data.toList.length = s.size := rfl
  have HPN : Hid (∀ j (h : j < s.size), Mk.pl 0 0 (s.data.toList.take (j + 1)) = (if Mk.run 0 (s.data.toList.take j) = 0 ∧ Mk.isM s[j].toNat = true then Mk.pl 0 0 (s.data.toList.take j) ++ [j] else Mk.pl 0 0 (s.data.toList.take j))) := hidden fun j h => Mk.pl_next s.data.toList j h
  have HRN : Hid (∀ j (h : j < s.size), Mk.run 0 (s.data.toList.take (j + 1)) = Mk.st (Mk.run 0 (s.data.toList.take j)) s[j].toNat) := hidden fun j h => Mk.run_next s.data.toList 0 j h
  have HPA : Hid (∀ j, s.size ≤ j → Mk.pl 0 0 (s.data.toList.take j) = Mk.pl 0 0 s.data.toList) := hidden fun j hj => by rw [List.take_of_length_le (by rw [hlen]; exact hj)]
  have HPL : Hid (∀ j, j ≤ s.size → (Mk.pl 0 0 (s.data.toList.take j)).length ≤ j) := hidden fun j hj => by
    induction j with
    | zero => exact Nat.le_refl _
    | succ j ih =>
      have h1 := ih (by omega)
      rw [HPN.out j (by omega)]
      split
      · rw [List.length_append]
        show _ + 1 ≤ _
        omega
      · omega
  obtain ⟨R, hR⟩ : ∃ R : Nat → Nat, ∀ j, Mk.run 0 (s.data.toList.take j) = R j := ⟨_, fun _ => rfl⟩
  obtain ⟨P, hP⟩ : ∃ P : Nat → List Nat, ∀ j, Mk.pl 0 0 (s.data.toList.take j) = P j := ⟨_, fun _ => rfl⟩
  obtain ⟨L, hL⟩ : ∃ L, Mk.pl 0 0 s.data.toList = L := ⟨_, rfl⟩
  simp only [hR] at HPN HRN
  simp only [hP, hL] at HPN HPA HPL
  have HP0 : Hid (P 0 = []) := hidden (hP 0).symm
  have HR0 : Hid (R 0 = 0) := hidden (hR 0).symm
  rw [hL]
  clear hlen hR hP hL
  go_enter Tryz.func53, Tryz.ntmps53
  go_wp2_with fail
  refine wp_scope_all (fun _ _ _ => False) (fun _ _ _ => 0) ?_ (fun l a w h => h.elim)
  go_wp2_with fail
  refine wp_label ?_
  go_wp2_with fail
  go_loopw [3, 4] (fun v i wr => ∃ j : Nat, j ≤ s.size + 2 ∧ i = .int .i64 (j : Nat) ∧ Mk.Li wr w.heap.size v (P j) ∧ (j < s.size → R j = 0) ∧ Below w.heap.size w wr) (fun _ i _ => s.size + 2 - (intOf i).toNat)
  case atStart =>
    refine ⟨0, Nat.zero_le _, rfl, ?_, fun _ => HR0.out, Below.refl _ _⟩
    rw [HP0.out]
    exact Mk.Li.nil _ _
  case round =>
    obtain ⟨j, hj, rfl, hli, hr0, hb⟩ := hrel
    have HLI := hidden hli
    have HB := hidden hb
    have hsz := hb.size
    clear hli hb
    by_cases hlt : j < s.size
    · have hlt2 : decide ((j : Int) < (s.size : Int)) = true := decide_eq_true (by omega)
      have HPJ := hidden (HPN.out j hlt)
      have HRJ := hidden (HRN.out j hlt)
      have HR := hidden (hr0 hlt)
      have hlp := HPL.out j (by omega)
      have HIS := hidden (fun w => kIs_any s[j].toNat w (by have := s[j].toNat_lt; omega))
      clear hr0
      cases hm : Mk.isM s[j].toNat with
      | true =>
        rw [hm] at HIS
        have HPE : Hid (P (j + 1) = P j ++ [j]) := by
          rw [HPJ.out, if_pos ⟨HR.out, hm⟩]
          exact rfl
        have HRE : Hid (R (j + 1) = 0) := by
          rw [HRJ.out, HR.out]
          exact hidden (Mk.st_mark _ hm)
        clear hm
        go_wp2_with fail
        refine (HIS.out _).mono ?_
        rintro e w3 ⟨rfl, hw⟩
        have HW := hidden hw
        have hszw := hw.size
        clear hw
        have HL3 : Hid (Mk.Li w3 w.heap.size u3 (P j)) := hidden (Mk.ow_kept HLI.out HW.out (Nat.le_refl _))
        go_wp2_with (at_builtin; refine wpList_append_one _ rfl (.tmp 18) (.tmp 20) 57 rfl w.heap.size 3 i0 (.int .i64 0) 8 Tryz.underlying57 hi hz0 hz1 hz2 rfl u3 (P j).length (Mk.vi (P j)) rfl (by exact HL3.out.alloc _) _ 1 (.int .i64 (j : Nat)) _ rfl (by exact heap_alloc_new _ _) rfl (by unfold maxLen; omega) (by omega) (by simp; omega) ?_; intro v2 w4 hown2 hgrow2; have HO2 := hidden hown2; have HG2 := hidden hgrow2; clear hown2 hgrow2)
        go_roundw
        case rel =>
          refine ⟨j + 1, by omega, by go_num, ?_, fun _ => HRE.out, (HB.out.trans (HW.out.mono hsz)).trans (Mk.ow_grown1 (by omega) HL3.out HG2.out)⟩
          have h2 := HO2.out
          rw [HPE.out]
          show World.ownsRow _ _ _ _ _ _ _
          rw [List.length_append, Mk.vi_app]
          exact h2
        case measure => simp [intOf]; omega
      | false =>
        rw [hm] at HIS
        have HPE : Hid (P (j + 1) = P j) := hidden (by
          rw [HPJ.out, if_neg (fun h => by rw [hm] at h; exact absurd h.2 (by decide))])
        by_cases hq : s[j].toNat = 34
        · have HRE : Hid (R (j + 1) = 1) := hidden (by
            rw [HRJ.out, HR.out, hq]
            rfl)
          have e1 : ((s[j].toNat : Int) == 34) = true := by rw [hq]; rfl
          have e1n : (s[j].toNat == 34) = true := by rw [hq]; rfl
          clear hm hq
          go_wp2_with fail
          refine (HIS.out _).mono ?_
          rintro e w3 ⟨rfl, hw⟩
          have HB3 := hidden (HB.out.trans (hw.mono hsz))
          have HL3 : Hid (Mk.Li w3 w.heap.size u3 (P (j + 1))) := hidden (by
            rw [HPE.out]
            exact Mk.ow_kept HLI.out hw (Nat.le_refl _))
          clear hw
          go_wp2_with fail
          go_loop [4] (fun i => ∃ k : Nat, k ≤ s.size + 1 ∧ j + 1 ≤ k ∧ i = .int .i64 (k : Nat) ∧ P k = P (j + 1) ∧ (k < s.size → R k = 1)) (fun i => s.size + 1 - (intOf i).toNat)
          case atStart => exact ⟨j + 1, by omega, Nat.le_refl _, by go_num, rfl, fun _ => HRE.out⟩
          case round =>
            obtain ⟨k, hk, hjk, rfl, hpk, hrk⟩ := hrel
            have HPK := hidden hpk
            clear hpk e1 e1n hlt2
            by_cases hlk : k < s.size
            · have hlk2 : decide ((k : Int) < (s.size : Int)) = true := decide_eq_true (by omega)
              have HPKN := hidden (HPN.out k hlk)
              have HRKN := hidden (HRN.out k hlk)
              have HRK := hidden (hrk hlk)
              have HPK1 : Hid (P (k + 1) = P (j + 1)) := hidden (by
                rw [HPKN.out, if_neg (fun h => by have := h.1; rw [HRK.out] at this; exact absurd this (by decide)), HPK.out])
              clear hrk
              by_cases hq1 : s[k].toNat = 34
              · have e1 : ((s[k].toNat : Int) == 34) = true := by rw [hq1]; rfl
                have e1n : (s[k].toNat == 34) = true := by rw [hq1]; rfl
                have HRK1 : Hid (R (k + 1) = 0) := hidden (by
                  rw [HRKN.out, HRK.out, hq1]
                  rfl)
                have HL4 : Hid (Mk.Li w3 w.heap.size u3 (P (k + 1))) := hidden (by
                  rw [HPK1.out]
                  exact HL3.out)
                clear hq1
                go_wp2_with fail
                exact ⟨⟨k + 1, by omega, by go_num, HL4.out, fun _ => HRK1.out, HB3.out⟩, by simp [intOf]; omega⟩
              · have e1 : ((s[k].toNat : Int) == 34) = false := by rw [beq_eq_false_iff_ne]; omega
                have e1n : (s[k].toNat == 34) = false := by rw [beq_eq_false_iff_ne]; exact hq1
                by_cases hq2 : s[k].toNat = 92
                · have e2 : ((s[k].toNat : Int) == 92) = true := by rw [hq2]; rfl
                  have e2n : (s[k].toNat == 92) = true := by rw [hq2]; rfl
                  have HRK1 : Hid (R (k + 1) = 2) := hidden (by
                    rw [HRKN.out, HRK.out, hq2]
                    rfl)
                  have HPK2 : Hid (P (k + 2) = P (j + 1)) := hidden (by
                    by_cases h2 : k + 1 < s.size
                    · rw [HPN.out (k + 1) h2, if_neg (fun h => by have := h.1; rw [HRK1.out] at this; exact absurd this (by decide)), HPK1.out]
                    · rw [HPA.out (k + 2) (by omega), ← HPA.out (k + 1) (by omega), HPK1.out])
                  have HRK2 : Hid (k + 2 < s.size → R (k + 2) = 1) := hidden (fun h => by
                    rw [HRN.out (k + 1) (by omega), HRK1.out]
                    rfl)
                  clear hq1 hq2
                  go_wp2_with fail
                  go_round
                  case rel => exact ⟨k + 2, by omega, by omega, by go_num, HPK2.out, HRK2.out⟩
                  case measure => simp [intOf]; omega
                · have e2 : ((s[k].toNat : Int) == 92) = false := by rw [beq_eq_false_iff_ne]; omega
                  have e2n : (s[k].toNat == 92) = false := by rw [beq_eq_false_iff_ne]; exact hq2
                  have HRK1 : Hid (R (k + 1) = 1) := hidden (by
                    rw [HRKN.out, HRK.out, Mk.st_in, if_neg hq1, if_neg hq2])
                  clear hq1 hq2
                  go_wp2_with fail
                  go_round
                  case rel => exact ⟨k + 1, by omega, by omega, by go_num, HPK1.out, fun _ => HRK1.out⟩
                  case measure => simp [intOf]; omega
            · have hlk2 : decide ((k : Int) < (s.size : Int)) = false := decide_eq_false (by omega)
              have HL4 : Hid (Mk.Li w3 w.heap.size u3 (P (k + 1))) := hidden (by
                rw [HPA.out (k + 1) (by omega), ← HPA.out k (by omega), HPK.out]
                exact HL3.out)
              go_wp2_with fail
              exact ⟨⟨k + 1, by omega, by go_num, HL4.out, fun h => absurd h (by omega), HB3.out⟩, by simp [intOf]; omega⟩
        · have HRE : Hid (R (j + 1) = 0) := hidden (by
            rw [HRJ.out, HR.out]
            show (if _ then _ else _) = _
            rw [if_pos rfl, if_neg hq])
          have e1 : ((s[j].toNat : Int) == 34) = false := by rw [beq_eq_false_iff_ne]; omega
          have e1n : (s[j].toNat == 34) = false := by rw [beq_eq_false_iff_ne]; exact hq
          clear hm hq
          go_wp2_with fail
          refine (HIS.out _).mono ?_
          rintro e w3 ⟨rfl, hw⟩
          have HB3 := hidden (HB.out.trans (hw.mono hsz))
          have HL3 : Hid (Mk.Li w3 w.heap.size u3 (P (j + 1))) := hidden (by
            rw [HPE.out]
            exact Mk.ow_kept HLI.out hw (Nat.le_refl _))
          clear hw
          go_wp2_with fail
          go_roundw
          case rel => exact ⟨j + 1, by omega, by go_num, HL3.out, fun _ => HRE.out, HB3.out⟩
          case measure => simp [intOf]; omega
    · have hlt2 : decide ((j : Int) < (s.size : Int)) = false := decide_eq_false (by omega)
      have HPE := hidden (HPA.out j (by omega))
      rw [HPE.out] at HLI
      clear hr0
      go_wp2_with fail
      refine jump_ret ?_
      go_ret
      exact ⟨⟨_, rfl, HLI.out⟩, HB.out⟩
/-- A mark's bits, as the program tells them. -/
theorem kTwo_any (b : Nat) (w : World) (hb : Mk.isM b = true) :
    Calls Tryz.prog 95 #[.int .u8 (b : Nat)] w fun e w' => (∃ x y, e = .returned (.tuple #[.bool x, .bool y]) ∧ Mk.two b = [x, y]) ∧ w' = w := by
  rcases (Mk.isM_iff b).1 hb with rfl | rfl | rfl | rfl | rfl | rfl <;>
  · clear hb
    go_enter Tryz.func95, Tryz.ntmps95
    go_wp2_with fail
    go_ret2
    exact ⟨⟨_, _, rfl, rfl⟩, rfl⟩
namespace Mk
theorem mk_room (c : Nat) (hc : c ≤ 4294967296) (u : World) : (Instr.makeSlice 31 (.int .i64 0) (.int .i64 (c : Int))).run Tryz.prog u = .ok (.slice (some ⟨u.heap.size, 0, none⟩) 0 c) (u.alloc (.cells (Array.replicate c (Value.bool false)) 4)) := by
  obtain ⟨i0, hi, hz0, hz1, hz2⟩ := info_parts Tryz.infoBm2
  have h := run_make (P := Tryz.prog) u 31 4 i0 (.bool false) Tryz.underlying31 hi hz0 .i64 .i64 0 (c : Int) (by omega) (by omega) (by rw [hz2]; omega) (by omega)
  have hmade : madeCells #[Value.bool false] c = Array.replicate c (Value.bool false) := by
    apply Array.toList_inj.1
    rw [toList_madeCells_one, Array.toList_replicate]
  rw [← hmade]
  simpa [hz1, Value.cells] using h
theorem Lb.room (w : World) (c : Nat) (hc : c ≤ 4294967296) : Lb (w.alloc (.cells (Array.replicate c (Value.bool false)) 4)) w.heap.size (.slice (some ⟨w.heap.size, 0, none⟩) 0 c) [] :=
  ⟨rfl, .inr ⟨w.heap.size, c, _, rfl, Nat.le_refl _, heap_alloc_new _ _, Nat.zero_le _, by unfold maxLen; omega, by rw [Array.size_replicate, Nat.mul_one], rfl⟩⟩
end Mk
set_option maxHeartbeats 1000000 in
theorem kParens_any (s : ByteArray) (w : World) (hs : s.size ≤ 1000000) :
    Calls Tryz.prog 56 #[.string s] w fun e w' => (∃ v, e = .returned v ∧ Mk.Lb w' w.heap.size v (Mk.bs 0 s.data.toList)) ∧ Below w.heap.size w w' := by
  obtain ⟨i0, hi, hz0, hz1, hz2⟩ := info_parts Tryz.infoBm2
  have hlen : s.data.toList.length = s.size := rfl
  have HGET : Hid (∀ k, k < (Mk.pl 0 0 s.data.toList).length → ∃ (h : (Mk.pl 0 0 s.data.toList).getD k 0 < s.size), Mk.isM s[(Mk.pl 0 0 s.data.toList).getD k 0].toNat = true ∧ (s.data.toList.getD ((Mk.pl 0 0 s.data.toList).getD k 0) 0).toNat = s[(Mk.pl 0 0 s.data.toList).getD k 0].toNat) := hidden fun k hk => by
    obtain ⟨h1, h2⟩ := Mk.pl_get s.data.toList k hk
    have h3 : (s.data.toList.getD ((Mk.pl 0 0 s.data.toList).getD k 0) 0).toNat = s[(Mk.pl 0 0 s.data.toList).getD k 0].toNat := Js.bt_at s.data.toList _ h1
    exact ⟨h1, by rw [← h3]; exact h2, h3⟩
  have HNX := hidden (Mk.fb_next s.data.toList (Mk.pl 0 0 s.data.toList))
  have HFB := hidden (Mk.fb_all s.data.toList)
  have HLEN := hidden (Mk.fb_len s.data.toList)
  have HPLL : Hid ((Mk.pl 0 0 s.data.toList).length ≤ s.size) := hidden (by
    have h1 := Mk.pl_next s.data.toList
    have h2 : ∀ j, j ≤ s.size → (Mk.pl 0 0 (s.data.toList.take j)).length ≤ j := fun j hj => by
      induction j with
      | zero => exact Nat.le_refl _
      | succ j ih =>
        have h3 := ih (by omega)
        rw [h1 j (by rw [hlen]; omega)]
        split
        · rw [List.length_append]
          show _ + 1 ≤ _
          omega
        · omega
    have h4 := h2 s.size (Nat.le_refl _)
    rw [take_all s] at h4
    exact h4)
  have HPS := hidden (fun w => kPlaces_any s w hs)
  rw [← HFB.out]
  obtain ⟨P, hP⟩ : ∃ P, P = Mk.pl 0 0 s.data.toList := ⟨_, rfl⟩
  rw [← hP] at HGET HNX HPLL HPS ⊢
  have hpl := HPLL.out
  obtain ⟨c, hc⟩ : ∃ c, c = 2 * P.length := ⟨_, rfl⟩
  have hc1 : 2 * ((P.length : Nat) : Int) = (c : Int) := by omega
  have hc5 : c ≤ 2000000 := by omega
  have hmk := Mk.mk_room c (by omega)
  have HK := hidden (fun (u : World) => Mk.Lb.room u c (by omega))
  clear hlen hP HFB hc
  go_enter Tryz.func56, Tryz.ntmps56
  go_wp2_with fail
  refine (HPS.out w).mono ?_
  rintro e w2 ⟨⟨vp, rfl, hp⟩, hb2⟩
  obtain ⟨ao, ca, rfl, hca, hfa⟩ := hp.get rfl
  have HB2 := hidden hb2
  have HFA := hidden hfa
  clear hp hb2 hfa
  go_wp2_with fail
  go_loopw [4, 17] (fun v i wr => ∃ j : Nat, j ≤ P.length ∧ i = .int .i64 (j : Nat) ∧ Mk.Lb wr w2.heap.size v (Mk.fb s.data.toList (P.take j)) ∧ Below w2.heap.size w2 wr) (fun _ i _ => P.length - (intOf i).toNat)
  case atStart => exact ⟨0, Nat.zero_le _, rfl, HK.out w2, (Below.refl _ _).alloc (Nat.le_refl _) _⟩
  case round =>
    obtain ⟨j, hj, rfl, hli, hb⟩ := hrel
    have HLI := hidden hli
    have HB := hidden hb
    have hsz := hb.size
    clear hli hb
    by_cases hlt : j < P.length
    · have hlt2 : decide ((j : Int) < ((P.length : Nat) : Int)) = true := decide_eq_true (by omega)
      obtain ⟨g, rfl, hg, hga⟩ := HFA.out (by omega)
      have c1 := (HB.out.cell (p := ⟨g, j, none⟩) hg).trans (hga j hlt)
      obtain ⟨hps, hm, hbt⟩ := HGET.out j hlt
      have HNXJ := hidden (HNX.out j hlt)
      obtain ⟨p, hp⟩ : ∃ p, p = P.getD j 0 := ⟨_, rfl⟩
      rw [hbt] at HNXJ
      rw [← hp] at c1
      have hps2 : p < s.size := by rw [hp]; exact hps
      have HTW : Hid (Mk.fb s.data.toList (P.take (j + 1)) = Mk.fb s.data.toList (P.take j) ++ Mk.two s[p].toNat) := by
        subst hp
        exact HNXJ.out
      have hm2 : Mk.isM s[p].toNat = true := by
        subst hp
        exact hm
      have H2 := hidden (fun w => kTwo_any s[p].toNat w hm2)
      clear hga hps hm hbt hp hm2 HNXJ
      have hlenj : (Mk.fb s.data.toList (P.take j)).length = 2 * j := by rw [HLEN.out, List.length_take]; omega
      obtain ⟨n, hn⟩ : ∃ n, n = (Mk.fb s.data.toList (P.take j)).length := ⟨_, rfl⟩
      have HN := hidden hn
      rw [← hn] at hlenj
      have hn5 : n ≤ 2000000 := by omega
      clear hn
      go_wp2_with fail
      refine (H2.out _).mono ?_
      rintro e w3 ⟨⟨x, y, rfl, hxy⟩, hw⟩
      have hw := hw.symm
      subst hw
      have HXY := hidden hxy
      clear hxy
      go_wp2_with (at_builtin; refine wpList_append_own _ rfl (.tmp 28) (.tmp 31) 31 rfl w2.heap.size 4 i0 (.bool false) 1 1 Tryz.underlying31 hi hz0 hz1 hz2 rfl (by decide) u4 n (Mk.vb (Mk.fb s.data.toList (P.take j))) rfl (by rw [HN.out]; exact HLI.out.alloc _) ⟨_, 0, none⟩ 2 2 [.bool x, .bool y] rfl rfl (by exact World.news_of_block (heap_alloc_new _ _)) (by intro u hu; simp at hu; rcases hu with rfl | rfl <;> rfl) (by unfold maxLen; omega) (by omega) (by simp; omega) ?_; intro v2 w4 hown2 hgrow2 _; have HO2 := hidden hown2; have HG2 := hidden hgrow2; clear hown2 hgrow2)
      go_roundw
      case rel =>
        refine ⟨j + 1, hlt, by go_num, ?_, HB.out.trans (Mk.ow_grown1 hsz HLI.out HG2.out)⟩
        have h2 := HO2.out
        rw [HTW.out, HXY.out]
        show World.ownsRow _ _ _ _ _ _ _
        rw [List.length_append, Mk.vb_app, ← HN.out]
        exact h2
      case measure => simp [intOf]; omega
    · obtain rfl : j = P.length := by omega
      have hlt2 : decide (((P.length : Nat) : Int) < ((P.length : Nat) : Int)) = false := decide_eq_false (by omega)
      rw [List.take_length] at HLI
      go_wp2_with fail
      go_ret
      exact ⟨⟨_, rfl, Mk.ow_base HLI.out HB2.out.size⟩, HB2.out.trans (HB.out.mono HB2.out.size)⟩
end Go.Proofs.YtoipliflphbeiaaGreatDoor
