/-
  The contract of law 14's Is: of a record's index it answers true; nothing that was there is changed.
-/
import Derived.Test.YtoipliflphbeiaaGreatDoorSmAwake
import Derived.Test.YtoipliflphbeiaaGreatDoorC15
import Derived.Test.YtoipliflphbeiaaGreatDoorJRk
namespace Go.Proofs.YtoipliflphbeiaaGreatDoor
open Go.RowKit
theorem Sm.lb_bv {w : World} {B : Nat} {v : Value} {l : List Bool} (h : Mk.Lb w B v l) : Bv w v l := (Sm.lb_bl h).view
set_option maxHeartbeats 2000000 in
theorem Is14_any (s : ByteArray) (p : Addr) (w : World) (h : SmIx w p s) (hs : s.size ≤ 600) :
    Calls Tryz.prog 11 #[.pointer (some p), .string s] w fun e w' => e = .returned (.bool true) ∧ Below w.heap.size w w' := by
  have HIX := hidden h
  obtain ⟨n, f, o, hn, hf, ho, hns, hfs, hon, hxx⟩ := h.nums
  have HXX := hidden hxx
  have HP := hidden (fun w => mrPlaces_any s w (by omega))
  have HQ := hidden (fun w => mrParens_any s w (by omega))
  have HBY := hidden (fun w => rBytes14_any s w (by omega))
  have HBX := hidden (fun w' hw' => h.bytes w' hw')
  obtain ⟨Y, hY⟩ : ∃ Y, Y = (⟨(Sm.ixB s.data.toList).toArray⟩ : ByteArray) := ⟨_, rfl⟩
  rw [← hY] at HBY HBX
  obtain ⟨m, hm⟩ : ∃ m, m = (Sm.B s.data.toList).length := ⟨_, rfl⟩
  have hm5 : m ≤ 1200 := by rw [hm, Sm.B_len, ← hn]; omega
  have HON : Hid (∀ w v, Bv w v (Sm.B s.data.toList) → Calls Tryz.prog 30 #[v, .int .i64 (m : Nat)] w fun e w' => e = .returned (.int .i64 (o : Nat)) ∧ w' = w) := hidden (fun w v hv => by
    have g := rOne_any (Sm.B s.data.toList) v (m : Nat) w hv (by rw [← hm]; omega)
    rw [show Bt.cf (Sm.B s.data.toList).length (m : Int) = (Sm.B s.data.toList).length by rw [← hm]; unfold Bt.cf; omega, ← Sm.on_num, ← ho] at g
    exact g)
  have HSZ : Hid (∀ w', Below w.heap.size w w' → Calls Tryz.prog 20 #[.pointer (some p)] w' fun e w'' => (∃ z : Nat, e = .returned (.int .i64 (z : Nat)) ∧ Hid (∀ W R, (n = 0 ∨ s.size ≤ n * 2 ^ W) → R = n * W → z ≤ 4 * n + R + 10 * n + 8192)) ∧ Below w'.heap.size w' w'') := hidden (fun w' hw' => by
    refine (h.size w' hw').mono ?_
    rintro e w'' ⟨⟨z, rfl, hz⟩, hb⟩
    refine ⟨⟨z, rfl, hidden (fun W R hW hR => ?_)⟩, hb⟩
    rw [hR, hn]
    exact hz W (by rw [← hn]; exact hW))
  have HUN : Hid (∀ w' i, Below w.heap.size w w' → i < n → Calls Tryz.prog 19 #[.pointer (some p), .int .i64 (f i : Nat)] w' fun e w'' => e = .returned (.int .i64 (i : Nat)) ∧ Below w'.heap.size w' w'') := hidden (fun w' i hw' hi => by
    have g := h.under w' ((f i : Nat) : Int) hw'
    rw [hf i, Sm.less_at s.data.toList i (by rw [← hn]; exact hi) (by show s.size ≤ _; omega)] at g
    rw [hf i]
    exact g)
  have HMN : Hid (∀ w' (i : Int), Below w.heap.size w w' → (i < 0 ∨ (n : Int) ≤ i) → Calls Tryz.prog 18 #[.pointer (some p), .int .i64 i] w' fun e w'' => (∃ y, e = .returned (.tuple #[.int .i64 y, .int .i64 2])) ∧ Below w'.heap.size w' w'') := hidden (fun w' i hw' hi => h.markno w' i hw' (by rw [← hn]; exact hi))
  have HBT := hidden (fun w => rBits14_any s.size n w (by omega) (by omega))
  have HTX := hidden (fun w' hw' => h.text w' hw')
  have HF := hidden hf
  have HFS := hidden hfs
  have HN := hidden hn
  have HM := hidden hm
  have hn5 : n ≤ 600 := by omega
  have hmk : (n : Int) ≤ 600 := by omega
  clear hn hf ho hxx hY hm h hfs hon
  go_enter Tryz.func11, Tryz.ntmps11
  go_wp2_with fail
  refine (HTX.out _ (Below.refl _ _)).mono ?_
  rintro e w1 ⟨rfl, h1⟩
  have HB1 := hidden h1
  clear h1
  go_wp2_with fail
  refine (HP.out _).mono ?_
  rintro e w2 ⟨⟨v2, rfl, hv2⟩, h2⟩
  obtain ⟨ao, ca, rfl, hca, hfa⟩ := hv2.get HN.out.symm
  have HB2 := hidden (Sm.on2 HB1.out h2)
  have HFA := hidden hfa
  clear h2 hv2 hfa
  go_wp2_with fail
  refine (HQ.out _).mono ?_
  rintro e w3 ⟨⟨v3, rfl, hv3⟩, h3⟩
  have HV3 := hidden (Sm.lb_bv hv3)
  obtain ⟨ao3, ca3, rfl, hca3, _⟩ := hv3.get HM.out.symm
  have HB3 := hidden (Sm.on2 HB2.out h3)
  have HH3 := hidden h3
  clear h3 hv3
  go_wp2_with fail
  refine (HXX.out.marks _ HB3.out).mono ?_
  rintro e w4 ⟨rfl, h4⟩
  have HB4 := hidden (Sm.on2 HB3.out h4)
  have HC4 := hidden h4
  clear h4
  go_wp2_with fail
  refine (HXX.out.nest _ HB4.out).mono ?_
  rintro e w5 ⟨⟨z1, rfl, _⟩, h5⟩
  have HB5 := hidden (Sm.on2 HB4.out h5)
  have HC5 := hidden (Sm.on2 HC4.out h5)
  clear h5
  go_wp2_with fail
  refine (HXX.out.nest _ HB5.out).mono ?_
  rintro e w6 ⟨⟨z2, rfl, HN2⟩, h6⟩
  have HB6 := hidden (Sm.on2 HB5.out h6)
  have HC6 := hidden (Sm.on2 HC5.out h6)
  clear h6
  go_wp2_with fail
  refine (HN2.out _ (Below.refl _ _)).mono ?_
  rintro e w7 ⟨rfl, h7⟩
  have HB7 := hidden (Sm.on2 HB6.out h7)
  have HC7 := hidden (Sm.on2 HC6.out h7)
  clear h7
  go_wp2_with fail
  refine (HON.out _ _ (HV3.out.below HC7.out (Nat.le_refl _))).mono ?_
  rintro e w8 ⟨rfl, hw8⟩
  have hw8 := hw8.symm
  subst hw8
  go_wp2_with fail
  refine (HBX.out _ HB7.out).mono ?_
  rintro e w9 ⟨rfl, h9⟩
  have HB9 := hidden (Sm.on2 HB7.out h9)
  have HC9 := hidden (Sm.on2 HC7.out h9)
  clear h9
  go_wp2_with fail
  refine (HBY.out _).mono ?_
  rintro e w10 ⟨rfl, h10⟩
  have HB10 := hidden (Sm.on2 HB9.out h10)
  have HC10 := hidden (Sm.on2 HH3.out (Sm.on2 HC9.out h10))
  clear h10
  go_wp2_with fail
  go_loopw [7] (fun i wr => ∃ j : Nat, j ≤ n ∧ i = .int .i64 (j : Nat) ∧ Below w.heap.size w wr ∧ Below w2.heap.size w2 wr) (fun i _ => n - (intOf i).toNat)
  case atStart => exact ⟨0, Nat.zero_le _, rfl, HB10.out, HC10.out⟩
  case round =>
    obtain ⟨j, hj, rfl, hb, hc⟩ := hrel
    have HB := hidden hb
    have HC := hidden hc
    clear hb hc
    by_cases hlt : j < n
    · have hlt2 : decide ((j : Int) < (n : Int)) = true := decide_eq_true (by omega)
      have hfj := HFS.out j hlt
      have HMK := hidden (fun w' hw => HXX.out.mark w' j hw hlt)
      have HUJ := hidden (fun w' hw => HUN.out w' j hw hlt)
      obtain ⟨g, rfl, hg, hga⟩ := HFA.out (by omega)
      have c2 := hga j hlt
      obtain ⟨A, hA⟩ : ∃ A, A = f j := ⟨_, rfl⟩
      rw [show Mk.pl 0 0 s.data.toList = Sm.P s.data.toList from rfl, ← HF.out j, ← hA] at c2
      rw [← hA] at hfj HMK HUJ
      have HCL := hidden (fun w' (h : Below w2.heap.size w2 w') => (h.cell (p := ⟨g, j, none⟩) hg).trans c2)
      clear hA hga c2
      go_wp2_with fail
      refine (HMK.out _ HB.out).mono ?_
      rintro e w11 ⟨rfl, h11⟩
      have HB11 := hidden (Sm.on2 HB.out h11)
      have HC11 := hidden (Sm.on2 HC.out h11)
      have c3 := HCL.out _ HC11.out
      clear h11
      go_wp2_with fail
      refine (HUJ.out _ HB11.out).mono ?_
      rintro e w12 ⟨rfl, h12⟩
      have HB12 := hidden (Sm.on2 HB11.out h12)
      have HC12 := hidden (Sm.on2 HC11.out h12)
      clear h12
      go_wp2_with fail
      go_roundw
      case rel => exact ⟨j + 1, hlt, by go_num, HB12.out, HC12.out⟩
      case measure => simp [intOf]; omega
    · obtain rfl : j = n := by omega
      have hlt2 : decide ((j : Int) < (j : Int)) = false := decide_eq_false (by omega)
      have HM1 := hidden (fun w' hw => HMN.out w' (j : Int) hw (.inr (Int.le_refl _)))
      have HM2 := hidden (fun w' hw => HMN.out w' (-1) hw (.inl (by decide)))
      go_wp2_with fail
      refine (HM1.out _ HB.out).mono ?_
      rintro e w11 ⟨⟨y1, rfl⟩, h11⟩
      have HB11 := hidden (Sm.on2 HB.out h11)
      clear h11
      go_wp2_with fail
      refine (HM2.out _ HB11.out).mono ?_
      rintro e w12 ⟨⟨y2, rfl⟩, h12⟩
      have HB12 := hidden (Sm.on2 HB11.out h12)
      clear h12
      go_wp2_with fail
      refine (HSZ.out _ HB12.out).mono ?_
      rintro e w13 ⟨⟨z3, rfl, _⟩, h13⟩
      have HB13 := hidden (Sm.on2 HB12.out h13)
      clear h13
      go_wp2_with fail
      refine (HSZ.out _ HB13.out).mono ?_
      rintro e w14 ⟨⟨z4, rfl, HZ4⟩, h14⟩
      have HB14 := hidden (Sm.on2 HB13.out h14)
      clear h14
      go_wp2_with fail
      refine (HBT.out _).mono ?_
      rintro e w15 ⟨⟨W, R, hW, hR, hR5, rfl⟩, hw15⟩
      have hw15 := hw15.symm
      subst hw15
      have hle := HZ4.out W R hW hR
      have hle2 : decide ((z4 : Int) ≤ 4 * (j : Int) + (R : Int) + 10 * (j : Int) + 8192) = true := decide_eq_true (by omega)
      clear hW hR
      go_wp2_with fail
      go_ret
      exact ⟨rfl, HB14.out⟩
end Go.Proofs.YtoipliflphbeiaaGreatDoor
