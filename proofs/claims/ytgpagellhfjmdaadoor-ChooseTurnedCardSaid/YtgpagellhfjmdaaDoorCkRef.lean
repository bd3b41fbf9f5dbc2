/-
  The contracts of layer 4's reference At and Ones, and of its awake: for every input.
-/
import Derived.Test.YtgpagellhfjmdaaDoorCkOne
namespace Go.Proofs.YtgpagellhfjmdaaDoor
open Go.RowKit
/-- A number whose 1s are the bits of the kind o. -/
def Ck.Of (Y : Nat) (L : List Bool) (o : Bool) : Prop := ∀ i, i < L.length → Wd.bt Y i = (L.getD i false == o).toNat
theorem Ck.Of.one (L : List Bool) : Ck.Of (Bt.num L) L true := fun i _ => by
  rw [Bt.bt_num]; cases L.getD i false <;> rfl
theorem Ck.Of.zero (L : List Bool) : Ck.Of (Ck.tn (Bt.num L) L.length) L false := fun i hi => by
  rw [Ck.bt_tn _ _ _ (Bt.num_lt L) (by omega), Bt.bt_num]; cases L.getD i false <;> rfl
theorem Ck.At.congr {Y Z n k p : Nat} (h : Ck.At Y n k p) (hb : ∀ i, i < n → Wd.bt Y i = Wd.bt Z i) : Ck.At Z n k p :=
  ⟨h.lt, by rw [← hb p h.lt]; exact h.one, by rw [← Wd.ones_congr Y Z p fun i hi => hb i (by have := h.lt; omega)]; exact h.cnt⟩
/-- It is there, or it isn't. -/
theorem Ck.dec (Y n : Nat) (k : Int) : (∃ j p : Nat, k = (j : Int) ∧ Ck.At Y n j p) ∨ (k < 0 ∨ ((Wd.ones Y n : Nat) : Int) ≤ k) := by
  by_cases h : k < 0 ∨ ((Wd.ones Y n : Nat) : Int) ≤ k
  · exact .inr h
  · obtain ⟨j, rfl⟩ := Int.eq_ofNat_of_zero_le (show 0 ≤ k by omega)
    exact .inl ⟨j, _, rfl, Ck.pl_at (by omega)⟩
/-- The 1s of a row stand where the 0s of the row turned do. -/
theorem Ck.turned_bits (L : List Bool) (i : Nat) (hi : i < L.length) : Wd.bt (Bt.num L) i = Wd.bt (Ck.tn (Bt.num (L.map (!·))) L.length) i := by
  have h1 := Ck.Of.one L i hi
  have h2 := Ck.Of.zero (L.map (!·)) i (by rw [List.length_map]; exact hi)
  rw [List.length_map] at h2
  have e : (L.map (!·)).getD i false = !(L.getD i false) := by
    rw [List.getD_eq_getElem?_getD, List.getD_eq_getElem?_getD, List.getElem?_map, List.getElem?_eq_getElem hi]
    rfl
  rw [h1, h2, e]
  cases L.getD i false <;> rfl
set_option maxHeartbeats 1000000 in
theorem rAt_some (L : List Bool) (v : Value) (Y k p : Nat) (o : Bool) (w : World) (h : Bv w v L) (hL : L.length ≤ 4294967296) (hY : Ck.Of Y L o) (hp : Ck.At Y L.length k p) :
    Calls Tryd.prog 13 #[v, .int .i64 (k : Nat), .bool o] w fun e w' => e = .returned (.int .i64 (p : Nat)) ∧ w' = w := by
  obtain ⟨ao, cap, rfl, hcap, hc⟩ := h
  have HC := hidden hc
  have HP := hidden hp
  have HY := hidden hY
  have hpn := hp.lt
  have hkn := hp.below
  have hon := Wd.ones_le Y L.length
  clear hc hp hY
  go_enter Tryd.func13, Tryd.ntmps13
  go_wp2_with fail
  go_loopw [7, 8] (fun s7 s8 wr => ∃ i : Nat, i ≤ p ∧ s8 = .int .i64 i ∧ s7 = .int .i64 ((Wd.ones Y i : Nat) : Int) ∧ wr = w) (fun _ s8 _ => L.length - (intOf s8).toNat)
  case atStart => exact ⟨0, by omega, rfl, rfl, rfl⟩
  case round =>
    obtain ⟨i, hi, rfl, rfl, hw⟩ := hrel
    subst hw
    have hoi := Wd.ones_le Y i
    obtain ⟨b, off, rfl, hb, hcell⟩ := HC.out (by omega)
    have c0 := hcell i (by omega)
    have hil : (i : Int) < (L.length : Int) := by omega
    have hbt := HY.out i (by omega)
    have HBT := hidden hbt
    have HS := hidden (Wd.ones_succ Y i)
    obtain ⟨a, ha⟩ : ∃ a, a = L.getD i false := ⟨_, rfl⟩
    rw [← ha] at c0 HBT
    clear ha hbt hcell
    obtain ⟨O, hO⟩ : ∃ O, O = Wd.ones Y i := ⟨_, rfl⟩
    rw [← hO] at HS hoi ⊢
    have HO := hidden hO
    clear hO
    by_cases hao : a = o
    · subst hao
      have hone : Wd.bt Y i = 1 := by rw [HBT.out]; cases a <;> rfl
      by_cases hk : O = k
      · have hip : i = p := (show Ck.At Y L.length k i from ⟨by omega, hone, by rw [← HO.out]; exact hk⟩).unique HP.out
        have HIP := hidden hip
        have hki : ((O : Int) == (k : Int)) = true := by rw [beq_iff_eq]; omega
        clear hip hone
        cases a
        all_goals go_wp2_with fail
        all_goals go_ret
        all_goals exact ⟨ret_int (by rw [HIP.out]), rfl⟩
      · have hip : i < p := by
          rcases Nat.lt_or_ge i p with h | h
          · exact h
          · obtain rfl : i = p := by omega
            have := HP.out.cnt; have := HO.out; omega
        have hki : ((O : Int) == (k : Int)) = false := by rw [beq_eq_false_iff_ne]; omega
        have HON := hidden hone
        have HIP := hidden hip
        clear hip hone
        cases a
        all_goals go_wp2_with fail
        all_goals go_roundw
        all_goals first
          | exact ⟨i + 1, HIP.out, by go_num, int_eq (by have := HS.out; have := HON.out; omega), by trivial⟩
          | (simp [intOf]; omega)
    · have hzero : Wd.bt Y i = 0 := by rw [HBT.out]; cases a <;> cases o <;> first | rfl | exact absurd rfl hao
      have hip : i < p := by
        rcases Nat.lt_or_ge i p with h | h
        · exact h
        · obtain rfl : i = p := by omega
          have := HP.out.one; omega
      have HON := hidden hzero
      have HIP := hidden hip
      clear hip hzero
      cases a <;> cases o
      all_goals first
        | exact absurd rfl hao
        | skip
      all_goals go_wp2_with fail
      all_goals go_roundw
      all_goals first
        | exact ⟨i + 1, HIP.out, by go_num, int_eq (by have := HS.out; have := HON.out; omega), by trivial⟩
        | (simp [intOf]; omega)
set_option maxHeartbeats 1000000 in
theorem rAt_none (L : List Bool) (v : Value) (Y : Nat) (k : Int) (o : Bool) (w : World) (h : Bv w v L) (hL : L.length ≤ 4294967296) (hY : Ck.Of Y L o) (hn : k < 0 ∨ ((Wd.ones Y L.length : Nat) : Int) ≤ k) :
    Calls Tryd.prog 13 #[v, .int .i64 k, .bool o] w fun e w' => e = .returned (.int .i64 (-1)) ∧ w' = w := by
  obtain ⟨ao, cap, rfl, hcap, hc⟩ := h
  have HC := hidden hc
  have HN := hidden hn
  have HY := hidden hY
  have hon := Wd.ones_le Y L.length
  clear hc hn hY
  go_enter Tryd.func13, Tryd.ntmps13
  go_wp2_with fail
  go_loopw [7, 8] (fun s7 s8 wr => ∃ i : Nat, i ≤ L.length ∧ s8 = .int .i64 i ∧ s7 = .int .i64 ((Wd.ones Y i : Nat) : Int) ∧ wr = w) (fun _ s8 _ => L.length - (intOf s8).toNat)
  case atStart => exact ⟨0, by omega, rfl, rfl, rfl⟩
  case round =>
    obtain ⟨i, hi, rfl, rfl, hw⟩ := hrel
    subst hw
    have hoi := Wd.ones_le Y i
    by_cases hlt : i < L.length
    · obtain ⟨b, off, rfl, hb, hcell⟩ := HC.out (by omega)
      have c0 := hcell i (by omega)
      have hil : (i : Int) < (L.length : Int) := by omega
      have hbt := HY.out i (by omega)
      have HBT := hidden hbt
      have HS := hidden (Wd.ones_succ Y i)
      have HM := hidden (Wd.ones_mono Y (i + 1) L.length hlt)
      obtain ⟨a, ha⟩ : ∃ a, a = L.getD i false := ⟨_, rfl⟩
      rw [← ha] at c0 HBT
      clear ha hbt hcell
      obtain ⟨O, hO⟩ : ∃ O, O = Wd.ones Y i := ⟨_, rfl⟩
      rw [← hO] at HS hoi ⊢
      clear hO
      by_cases hao : a = o
      · subst hao
        have hone : Wd.bt Y i = 1 := by rw [HBT.out]; cases a <;> rfl
        have hki : ((O : Int) == k) = false := by
          rw [beq_eq_false_iff_ne]
          have := HS.out; have := HM.out; have := HN.out
          omega
        have HON := hidden hone
        clear hone
        cases a
        all_goals go_wp2_with fail
        all_goals go_roundw
        all_goals first
          | exact ⟨i + 1, by omega, by go_num, int_eq (by have := HS.out; have := HON.out; omega), by trivial⟩
          | (simp [intOf]; omega)
      · have hzero : Wd.bt Y i = 0 := by rw [HBT.out]; cases a <;> cases o <;> first | rfl | exact absurd rfl hao
        have HON := hidden hzero
        clear hzero
        cases a <;> cases o
        all_goals first
          | exact absurd rfl hao
          | skip
        all_goals go_wp2_with fail
        all_goals go_roundw
        all_goals first
          | exact ⟨i + 1, by omega, by go_num, int_eq (by have := HS.out; have := HON.out; omega), by trivial⟩
          | (simp [intOf]; omega)
    · obtain rfl : i = L.length := by omega
      go_wp2_with fail
      go_ret
      exact ⟨rfl, rfl⟩
set_option maxHeartbeats 400000 in
theorem rOnes_any (L : List Bool) (v : Value) (w : World) (h : Bv w v L) (hL : L.length ≤ 4294967296) :
    Calls Tryd.prog 17 #[v] w fun e w' => e = .returned (.int .i64 ((Wd.ones (Bt.num L) L.length : Nat) : Int)) ∧ w' = w := by
  have HV : Hid (Bv w v L) := h
  obtain ⟨ao, cap, rfl, hcap, _⟩ := h
  go_enter Tryd.func17, Tryd.ntmps17
  go_wp2_with fail
  refine (rOne_any L _ _ _ HV.out hL).mono ?_
  rintro e' w1 ⟨rfl, rfl⟩
  rw [Bt.cf_all]
  go_wp2_with fail
  go_ret
  exact ⟨rfl, rfl⟩
set_option maxHeartbeats 1000000 in
theorem awake_any (w : World) (hT : Tab w) :
    Calls Tryd.prog 7 #[] w fun e w' => e = .returned (.bool true) ∧ Below w.heap.size w w' := by
  have HT := hidden hT
  clear hT
  go_enter Tryd.func7, Tryd.ntmps7
  go_wp2_with fail
  have HB : Hid (Bl (w.alloc (.cells #[.bool true, .bool false, .bool true, .bool true] 4)) (.slice (some ⟨w.heap.size, 0, none⟩) 4 4) [true, false, true, true]) :=
    World.ownsRow_lit w _ 4 (Nat.zero_le _) (by decide) rfl
  refine (Made_any [true, false, true, true] _ _ HB.out (by decide)).mono ?_
  rintro e' w1 ⟨r1, u1, rfl, hr1, hq1, _, _⟩
  have HR1 : Hid (Rw w1 r1 4 13 u1) := hr1
  have HL1 : Hid (Below w.heap.size w w1) := ((Below.refl _ _).alloc (Nat.le_refl _) _).trans (hq1.mono (by simp))
  clear hr1 hq1
  go_wp2_with fail
  refine (CNew_any r1 4 13 u1 _ HR1.out (HT.out.below HL1.out (Nat.le_refl _))).mono ?_
  rintro e' w2 ⟨c2, d2, g2, b2, b3, rfl, hd2, hq2⟩
  have HD2 := hidden hd2
  have HL2 : Hid (Below w.heap.size w w2) := HL1.out.trans (hq2.mono HL1.out.size)
  clear hd2 hq2
  go_wp2_with fail
  refine (COne_at c2 d2 g2 r1 4 13 b2 b3 1 2 u1 _ HD2.out (HT.out.below HL2.out (Nat.le_refl _)) ⟨by decide, by decide, by decide⟩).mono ?_
  rintro e' w3 ⟨rfl, hq3⟩
  have HL3 : Hid (Below w.heap.size w w3) := HL2.out.trans (hq3.mono HL2.out.size)
  clear hq3
  go_wp2_with fail
  go_ret
  exact ⟨rfl, HL3.out⟩
end Go.Proofs.YtgpagellhfjmdaaDoor
